import PyProof.Rows.All
import Wide.All
import OpenK.AllK
import Wide.FinOn
import Lean
import PyProof.EqAt
import PyProof.EqKinds
import PyProof.TupleCall
import PyProof.StrLawsTight
import KE.KIntText
import KE.KxPart
import KE.KDictLaws
import KE.KMinKey
import PySem.Challenge.RW_reelcut_k64_too_many_pieces
set_option maxHeartbeats 4000000
set_option Elab.async false
set_option linter.all false
set_option maxRecDepth 100000
namespace L2
open PySem PySem.Spec PyProof.Rows
abbrev Key:=Sum Int Str
def qCo:Key→Value→Bool
 | .inl k,v=>Value.isInt k v
 | .inr x,v=>Value.isStrOf x v
def qL1 (w:World):Key→Int
 | .inl k=>hashInt k
 | .inr x=>hashStr w x
theorem qz:∀ {k:Key} {v:Value},qCo k v=true→(∃ i t,k=Sum.inl i∧v=Value.int i t)∨(∃ x t,k=Sum.inr x∧v=Value.str x t)
 | .inl i,v,h=>by
  obtain⟨t,e⟩:=Value.isInt_shape (k:=i) (v:=v) h
  exact .inl ⟨i,t,rfl,e⟩
 | .inr x,v,h=>by
  obtain⟨t,e⟩:=Value.isStrOf_shape (x:=x) (v:=v) h
  exact .inr ⟨x,t,rfl,e⟩
theorem qEw (i:Int)(t:Tok):qCo (.inl i) (.int i t)=true:=by simp [qCo,Value.isInt]
theorem qEh (x:Str)(t:Tok):qCo (.inr x) (.str x t)=true:=by simp [qCo,Value.isStrOf]
theorem qJ5 (a b:Int):decide ((Sum.inl a:Key)=Sum.inl b)=(a == b):=by
 by_cases e:a=b
 · subst e;simp
 · have h:¬ (Sum.inl a:Key)=Sum.inl b:=fun q=>e (Sum.inl.inj q)
   rw [decide_eq_false h]
   exact(beq_eq_false_iff_ne.mpr e).symm
theorem qJd (a b:Str):decide ((Sum.inr a:Key)=Sum.inr b)=decide (a=b):=by
 by_cases e:a=b
 · subst e;simp
 · have h:¬ (Sum.inr a:Key)=Sum.inr b:=fun q=>e (Sum.inr.inj q)
   rw [decide_eq_false h,decide_eq_false e]
theorem qIs (a:Int)(b:Str):decide ((Sum.inl a:Key)=Sum.inr b)=false:=decide_eq_false (fun q=>nomatch q)
theorem qI0 (a:Str)(b:Int):decide ((Sum.inr a:Key)=Sum.inl b)=false:=decide_eq_false (fun q=>nomatch q)
def jL (prog:Program)(w:World):PySem.KeyKind prog w Key where
 is:=qCo
 hash:=qL1 w
 inj:=fun v a b ha hb=>by
  rcases qz ha with ⟨i,t,rfl,rfl⟩ | ⟨x,t,rfl,rfl⟩
  · rcases qz hb with ⟨j,u,rfl,e⟩ | ⟨y,u,rfl,e⟩
    · injection e with e1 _;rw [e1]
    · exact nomatch e
  · rcases qz hb with ⟨j,u,rfl,e⟩ | ⟨y,u,rfl,e⟩
    · exact nomatch e
    · injection e with e1 _;rw [e1]
 byValue:=fun k v h=>by
  rcases qz h with ⟨i,t,rfl,rfl⟩ | ⟨x,t,rfl,rfl⟩ <;> rfl
 pyHash:=fun hv h=>by
  rcases qz hv with ⟨i,t,rfl,rfl⟩ | ⟨x,t,rfl,rfl⟩
  · exact wpAny_pyHash_int h
  · exact wpAny_pyHash_str h
 eqBool:=fun hu hv h=>by
  rcases qz hu with ⟨i,t,rfl,rfl⟩ | ⟨x,t,rfl,rfl⟩
  · rcases qz hv with ⟨j,u,rfl,rfl⟩ | ⟨y,u,rfl,rfl⟩
    · rw [qJ5] at h;exact wpAny_eqBool_int h
    · rw [qIs] at h;exact SeqAt.EqAt.int_str i t y u _ _ _ _ h
  · rcases qz hv with ⟨j,u,rfl,rfl⟩ | ⟨y,u,rfl,rfl⟩
    · rw [qI0] at h;exact SeqAt.EqAt.str_int x t j u _ _ _ _ h
    · rw [qJd] at h;exact wpAny_eqBool_str h
 «strs»:=fun k x t v h=>by
  rcases qz h with ⟨i,u,rfl,e⟩ | ⟨y,u,rfl,e⟩
  · exact nomatch e
  · injection e with e1 _
    subst e1
    cases v <;> rfl
theorem qA5 (prog:Program)(w:World)(i:Int)(t:Tok):(jL prog w).is (.inl i) (.int i t)=true:=qEw i t
theorem qBh (prog:Program)(w:World)(x:Str)(t:Tok):(jL prog w).is (.inr x) (.str x t)=true:=qEh x t
end L2
namespace L2
open PySem PySem.Spec PyProof.Rows
inductive V where
 | non | bl (b:Bool) | int (i:Int) | str (x:Str) | byt (b:Array UInt8) | flt (b:UInt64) | ref (a:Addr) | ty (n:String)
 deriving DecidableEq
def RelV:V→Value→Prop
 | .non,u=>u=Value.none
 | .bl b,u=>u=Value.bool b
 | .int i,u=>∃ t,u=Value.int i t
 | .str x,u=>∃ t,u=Value.str x t
 | .byt b,u=>∃ t,u=Value.bytes b t
 | .flt b,u=>∃ t,u=Value.float b t
 | .ref a,u=>u=Value.ref a
 | .ty n,u=>u=Value.type n
abbrev Vals:List V→List Value→Prop:=Paired RelV
theorem Vals.length {xs:List V}{us:List Value}(r:Vals xs us):xs.length=us.length:=Paired.length r
theorem Vals.get:∀ {xs:List V} {us:List Value} {i:Nat} {x:V},Vals xs us→xs[i]? =some x→∃ u,us[i]? =some u∧RelV x u
 | _,_,_,_,.nil,e=>by simp at e
 | _,_,0,_,.cons r _,e=>by simp at e;subst e;exact⟨_,rfl,r⟩
 | _,_,i+1,x,.cons _ t,e=>by
  obtain⟨u,h1,h2⟩:=Vals.get (i:=i) (x:=x) t (by simpa using e)
  exact⟨u,by simpa using h1,h2⟩
theorem Vals.set {x:V}{u:Value}(r:RelV x u):∀ {xs:List V} {us:List Value} (i:Nat),Vals xs us→Vals (xs.set i x) (us.set i u)
 | _,_,_,.nil=>.nil
 | _,_,0,.cons _ t=>.cons r t
 | _,_,i+1,.cons q t=>.cons q (Vals.set r i t)
theorem Vals.append:∀ {xs ys:List V} {us ws:List Value},Vals xs us→Vals ys ws→Vals (xs++ys) (us++ws)
 | _,_,_,_,.nil,s=>s
 | _,_,_,_,.cons r t,s=>.cons r (Vals.append t s)
theorem Vals.take:∀ {xs:List V} {us:List Value} (n:Nat),Vals xs us→Vals (xs.take n) (us.take n)
 | _,_,0,_=>.nil
 | _,_,_+1,.nil=>.nil
 | _,_,n+1,.cons r t=>.cons r (Vals.take n t)
theorem Vals.drop:∀ {xs:List V} {us:List Value} (n:Nat),Vals xs us→Vals (xs.drop n) (us.drop n)
 | _,_,0,r=>r
 | _,_,_+1,.nil=>.nil
 | _,_,n+1,.cons _ t=>Vals.drop n t
def RelO:Option V→Option Value→Prop
 | some v,some u=>RelV v u
 | none,none=>True
 | _,_=>False
def KV {κ:Type}:List (κ × V)→List (κ × Value)→Prop:=Paired fun(p:κ × V) (q:κ × Value)=>p.1=q.1∧RelV p.2 q.2
def kV:Key→V
 | .inl i=>.int i
 | .inr x=>.str x
inductive HO where
 | lst (xs:List V)
 | tup (xs:List V)
 | dK (kvs:List (Key × V)) | dT (kvs:List (List Key × V))
 | set (S:Int→Bool) (n:Nat)
 | ins (C dx:Addr) (fs:List (Str × V))
 | own (x:Addr)
 | xd (fs:List (Str × V))
 | met (f x:Addr)
 | rng (lo hi:Int)
 | frz (o:Obj) (u:HO)
 | tbl (ps:Array Value)
 | ext (φ:Heap→Prop)
abbrev Hp:=Addr→Option HO
def upd (H:Hp)(a:Addr)(o:HO):Hp:=fun b=>if b=a then some o else H b
theorem qD {H:Hp}{a:Addr}{o:HO}:upd H a o a=some o:=by unfold upd;rw [if_pos rfl]
theorem qK {H:Hp}{a b:Addr}{o:HO}(h:b≠a):upd H a o b=H b:=by unfold upd;rw [if_neg h]
theorem qA9 {H:Hp}{a:Addr}{o u:HO}:upd (upd H a o) a u=upd H a u:=by
 funext b;unfold upd;split <;> rfl
theorem qI2 {H:Hp}{a b:Addr}{o u:HO}(h:H a=some o)(h':H b=some u)(d:o≠u):a≠b:=by
 intro e;subst e;rw [h] at h';exact d (Option.some.inj h')
theorem qM {H:Hp}{a b:Addr}{o:HO}(h:H a=some o)(h':H b=none):a≠b:=by
 intro e;subst e;rw [h] at h';cases h'
section
variable (P : Program) (w : World)
def ObjOk (H:Hp)(h:Heap)(a:Addr):HO→Prop
 | .lst xs=>xs.length≤sizeLine∧∃ (its:List Value) (n:Nat),Vals xs its∧h.get? a=some {cls:=.type "list",data:=.seq its.toArray n}
 | .tup xs=>xs.length≤sizeLine∧∃ its:List Value,Vals xs its∧IsTup h a its.toArray
 | .dK kvs=>kvs.length≤sizeLine∧(a == sysModules)=false∧∃ vs,KV kvs vs∧h.DictOf (jL P w) a vs
 | .dT kvs=>kvs.length≤sizeLine∧(a == sysModules)=false∧∃ xs:List (List Key × Addr × Value),
  Paired (fun(p:List Key × V) (q:List Key × Addr × Value)=>p.1=q.1∧H q.2.1=some (.tup (p.1.map kV))∧RelV p.2 q.2.2) kvs xs∧
  ∃ o es ep,h.get? a=some o∧o.ExactDict∧o.data= .dict es ep∧es.toList=xs.map (entryOfKey (tupleKind (jL P w)))∧(xs.map (·.1)).Nodup
 | .set S n=>h.SetOf (intKind P w) a S n
 | .ins C dx fs=>H dx=some (.own a)∧fs.length≤1000∧dx≠a∧h.get? a=some (PySem.W.instObj C dx)∧
  ∃ mA,h.Ns1 dx mA∧(∀ f,RelO (fs.lookup f) (mA f))∧PySem.Within mA (fs.map (·.1))
 | .own _=>∃ o,h.get? a=some o
 | .xd fs=>∃ mA,h.Ns1 a mA∧∀ f,RelO (fs.lookup f) (mA f)
 | .rng lo hi=>∃ t u v,h.get? a=some {cls:=.type "range",data:=.fields #[.int lo t,.int hi u,.int 1 v]}
 | .frz o u=>h.get? a=some o∧ObjOk H h a u
 | .tbl ps=>h.get? a=some {cls:=.none,data:=.fields ps}
 | .met f x=>h.get? a=some (PySem.W.methodObj (.ref f) (.ref x))
 | .ext φ=>φ h∧(∃ o,h.get? a=some o)∧∀ h1 h2:Heap,φ h1→(∀ o,h1.get? a=some o→h2.get? a=some o)→φ h2
def HOk (H:Hp)(h:Heap):Prop:=∀ a o,H a=some o→ObjOk P w H h a o
end
section
variable {P : Program} {w : World} {H H' : Hp} {h h' : Heap} {a : Addr} {o : HO}
theorem ObjOk.lt (x:ObjOk P w H h a o):a < h.objs.size:=by
 cases o with
 | lst xs=>obtain⟨_,_,_,_,e⟩:=x;exact Heap.lt_size e
 | tup xs=>obtain⟨_,_,_,p⟩:=x;exact p.lt
 | dK kvs=>obtain⟨_,_,_,_,o,_,_,e,_⟩:=x;exact Heap.lt_size e
 | dT kvs=>obtain⟨_,_,_,_,o,_,_,e,_⟩:=x;exact Heap.lt_size e
 | set S n=>obtain⟨o,_,_,_,e,_⟩:=x;exact Heap.lt_size e
 | ins C dx fs=>obtain⟨_,_,_,e,_⟩:=x;exact Heap.lt_size e
 | own y=>obtain⟨_,e⟩:=x;exact Heap.lt_size e
 | xd fs=>obtain⟨_,⟨_,_,_,e,_⟩,_⟩:=x;exact Heap.lt_size e
 | rng lo hi=>obtain⟨_,_,_,e⟩:=x;exact Heap.lt_size e
 | frz ob u=>obtain⟨e,_⟩:=x;exact Heap.lt_size e
 | tbl ps=>exact Heap.lt_size (show h.get? a=some _ from x)
 | met f y=>exact Heap.lt_size (show h.get? a=some _ from x)
 | ext φ=>obtain⟨_,⟨_,e⟩,_⟩:=x;exact Heap.lt_size e
theorem Paired.mapP {α β:Type}{F G:α→β→Prop}:∀ {l₁:List α} {l₂:List β},Paired F l₁ l₂→(∀ a b,F a b→G a b)→Paired G l₁ l₂
 | _,_,.nil,_=>.nil
 | _,_,.cons r t,f=>.cons (f _ _ r) (Paired.mapP t f)
theorem ObjOk.stay (x:ObjOk P w H h a o)(k:∀ b u,(b=a∨H b=some (.own a))→h.get? b=some u→h'.get? b=some u)
 (ho:∀ b,H b=some (.own a)→H' b=some (.own a)) (ht:∀ b xs,H b=some (.tup xs)→H' b=some (.tup xs)):ObjOk P w H' h' a o:=by
 induction o with
 | lst xs=>obtain⟨z,its,n,r,e⟩:=x;exact⟨z,its,n,r,k _ _ (.inl rfl) e⟩
 | tup xs=>obtain⟨z,its,r,ob,e,c⟩:=x;exact⟨z,its,r,ob,k _ _ (.inl rfl) e,c⟩
 | dK kvs=>obtain⟨z,y,vs,r,ob,es,ep,e,c⟩:=x;exact⟨z,y,vs,r,ob,es,ep,k _ _ (.inl rfl) e,c⟩
 | dT kvs=>
  obtain⟨z,y,xs,r,ob,es,ep,e,c⟩:=x
  exact⟨z,y,xs,Paired.mapP r fun p q z=>⟨z.1,ht _ _ z.2.1,z.2.2⟩,ob,es,ep,k _ _ (.inl rfl) e,c⟩
 | set S n=>obtain⟨ob,es,ep,t,e,c⟩:=x;exact⟨ob,es,ep,t,k _ _ (.inl rfl) e,c⟩
 | ins C dx fs=>
  obtain⟨d,z,ne,e,mA,⟨od,es,ep,e2,c⟩,r⟩:=x
  exact⟨ho _ d,z,ne,k _ _ (.inl rfl) e,mA,⟨od,es,ep,k _ _ (.inr d) e2,c⟩,r⟩
 | own y=>obtain⟨ob,e⟩:=x;exact⟨ob,k _ _ (.inl rfl) e⟩
 | xd fs=>obtain⟨mA,⟨od,es,ep,e,c⟩,r⟩:=x;exact⟨mA,⟨od,es,ep,k _ _ (.inl rfl) e,c⟩,r⟩
 | rng lo hi=>obtain⟨t,u,v,e⟩:=x;exact⟨t,u,v,k _ _ (.inl rfl) e⟩
 | frz ob u ih=>obtain⟨e,q⟩:=x;exact⟨k _ _ (.inl rfl) e,ih q⟩
 | tbl ps=>
  have e:h.get? a=some {cls:=.none,data:=.fields ps}:=x
  show h'.get? a=some {cls:=.none,data:=.fields ps}
  exact k a _ (.inl rfl) e
 | met f y=>
  have e:h.get? a=some (PySem.W.methodObj (.ref f) (.ref y)):=x
  show h'.get? a=some (PySem.W.methodObj (.ref f) (.ref y))
  exact k a _ (.inl rfl) e
 | ext φ=>obtain⟨p,⟨o,e⟩,st⟩:=x;exact⟨st _ _ p fun o q=>k _ _ (.inl rfl) q,⟨o,k _ _ (.inl rfl) e⟩,st⟩
theorem HOk.lt (x:HOk P w H h)(e:H a=some o):a < h.objs.size:=(x a o e).lt
theorem HOk.fresh (x:HOk P w H h)(e:h.objs.size≤a):H a=none:=by
 cases q:H a with
 | none=>rfl
 | some u=>exact absurd (Nat.lt_of_lt_of_le (x.lt q) e) (Nat.lt_irrefl _)
theorem HOk.kept (x:HOk P w H h)(k:∀ b u,h.get? b=some u→h'.get? b=some u):HOk P w H h':=fun a o e=>
 (x a o e).stay (fun b u _ q=>k b u q) (fun _ q=>q) fun _ _ q=>q
theorem HOk.laid (x:HOk P w H h)(k:∀ b u,h.get? b=some u→h'.get? b=some u)(hp:h.objs.size≤a)(new:ObjOk P w (upd H a o) h' a o):HOk P w (upd H a o) h':=fun b u e=>by
 have hn:=x.fresh hp
 by_cases hb:b=a
 · subst hb;rw [qD] at e;cases e;exact new
 · rw [qK hb] at e
   exact(x b u e).stay (fun c v _ q=>k c v q) (fun c q=>by rw [qK (qM q hn)];exact q) fun c xs q=>by rw [qK (qM q hn)];exact q
end
def Rd (H:Hp)(a:Addr)(u:HO):Prop:=H a=some u∨∃ o,H a=some (.frz o u)
theorem Rd.ok {P:Program}{w:World}{H:Hp}{h:Heap}{a:Addr}{u:HO}(r:Rd H a u)(x:HOk P w H h):ObjOk P w H h a u:=by
 rcases r with r | ⟨o,r⟩
 · exact x a u r
 · obtain⟨_,q⟩:=x a _ r
   exact q
def Mut:Option HO→Prop
 | some (.lst _)=>True
 | some (.dK _)=>True
 | some (.dT _)=>True
 | some (.set _ _)=>True
 | some (.ins _ _ _)=>True
 | some (.ext _)=>True
 | _=>False
section
variable {P : Program} {w : World} {H : Hp} {h h' : Heap} {x e : Addr} {o' : HO}
theorem HOk.write (ok:HOk P w H h)(mu:Mut (H x))(he:e=x∨H e=some (.own x))(k:∀ b u,b≠e→h.get? b=some u→h'.get? b=some u)(heo:∃ u,h'.get? e=some u)
 (new:ObjOk P w (upd H x o') h' x o'):HOk P w (upd H x o') h':=fun b u q=>by
 have nown:∀ c y,H c=some (.own y)→c≠x:=fun c y r z=>by subst z;rw [r] at mu;exact mu
 have ntup:∀ c xs,H c=some (.tup xs)→c≠x:=fun c xs r z=>by subst z;rw [r] at mu;exact mu
 by_cases hb:b=x
 · subst hb;rw [qD] at q;cases q;exact new
 · rw [qK hb] at q
   by_cases hbe:b=e
   · have q':H b=some (.own x):=by
      rcases he with z | z
      · exact absurd (hbe.trans z) hb
      · rw [hbe];exact z
     rw [q] at q';cases q'
     obtain⟨v,hv⟩:=heo
     exact⟨v,by rw [hbe];exact hv⟩
   · refine(ok b u q).stay (fun c v hc r=>k c v ?_ r) (fun c r=>by rw [qK (nown c b r)];exact r) fun c xs r=>by rw [qK (ntup c xs r)];exact r
     rcases hc with rfl | hc
     · exact hbe
     · rintro rfl
       rcases he with z | z
       · exact nown c b hc z
       · rw [hc] at z;cases z;exact hb rfl
end
structure Un (fs ex:List Addr)(H H':Hp)(h h':Heap):Prop where
 keep:∀ b o,h.get? b=some o→H b=none→b ∉ fs→b ∉ ex→h'.get? b=some o
 slot:∀ b o,h.get? b=some o→H b=none→b∈fs→b ∉ ex→∃ sl,h'.get? b=some {o with slots:=sl}
 free:∀ b o,h.get? b=some o→H b=none→b ∉ ex→H' b=none
 there:∀ b o,h.get? b=some o→b ∉ ex→∃ o',h'.get? b=some o'
 tups:∀ b xs,H b=some (.tup xs)→H' b=some (.tup xs)
 frzs:∀ b o u,H b=some (.frz o u)→H' b=some (.frz o u)
 tbls:∀ b ps,H b=some (.tbl ps)→∃ more,H' b=some (.tbl (ps++more))
section
variable {fs fs' ex ex' : List Addr} {H H1 H2 : Hp} {h h1 h2 h' : Heap} {a x e : Addr} {o : HO}
theorem Un.any (u:Un fs ex H H1 h h1){b:Addr}{ob:Obj}(q:h.get? b=some ob)(n:H b=none)(hx:b ∉ ex):∃ sl,h1.get? b=some {ob with slots:=sl}:=by
 by_cases hb:b∈fs
 · exact u.slot b ob q n hb hx
 · exact⟨ob.slots,u.keep b ob q n hb hx⟩
theorem Un.trans (a:Un fs ex H H1 h h1)(b:Un fs ex H1 H2 h1 h2):Un fs ex H H2 h h2 where
 keep:=fun c ob q n hc hx=>b.keep c ob (a.keep c ob q n hc hx) (a.free c ob q n hx) hc hx
 slot:=fun c ob q n hc hx=>by
  obtain⟨sl,e1⟩:=a.slot c ob q n hc hx
  obtain⟨sl',e2⟩:=b.slot c _ e1 (a.free c ob q n hx) hc hx
  exact⟨sl',e2⟩
 free:=fun c ob q n hx=>by
  obtain⟨o',e1⟩:=a.there c ob q hx
  exact b.free c o' e1 (a.free c ob q n hx) hx
 there:=fun c ob q hx=>by
  obtain⟨o',e1⟩:=a.there c ob q hx
  exact b.there c o' e1 hx
 tups:=fun c xs q=>b.tups c xs (a.tups c xs q)
 frzs:=fun c ob xs q=>b.frzs c ob xs (a.frzs c ob xs q)
 tbls:=fun c ps q=>by
  obtain⟨m1,e1⟩:=a.tbls c ps q
  obtain⟨m2,e2⟩:=b.tbls c _ e1
  exact⟨m1++m2,by rw [e2,Array.append_assoc]⟩
theorem Un.kept (k:∀ b u,h.get? b=some u→h'.get? b=some u):Un fs ex H H h h':=
 ⟨fun b ob q _ _ _=>k b ob q,fun b ob q _ _ _=>⟨ob.slots,k b ob q⟩,fun _ _ _ n _=>n,fun b ob q _=>⟨ob,k b ob q⟩,fun _ _ q=>q,fun _ _ _ q=>q,fun _ ps q=>⟨#[],by rw [q];simp⟩⟩
theorem Un.refl:Un fs ex H H h h:=Un.kept fun _ _ q=>q
theorem Un.laid (k:∀ b u,h.get? b=some u→h'.get? b=some u)(hp:h.objs.size≤a)(hn:H a=none):Un fs ex H (upd H a o) h h' where
 keep:=fun b u q _ _ _=>k b u q
 slot:=fun b u q _ _ _=>⟨u.slots,k b u q⟩
 free:=fun b u q n _=>by rw [qK (Nat.ne_of_lt (Nat.lt_of_lt_of_le (Heap.lt_size q) hp))];exact n
 there:=fun b u q _=>⟨u,k b u q⟩
 tups:=fun b xs q=>by rw [qK (qM q hn)];exact q
 frzs:=fun b u xs q=>by rw [qK (qM q hn)];exact q
 tbls:=fun b ps q=>⟨#[],by rw [qK (qM q hn),q];simp⟩
theorem Un.write (mu:Mut (H x))(he:e=x∨H e=some (.own x))(k:∀ b u,b≠e→h.get? b=some u→h'.get? b=some u)(heo:∃ u,h'.get? e=some u):Un fs ex H (upd H x o) h h':=by
 have hx:∀ b,H b=none→b≠x:=fun b n z=>by subst z;rw [n] at mu;exact mu
 have hb:∀ b,H b=none→b≠e:=fun b n z=>by
  subst z
  rcases he with r | r
  · exact hx b n r
  · rw [n] at r;cases r
 have hm:∀ b u,H b=some u→¬ Mut (some u)→b≠x:=fun b u q nm z=>by subst z;rw [q] at mu;exact nm mu
 refine⟨fun b u q n _ _=>k b u (hb b n) q,fun b u q n _ _=>⟨u.slots,k b u (hb b n) q⟩,fun b u q n _=>by rw [qK (hx b n)];exact n,fun b u q _=>?_,
  fun b xs q=>by rw [qK (hm b _ q fun z=>z)];exact q,fun b u xs q=>by rw [qK (hm b _ q fun z=>z)];exact q,fun b ps q=>⟨#[],by rw [qK (hm b _ q fun z=>z),q];simp⟩⟩
 by_cases hbe:b=e
 · subst hbe;exact heo
 · exact⟨u,k b u hbe q⟩
end
def trk (h:Heap)(H:Hp):List Addr:=(List.range h.objs.size).filter fun a=>(H a).isSome
def qF1 (h:Heap)(H:Hp):Heap:=PySem.W.hideAll h (trk h H)
theorem qDk (h:Heap)(H:Hp):(qF1 h H).objs.size=h.objs.size:=PySem.W.hideAll_size _ _
theorem qF7 {h:Heap}{H:Hp}{b:Addr}{o:Obj}(e:h.get? b=some o)(n:H b=none):(qF1 h H).get? b=some o:=
 PySem.W.hideAll_get _ e fun hm=>by
  have q:(H b).isSome=true:=(List.mem_filter.mp hm).2
  rw [n] at q;simp at q
theorem qHx {h:Heap}{H:Hp}{b:Addr}{o:Obj}(e:(qF1 h H).get? b=some o):h.get? b=some o∧H b=none:=by
 have e':h.get? b=some o:=PySem.W.of_hideAll (trk h H) e
 refine⟨e',?_⟩
 cases q:H b with
 | none=>rfl
 | some x=>
  have hm:b∈trk h H:=List.mem_filter.mpr ⟨List.mem_range.mpr (Heap.lt_size e'),by simp [q]⟩
  have z:(qF1 h H).get? b=none:=PySem.W.hideAll_none (trk h H) hm
  rw [z] at e;cases e
def qIc (g h:Heap)(L:Addr):List (Addr × Obj):=(List.range h.objs.size).filterMap fun a=>if a=L∨(g.get? a).isSome=true then none else (h.get? a).map fun o=>(a,o)
def jZ (g h:Heap)(L d:Addr):List (Addr × Obj):=(qIc g h L).filter fun p=>decide (p.1≠d)
end L2
namespace L2
open PySem PySem.Spec PyProof.Rows
structure Mod (K:PySem.W.Frag)(mg:Str→Option Value)(base:Heap):Prop where
 kin:K.In base
 glob:base.Ns mainGlobals mg
 blt:∃ mb,base.Ns builtinsNs mb∧∀ x:Str,x≠"__name__"→mb x=bootBuiltins x
 nolimit:base.NoLimit
structure Cx where
 prog:Program
 w:World
 K:PySem.W.Frag
 mg:Str→Option Value
 base:Heap
 A:Around
 N:List Str
 s₀:Shared
 H₀:Hp
 env:Env
 outer:List Env
 stack:List Env
 ex:List Addr
 fn:Str→Bool
 calm:Bool
 pn:List (Addr × Obj)
 xe:Value→Shared→Prop
def frs (l:List Env):List Addr:=l.filterMap (·.frame)
abbrev Cx.fs (X:Cx):List Addr:=frs X.outer
def Vis (sc:Scope)(x:Str):Prop:=sc.names.lookup x=some .local∨sc.names.lookup x=some .cell∨sc.names.lookup x=some .free
def Loc (sc:Scope)(x:Str):Prop:=sc.names.lookup x=some .local∨sc.names.lookup x=some .cell
def qLm (env:Env)(h:Heap)(m:Str→Option Value)(x:Str)(u:Value):Prop:=
 (env.kindOf x=some .local∧m x=some u)∨((env.kindOf x=some .cell∨env.kindOf x=some .free)∧∃ c,env.cells.lookup x=some c∧h.IsCell c (some u))
structure Cx.Ok (X:Cx):Prop where
 mod:Mod X.K X.mg X.base
 kind:X.env.scope.kind= .function
 glob:X.env.globals=mainGlobals
 blt:X.env.builtins=builtinsNs
 above:X.s₀.heap.objs.size≤X.env.locals
 inj:∀ x y c,X.env.cells.lookup x=some c→X.env.cells.lookup y=some c→x=y
 has:∀ x,(X.env.kindOf x=some .cell∨X.env.kindOf x=some .free)→∃ c,X.env.cells.lookup x=some c
 cab:∀ x c,X.fn x=true→X.env.cells.lookup x=some c→X.s₀.heap.objs.size≤c
 hd:X.calm=true→X.A.handled=none
 frames:X.A.frames=some X.stack
 stk:X.stack=X.outer∨(X.stack=X.env::X.outer∧X.env.frame=some X.env.locals)
 exf:∀ b∈X.ex,b≠X.env.locals∧∀ x c,X.env.cells.lookup x=some c→c≠b
 bs:∀ b o,X.base.get? b=some o→X.s₀.heap.get? b=some o∧X.H₀ b=none
 bsz:X.base.objs.size≤X.s₀.heap.objs.size
 noex:∀ b o,X.base.get? b=some o→b ∉ X.ex
 exfs:∀ b∈X.ex,b ∉ X.fs
 funs:X.s₀.heap.FunFrames X.base X.outer
 frf:∀ b∈X.fs,X.H₀ b=none
structure Inv (X:Cx)(pins:List (Addr × Obj))(σ:List (Option V))(H:Hp)(s:Shared):Prop where
 ok:X.Ok
 os:s.os=X.s₀.os
 bare:AllBare s.gens
 base:Un X.fs X.ex X.H₀ H X.s₀.heap s.heap
 loc:∃ m,s.heap.Ns X.env.locals m∧∀ (i:Nat) (x:Str) (v:V),X.N[i]? =some x→σ[i]? =some (some v)→Vis X.env.scope x→∃ u,RelV v u∧qLm X.env s.heap m x u
 cell:∀ x c,X.env.cells.lookup x=some c→∃ v,s.heap.IsCell c v
 free:H X.env.locals=none
 freeC:∀ x c,X.env.cells.lookup x=some c→H c=none
 pin:∀ p∈X.pn++pins,s.heap.get? p.1=some p.2∧H p.1=none∧p.1≠X.env.locals∧p.1 ∉ X.fs∧∀ v,p.2.data≠ .cell v
 hok:HOk X.prog X.w H s.heap
 len:σ.length=X.N.length
section
variable {X : Cx} {pins : List (Addr × Obj)} {σ : List (Option V)} {H H' : Hp} {s : Shared} {h' : Heap}
theorem Cx.Ok.nofr (ok:X.Ok){b:Addr}{o:Obj}(e:X.base.get? b=some o):b ∉ X.fs:=fun hb=>by
 have:=(ok.funs.mem hb).1
 rw [e] at this;cases this
theorem Inv.bs (I:Inv X pins σ H s):∀ b o,X.base.get? b=some o→s.heap.get? b=some o∧H b=none:=fun b o e=>
 ⟨I.base.keep b o (I.ok.bs b o e).1 (I.ok.bs b o e).2 (I.ok.nofr e) (I.ok.noex b o e),I.base.free b o (I.ok.bs b o e).1 (I.ok.bs b o e).2 (I.ok.noex b o e)⟩
theorem Inv.bk (I:Inv X pins σ H s):∀ b o,X.base.get? b=some o→s.heap.get? b=some o:=fun b o e=>(I.bs b o e).1
theorem Inv.mod (I:Inv X pins σ H s):Mod X.K X.mg X.base:=I.ok.mod
theorem Inv.kIn (I:Inv X pins σ H s):X.K.In s.heap:=I.ok.mod.kin.keeps I.bk
theorem Inv.nolimit (I:Inv X pins σ H s):s.heap.NoLimit:=I.ok.mod.nolimit.keeps I.bk
theorem Inv.fr (I:Inv X pins σ H s):∃ m,Fr X.base X.env.locals s.heap m:=
 let ⟨m,hn,_⟩:=I.loc
 ⟨m,hn,I.bk,Nat.le_trans I.ok.bsz I.ok.above⟩
theorem Inv.lt (I:Inv X pins σ H s):X.env.locals < s.heap.objs.size:=let ⟨_,hn,_⟩:=I.loc;hn.lt
theorem Inv.sz (I:Inv X pins σ H s):X.s₀.heap.objs.size≤s.heap.objs.size:=Nat.le_trans I.ok.above (Nat.le_of_lt I.lt)
theorem Inv.nofs (I:Inv X pins σ H s){a:Addr}(h:s.heap.objs.size≤a):a ∉ X.fs:=fun hb=>by
 obtain⟨_,o,ho,_⟩:=I.ok.funs.mem hb
 exact absurd (Nat.lt_of_lt_of_le (Heap.lt_size ho) (Nat.le_trans I.sz h)) (Nat.lt_irrefl _)
theorem Inv.cne (I:Inv X pins σ H s):∀ x c,X.env.cells.lookup x=some c→c≠X.env.locals:=fun x c e z=>by
 obtain⟨v,o,ho,hd⟩:=I.cell x c e
 obtain⟨m,⟨o',es,ep,ho',hd',_⟩,_⟩:=I.loc
 rw [z,ho'] at ho;cases ho;rw [hd'] at hd;cases hd
theorem Inv.funs (I:Inv X pins σ H s):s.heap.FunFrames X.base X.outer:=by
 have all:∀ (l:List Env),(∀ b∈frs l,b∈X.fs)→X.s₀.heap.FunFrames X.base l→s.heap.FunFrames X.base l:=by
  intro l
  induction l with
  | nil=>intro _ _;trivial
  | cons env r ih=>
   intro hs hl
   obtain⟨hk,⟨L,o,hf,hn,ho,hd⟩,hr⟩:=hl
   have hL:L∈X.fs:=hs L (by unfold frs;rw [List.filterMap_cons,hf];exact List.mem_cons_self)
   obtain⟨sl,e⟩:=I.base.slot L o ho (I.ok.frf L hL) hL fun z=>I.ok.exfs L z hL
   exact⟨hk,⟨L,_,hf,hn,e,hd⟩,ih (fun b hb=>hs b (by unfold frs;rw [List.filterMap_cons,hf];exact List.mem_cons_of_mem _ hb)) hr⟩
 exact all X.outer (fun _ hb=>hb) I.ok.funs
theorem Inv.stack (I:Inv X pins σ H s):s.heap.FunFrames X.base X.stack:=by
 rcases I.ok.stk with e | ⟨e,hf⟩
 · rw [e];exact I.funs
 · rw [e]
   obtain⟨m,hn,_⟩:=I.loc
   refine .cons (by rw [I.ok.kind];decide) hf hn ?_ I.funs
   exact Heap.get?_none_of_le (Nat.le_trans I.ok.bsz I.ok.above)
theorem Inv.stkSub (I:Inv X pins σ H s):∀ b∈frs X.stack,b∈X.env.locals::X.fs:=fun b hb=>by
 rcases I.ok.stk with e | ⟨e,hf⟩
 · rw [e] at hb;exact List.mem_cons_of_mem _ hb
 · rw [e] at hb
   unfold frs at hb
   rw [List.filterMap_cons,hf] at hb
   exact hb
theorem Inv.stkFree (I:Inv X pins σ H s):∀ b∈frs X.stack,H b=none:=fun b hb=>by
 rcases List.mem_cons.mp (I.stkSub b hb) with e | hb
 · rw [e];exact I.free
 · obtain⟨_,o,ho,_⟩:=I.ok.funs.mem hb
   exact I.base.free b o ho (I.ok.frf b hb) fun z=>I.ok.exfs b z hb
theorem Inv.step {g':Array GenState}{t':Nat}{d':Drawn}{ch:List Addr}(I:Inv X pins σ H s)
 (hch:∀ b∈ch,(b∈X.ex∨X.s₀.heap.objs.size≤b)∧b≠X.env.locals∧(∀ x c,X.env.cells.lookup x=some c→c≠b)∧∀ p∈X.pn++pins,p.1≠b)
 (keep:∀ b o,b≠X.env.locals→b ∉ X.fs→b ∉ ch→s.heap.get? b=some o→H b=none→h'.get? b=some o)
 (slot:∀ b o,b≠X.env.locals→b∈X.fs→b ∉ ch→s.heap.get? b=some o→H b=none→∃ sl,h'.get? b=some {o with slots:=sl}) (free:∀ b o,b ∉ ch→s.heap.get? b=some o→H b=none→H' b=none)
 (there:∀ b o,b ∉ ch→s.heap.get? b=some o→∃ o',h'.get? b=some o')
 (tups:∀ b xs,H b=some (.tup xs)→H' b=some (.tup xs)) (frzs:∀ b o u,H b=some (.frz o u)→H' b=some (.frz o u)) (tbls:∀ b ps,H b=some (.tbl ps)→∃ more,H' b=some (.tbl (ps++more)))
 (ns:∀ m,s.heap.Ns X.env.locals m→h'.Ns X.env.locals m) (hok:HOk X.prog X.w H' h') (hg:AllBare g'):
 Inv X pins σ H' {s with heap:=h',gens:=g',drawn:=d',toks:=t'}:=by
 have neL:∀ b o,X.s₀.heap.get? b=some o→b≠X.env.locals:=fun b o e=>Nat.ne_of_lt (Nat.lt_of_lt_of_le (Heap.lt_size e) I.ok.above)
 have neC:∀ b o,X.s₀.heap.get? b=some o→b ∉ X.ex→b ∉ ch:=fun b o e hx hb=>by
  rcases (hch b hb).1 with z | z
  · exact hx z
  · exact absurd (Nat.lt_of_lt_of_le (Heap.lt_size e) z) (Nat.lt_irrefl _)
 have cellK:∀ x c,X.env.cells.lookup x=some c→∀ v,s.heap.IsCell c v→h'.IsCell c v:=fun x c e v ⟨o,ho,hd⟩=>by
  have nch:c ∉ ch:=fun z=>(hch c z).2.2.1 x c e rfl
  by_cases hc:c∈X.fs
  · obtain⟨sl,q⟩:=slot c o (I.cne x c e) hc nch ho (I.freeC x c e)
    exact⟨_,q,hd⟩
  · exact⟨o,keep c o (I.cne x c e) hc nch ho (I.freeC x c e),hd⟩
 refine⟨I.ok,I.os,hg,⟨fun b o e n hb hx=>?_,fun b o e n hb hx=>?_,fun b o e n hx=>?_,fun b o e hx=>?_,fun b xs e=>tups b xs (I.base.tups b xs e),fun b o xs e=>frzs b o xs (I.base.frzs b o xs e),fun b ps e=>?_⟩,?_,fun x c e=>?_,?_,fun x c e=>?_,fun p hp=>?_,hok,I.len⟩
 · exact keep b o (neL b o e) hb (neC b o e hx) (I.base.keep b o e n hb hx) (I.base.free b o e n hx)
 · obtain⟨sl,e1⟩:=I.base.slot b o e n hb hx
   obtain⟨sl',e2⟩:=slot b _ (neL b o e) hb (neC b o e hx) e1 (I.base.free b o e n hx)
   exact⟨sl',e2⟩
 · obtain⟨o',e1⟩:=I.base.there b o e hx
   exact free b o' (neC b o e hx) e1 (I.base.free b o e n hx)
 · obtain⟨o',e1⟩:=I.base.there b o e hx
   exact there b o' (neC b o e hx) e1
 · obtain⟨m1,e1⟩:=I.base.tbls b ps e
   obtain⟨m2,e2⟩:=tbls b _ e1
   exact⟨m1++m2,by rw [e2,Array.append_assoc]⟩
 · obtain⟨m,hn,hl⟩:=I.loc
   refine⟨m,ns m hn,fun i x v e1 e2 e3=>?_⟩
   obtain⟨u,r,l⟩:=hl i x v e1 e2 e3
   refine⟨u,r,?_⟩
   rcases l with l | ⟨k,c,e,z⟩
   · exact .inl l
   · exact .inr ⟨k,c,e,cellK x c e _ z⟩
 · obtain⟨v,z⟩:=I.cell x c e
   exact⟨v,cellK x c e v z⟩
 · obtain⟨m,⟨o,_,_,ho,_⟩,_⟩:=I.loc
   exact free _ o (fun z=>(hch _ z).2.1 rfl) ho I.free
 · obtain⟨v,o,ho,hd⟩:=I.cell x c e
   exact free c o (fun z=>(hch c z).2.2.1 x c e rfl) ho (I.freeC x c e)
 · obtain⟨e,n,ne,nf,d⟩:=I.pin p hp
   have nch:p.1 ∉ ch:=fun z=>(hch p.1 z).2.2.2 p hp rfl
   exact⟨keep p.1 p.2 ne nf nch e n,free p.1 p.2 nch e n,ne,nf,d⟩
theorem Inv.un {t':Nat}(I:Inv X pins σ H s)(u:Un X.fs [] H H' s.heap h')(hok:HOk X.prog X.w H' h'):Inv X pins σ H' {s with heap:=h',toks:=t'}:=by
 obtain⟨m,⟨o,es,ep,ho,r⟩,_⟩:=id I.loc
 obtain⟨sl,hL⟩:=u.any ho I.free (by simp)
 exact I.step (g':=s.gens) (d':=s.drawn) (ch:=[]) (fun _ z=>nomatch z) (fun b o _ hb _ e n=>u.keep b o e n hb (by simp)) (fun b o _ hb _ e n=>u.slot b o e n hb (by simp)) (fun b o _ e n=>u.free b o e n (by simp)) (fun b o _ e=>u.there b o e (by simp)) u.tups u.frzs u.tbls (fun m' hm=>by
  obtain⟨o',es',ep',ho',r'⟩:=hm
  rw [ho] at ho';cases ho'
  exact⟨_,es',ep',hL,r'⟩) hok I.bare
theorem Inv.call {g':Array GenState}{t':Nat}{d':Drawn}{ch:List Addr}(I:Inv X pins σ H s)(u:Un (frs X.stack) ch H H' s.heap h')(hok:HOk X.prog X.w H' h')(hg:AllBare g')
 (hch:∀ b∈ch,(b∈X.ex∨X.s₀.heap.objs.size≤b)∧b≠X.env.locals∧(∀ x c,X.env.cells.lookup x=some c→c≠b)∧∀ p∈X.pn++pins,p.1≠b):
 Inv X pins σ H' {s with heap:=h',gens:=g',drawn:=d',toks:=t'}:=by
 obtain⟨m,⟨o,es,ep,ho,r⟩,_⟩:=id I.loc
 obtain⟨sl,hL⟩:=u.any ho I.free fun z=>(hch _ z).2.1 rfl
 exact I.step (ch:=ch) hch (fun b o hL hb hc e n=>u.keep b o e n (fun z=>(List.mem_cons.mp (I.stkSub b z)).elim hL hb) hc) (fun b o _ _ hc e n=>u.any e n hc) (fun b o hc e n=>u.free b o e n hc) (fun b o hc e=>u.there b o e hc) u.tups u.frzs u.tbls (fun m' hm=>by
  obtain⟨o',es',ep',ho',r'⟩:=hm
  rw [ho] at ho';cases ho'
  exact⟨_,es',ep',hL,r'⟩) hok hg
theorem Inv.turned {t':Nat}{it:Addr}(I:Inv X pins σ H s)(k:∀ b o,b≠it→s.heap.get? b=some o→h'.get? b=some o)(hn:H it=none)(hL:it≠X.env.locals)
 (h1:it∈X.ex∨X.s₀.heap.objs.size≤it) (h2:∀ x c,X.env.cells.lookup x=some c→c≠it) (h3:∀ p∈X.pn++pins,p.1≠it):Inv X pins σ H {s with heap:=h',toks:=t'}:=by
 have nit:∀ b u,H b=some u→b≠it:=fun b u e z=>by rw [z,hn] at e;cases e
 refine I.step (g':=s.gens) (d':=s.drawn) (ch:=[it]) (fun b hb=>?_) (fun b o _ _ hc e _=>k b o (fun z=>hc (by simp [z])) e) (fun b o _ _ hc e _=>⟨o.slots,k b o (fun z=>hc (by simp [z])) e⟩) (fun _ _ _ _ n=>n)
  (fun b o hc e=>⟨o,k b o (fun z=>hc (by simp [z])) e⟩) (fun _ _ e=>e) (fun _ _ _ e=>e) (fun b ps e=>⟨#[],by rw [e];simp⟩) (fun m hm=>?_) (fun b u e=>?_) I.bare
 · have e:b=it:=by simpa using hb
   subst e
   exact⟨h1,hL,h2,h3⟩
 · obtain⟨o,es,ep,ho,r⟩:=hm
   exact⟨o,es,ep,k _ o (Ne.symm hL) ho,r⟩
 · refine(I.hok b u e).stay (fun c v hc q=>k c v ?_ q) (fun _ q=>q) fun _ _ q=>q
   rcases hc with z | z
   · rw [z];exact nit b u e
   · exact nit c _ z
theorem Inv.tok (I:Inv X pins σ H s)(t:Nat):Inv X pins σ H {s with toks:=t}:=I.un (h':=s.heap) (t':=t) Un.refl I.hok
theorem Inv.kept {t':Nat}(I:Inv X pins σ H s)(k:∀ b u,s.heap.get? b=some u→h'.get? b=some u):Inv X pins σ H {s with heap:=h',toks:=t'}:=I.un (Un.kept k) (I.hok.kept k)
theorem Inv.laid {a:Addr}{o:HO}{t':Nat}(I:Inv X pins σ H s)(k:∀ b u,s.heap.get? b=some u→h'.get? b=some u)(hp:s.heap.objs.size≤a)(new:ObjOk X.prog X.w (upd H a o) h' a o):
 Inv X pins σ (upd H a o) {s with heap:=h',toks:=t'}:=I.un (Un.laid k hp (I.hok.fresh hp)) (I.hok.laid k hp new)
theorem Inv.write {x e:Addr}{o:HO}{t':Nat}(I:Inv X pins σ H s)(mu:Mut (H x))(he:e=x∨H e=some (.own x))(k:∀ b u,b≠e→s.heap.get? b=some u→h'.get? b=some u)(heo:∃ u,h'.get? e=some u)
 (new:ObjOk X.prog X.w (upd H x o) h' x o):Inv X pins σ (upd H x o) {s with heap:=h',toks:=t'}:=I.un (Un.write mu he k heo) (I.hok.write mu he k heo new)
theorem Inv.weak {σ':List (Option V)}(I:Inv X pins σ H s)(hl:σ'.length=σ.length)(w:∀ (i:Nat) v,σ'[i]? =some (some v)→σ[i]? =some (some v)):Inv X pins σ' H s:=
 ⟨I.ok,I.os,I.bare,I.base,let ⟨m,hn,hl'⟩:=I.loc;⟨m,hn,fun i x v e1 e2 e3=>hl' i x v e1 (w i v e2) e3⟩,I.cell,I.free,I.freeC,I.pin,I.hok,hl.trans I.len⟩
theorem Inv.pins_of {pins':List (Addr × Obj)}(I:Inv X pins σ H s)(h:∀ p∈pins',s.heap.get? p.1=some p.2∧H p.1=none∧p.1≠X.env.locals∧p.1 ∉ X.fs∧∀ v,p.2.data≠ .cell v):Inv X pins' σ H s:=
 ⟨I.ok,I.os,I.bare,I.base,I.loc,I.cell,I.free,I.freeC,fun p hp=>(List.mem_append.mp hp).elim (fun z=>I.pin p (List.mem_append_left _ z)) (h p),I.hok,I.len⟩
theorem wJ {N:List Str}(hN:N.Nodup){i j:Nat}{x:Str}(a:N[i]? =some x)(b:N[j]? =some x):i=j:=by
 obtain⟨h1,e1⟩:=List.getElem?_eq_some_iff.mp a
 obtain⟨h2,e2⟩:=List.getElem?_eq_some_iff.mp b
 exact(List.getElem_inj hN).mp (e1.trans e2.symm)
theorem wV {M:Model}{A:Around}{E:Value→Shared→Prop}{i:Nat}{x:Str}{v:V}{u:Value}{Q:Unit→Shared→Prop}(I:Inv X pins σ H s)(hN:X.N.Nodup)(hi:X.N[i]? =some x)(hx:Loc X.env.scope x)(r:RelV v u)
 (h:∀ s',Inv X pins (σ.set i (some v)) H s'→(∃ a,Heap.SameBut a s.heap s'.heap∧(a=X.env.locals∨X.env.cells.lookup x=some a))→Q () s') (hf:X.fn x=true∨X.env.scope.names.lookup x=some .local:=by first | exact .inl rfl | exact .inr rfl | assumption):wpAny M A (storeName X.env x u) Q E s:=by
 obtain⟨m,hn,hl⟩:=id I.loc
 have hcls:(X.env.scope.kind == .class || (X.env.scope.kind == .module && X.env.locals != X.env.globals))=false:=by rw [I.ok.kind];rfl
 have hiσ:i < σ.length:=by rw [I.len];exact(List.getElem?_eq_some_iff.mp hi).1
 have cne:=I.cne
 have tracked:∀ {a:Addr} {h':Heap},(∃ o,s.heap.get? a=some o∧H a=none)→Heap.SameBut a s.heap h'→HOk X.prog X.w H h':=fun {a h'} ha hs b ob e=>by
  obtain⟨_,_,hfree⟩:=ha
  refine(I.hok b ob e).stay (fun c w' hc q=>(hs.2 c ?_).trans q) (fun _ q=>q) fun _ _ q=>q
  rintro rfl
  rcases hc with rfl | hc
  · rw [hfree] at e;cases e
  · rw [hfree] at hc;cases hc
 rcases hx with hk | hk
 · refine wpAny_storeName_local hk hn (fun h' hn' hs=>?_) hcls
   obtain⟨oL,_,_,hoL,_⟩:=id hn
   refine h _ ⟨I.ok,I.os,I.bare,⟨fun b o e n hb hx=>?_,fun b o e n hb hx=>?_,I.base.free,fun b o e hx=>?_,I.base.tups,I.base.frzs,I.base.tbls⟩,⟨_,hn',fun j y v' e1 e2 e3=>?_⟩,fun y c e=>?_,I.free,I.freeC,fun p hp=>?_,tracked ⟨oL,hoL,I.free⟩ hs,by simpa using I.len⟩ ⟨_,hs,.inl rfl⟩
   · exact(hs.2 b (Nat.ne_of_lt (Nat.lt_of_lt_of_le (Heap.lt_size e) I.ok.above))).trans (I.base.keep b o e n hb hx)
   · obtain⟨sl,e1⟩:=I.base.slot b o e n hb hx
     exact⟨sl,(hs.2 b (Nat.ne_of_lt (Nat.lt_of_lt_of_le (Heap.lt_size e) I.ok.above))).trans e1⟩
   · obtain⟨o',e1⟩:=I.base.there b o e hx
     exact⟨o',(hs.2 b (Nat.ne_of_lt (Nat.lt_of_lt_of_le (Heap.lt_size e) I.ok.above))).trans e1⟩
   · by_cases hj:j=i
     · subst hj
       rw [hi] at e1;cases e1
       rw [List.getElem?_set_self hiσ] at e2
       cases e2
       exact⟨u,r,.inl ⟨hk,by simp⟩⟩
     · rw [List.getElem?_set_ne (Ne.symm hj)] at e2
       obtain⟨u',r',q⟩:=hl j y v' e1 e2 e3
       refine⟨u',r',?_⟩
       rcases q with ⟨k,e⟩ | ⟨k,c,e,z⟩
       · refine .inl ⟨k,?_⟩
         have:y≠x:=fun e=>hj (wJ hN e1 (e ▸ hi))
         simp [this,e]
       · exact .inr ⟨k,c,e,z.sameBut hs (cne y c e)⟩
   · obtain⟨w',z⟩:=I.cell y c e
     exact⟨w',z.sameBut hs (cne y c e)⟩
   · obtain⟨e,n,ne,nf,d⟩:=I.pin p hp
     exact⟨(hs.2 p.1 ne).trans e,n,ne,nf,d⟩
 · have hfn:X.fn x=true:=by
    rcases hf with z | z
    · exact z
    · rw [z] at hk;cases hk
   obtain⟨c,hc⟩:=I.ok.has x (.inl hk)
   obtain⟨w',z⟩:=I.cell x c hc
   refine wpAny_storeName_cell I.ok.kind hk hc z (fun h' hc' hs=>?_)
   obtain⟨oc,hoc,hocd⟩:=id z
   refine h {s with heap:=h'} ⟨I.ok,I.os,I.bare,⟨fun b o e n hb hx=>?_,fun b o e n hb hx=>?_,I.base.free,fun b o e hx=>?_,I.base.tups,I.base.frzs,I.base.tbls⟩,⟨m,hn.sameBut hs (Ne.symm (cne x c hc)),fun j y v' e1 e2 e3=>?_⟩,fun y c' e=>?_,I.free,I.freeC,fun p hp=>?_,tracked ⟨oc,hoc,I.freeC x c hc⟩ hs,by simpa using I.len⟩ ⟨c,hs,.inr hc⟩
   · exact(hs.2 b (Nat.ne_of_lt (Nat.lt_of_lt_of_le (Heap.lt_size e) (I.ok.cab x c hfn hc)))).trans (I.base.keep b o e n hb hx)
   · obtain⟨sl,e1⟩:=I.base.slot b o e n hb hx
     exact⟨sl,(hs.2 b (Nat.ne_of_lt (Nat.lt_of_lt_of_le (Heap.lt_size e) (I.ok.cab x c hfn hc)))).trans e1⟩
   · obtain⟨o',e1⟩:=I.base.there b o e hx
     exact⟨o',(hs.2 b (Nat.ne_of_lt (Nat.lt_of_lt_of_le (Heap.lt_size e) (I.ok.cab x c hfn hc)))).trans e1⟩
   · by_cases hj:j=i
     · subst hj
       rw [hi] at e1;cases e1
       rw [List.getElem?_set_self hiσ] at e2
       cases e2
       exact⟨u,r,.inr ⟨.inl hk,c,hc,hc'⟩⟩
     · rw [List.getElem?_set_ne (Ne.symm hj)] at e2
       obtain⟨u',r',q⟩:=hl j y v' e1 e2 e3
       refine⟨u',r',?_⟩
       rcases q with q | ⟨k,c',e,z'⟩
       · exact .inl q
       · refine .inr ⟨k,c',e,z'.sameBut hs ?_⟩
         rintro rfl
         exact hj (wJ hN e1 (I.ok.inj _ _ _ e hc ▸ hi))
   · by_cases hcc:c'=c
     · subst hcc;exact⟨_,hc'⟩
     · obtain⟨w2,z2⟩:=I.cell y c' e
       exact⟨w2,z2.sameBut hs hcc⟩
   · obtain⟨e,n,ne,nf,d⟩:=I.pin p hp
     refine⟨(hs.2 p.1 ?_).trans e,n,ne,nf,d⟩
     intro q
     rw [q,hoc] at e
     have q':oc=p.2:=Option.some.inj e
     exact d w' (by rw [← q'];exact hocd)
theorem kC {M:Model}{A:Around}{E:Value→Shared→Prop}{i:Nat}{x:Str}{v:V}{u:Value}{Q:Unit→Shared→Prop}(I:Inv X pins σ H s)(hN:X.N.Nodup)(hi:X.N[i]? =some x)(hx:Loc X.env.scope x)(r:RelV v u)
 (h:∀ s',Inv X pins (σ.set i (some v)) H s'→Q () s') (hf:X.fn x=true∨X.env.scope.names.lookup x=some .local:=by first | exact .inl rfl | exact .inr rfl | assumption):wpAny M A (storeName X.env x u) Q E s:=
 wV I hN hi hx r (fun s' I' _=>h s' I') hf
theorem Inv.call' {s':Shared}{ch:List Addr}(I:Inv X pins σ H s)(ho:s'.os=s.os)(u:Un (frs X.stack) ch H H' s.heap s'.heap)(hok:HOk X.prog X.w H' s'.heap)(hg:AllBare s'.gens)
 (hch:∀ b∈ch,(b∈X.ex∨X.s₀.heap.objs.size≤b)∧b≠X.env.locals∧(∀ x c,X.env.cells.lookup x=some c→c≠b)∧∀ p∈X.pn++pins,p.1≠b):Inv X pins σ H' s':=by
 obtain⟨h',g',d',t',o'⟩:=s'
 have e:o'=s.os:=ho
 subst e
 exact I.call (g':=g') (t':=t') (d':=d') u hok hg hch
end
abbrev XK:=Value→Option Addr→Hp→Prop
abbrev St:=List (Option V)
abbrev VK:=V→Hp→Prop
abbrev TE:=St→Hp→VK→Prop
abbrev TT:=St→Hp→(Bool→Hp→Prop)→Prop
abbrev TA:=St→Hp→(List V→Hp→Prop)→Prop
structure qC6 where
 nx:St→Hp→Prop
 rt:VK
 bk:St→Hp→Prop:=fun _ _=>False
 ct:St→Hp→Prop:=fun _ _=>False
abbrev TS:=qC6→St→Hp→Prop
def EP (X:Cx)(pins:List (Addr × Obj))(σ:St)(Q:VK)(u:Value)(s':Shared):Prop:=∃ v H',Inv X pins σ H' s'∧RelV v u∧Q v H'
def TP (X:Cx)(pins:List (Addr × Obj))(σ:St)(Q:Bool→Hp→Prop)(b:Bool)(s':Shared):Prop:=∃ H',Inv X pins σ H' s'∧Q b H'
def AP (X:Cx)(pins:List (Addr × Obj))(σ:St)(Q:List V→Hp→Prop)(us:List Value)(s':Shared):Prop:=∃ vs H',Inv X pins σ H' s'∧Vals vs us∧Q vs H'
def SP (X:Cx)(pins:List (Addr × Obj))(D:qC6)(f:Flow)(s':Shared):Prop:=
 match f with
 | .next=>∃ σ' H',Inv X pins σ' H' s'∧D.nx σ' H'
 | .brk=>∃ σ' H',Inv X pins σ' H' s'∧D.bk σ' H'
 | .cont=>∃ σ' H',Inv X pins σ' H' s'∧D.ct σ' H'
 | .ret u=>∃ v σ' H',Inv X pins σ' H' s'∧RelV v u∧D.rt v H'
def PE (X:Cx)(e:Expr)(t:TE):Prop:=
 ∀ (pins:List (Addr × Obj)) (s:Shared) (σ:St) (H:Hp) (Q:VK),Inv X pins σ H s→t σ H Q→wpAny (model X.prog X.w) X.A (eval e X.env) (EP X pins σ Q) X.xe s
def PT (X:Cx)(e:Expr)(t:TT):Prop:=
 ∀ (pins:List (Addr × Obj)) (s:Shared) (σ:St) (H:Hp) (Q:Bool→Hp→Prop),Inv X pins σ H s→t σ H Q→wpAny (model X.prog X.w) X.A (isTrue e X.env (eval e X.env)) (TP X pins σ Q) X.xe s
def PW (X:Cx)(e:Expr)(t:TT):Prop:=
 ∀ (whole:Sem Value) (pins:List (Addr × Obj)) (s:Shared) (σ:St) (H:Hp) (Q:Bool→Hp→Prop),Inv X pins σ H s→t σ H Q→wpAny (model X.prog X.w) X.A (isTrue e X.env whole) (TP X pins σ Q) X.xe s
theorem PW.pt {X:Cx}{e:Expr}{t:TT}(h:PW X e t):PT X e t:=h _
def PA (X:Cx)(es:List Expr)(t:TA):Prop:=
 ∀ (pos:Pos) (pins:List (Addr × Obj)) (s:Shared) (σ:St) (H:Hp) (Q:List V→Hp→Prop),Inv X pins σ H s→t σ H Q→wpAny (model X.prog X.w) X.A (spliced (backTo pos (starEach es X.env))) (AP X pins σ Q) X.xe s
def PS (X:Cx)(st:Stmt)(t:TS):Prop:=
 ∀ (pins:List (Addr × Obj)) (s:Shared) (σ:St) (H:Hp) (D:qC6),Inv X pins σ H s→t D σ H→wpAny (model X.prog X.w) X.A (exec st X.env) (SP X pins D) X.xe s
def PSs (X:Cx)(st:List Stmt)(t:TS):Prop:=
 ∀ (pins:List (Addr × Obj)) (s:Shared) (σ:St) (H:Hp) (D:qC6),Inv X pins σ H s→t D σ H→wpAny (model X.prog X.w) X.A (execs st X.env) (SP X pins D) X.xe s
theorem thn {α:Type}{t:Sem α}{Q Q':α→Shared→Prop}{M:Model}{A:Around}{E:Value→Shared→Prop}{s:Shared}(h:wpAny M A t Q E s)(hQ:∀ a s,Q a s→Q' a s):wpAny M A t Q' E s:=wpAny_mono h hQ fun _ _ x=>x
end L2
namespace L2
open PySem PySem.Spec PyProof.Rows
section
variable {X : Cx}
theorem bin {a b:Expr}{ta tb:TE}(ha:PE X a ta)(hb:PE X b tb){pins:List (Addr × Obj)}{s:Shared}{σ:St}{H:Hp}{R:V→V→Hp→Prop}(I:Inv X pins σ H s)(h:ta σ H fun x H1=>tb σ H1 fun y H2=>R x y H2)
 {α:Type} {Q:α→Shared→Prop} {f:Value→Value→Sem α}
 (hf:∀ v u s2 x y H2,Inv X pins σ H2 s2→RelV x v→RelV y u→R x y H2→wpAny (model X.prog X.w) X.A (f v u) Q X.xe s2):
 wpAny (model X.prog X.w) X.A (eval a X.env) (fun v s₁=>wpAny (model X.prog X.w) X.A (eval b X.env) (fun u s₂=>wpAny (model X.prog X.w) X.A (f v u) Q X.xe s₂) X.xe s₁) X.xe s:=by
 refine thn (ha pins s σ H _ I h) fun v s1 ⟨x,H1,I1,r1,q1⟩=>?_
 refine thn (hb pins s1 σ H1 _ I1 q1) fun u s2 ⟨y,H2,I2,r2,q2⟩=>?_
 exact hf v u s2 x y H2 I2 r1 r2 q2
inductive qKb (i:Nat)(σ:L2.St)(H:Hp)(Q:VK):Prop
| mk v (_:σ[i]? =some (some v)) (_:Q v H)
def tC (v:V):TE:=fun _ H Q=>Q v H
theorem qJa {i:Nat}{x:Str}{pos:Pos}(hN:X.N[i]? =some x)(hv:Vis X.env.scope x)(hd:(x == ("__debug__":Str))=false:=by decide)(hcd:(x == ("__classdict__":Str))=false:=by decide):PE X (.Name x pos) (qKb i):=by
 intro pins s σ H Q I h
 obtain⟨v,e,h⟩:=h
 obtain⟨m,hn,hl⟩:=I.loc
 obtain⟨u,r,l⟩:=hl i x v hN e hv
 have fin:EP X pins σ Q u s:=⟨v,H,I,r,h⟩
 rcases l with ⟨hk,hm⟩ | ⟨hk,c,hc,hcell⟩
 · exact wpAny_Name (wpAny_loadName_local I.ok.kind hk hn hm fin) hd
 · rcases hk with hk | hk
   · exact wpAny_Name (wpAny_loadName_cell I.ok.kind hk hc hcell fin) hd
   · exact wpAny_Name (wpAny_loadName_free I.ok.kind hk hc hcell fin hcd) hd
theorem qF {i j pos}:PE X (.Constant (.int i) j pos) (tC (.int i)):=fun _ _ _ H _ I h=>wpAny_Constant_int ⟨.int i,H,I.tok _,⟨_,rfl⟩,h⟩
theorem qH7 {b j pos}:PE X (.Constant (.bool b) j pos) (tC (.bl b)):=fun _ _ _ H _ I h=>Constant_bool ⟨.bl b,H,I,rfl,h⟩
theorem wo {j pos}:PE X (.Constant .none j pos) (tC .non):=fun _ _ _ H _ I h=>Constant_none ⟨.non,H,I,rfl,h⟩
theorem jF {x j pos}:PE X (.Constant (.str x) j pos) (tC (.str x)):=fun _ _ _ H _ I h=>Calls.Constant_str ⟨.str x,H,I.tok _,⟨_,rfl⟩,h⟩
def Gl (X:Cx)(x:Str):Prop:=X.env.kindOf x=some .globalImplicit
theorem vc {E:Value→Shared→Prop}{pins:List (Addr × Obj)}{s:Shared}{σ:St}{H:Hp}{x:Str}{u:Value}{pos:Pos}{Q:Value→Shared→Prop}(I:Inv X pins σ H s)(hg:Gl X x)(hm:X.mg x=some u)(h:Q u s)
 (hd:(x == ("__debug__":Str))=false:=by decide):wpAny (model X.prog X.w) X.A (eval (.Name x pos) X.env) Q E s:=
 Calls.Name_function_global I.ok.kind hg (Calls.loadGlobal_global (by rw [I.ok.glob];exact I.mod.glob.keeps I.bk) hm h) hd
theorem kr {E:Value→Shared→Prop}{pins:List (Addr × Obj)}{s:Shared}{σ:St}{H:Hp}{x:Str}{u:Value}{pos:Pos}{Q:Value→Shared→Prop}(I:Inv X pins σ H s)(hg:Gl X x)(hm:X.mg x=none)(hv:bootBuiltins x=some u)(h:Q u s)
 (hn:x≠"__name__":=by decide) (hd:(x == ("__debug__":Str))=false:=by decide):wpAny (model X.prog X.w) X.A (eval (.Name x pos) X.env) Q E s:=by
 obtain⟨mb,h1,h2⟩:=I.mod.blt
 exact Calls.Name_function_global I.ok.kind hg (Calls.loadGlobal_builtin (by rw [I.ok.glob];exact I.mod.glob.keeps I.bk) hm (by rw [I.ok.blt];exact h1.keeps I.bk) ((h2 x hn).trans hv) h) hd
theorem j8 {x:Str}{v:V}{u:Value}{pos:Pos}(hg:Gl X x)(hm:X.mg x=some u)(r:RelV v u)(hd:(x == ("__debug__":Str))=false:=by decide):PE X (.Name x pos) (tC v):=
 fun _ _ _ H _ I h=>vc I hg hm ⟨v,H,I,r,h⟩ hd
theorem qH2 {x:Str}{v:V}{u:Value}{pos:Pos}(hg:Gl X x)(hm:X.mg x=none)(hv:bootBuiltins x=some u)(r:RelV v u)(hn:x≠"__name__":=by decide)(hd:(x == ("__debug__":Str))=false:=by decide):PE X (.Name x pos) (tC v):=
 fun _ _ _ H _ I h=>kr I hg hm hv ⟨v,H,I,r,h⟩ hn hd
variable {a b : Expr} {ta tb : TE} {pos : Pos}
def PC (X:Cx)(op:CmpOp)(a b:Expr)(t:TE):Prop:=
 ∀ (pins:List (Addr × Obj)) (s:Shared) (σ:St) (H:Hp) (Q:VK),Inv X pins σ H s→t σ H Q→
  wpAny (model X.prog X.w) X.A (eval a X.env) (fun v s₁=>wpAny (model X.prog X.w) X.A (eval b X.env) (fun u s₂=>wpAny (model X.prog X.w) X.A (compareOp op v u) (EP X pins σ Q) X.xe s₂) X.xe s₁) X.xe s
theorem qFf (b:Expr){op:CmpOp}(h:op≠ .In)(h2:op≠ .NotIn):behindInMarks op b=false:=by
 have e1:(op == CmpOp.In)=false:=by cases op <;> first | rfl | exact absurd rfl h
 have e2:(op == CmpOp.NotIn)=false:=by cases op <;> first | rfl | exact absurd rfl h2
 cases b <;> simp [behindInMarks,e1,e2]
def qLn (ta:TE):TE:=fun σ H Q=>ta σ H fun x H1=>Q (.bl (decide (x= .non))) H1
def qLd (ta:TE):TE:=fun σ H Q=>ta σ H fun x H1=>Q (.bl (!decide (x= .non))) H1
theorem RelV.none_iff {x:V}{v:Value}(r:RelV x v):(v == Value.none)=decide (x= .non):=by
 cases x with
 | non=>cases r;rfl
 | bl _=>cases r;rfl
 | int _=>obtain⟨t,rfl⟩:=r;rfl
 | str _=>obtain⟨t,rfl⟩:=r;rfl
 | byt _=>obtain⟨t,rfl⟩:=r;rfl
 | flt _=>obtain⟨t,rfl⟩:=r;rfl
 | ref _=>cases r;rfl
 | ty _=>cases r;rfl
theorem qGu {j pos'}(ha:PE X a ta):PC X .Is a (.Constant .none j pos') (qLn ta):=by
 intro pins s σ H Q I h
 refine thn (ha pins s σ H _ I h) fun v s1 ⟨x,H1,I1,r1,q1⟩=>?_
 exact Constant_none (is_none_gen ⟨.bl _,H1,I1,by rw [r1.none_iff];rfl,q1⟩)
theorem qBe {j pos'}(ha:PE X a ta):PC X .IsNot a (.Constant .none j pos') (qLd ta):=by
 intro pins s σ H Q I h
 refine thn (ha pins s σ H _ I h) fun v s1 ⟨x,H1,I1,r1,q1⟩=>?_
 exact Constant_none (isnot_none_gen ⟨.bl _,H1,I1,by rw [r1.none_iff];rfl,q1⟩)
inductive tBI (Q:Bool→Hp→Prop)(x:V)(H1:Hp):Prop
| mk c (_:x= .bl c) (_:Q c H1)
def tB (t:TE):TT:=fun σ H Q=>t σ H fun x H1=>tBI Q x H1
theorem wR {op:CmpOp}{t:TE}(h:PC X op a b t)(h1:behindInMarks op b=false:=by first | exact qFf _ (by decide) (by decide) | rfl):PT X (.Compare a [op] [b] pos) (tB t):=by
 intro pins s σ H Q I hw
 refine wpAny_isTrue_Compare1 (thn (h pins s σ H _ I hw) fun v s1 h1=>thn h1 fun u s2 h2=>thn h2 fun c s3 ⟨x,H1,I1,r1,q1⟩=>?_) h1
 obtain⟨d,rfl,q⟩:=q1
 cases r1
 exact wpAny_truthy_bool ⟨H1,I1,q⟩
theorem vU {e:Expr}{t:TE}(h:PE X e t)(he:∀ whole,isTrue e X.env whole=(do let v ← whole;standAt e.pos;holding [v] (truthy v)):=by intro _;rfl):PT X e (tB t):=by
 intro pins s σ H Q I hw
 refine isTrue_plain (thn (h pins s σ H _ I hw) fun v s1 ⟨x,H1,I1,r1,q1⟩=>?_) (he _)
 obtain⟨d,rfl,q⟩:=q1
 cases r1
 exact wpAny_truthy_bool ⟨H1,I1,q⟩
variable {tA tB' : TT} {jZ : List Expr}
def qLu (t u:TT):TT:=fun σ H Q=>t σ H fun c H1=>if c=true then u σ H1 Q else Q false H1
def tOr (t u:TT):TT:=fun σ H Q=>t σ H fun c H1=>if c=true then Q true H1 else u σ H1 Q
def qL2 (t:TT):TT:=fun σ H Q=>t σ H fun c H1=>Q (!c) H1
theorem zd (ha:PT X a tA):PW X (.BoolOp .And [a] pos) tA:=by
 intro wh pins s σ H Q I h
 refine isTrue_and (thn (ha pins s σ H Q I h) fun c s1 e=>?_)
 cases c with
 | true=>exact isTrue_and_nil e
 | false=>exact e
theorem qG8 (ha:PT X a tA):PW X (.BoolOp .Or [a] pos) tA:=by
 intro wh pins s σ H Q I h
 refine isTrue_or (thn (ha pins s σ H Q I h) fun c s1 e=>?_)
 cases c with
 | false=>exact isTrue_or_nil e
 | true=>exact e
theorem z6 (ha:PT X a tA)(hb:PW X (.BoolOp .And (b::jZ) pos) tB'):PW X (.BoolOp .And (a::b::jZ) pos) (qLu tA tB'):=by
 intro wh pins s σ H Q I h
 refine isTrue_and (thn (ha pins s σ H _ I h) fun c s1 ⟨H1,I1,q1⟩=>?_)
 cases c with
 | true=>exact hb wh pins s1 σ H1 Q I1 q1
 | false=>exact⟨H1,I1,q1⟩
theorem qJo (ha:PT X a tA)(hb:PW X (.BoolOp .Or (b::jZ) pos) tB'):PW X (.BoolOp .Or (a::b::jZ) pos) (tOr tA tB'):=by
 intro wh pins s σ H Q I h
 refine isTrue_or (thn (ha pins s σ H _ I h) fun c s1 ⟨H1,I1,q1⟩=>?_)
 cases c with
 | true=>exact⟨H1,I1,q1⟩
 | false=>exact hb wh pins s1 σ H1 Q I1 q1
theorem qCf (ha:PT X a tA):PT X (.UnaryOp .Not a pos) (qL2 tA):=by
 intro pins s σ H Q I h
 exact isTrue_not (ha pins s σ H (fun c H1=>Q (!c) H1) I h)
inductive qI3 (tb:TE)(σ:L2.St)(Q:VK)(x:V)(H1:Hp):Prop
| mk c (_:x= .bl c) (_:if c=true then tb σ H1 Q else Q (.bl false) H1)
def qKs (ta tb:TE):TE:=fun σ H Q=>ta σ H fun x H1=>qI3 tb σ Q x H1
inductive qK2 (tb:TE)(σ:L2.St)(Q:VK)(x:V)(H1:Hp):Prop
| mk c (_:x= .bl c) (_:if c=true then Q (.bl true) H1 else tb σ H1 Q)
def qLx (ta tb:TE):TE:=fun σ H Q=>ta σ H fun x H1=>qK2 tb σ Q x H1
inductive qJk (Q:VK)(x:V)(H1:Hp):Prop
| mk c (_:x= .bl c) (_:Q (.bl (!c)) H1)
def qKh (ta:TE):TE:=fun σ H Q=>ta σ H fun x H1=>qJk Q x H1
theorem qGy {op}{t:TE}(h:PE X a t):PE X (.BoolOp op [a] pos) t:=fun pins s σ H Q I hw=>BoolOp_one (h pins s σ H Q I hw)
theorem qJl (ha:PE X a ta)(hb:PE X (.BoolOp .And (b::jZ) pos) tb):PE X (.BoolOp .And (a::b::jZ) pos) (qKs ta tb):=by
 intro pins s σ H Q I h
 refine BoolOp_and (thn (ha pins s σ H _ I h) fun v s1 ⟨x,H1,I1,r1,q1⟩=>?_)
 obtain⟨c,rfl,q1⟩:=q1
 cases r1
 refine wpAny_truthy_bool ?_
 cases c with
 | true=>exact hb pins s1 σ H1 Q I1 q1
 | false=>exact⟨.bl false,H1,I1,rfl,q1⟩
theorem qIw (ha:PE X a ta)(hb:PE X (.BoolOp .Or (b::jZ) pos) tb):PE X (.BoolOp .Or (a::b::jZ) pos) (qLx ta tb):=by
 intro pins s σ H Q I h
 refine BoolOp_or (thn (ha pins s σ H _ I h) fun v s1 ⟨x,H1,I1,r1,q1⟩=>?_)
 obtain⟨c,rfl,q1⟩:=q1
 cases r1
 refine wpAny_truthy_bool ?_
 cases c with
 | false=>exact hb pins s1 σ H1 Q I1 q1
 | true=>exact⟨.bl true,H1,I1,rfl,q1⟩
theorem qIx (ha:PE X a ta):PE X (.UnaryOp .Not a pos) (qKh ta):=by
 intro pins s σ H Q I h
 refine UnaryOp_ (thn (ha pins s σ H _ I h) fun v s1 ⟨x,H1,I1,r1,q1⟩=>?_)
 obtain⟨c,rfl,q1⟩:=q1
 cases r1
 exact not_of (wpAny_truthy_bool ⟨.bl (!c),H1,I1,rfl,q1⟩)
def tIf (t:TT)(ta tb:TE):TE:=fun σ H Q=>t σ H fun c H1=>if c=true then ta σ H1 Q else tb σ H1 Q
theorem qB1 {c:Expr}(hc:PT X c tA)(ha:PE X a ta)(hb:PE X b tb):PE X (.IfExp c a b pos) (tIf tA ta tb):=by
 intro pins s σ H Q I h
 refine wpAny_IfExp (thn (hc pins s σ H _ I h) fun d s1 ⟨H1,I1,q1⟩=>?_)
 cases d with
 | true=>exact ha pins s1 σ H1 Q I1 q1
 | false=>exact hb pins s1 σ H1 Q I1 q1
end
end L2
namespace L2
open PySem PySem.Spec PyProof.Rows
def SqL (K:PySem.W.Frag)(H:Hp)(a:Addr)(xs:List V):Prop:=
 Rd H a (.lst xs)∨
  ∃ (o:Obj) (its:Array Value) (n:Nat),K.lookup a=some o∧o.cls= .type "list"∧o.dict=none∧o.data= .seq its n∧its.size≤sizeLine∧Vals xs its.toList
def SqT (K:PySem.W.Frag)(H:Hp)(a:Addr)(xs:List V):Prop:=
 Rd H a (.tup xs)∨
  ∃ (o:Obj) (its:Array Value) (n:Nat),K.lookup a=some o∧o.cls= .type "tuple"∧o.data= .seq its n∧its.size≤sizeLine∧Vals xs its.toList
def qL3:Value→Option V
 | .none=>some .non
 | .bool b=>some (.bl b)
 | .int i _=>some (.int i)
 | .str x _=>some (.str x)
 | .bytes b _=>some (.byt b)
 | .float b _=>some (.flt b)
 | .ref a=>some (.ref a)
 | .type n=>some (.ty n)
 | _=>none
theorem RelV.abs {x:V}{u:Value}(r:RelV x u):qL3 u=some x:=by
 cases x with
 | non=>cases r;rfl
 | bl _=>cases r;rfl
 | int _=>obtain⟨t,rfl⟩:=r;rfl
 | str _=>obtain⟨t,rfl⟩:=r;rfl
 | byt _=>obtain⟨t,rfl⟩:=r;rfl
 | flt _=>obtain⟨t,rfl⟩:=r;rfl
 | ref _=>cases r;rfl
 | ty _=>cases r;rfl
theorem RelV.inj {x y:V}{u:Value}(r:RelV x u)(q:RelV y u):x=y:=Option.some.inj (r.abs.symm.trans q.abs)
theorem Vals.inj:∀ {xs ys:List V} {us:List Value},Vals xs us→Vals ys us→xs=ys
 | _,_,_,.nil,.nil=>rfl
 | _,_,_,.cons r t,.cons r' t'=>by rw [r.inj r',Vals.inj t t']
section
variable {X : Cx} {pins : List (Addr × Obj)} {σ : St} {H : Hp} {s : Shared} {a : Addr} {xs ys : List V}
theorem SqL.of {K:PySem.W.Frag}(h:H a=some (.lst xs)):SqL K H a xs:=.inl (.inl h)
theorem SqT.of {K:PySem.W.Frag}(h:H a=some (.tup xs)):SqT K H a xs:=.inl (.inl h)
theorem Inv.list (I:Inv X pins σ H s)(h:SqL X.K H a xs):∃ its:List Value,Vals xs its∧PlainL s.heap a its.toArray∧xs.length≤sizeLine:=by
 rcases h with h | ⟨o,its,n,hk,hc,hd,hs,hz,r⟩
 · obtain⟨z,its,n,r,e⟩:=h.ok I.hok
   exact⟨its,r,⟨_,n,e,rfl,rfl,rfl⟩,z⟩
 · refine⟨its.toList,r,⟨o,n,I.kIn a o hk,hc,hd,by simpa using hs⟩,?_⟩
   have e:=r.length
   simp only [Array.length_toList] at e
   omega
theorem Inv.tuple (I:Inv X pins σ H s)(h:SqT X.K H a xs):∃ its:List Value,Vals xs its∧IsTup s.heap a its.toArray∧xs.length≤sizeLine:=by
 rcases h with h | ⟨o,its,n,hk,hc,hs,hz,r⟩
 · obtain⟨z,its,r,p⟩:=h.ok I.hok
   exact⟨its,r,p,z⟩
 · refine⟨its.toList,r,⟨o,I.kIn a o hk,hc,n,by simpa using hs⟩,?_⟩
   have e:=r.length
   simp only [Array.length_toList] at e
   omega
theorem Inv.list_inj (I:Inv X pins σ H s)(h:SqL X.K H a xs)(h':SqL X.K H a ys):xs=ys:=by
 obtain⟨its,r,⟨o,n,e,_,_,d⟩,_⟩:=I.list h
 obtain⟨its',r',⟨o',n',e',_,_,d'⟩,_⟩:=I.list h'
 rw [e] at e';cases e'
 rw [d] at d'
 injection d' with d1 _
 have:its=its':=by simpa using congrArg Array.toList d1
 subst this
 exact r.inj r'
theorem Inv.tuple_inj (I:Inv X pins σ H s)(h:SqT X.K H a xs)(h':SqT X.K H a ys):xs=ys:=by
 obtain⟨its,r,⟨o,e,_,n,d⟩,_⟩:=I.tuple h
 obtain⟨its',r',⟨o',e',_,n',d'⟩,_⟩:=I.tuple h'
 rw [e] at e';cases e'
 rw [d] at d'
 injection d' with d1 _
 have:its=its':=by simpa using congrArg Array.toList d1
 subst this
 exact r.inj r'
end
abbrev Cx.wish (X:Cx)(E:Value→Shared→Prop):Cx:={X with xe:=E}
abbrev Cx.nox (X:Cx):Cx:=X.wish fun _ _=>False
theorem Cx.Ok.wish {X:Cx}(ok:X.Ok)(E:Value→Shared→Prop):(X.wish E).Ok:=
 ⟨ok.mod,ok.kind,ok.glob,ok.blt,ok.above,ok.inj,ok.has,ok.cab,ok.hd,ok.frames,ok.stk,ok.exf,ok.bs,ok.bsz,ok.noex,ok.exfs,ok.funs,ok.frf⟩
theorem Cx.Ok.unwish {X:Cx}{E:Value→Shared→Prop}(ok:(X.wish E).Ok):X.Ok:=
 ⟨ok.mod,ok.kind,ok.glob,ok.blt,ok.above,ok.inj,ok.has,ok.cab,ok.hd,ok.frames,ok.stk,ok.exf,ok.bs,ok.bsz,ok.noex,ok.exfs,ok.funs,ok.frf⟩
section
variable {X : Cx} {pins : List (Addr × Obj)} {σ : St} {H : Hp} {s : Shared} {E : Value → Shared → Prop}
theorem Inv.wish (I:Inv X pins σ H s)(E:Value→Shared→Prop):Inv (X.wish E) pins σ H s:=⟨I.ok.wish E,I.os,I.bare,I.base,I.loc,I.cell,I.free,I.freeC,I.pin,I.hok,I.len⟩
theorem Inv.unwish (I:Inv (X.wish E) pins σ H s):Inv X pins σ H s:=⟨I.ok.unwish,I.os,I.bare,I.base,I.loc,I.cell,I.free,I.freeC,I.pin,I.hok,I.len⟩
theorem SP.unwish {D:qC6}{f:Flow}{s':Shared}(h:SP (X.wish E) pins D f s'):SP X pins D f s':=by
 cases f with
 | next=>obtain⟨σ',H',I,q⟩:=h;exact⟨σ',H',I.unwish,q⟩
 | brk=>obtain⟨σ',H',I,q⟩:=h;exact⟨σ',H',I.unwish,q⟩
 | cont=>obtain⟨σ',H',I,q⟩:=h;exact⟨σ',H',I.unwish,q⟩
 | ret u=>obtain⟨v,σ',H',I,r,q⟩:=h;exact⟨v,σ',H',I.unwish,r,q⟩
theorem PSs.nox {st:List Stmt}{t:TS}(h:PSs X.nox st t):PSs X st t:=fun pins s σ H D I hw=>
 wpAny_mono (h pins s σ H D (I.wish _) hw) (fun _ _ q=>q.unwish) fun _ _ z=>False.elim z
end
section
variable {X : Cx} {st : Stmt} {jZ : List Stmt} {t u : TS} {e : Expr} {te : TE} {pos : Pos}
def qKk:TS:=fun D σ H=>D.nx σ H
def qL6 (t u:TS):TS:=fun D σ H=>t {D with nx:=u D} σ H
theorem qj:PSs X [] qKk:=fun _ _ σ H _ I h=>wpAny_execs_nil ⟨σ,H,I,h⟩
theorem qB (h1:PS X st t)(h2:PSs X jZ u):PSs X (st::jZ) (qL6 t u):=by
 intro pins s σ H D I h
 refine wpAny_execs_cons (thn (h1 pins s σ H {D with nx:=u D} I h) fun f s1 q=>?_)
 cases f with
 | next=>
  obtain⟨σ',H',I',q⟩:=q
  exact h2 pins s1 σ' H' D I' q
 | ret v=>exact q
 | brk=>exact q
 | cont=>exact q
theorem qG (h1:PS X st t):PSs X [st] t:=by
 intro pins s σ H D I h
 refine wpAny_execs_cons (thn (h1 pins s σ H D I h) fun f s1 q=>?_)
 cases f with
 | next=>exact wpAny_execs_nil q
 | ret v=>exact q
 | brk=>exact q
 | cont=>exact q
def qI1:TS:=fun D σ H=>D.bk σ H
theorem qFg:PS X (.Break pos) qI1:=fun _ _ σ H _ I h=>wpAny_Break ⟨σ,H,I,h⟩
theorem Inv.quiet {pins:List (Addr × Obj)}{σ:St}{H:Hp}{s:Shared}(I:Inv X pins σ H s):interactive X.env=false:=by simp [interactive,I.ok.kind]
def qKj (te:TE):TS:=fun D σ H=>te σ H fun _ H1=>D.nx σ H1
theorem xA (he:PE X e te)(hs:swapsWith e none pos.line X.env=pure false:=by rfl):PS X (.Expr e pos) (qKj te):=by
 intro pins s σ H D I h
 exact wpAny_Expr_any (thn (he pins s σ H _ I h) fun v s1 ⟨x,H1,I1,r1,q1⟩=>⟨σ,H1,I1,q1⟩) I.quiet hs
def qLv (te:TE):TS:=fun D σ H=>te σ H D.rt
theorem qU (he:PE X e te):PS X (.Return (some e) pos) (qLv te):=by
 intro pins s σ H D I h
 exact wpAny_Return_some (thn (he pins s σ H _ I h) fun v s1 ⟨x,H1,I1,r1,q1⟩=>⟨x,σ,H1,I1,r1,q1⟩)
def qL5 (c:TT)(t u:TS):TS:=fun D σ H=>c σ H fun b H1=>if b=true then t D σ H1 else u D σ H1
theorem jc {c:Expr}{a b:List Stmt}{tc:TT}(hc:PT X c tc)(ha:PSs X a t)(hb:PSs X b u):PS X (.If c a b pos) (qL5 tc t u):=by
 intro pins s σ H D I h
 refine wpAny_If (thn (hc pins s σ H _ I h) fun d s1 ⟨H1,I1,q1⟩=>?_)
 cases d with
 | true=>exact ha pins s1 σ H1 D I1 q1
 | false=>exact hb pins s1 σ H1 D I1 q1
def qJw:TS:=fun _ _ _=>False
theorem kh {sts:List Stmt}:PSs X sts qJw:=fun _ _ _ _ _ _ h=>h.elim
end
abbrev TG:=V→St→Hp→(St→Hp→Prop)→Prop
abbrev TGs:=List V→St→Hp→(St→Hp→Prop)→Prop
def PG (X:Cx)(target:Expr)(t:TG):Prop:=
 ∀ (pins:List (Addr × Obj)) (s:Shared) (σ:St) (H:Hp) (v:V) (u:Value) (Q:St→Hp→Prop),Inv X pins σ H s→RelV v u→t v σ H Q→
  wpAny (model X.prog X.w) X.A (assign target X.env u) (fun _ s'=>∃ σ' H',Inv X pins σ' H' s'∧Q σ' H') X.xe s
def PGs (X:Cx)(ts:List Expr)(t:TGs):Prop:=
 ∀ (pins:List (Addr × Obj)) (s:Shared) (σ:St) (H:Hp) (vs:List V) (us:List Value) (Q:St→Hp→Prop),Inv X pins σ H s→Vals vs us→t vs σ H Q→
  wpAny (model X.prog X.w) X.A (assignInOrder ((assignEach ts X.env).map (·.2)) us) (fun _ s'=>∃ σ' H',Inv X pins σ' H' s'∧Q σ' H') X.xe s
section
variable {X : Cx} {pos : Pos}
def xV (i:Nat):TG:=fun v σ H Q=>Q (σ.set i (some v)) H
theorem jE {i:Nat}{x:Str}(hN:X.N.Nodup)(hi:X.N[i]? =some x)(hx:Loc X.env.scope x)(hf:X.fn x=true∨X.env.scope.names.lookup x=some .local:=by first | exact .inl rfl | exact .inr rfl | assumption):PG X (.Name x pos) (xV i):=by
 intro pins s σ H v u Q I r h
 exact wpAny_assign_Name (kC I hN hi hx r (fun s' I'=>⟨_,H,I',h⟩) hf)
def qJ7:TGs:=fun vs σ H Q=>vs=[]∧Q σ H
inductive vE (t:TG)(u:TGs)(vs:List V)(σ:L2.St)(H:Hp)(Q:L2.St→Hp→Prop):Prop
| mk v r (_:vs=v::r) (_:t v σ H fun σ' H'=>u r σ' H' Q)
theorem vj:PGs X [] qJ7:=by
 intro pins s σ H vs us Q I r h
 obtain⟨e,h⟩:=h
 subst e
 cases r
 exact assignInOrder_nil ⟨σ,H,I,h⟩
theorem jS {e:Expr}{es:List Expr}{t:TG}{u:TGs}(h1:PG X e t)(h2:PGs X es u)
 (hs:(assignEach (e::es) X.env).map (·.2)=assign e X.env::(assignEach es X.env).map (·.2):=by rfl):PGs X (e::es) (vE t u):=by
 intro pins s σ H vs us Q I r h
 obtain⟨v,vr,e1,h⟩:=h
 subst e1
 cases r with
 | cons r rr=>
  rw [hs]
  refine assignInOrder_cons (thn (h1 pins s σ H _ _ _ I r h) fun _ s1 ⟨σ1,H1,I1,q1⟩=>?_)
  exact h2 pins s1 σ1 H1 _ _ Q I1 rr q1
inductive qKd (K:PySem.W.Frag)(n:Nat)(t:TGs)(v:V)(σ:L2.St)(H:Hp)(Q:L2.St→Hp→Prop):Prop
| mk a xs (_:v= .ref a) (_:SqT K H a xs) (_:xs.length=n) (_:t xs σ H Q)
theorem qBt {es:List Expr}{k:Nat}{t:TGs}{n:Nat}(hc:X.calm=true)(h:PGs X es t)
 (hn:(assignEach es X.env).length=n:=by rfl) (hst:(assignEach es X.env).findIdx? (·.1)=none:=by rfl):PG X (.Tuple es k pos) (qKd X.K n t):=by
 intro pins s σ H v u Q I r hw
 obtain⟨a,xs,e1,hq,hl,hw⟩:=hw
 subst e1
 cases r
 obtain⟨its,rv,ht,hz⟩:=I.tuple hq
 refine assign_Tuple_tuple (I.ok.hd hc) ht (by simp [hn,← hl,rv.length]) hst fun h' hx=>?_
 have I1:Inv X pins σ H {s with heap:=h'}:=I.kept (t':=s.toks) fun b o e=>hx b o (Nat.ne_of_lt (Heap.lt_size e)) e
 exact h pins _ σ H xs _ Q I1 (by simpa using rv) hw
def qI9 (te:TE)(g:TG):TS:=fun D σ H=>te σ H fun x H1=>g x σ H1 D.nx
theorem qDq {i:Nat}{x:Str}{e:Expr}{te:TE}{pos':Pos}(hN:X.N.Nodup)(hi:X.N[i]? =some x)(hx:Loc X.env.scope x)(he:PE X e te)(hs:swapsWith e (some (.Name x pos')) pos.line X.env=pure false:=by rfl)(hf:X.fn x=true∨X.env.scope.names.lookup x=some .local:=by first | exact .inl rfl | exact .inr rfl | assumption):
 PS X (.Assign [.Name x pos'] e pos) (qI9 te (xV i)):=by
 intro pins s σ H D I h
 refine wpAny_Assign_Name (thn (he pins s σ H _ I h) fun v s1 ⟨y,H1,I1,r1,q1⟩=>?_) hs
 exact kC I1 hN hi hx r1 (fun s2 I2=>⟨_,H1,I2,q1⟩) hf
end
section
variable {X : Cx} {pos : Pos}
def qGx (c:TT)(tb:TS):TS:=fun D σ H=>∃ W:Nat→St→Hp→Prop,(∃ m,W m σ H)∧∀ m σ H,W m σ H→
 c σ H fun b H1=>if b=true then ∃ N:St→Hp→Prop,(∀ σ' H',N σ' H'→∃ m',m' < m∧W m' σ' H')∧tb {D with nx:=N,ct:=N,bk:=D.nx} σ H1 else D.nx σ H1
theorem xf {c:Expr}{body:List Stmt}{tc:TT}{tb:TS}(hp:PassesOwn (model X.prog X.w) X.A X.env X.xe)(hc:PT X c tc)(hb:PSs X body tb):PS X (.While c body [] pos) (qGx tc tb):=by
 intro pins s σ H D I h
 obtain⟨W,⟨m0,w0⟩,turn⟩:=h
 refine wpAny_While (codeAny_whileLoop (fun n s'=>∃ σ' H',Inv X pins σ' H' s'∧W n σ' H') ?_ m0 ⟨σ,H,I,w0⟩)
 rintro n s1 ⟨σ1,H1,I1,w1⟩
 refine wpAny_passesOwn hp (thn (hc pins s1 σ1 H1 _ I1 (turn n σ1 H1 w1)) fun b s2 ⟨H2,I2,q2⟩=>?_)
 cases b with
 | true=>
  obtain⟨N,hN,q2⟩:=q2
  rw [if_pos rfl]
  refine wpAny_passesOwn hp (thn (hb pins s2 σ1 H2 _ I2 q2) fun f s3 q3=>?_)
  cases f with
  | next=>
   obtain⟨σ3,H3,I3,n3⟩:=q3
   obtain⟨m',hm,w3⟩:=hN σ3 H3 n3
   exact⟨m',hm,σ3,H3,I3,w3⟩
  | cont=>
   obtain⟨σ3,H3,I3,n3⟩:=q3
   obtain⟨m',hm,w3⟩:=hN σ3 H3 n3
   exact⟨m',hm,σ3,H3,I3,w3⟩
  | brk=>exact q3
  | ret v=>exact q3
 | false=>
  rw [if_neg Bool.false_ne_true]
  exact wpAny_execs_nil ⟨σ1,H2,I2,q2⟩
end
structure It where
 go:Nat→Hp→Prop
 yld:Nat→Hp→V→Hp→Prop
 stop:Nat→Hp→Prop
def qFs (X:Cx)(pins:List (Addr × Obj))(H:Hp)(b:Addr):Prop:=
 H b=none∧b≠X.env.locals∧b ∉ X.fs∧(b∈X.ex∨X.s₀.heap.objs.size≤b)∧(∀ x c,X.env.cells.lookup x=some c→c≠b)∧∀ p∈X.pn++pins,p.1≠b
theorem Inv.fpOk {X:Cx}{pins:List (Addr × Obj)}{σ:St}{H H':Hp}{s:Shared}{b:Addr}(I:Inv X pins σ H s)(hb:s.heap.objs.size≤b)(hn:H' b=none):qFs X pins H' b:=by
 refine⟨hn,Nat.ne_of_gt (Nat.lt_of_lt_of_le I.lt hb),I.nofs hb,.inr (Nat.le_trans I.sz hb),fun x c e z=>?_,fun p hp z=>?_⟩
 · obtain⟨v,q⟩:=I.cell x c e
   exact absurd (Nat.lt_of_lt_of_le q.lt (by rw [z];exact hb)) (Nat.lt_irrefl _)
 · exact absurd (Nat.lt_of_lt_of_le (Heap.lt_size (I.pin p hp).1) (by rw [z];exact hb)) (Nat.lt_irrefl _)
structure qIo (P:Program)(w:World)(K:PySem.W.Frag)(tg:Expr)(J:It)(fp:List Addr)(it:Addr)(tn:Nat→Heap→Prop):Prop where
 mem:it∈fp
 obj:∀ i h,tn i h→∀ b∈fp,∃ o,h.get? b=some o∧∀ v,o.data≠ .cell v
 keep:∀ i h h',tn i h→(∀ b∈fp,∀ o,h.get? b=some o→h'.get? b=some o)→tn i h'
 item:∀ (X:Cx),X.prog=P→X.w=w→X.K=K→X.calm=true→∀ (i:Nat) (pins:List (Addr × Obj)) (s:Shared) (σ:St) (H:Hp) (E:Value→Shared→Prop),Inv X pins σ H s→(∀ b∈fp,qFs X pins H b)→tn i s.heap→J.go i H→
  wpAny (model P w) X.A (pyNext (.ref it)) (fun r s1=>∃ u,r=some u∧
   wpAny (model P w) X.A (letOwnedTupleGo tg (.ref it) u) (fun _ s2=>∃ x H',Inv X pins σ H' s2∧RelV x u∧J.yld i H x H'∧tn (i+1) s2.heap∧∀ b∈fp,H' b=none) E s1) E s
 done:∀ (X:Cx),X.prog=P→X.w=w→X.K=K→X.calm=true→∀ (i:Nat) (pins:List (Addr × Obj)) (s:Shared) (σ:St) (H:Hp) (E:Value→Shared→Prop),Inv X pins σ H s→(∀ b∈fp,qFs X pins H b)→tn i s.heap→J.stop i H→
  wpAny (model P w) X.A (pyNext (.ref it)) (fun r s1=>r=none∧Inv X pins σ H s1) E s
 self:∀ (A:Around) (i:Nat) (s:Shared) (Q:Value→Shared→Prop) (E:Value→Shared→Prop),tn i s.heap→Q (.ref it) s→wpAny (model P w) A (pyIter (.ref it)) Q E s
abbrev TI:=St→Hp→(It→Hp→Prop)→Prop
def PIE (X:Cx)(pins:List (Addr × Obj))(σ:St)(tg:Expr)(R:It→Hp→Prop)(itv:Value)(s2:Shared):Prop:=
 ∃ (it:Addr) (fp:List Addr) (tn:Nat→Heap→Prop) (J:It) (H':Hp),itv= .ref it∧Inv X pins σ H' s2∧qIo X.prog X.w X.K tg J fp it tn∧tn 0 s2.heap∧(∀ b∈fp,qFs X pins H' b)∧R J H'
def PI (X:Cx)(tg iter:Expr)(wi:TI):Prop:=
 ∀ (pins:List (Addr × Obj)) (s:Shared) (σ:St) (H:Hp) (R:It→Hp→Prop),Inv X pins σ H s→wi σ H R→
  wpAny (model X.prog X.w) X.A (eval iter X.env) (fun v s1=>wpAny (model X.prog X.w) X.A (pyIter v) (PIE X pins σ tg R) X.xe s1) X.xe s
theorem qIk {M:Model}{A:Around}{E:Value→Shared→Prop}{s:Shared}{tg:Expr}{it:Addr}{u:Value}{o:Obj}{n:String}{vs:Array Value}{Q:Unit→Shared→Prop}(ho:s.heap.get? it=some o)(hc:o.cls= .type n)(hd:o.data= .fields vs)
 (hn:["enumerate","zip","dict_itemiterator","dict_reverseitemiterator","odict_iterator","itertools.zip_longest","itertools.pairwise"].contains n=false) (hQ:Q () s):wpAny M A (letOwnedTupleGo tg (.ref it) u) Q E s:=by
 unfold letOwnedTupleGo
 cases tg <;> first
  | exact wpAny_pure hQ
  | (cases u <;> first
      | exact wpAny_pure hQ
      | (refine wpAny_bind (wpAny_load ho ?_)
         rw [hc,hd]
         show wpAny M A (if (["enumerate","zip","dict_itemiterator","dict_reverseitemiterator","odict_iterator","itertools.zip_longest","itertools.pairwise"].contains n && vs[0]? == some (rawInt _))=true then _ else _) Q E s
         rw [if_neg (by intro h;rw [hn,Bool.false_and] at h;cases h)]
         exact wpAny_pure hQ))
def Itl (K:PySem.W.Frag)(a:Addr):It:=
 ⟨fun i H=>∃ xs x,SqL K H a xs∧xs[i]? =some x,fun i H x H'=>H'=H∧∀ xs,SqL K H a xs→xs[i]? =some x,fun i H=>∃ xs,SqL K H a xs∧xs.length≤i⟩
def Itt (K:PySem.W.Frag)(a:Addr):It:=
 ⟨fun i H=>∃ xs x,SqT K H a xs∧xs[i]? =some x,fun i H x H'=>H'=H∧∀ xs,SqT K H a xs→xs[i]? =some x,fun i H=>∃ xs,SqT K H a xs∧xs.length≤i⟩
def Itr (lo:Int)(n:Nat):It:=⟨fun i _=>i < n,fun i H x H'=>H'=H∧x= .int (lo+i),fun i _=>n≤i⟩
theorem qDt {P:Program}{w:World}{K:PySem.W.Frag}{tg:Expr}(a it:Addr):qIo P w K tg (Itl K a) [it] it (fun i h=>h.IsListIter it a i) where
 mem:=by simp
 obj:=fun i h st b hb=>by
  have e:b=it:=by simpa using hb
  subst e
  obtain⟨o,e,c,d⟩:=st
  exact⟨o,e,fun v z=>by rw [d] at z;cases z⟩
 keep:=fun i h h' st k=>st.at fun o e=>k it (by simp) o e
 item:=by
  intro X hP hw hK hc i pins s σ H E I hf st hg
  subst hP hw hK
  obtain⟨xs,x,hq,hx⟩:=hg
  obtain⟨its,rv,p,hz⟩:=I.list hq
  obtain⟨u,hu,ru⟩:=rv.get hx
  obtain⟨f0,f1,f2,f3,f4,f5⟩:=hf it (by simp)
  refine wpAny_pyNext_list_item st p.isList (x:=u) (by simpa using hu) fun h' st' sb=>?_
  have I1:Inv X pins σ H {s with heap:=h'}:=I.turned (t':=s.toks) (fun b o hb e=>(sb.2 b hb).trans e) f0 f1 f3 f4 f5
  obtain⟨o,e,c,d⟩:=id st'
  exact⟨u,rfl,qIk (s:={s with heap:=h'}) e c d (by decide) ⟨x,H,I1,ru,⟨rfl,fun ys hy=>by rw [I.list_inj hy hq];exact hx⟩,st',fun b hb=>(hf b hb).1⟩⟩
 done:=by
  intro X hP hw hK hc i pins s σ H E I hf st hg
  subst hP hw hK
  obtain⟨xs,hq,hx⟩:=hg
  obtain⟨its,rv,p,hz⟩:=I.list hq
  obtain⟨f0,f1,f2,f3,f4,f5⟩:=hf it (by simp)
  have hl:=rv.length
  exact wpAny_pyNext_list_end (I.ok.hd hc) st p.isList (by simp;omega) fun h' eb=>⟨rfl,I.turned (t':=s.toks) (fun b o hb e=>eb b o hb e) f0 f1 f3 f4 f5⟩
 self:=fun _ _ _ _ _ st h=>wpAny_pyIter_listiter st h
theorem qCx {P:Program}{w:World}{K:PySem.W.Frag}{tg:Expr}(a it:Addr):qIo P w K tg (Itt K a) [it] it (fun i h=>h.IsTupleIter it a i) where
 mem:=by simp
 obj:=fun i h st b hb=>by
  have e:b=it:=by simpa using hb
  subst e
  obtain⟨o,e,c,d⟩:=st
  exact⟨o,e,fun v z=>by rw [d] at z;cases z⟩
 keep:=fun i h h' st k=>st.at fun o e=>k it (by simp) o e
 item:=by
  intro X hP hw hK hc i pins s σ H E I hf st hg
  subst hP hw hK
  obtain⟨xs,x,hq,hx⟩:=hg
  obtain⟨its,rv,p,hz⟩:=I.tuple hq
  obtain⟨u,hu,ru⟩:=rv.get hx
  obtain⟨f0,f1,f2,f3,f4,f5⟩:=hf it (by simp)
  refine wpAny_pyNext_tuple_item st (show s.heap.IsTuple a its.toArray from p) (x:=u) (by simpa using hu) fun h' st' sb=>?_
  have I1:Inv X pins σ H {s with heap:=h'}:=I.turned (t':=s.toks) (fun b o hb e=>(sb.2 b hb).trans e) f0 f1 f3 f4 f5
  obtain⟨o,e,c,d⟩:=id st'
  exact⟨u,rfl,qIk (s:={s with heap:=h'}) e c d (by decide) ⟨x,H,I1,ru,⟨rfl,fun ys hy=>by rw [I.tuple_inj hy hq];exact hx⟩,st',fun b hb=>(hf b hb).1⟩⟩
 done:=by
  intro X hP hw hK hc i pins s σ H E I hf st hg
  subst hP hw hK
  obtain⟨xs,hq,hx⟩:=hg
  obtain⟨its,rv,p,hz⟩:=I.tuple hq
  obtain⟨f0,f1,f2,f3,f4,f5⟩:=hf it (by simp)
  have hl:=rv.length
  exact wpAny_pyNext_tuple_end (I.ok.hd hc) st (show s.heap.IsTuple a its.toArray from p) (by simp;omega) fun h' eb=>⟨rfl,I.turned (t':=s.toks) (fun b o hb e=>eb b o hb e) f0 f1 f3 f4 f5⟩
 self:=fun _ _ _ _ _ st h=>wpAny_pyIter_tupleiter st h
theorem qC3 {P:Program}{w:World}{K:PySem.W.Frag}{tg:Expr}(it:Addr)(lo:Int)(n:Nat):qIo P w K tg (Itr lo n) [it] it (fun i h=>IsRangeIter h it (lo+(i:Nat)*1) ((n:Int) - (i:Nat)) 1) where
 mem:=by simp
 obj:=fun i h st b hb=>by
  have e:b=it:=by simpa using hb
  subst e
  exact⟨_,st,fun v z=>by
   have z':Data.fields _=Data.cell v:=z
   cases z'⟩
 keep:=fun i h h' st k=>k it (by simp) _ st
 item:=by
  intro X hP hw hK hc i pins s σ H E I hf st hg
  subst hP hw hK
  obtain⟨f0,f1,f2,f3,f4,f5⟩:=hf it (by simp)
  have W:=Walks.range (prog:=X.prog) (w:=X.w) (I.ok.hd hc) it lo 1 n
  refine W.item i s _ _ hg st fun v h' tk hv st' kk=>?_
  obtain⟨t,rfl⟩:=hv
  have I1:Inv X pins σ H {s with heap:=h',toks:=tk}:=I.turned (fun b o hb e=>kk b o (by simpa using hb) e) f0 f1 f3 f4 f5
  refine⟨_,rfl,qIk (s:={s with heap:=h',toks:=tk}) (n:="range_iterator") st' rfl rfl (by decide) ⟨.int (lo+i),H,I1,⟨t,?_⟩,⟨rfl,rfl⟩,st',fun b hb=>(hf b hb).1⟩⟩
  rw [Int.mul_one]
 done:=by
  intro X hP hw hK hc i pins s σ H E I hf st hg
  subst hP hw hK
  obtain⟨f0,f1,f2,f3,f4,f5⟩:=hf it (by simp)
  exact wpAny_pyNext_range_end (I.ok.hd hc) st (by have:n≤i:=hg;omega) fun h' eb=>⟨rfl,I.turned (t':=s.toks) (fun b o hb e=>eb b o hb e) f0 f1 f3 f4 f5⟩
 self:=fun _ _ _ _ _ st h=>wpAny_pyIter_rangeiter st h
end L2
namespace L2
open PySem PySem.Spec PyProof.Rows
section
variable {X : Cx} {tg : Expr}
inductive qIu (K:PySem.W.Frag)(R:It→Hp→Prop)(x:V)(H1:Hp):Prop
| mk a (_:x= .ref a) (_:(∃ xs,SqL K H1 a xs)) (_:R (Itl K a) H1)
def qK4 (K:PySem.W.Frag)(tl:TE):TI:=fun σ H R=>tl σ H fun x H1=>qIu K R x H1
inductive qKn (K:PySem.W.Frag)(R:It→Hp→Prop)(x:V)(H1:Hp):Prop
| mk a (_:x= .ref a) (_:(∃ xs,SqT K H1 a xs)) (_:R (Itt K a) H1)
def qLy (K:PySem.W.Frag)(tl:TE):TI:=fun σ H R=>tl σ H fun x H1=>qKn K R x H1
theorem xD {l:Expr}{tl:TE}(hl:PE X l tl):PI X tg l (qK4 X.K tl):=by
 intro pins s σ H R I h
 refine thn (hl pins s σ H _ I h) fun v s1 ⟨x,H1,I1,r1,q1⟩=>?_
 obtain⟨a,e,⟨xs,hq⟩,q⟩:=q1
 subst e
 cases r1
 obtain⟨its,rv,p,hz⟩:=I1.list hq
 refine wpAny_pyIter_list p.isList ?_
 refine⟨s1.heap.objs.size,[s1.heap.objs.size],_,_,H1,rfl,I1.kept (t':=s1.toks) fun b o e=>Heap.get?_push_of_some _ e,qDt a _,⟨_,Heap.get?_push_size _ rfl,rfl,rfl⟩,fun b hb=>?_,q⟩
 have e:b=s1.heap.objs.size:=by simpa using hb
 subst e
 exact I1.fpOk (Nat.le_refl _) (I1.hok.fresh (Nat.le_refl _))
theorem qG1 {l:Expr}{tl:TE}(hl:PE X l tl):PI X tg l (qLy X.K tl):=by
 intro pins s σ H R I h
 refine thn (hl pins s σ H _ I h) fun v s1 ⟨x,H1,I1,r1,q1⟩=>?_
 obtain⟨a,e,⟨xs,hq⟩,q⟩:=q1
 subst e
 cases r1
 obtain⟨its,rv,p,hz⟩:=I1.tuple hq
 refine wpAny_pyIter_tuple (show s1.heap.IsTuple a its.toArray from p) ?_
 refine⟨s1.heap.objs.size,[s1.heap.objs.size],_,_,H1,rfl,I1.kept (t':=s1.toks) fun b o e=>Heap.get?_push_of_some _ e,qCx a _,⟨_,Heap.get?_push_size _ rfl,rfl,rfl⟩,fun b hb=>?_,q⟩
 have e:b=s1.heap.objs.size:=by simpa using hb
 subst e
 exact I1.fpOk (Nat.le_refl _) (I1.hok.fresh (Nat.le_refl _))
theorem qF6 {pins:List (Addr × Obj)}{σ:St}{H:Hp}{s:Shared}{R:It→Hp→Prop}{E:Value→Shared→Prop}{lo hi:Int}{t u v:Tok}{tk:Nat}(I:Inv X pins σ H s)(h1:-(2 ^ 62)≤lo)(h2:lo < 2 ^ 62)(h3:-(2 ^ 62)≤hi)(h4:hi < 2 ^ 62)
 (q:R (Itr lo (hi - lo).toNat) H):wpAny (model X.prog X.w) X.A (pyIter (.ref s.heap.objs.size)) (PIE X pins σ tg R) E {s with heap:=s.heap.push {cls:=.type "range",data:=.fields #[.int lo t,.int hi u,.int 1 v]},toks:=tk}:=by
 refine wpAny_pyIter_range (IsRange.new ..) (small_one h1 h2 h3 h4) ?_
 have I1:Inv X pins σ H {s with heap:=s.heap.push {cls:=.type "range",data:=.fields #[.int lo t,.int hi u,.int 1 v]},toks:=tk}:=I.kept fun b o e=>Heap.get?_push_of_some _ e
 refine⟨(s.heap.push {cls:=.type "range",data:=.fields #[.int lo t,.int hi u,.int 1 v]}).objs.size,[(s.heap.push {cls:=.type "range",data:=.fields #[.int lo t,.int hi u,.int 1 v]}).objs.size],_,_,H,rfl,
  I1.kept (t':=tk) fun b o e=>Heap.get?_push_of_some _ e,qC3 _ lo (hi - lo).toNat,?_,fun b hb=>?_,q⟩
 · have e1:lo+((0:Nat):Int)*1=lo:=by simp
   have e2:(((hi - lo).toNat:Nat):Int) - ((0:Nat):Int)=Builtin.Range.rangeSize lo hi 1:=by rw [rangeSize_one];split <;> omega
   show IsRangeIter _ _ (lo+((0:Nat):Int)*1) ((((hi - lo).toNat:Nat):Int) - ((0:Nat):Int)) 1
   rw [e1,e2]
   exact Heap.get?_push_size _ rfl
 · have e:b=(s.heap.push {cls:=.type "range",data:=.fields #[.int lo t,.int hi u,.int 1 v]}).objs.size:=by simpa using hb
   subst e
   exact I1.fpOk (Nat.le_refl _) (I1.hok.fresh (Nat.le_refl _))
def qKx (ta:TA):TI:=fun σ H R=>ta σ H fun vs H1=>∃ j:Int,vs=[.int j]∧-(2 ^ 62)≤j∧j < 2 ^ 62∧R (Itr 0 j.toNat) H1
theorem kS {a:Expr}{ta:TA}{p pos:Pos}(hg:Gl X "range")(hm:X.mg "range"=none)(ha:PA X [a] ta)(hs:starEach [a] X.env=[(false,eval a X.env)]:=by rfl):PI X tg (.Call (.Name "range" p) [a] [] pos) (qKx ta):=by
 intro pins s σ H R I h
 refine Call_ (kr I hg hm boot_range (PyProof.Rows.callWith_type1 (thn (ha pos pins s σ H _ I h) fun us s1 ⟨vs,H1,I1,r1,q1⟩=>?_) hs rfl))
 obtain⟨j,e,q1,q2,q⟩:=q1
 subst e
 cases r1 with
 | cons r rr=>
  cases rr
  obtain⟨t,rfl⟩:=r
  exact call_range_1 (qF6 I1 (by omega) (by omega) q1 q2 (by simpa using q))
def qLz (wi:TI)(g:TG)(tb:TS):TS:=fun D σ H=>wi σ H fun J H1=>∃ W:Nat→Nat→St→Hp→Prop,(∃ m,W 0 m σ H1)∧∀ i m σ H,W i m σ H→
 (J.stop i H∧D.nx σ H)∨(J.go i H∧∃ N:St→Hp→Prop,(∀ σ' H',N σ' H'→∃ m',m' < m∧W (i+1) m' σ' H')∧∀ x H',J.yld i H x H'→g x σ H' fun σ2 H2=>tb {D with nx:=N,ct:=N,bk:=D.nx} σ2 H2)
def wg (fp:List Addr)(h:Heap):List (Addr × Obj):=fp.filterMap fun b=>(h.get? b).map fun o=>(b,o)
theorem zp {fp:List Addr}{h:Heap}{b:Addr}{o:Obj}(hb:b∈fp)(e:h.get? b=some o):(b,o)∈wg fp h:=List.mem_filterMap.mpr ⟨b,hb,by rw [e];rfl⟩
theorem qE4 {fp:List Addr}{h:Heap}{p:Addr × Obj}(hp:p∈wg fp h):p.1∈fp∧h.get? p.1=some p.2:=by
 obtain⟨b,hb,e⟩:=List.mem_filterMap.mp hp
 cases q:h.get? b with
 | none=>rw [q] at e;cases e
 | some o=>
  rw [q] at e
  have e':(b,o)=p:=Option.some.inj e
  subst e'
  exact⟨hb,q⟩
theorem Inv.pinned {pins:List (Addr × Obj)}{σ:St}{H:Hp}{s:Shared}{fp:List Addr}(I:Inv X pins σ H s)(hf:∀ b∈fp,qFs X pins H b)(ho:∀ b∈fp,∃ o,s.heap.get? b=some o∧∀ v,o.data≠ .cell v):Inv X (pins++wg fp s.heap) σ H s:=
 I.pins_of fun p hp=>(List.mem_append.mp hp).elim (fun z=>I.pin p (List.mem_append_right _ z)) fun z=>by
  obtain⟨hb,e⟩:=qE4 z
  obtain⟨f0,f1,f2,_⟩:=hf p.1 hb
  obtain⟨o,e',d⟩:=ho p.1 hb
  rw [e] at e';cases e'
  exact⟨e,f0,f1,f2,d⟩
theorem Inv.unpinned {pins pl:List (Addr × Obj)}{σ:St}{H:Hp}{s:Shared}(I:Inv X (pins++pl) σ H s):Inv X pins σ H s:=I.pins_of fun p hp=>I.pin p (List.mem_append_right _ (List.mem_append_left _ hp))
theorem vA {iter:Expr}{body:List Stmt}{wi:TI}{g:TG}{tb:TS}{pos:Pos}(hp:PassesOwn (model X.prog X.w) X.A X.env X.xe)(hc:X.calm=true)(hi:PI X tg iter wi)(hg:PG X tg g)(hb:PSs X body tb)
 (hs:∀ x,foldedSetIterable iter X.env x=pure x:=by intro _;rfl):PS X (.For tg iter body [] pos) (qLz wi g tb):=by
 intro pins s σ H D I h
 refine wpAny_For (thn (hi pins s σ H _ I h) fun v s1 h1=>thn h1 fun itv s2 h2=>?_) hs
 obtain⟨it,fp,tn,J,H2,e,I2,T,st2,f2,W,⟨m0,w0⟩,turn⟩:=h2
 subst e
 have stat:∀ {H':Hp},(∀ b∈fp,H' b=none)→∀ b∈fp,qFs X pins H' b:=fun hn b hb=>⟨hn b hb,(f2 b hb).2⟩
 refine codeAny_forLoop_any (fun n s'=>∃ i σ' H',Inv X pins σ' H' s'∧tn i s'.heap∧(∀ b∈fp,H' b=none)∧W i n σ' H') ?_ m0 ⟨0,σ,H2,I2,st2,fun b hb=>(f2 b hb).1,w0⟩
 rintro n s3 ⟨i,σ3,H3,I3,st3,fr3,w3⟩
 rcases turn i n σ3 H3 w3 with ⟨stop,qn⟩ | ⟨go,N,hN,step⟩
 · refine wpAny_passesOwn hp (thn (T.done X rfl rfl rfl hc i pins s3 σ3 H3 X.xe I3 (stat fr3) st3 stop) fun r s4 ⟨hr,I4⟩=>?_)
   subst hr
   exact wpAny_execs_nil ⟨σ3,H3,I4,qn⟩
 · refine wpAny_passesOwn hp (thn (T.item X rfl rfl rfl hc i pins s3 σ3 H3 X.xe I3 (stat fr3) st3 go) fun r s4 ⟨u,hr,h4⟩=>?_)
   subst hr
   refine wpAny_passesOwn hp (thn h4 fun _ s5 ⟨x,H5,I5,r5,y5,st5,fr5⟩=>?_)
   have I5':=I5.pinned (stat fr5) (T.obj _ _ st5)
   refine wpAny_passesOwn hp (thn (hg _ s5 σ3 H5 x u _ I5' r5 (step x H5 y5)) fun _ s6 ⟨σ6,H6,I6,q6⟩=>?_)
   refine wpAny_passesOwn hp (thn (hb _ s6 σ6 H6 _ I6 q6) fun f s7 q7=>?_)
   have again:∀ {σ7:St} {H7:Hp},Inv X (pins++wg fp s5.heap) σ7 H7 s7→N σ7 H7→∃ m,m < n∧∃ i σ' H',Inv X pins σ' H' s7∧tn i s7.heap∧(∀ b∈fp,H' b=none)∧W i m σ' H':=fun {σ7 H7} I7 n7=>by
    obtain⟨m',hm,w7⟩:=hN σ7 H7 n7
    refine⟨m',hm,i+1,σ7,H7,I7.unpinned,T.keep _ _ _ st5 fun b hb o e=>(I7.pin (b,o) (List.mem_append_right _ (List.mem_append_right _ (zp hb e)))).1,fun b hb=>?_,w7⟩
    obtain⟨o,e,d⟩:=T.obj _ _ st5 b hb
    exact(I7.pin (b,o) (List.mem_append_right _ (List.mem_append_right _ (zp hb e)))).2.1
   cases f with
   | next=>obtain⟨σ7,H7,I7,n7⟩:=q7;exact again I7 n7
   | cont=>obtain⟨σ7,H7,I7,n7⟩:=q7;exact again I7 n7
   | brk=>obtain⟨σ7,H7,I7,q7⟩:=q7;exact⟨σ7,H7,I7.unpinned,q7⟩
   | ret v=>obtain⟨x7,σ7,H7,I7,r7,q7⟩:=q7;exact⟨x7,σ7,H7,I7.unpinned,r7,q7⟩
end
theorem v8 {K:PySem.W.Frag}{a:Addr}{xs:List V}{g:TG}{tb:TS}{D:qC6}{σ:St}{H:Hp}(Pv:Nat→St→Hp→Prop)(h0:Pv 0 σ H)(hl:∀ i σ H,i≤xs.length→Pv i σ H→SqL K H a xs)
 (hs:∀ i x σ H,xs[i]? =some x→Pv i σ H→g x σ H fun σ2 H2=>tb {D with nx:=Pv (i+1),ct:=Pv (i+1),bk:=D.nx} σ2 H2) (hd:∀ σ H,Pv xs.length σ H→D.nx σ H):
 ∃ W:Nat→Nat→St→Hp→Prop,(∃ m,W 0 m σ H)∧∀ i m σ H,W i m σ H→
  ((Itl K a).stop i H∧D.nx σ H)∨((Itl K a).go i H∧∃ N:St→Hp→Prop,(∀ σ' H',N σ' H'→∃ m',m' < m∧W (i+1) m' σ' H')∧∀ x H',(Itl K a).yld i H x H'→g x σ H' fun σ2 H2=>tb {D with nx:=N,ct:=N,bk:=D.nx} σ2 H2):=by
 refine⟨fun i m σ H=>m=xs.length - i∧i≤xs.length∧Pv i σ H,⟨xs.length,by simp,Nat.zero_le _,h0⟩,?_⟩
 rintro i m σ H ⟨rfl,hi,p⟩
 have q:=hl i σ H hi p
 by_cases hlt:i < xs.length
 · refine .inr ⟨⟨xs,xs[i],q,by simp [hlt]⟩,Pv (i+1),fun σ' H' p'=>⟨xs.length - (i+1),by omega,rfl,hlt,p'⟩,fun x H' y=>?_⟩
   obtain⟨e,y⟩:=y
   subst e
   exact hs i x σ _ (y xs q) p
 · have e:i=xs.length:=by omega
   subst e
   exact .inl ⟨⟨xs,q,Nat.le_refl _⟩,hd σ H p⟩
theorem qAo {lo:Int}{n:Nat}{g:TG}{tb:TS}{D:qC6}{σ:St}{H:Hp}(Pv:Nat→St→Hp→Prop)(h0:Pv 0 σ H)
 (hs:∀ i σ H,i < n→Pv i σ H→g (.int (lo+i)) σ H fun σ2 H2=>tb {D with nx:=Pv (i+1),ct:=Pv (i+1),bk:=D.nx} σ2 H2) (hd:∀ σ H,Pv n σ H→D.nx σ H):
 ∃ W:Nat→Nat→St→Hp→Prop,(∃ m,W 0 m σ H)∧∀ i m σ H,W i m σ H→
  ((Itr lo n).stop i H∧D.nx σ H)∨((Itr lo n).go i H∧∃ N:St→Hp→Prop,(∀ σ' H',N σ' H'→∃ m',m' < m∧W (i+1) m' σ' H')∧∀ x H',(Itr lo n).yld i H x H'→g x σ H' fun σ2 H2=>tb {D with nx:=N,ct:=N,bk:=D.nx} σ2 H2):=by
 refine⟨fun i m σ H=>m=n - i∧i≤n∧Pv i σ H,⟨n,by simp,Nat.zero_le _,h0⟩,?_⟩
 rintro i m σ H ⟨rfl,hi,p⟩
 by_cases hlt:i < n
 · refine .inr ⟨hlt,Pv (i+1),fun σ' H' p'=>⟨n - (i+1),by omega,rfl,hlt,p'⟩,fun x H' y=>?_⟩
   obtain⟨e,y⟩:=y
   subst e y
   exact hs i σ _ hlt p
 · have e:i=n:=by omega
   subst e
   exact .inl ⟨Nat.le_refl _,hd σ H p⟩
theorem xg {c:TT}{tb:TS}{D:qC6}{σ:St}{H:Hp}(Pv:St→Hp→Prop)(μ:St→Hp→Nat)(h0:Pv σ H)
 (hs:∀ σ H,Pv σ H→c σ H fun b H1=>if b=true then tb {D with nx:=fun σ' H'=>Pv σ' H'∧μ σ' H' < μ σ H,ct:=fun σ' H'=>Pv σ' H'∧μ σ' H' < μ σ H,bk:=D.nx} σ H1 else D.nx σ H1)
 (mono:∀ σ H Q Q',(∀ b H1,Q b H1→Q' b H1)→c σ H Q→c σ H Q'):qGx c tb D σ H:=by
 refine⟨fun m σ H=>m=μ σ H∧Pv σ H,⟨_,rfl,h0⟩,?_⟩
 rintro m σ H ⟨rfl,p⟩
 refine mono σ H _ _ (fun b H1 q=>?_) (hs σ H p)
 cases b with
 | true=>exact⟨_,fun σ' H' ⟨p',l⟩=>⟨_,l,rfl,p'⟩,q⟩
 | false=>exact q
end L2
namespace L2
open PySem PySem.Spec PyProof.Rows
abbrev R2:=V→V→Hp→VK→Prop
def OpR (X:Cx)(f:Value→Value→Sem Value)(r:R2):Prop:=
 ∀ (pins:List (Addr × Obj)) (s:Shared) (σ:St) (H:Hp) (x y:V) (v u:Value) (Q:VK),Inv X pins σ H s→RelV x v→RelV y u→r x y H Q→
  wpAny (model X.prog X.w) X.A (f v u) (EP X pins σ Q) X.xe s
def UnR (X:Cx)(f:Value→Sem Value)(r:V→Hp→VK→Prop):Prop:=
 ∀ (pins:List (Addr × Obj)) (s:Shared) (σ:St) (H:Hp) (x:V) (v:Value) (Q:VK),Inv X pins σ H s→RelV x v→r x H Q→
  wpAny (model X.prog X.w) X.A (f v) (EP X pins σ Q) X.xe s
def zu (X:Cx)(f:Value)(r:List V→Hp→VK→Prop):Prop:=
 ∀ (pins:List (Addr × Obj)) (s:Shared) (σ:St) (H:Hp) (xs:List V) (us:List Value) (Q:VK),Inv X pins σ H s→Vals xs us→r xs H Q→
  wpAny (model X.prog X.w) X.A (call f us) (EP X pins σ Q) X.xe s
def tOp (r:R2)(ta tb:TE):TE:=fun σ H Q=>ta σ H fun x H1=>tb σ H1 fun y H2=>r x y H2 Q
def tUn (r:V→Hp→VK→Prop)(ta:TE):TE:=fun σ H Q=>ta σ H fun x H1=>r x H1 Q
inductive rI (C:Int→Int→Prop)(g:Int→Int→V)(x:V)(y:V)(H:Hp)(Q:VK):Prop
| mk i j (_:x= .int i) (_:y= .int j) (_:C i j) (_:Q (g i j) H)
inductive rI0 (g:Int→Int→V)(x:V)(y:V)(H:Hp)(Q:VK):Prop
| mk i j (_:x= .int i) (_:y= .int j) (_:Q (g i j) H)
inductive rU (g:Int→V)(x:V)(H:Hp)(Q:VK):Prop
| mk i (_:x= .int i) (_:Q (g i) H)
section
variable {X : Cx} {a b c : Expr} {ta tb tc : TE} {pos : Pos}
theorem qKy (ha:PE X a ta)(hb:PE X b tb){pins:List (Addr × Obj)}{s:Shared}{σ:St}{H:Hp}{R:V→V→Hp→Prop}(I:Inv X pins σ H s)
 (h:ta σ H fun x H1=>tb σ H1 fun y H2=>R x y H2) {Q:Value→Shared→Prop} {f:Value→Value→Sem Value}
 (hf:∀ v u s2 x y H2,Inv X pins σ H2 s2→RelV x v→RelV y u→R x y H2→wpAny (model X.prog X.w) X.A (f v u) Q X.xe s2):
 wpAny (model X.prog X.w) X.A (eval a X.env) (fun v s₁=>wpAny (model X.prog X.w) X.A (eval b X.env) (fun u s₂=>wpAny (model X.prog X.w) X.A (f v u) Q X.xe s₂) X.xe s₁) X.xe s:=by
 refine thn (ha pins s σ H _ I h) fun v s1 ⟨x,H1,I1,r1,q1⟩=>?_
 refine thn (hb pins s1 σ H1 _ I1 q1) fun u s2 ⟨y,H2,I2,r2,q2⟩=>?_
 exact hf v u s2 x y H2 I2 r1 r2 q2
theorem qL {op:Operator}{r:R2}(ho:OpR X (binaryOp op) r)(ha:PE X a ta)(hb:PE X b tb):PE X (.BinOp a op b pos) (tOp r ta tb):=by
 intro pins s σ H Q I h
 exact wpAny_BinOp (qKy ha hb I h fun v u s2 x y H2 I2 rx ry q=>ho pins s2 σ H2 x y v u Q I2 rx ry q)
theorem zo {op:UnaryOp}{r:V→Hp→VK→Prop}(ho:UnR X (unaryOp op) r)(ha:PE X a ta):PE X (.UnaryOp op a pos) (tUn r ta):=by
 intro pins s σ H Q I h
 exact UnaryOp_ (thn (ha pins s σ H _ I h) fun v s1 ⟨x,H1,I1,r1,q1⟩=>ho pins s1 σ H1 x v Q I1 r1 q1)
theorem opI {f:Value→Value→Sem Value}{C:Int→Int→Prop}{g:Int→Int→Int}
 (rule:∀ (i j:Int) (t u:Tok) (s:Shared) (Q:Value→Shared→Prop) (E:Value→Shared→Prop),C i j→Q (.int (g i j) s.toks) {s with toks:=s.toks+1}→wpAny (model X.prog X.w) X.A (f (.int i t) (.int j u)) Q E s):
 OpR X f (rI C fun i j=>.int (g i j)):=by
 intro pins s σ H x y v u Q I rx ry h
 obtain⟨i,j,rfl,rfl,hc,q⟩:=h
 obtain⟨t,rfl⟩:=rx
 obtain⟨t',rfl⟩:=ry
 exact rule i j t t' s _ _ hc ⟨.int (g i j),H,I.tok _,⟨_,rfl⟩,q⟩
theorem qLh {f:Value→Value→Sem Value}{g:Int→Int→Int}
 (rule:∀ (i j:Int) (t u:Tok) (s:Shared) (Q:Value→Shared→Prop) (E:Value→Shared→Prop),Q (.int (g i j) s.toks) {s with toks:=s.toks+1}→wpAny (model X.prog X.w) X.A (f (.int i t) (.int j u)) Q E s):
 OpR X f (rI0 fun i j=>.int (g i j)):=by
 intro pins s σ H x y v u Q I rx ry h
 obtain⟨i,j,rfl,rfl,q⟩:=h
 obtain⟨t,rfl⟩:=rx
 obtain⟨t',rfl⟩:=ry
 exact rule i j t t' s _ _ ⟨.int (g i j),H,I.tok _,⟨_,rfl⟩,q⟩
theorem qJ9 {f:Value→Value→Sem Value}{g:Int→Int→Bool}
 (rule:∀ (i j:Int) (t u:Tok) (s:Shared) (Q:Value→Shared→Prop) (E:Value→Shared→Prop),Q (.bool (g i j)) s→wpAny (model X.prog X.w) X.A (f (.int i t) (.int j u)) Q E s):
 OpR X f (rI0 fun i j=>.bl (g i j)):=by
 intro pins s σ H x y v u Q I rx ry h
 obtain⟨i,j,rfl,rfl,q⟩:=h
 obtain⟨t,rfl⟩:=rx
 obtain⟨t',rfl⟩:=ry
 exact rule i j t t' s _ _ ⟨.bl (g i j),H,I,rfl,q⟩
def CMul (i j:Int):Prop:=(-(2 ^ 64) < i∧i < 2 ^ 64)∨(-(2 ^ 64) < j∧j < 2 ^ 64)
theorem CMul.ok {i j:Int}(h:CMul i j):IntMulOk i j:=by
 rcases h with ⟨h1,h2⟩ | ⟨h1,h2⟩
 · exact .of_left (intBits_le_64 h1 h2)
 · exact .of_right (intBits_le_64 h1 h2)
theorem qg:OpR X (binaryOp .Add) (rI0 fun i j=>.int (i+j)):=qLh fun _ _ _ _ _ _ _ q=>add_int q
theorem jQ:OpR X (binaryOp .Sub) (rI0 fun i j=>.int (i - j)):=qLh fun _ _ _ _ _ _ _ q=>sub_int q
theorem qx:OpR X (binaryOp .Mod) (rI (fun _ j=>j≠0) fun i j=>.int (i.fmod j)):=opI fun _ _ _ _ _ _ _ hc q=>mod_int' hc q
theorem unI {f:Value→Sem Value}{g:Int→Int}
 (rule:∀ (i:Int) (t:Tok) (s:Shared) (Q:Value→Shared→Prop) (E:Value→Shared→Prop),Q (.int (g i) s.toks) {s with toks:=s.toks+1}→wpAny (model X.prog X.w) X.A (f (.int i t)) Q E s):
 UnR X f (rU fun i=>.int (g i)):=by
 intro pins s σ H x v Q I rx h
 obtain⟨i,rfl,q⟩:=h
 obtain⟨t,rfl⟩:=rx
 exact rule i t s _ _ ⟨.int (g i),H,I.tok _,⟨_,rfl⟩,q⟩
theorem jy:UnR X (unaryOp .USub) (rU fun i=>.int (-i)):=unI fun _ _ _ _ _ q=>neg_int q
end
def qLi:V→V→Bool
 | .non,.non=>true | .non,.int _=>true | .int _,.non=>true | .non,.bl _=>true | .bl _,.non=>true | .non,.str _=>true | .str _,.non=>true
 | .int _,.int _=>true | .bl _,.bl _=>true | .str _,.str _=>true | .byt _,.byt _=>true
 | .int _,.str _=>true | .str _,.int _=>true | .bl _,.str _=>true | .str _,.bl _=>true
 | _,_=>false
inductive rEq (x:V)(y:V)(H:Hp)(Q:VK):Prop
| mk (_:qLi x y=true) (_:Q (.bl (decide (x=y))) H)
inductive rNe (x:V)(y:V)(H:Hp)(Q:VK):Prop
| mk (_:qLi x y=true) (_:Q (.bl (!decide (x=y))) H)
theorem qDv {i j:Int}:decide (V.int i=V.int j)=(i == j):=by
 rw [Bool.eq_iff_iff]
 simp
theorem qG5 {i j:Bool}:decide (V.bl i=V.bl j)=(i == j):=by
 rw [Bool.eq_iff_iff]
 simp
theorem qEr {i j:Str}:decide (V.str i=V.str j)=(i == j):=by
 rw [Bool.eq_iff_iff]
 simp
theorem qD5 {i j:Array UInt8}:decide (V.byt i=V.byt j)=(i.toList == j.toList):=by
 rw [Bool.eq_iff_iff]
 cases i
 cases j
 simp
section
variable {X : Cx} {a b c : Expr} {ta tb tc : TE} {pos : Pos}
theorem qo {pins:List (Addr × Obj)}{σ:St}{H:Hp}{s:Shared}{Q:VK}{k k':Bool}(I:Inv X pins σ H s)(q:Q (.bl k) H)(e:k=k'):EP X pins σ Q (.bool k') s:=by
 subst e
 exact⟨.bl k,H,I,rfl,q⟩
theorem vI:OpR X (compareOp .Eq) rEq:=by
 intro pins s σ H x y v u Q I rx ry h
 obtain⟨hs,q⟩:=h
 cases x with
 | non=>
  cases rx
  cases y with
  | non=>cases ry;exact PySem.EqNone.eq_none_none (qo I q (by simp))
  | bl j=>cases ry;exact PySem.EqNone.eq_none_bool (qo I q (by simp))
  | int j=>obtain⟨t',rfl⟩:=ry;exact PySem.EqNone.eq_none_int (qo I q (by simp))
  | str j=>obtain⟨t',rfl⟩:=ry;exact PySem.EqNone.eq_none_str (qo I q (by simp))
  | _=>exact absurd (show false=true from hs) Bool.false_ne_true
 | bl i=>
  cases rx
  cases y with
  | non=>cases ry;exact PySem.EqNone.eq_bool_none (qo I q (by simp))
  | bl j=>cases ry;exact eq_bool (qo I q qG5)
  | str j=>obtain⟨t',rfl⟩:=ry;exact PySem.EqMixed.eq_bool_str (qo I q (by simp))
  | _=>exact absurd (show false=true from hs) Bool.false_ne_true
 | int i=>
  obtain⟨t,rfl⟩:=rx
  cases y with
  | non=>cases ry;exact PySem.EqNone.eq_int_none (qo I q (by simp))
  | int j=>obtain⟨t',rfl⟩:=ry;exact eq_int (qo I q qDv)
  | str j=>obtain⟨t',rfl⟩:=ry;exact PySem.EqMixed.eq_int_str (qo I q (by simp))
  | _=>exact absurd (show false=true from hs) Bool.false_ne_true
 | str i=>
  obtain⟨t,rfl⟩:=rx
  cases y with
  | non=>cases ry;exact PySem.EqNone.eq_str_none (qo I q (by simp))
  | bl j=>cases ry;exact PySem.EqMixed.eq_str_bool (qo I q (by simp))
  | int j=>obtain⟨t',rfl⟩:=ry;exact PySem.EqMixed.eq_str_int (qo I q (by simp))
  | str j=>obtain⟨t',rfl⟩:=ry;exact eq_str (qo I q qEr)
  | _=>exact absurd (show false=true from hs) Bool.false_ne_true
 | byt i=>
  obtain⟨t,rfl⟩:=rx
  cases y with
  | byt j=>obtain⟨t',rfl⟩:=ry;exact PySem.W.eq_bytes (qo I q qD5)
  | _=>exact absurd (show false=true from hs) Bool.false_ne_true
 | _=>cases y <;> exact absurd (show false=true from hs) Bool.false_ne_true
theorem qE5:OpR X (compareOp .NotEq) rNe:=by
 intro pins s σ H x y v u Q I rx ry h
 obtain⟨hs,q⟩:=h
 cases x with
 | non=>
  cases rx
  cases y with
  | non=>cases ry;exact PySem.EqNone.ne_none_none (qo I q (by simp))
  | bl j=>cases ry;exact PySem.EqNone.ne_none_bool (qo I q (by simp))
  | int j=>obtain⟨t',rfl⟩:=ry;exact PySem.EqNone.ne_none_int (qo I q (by simp))
  | str j=>obtain⟨t',rfl⟩:=ry;exact PySem.EqNone.ne_none_str (qo I q (by simp))
  | _=>exact absurd (show false=true from hs) Bool.false_ne_true
 | bl i=>
  cases rx
  cases y with
  | non=>cases ry;exact PySem.EqNone.ne_bool_none (qo I q (by simp))
  | bl j=>cases ry;exact ne_bool (qo I q (congrArg not qG5))
  | str j=>obtain⟨t',rfl⟩:=ry;exact PySem.EqMixed.ne_bool_str (qo I q (by simp))
  | _=>exact absurd (show false=true from hs) Bool.false_ne_true
 | int i=>
  obtain⟨t,rfl⟩:=rx
  cases y with
  | non=>cases ry;exact PySem.EqNone.ne_int_none (qo I q (by simp))
  | int j=>obtain⟨t',rfl⟩:=ry;exact ne_int (qo I q (congrArg not qDv))
  | str j=>obtain⟨t',rfl⟩:=ry;exact PySem.EqMixed.ne_int_str (qo I q (by simp))
  | _=>exact absurd (show false=true from hs) Bool.false_ne_true
 | str i=>
  obtain⟨t,rfl⟩:=rx
  cases y with
  | non=>cases ry;exact PySem.EqNone.ne_str_none (qo I q (by simp))
  | bl j=>cases ry;exact PySem.EqMixed.ne_str_bool (qo I q (by simp))
  | int j=>obtain⟨t',rfl⟩:=ry;exact PySem.EqMixed.ne_str_int (qo I q (by simp))
  | str j=>obtain⟨t',rfl⟩:=ry;exact ne_str (qo I q (congrArg not qEr))
  | _=>exact absurd (show false=true from hs) Bool.false_ne_true
 | byt i=>
  obtain⟨t,rfl⟩:=rx
  cases y with
  | byt j=>obtain⟨t',rfl⟩:=ry;exact PySem.W.ne_bytes (qo I q (congrArg not qD5))
  | _=>exact absurd (show false=true from hs) Bool.false_ne_true
 | _=>cases y <;> exact absurd (show false=true from hs) Bool.false_ne_true
theorem vL:OpR X (compareOp .Lt) (rI0 fun i j=>.bl (decide (i < j))):=qJ9 fun _ _ _ _ _ _ _ q=>lt_int q
theorem qF9:OpR X (compareOp .LtE) (rI0 fun i j=>.bl (decide (i≤j))):=qJ9 fun _ _ _ _ _ _ _ q=>le_int q
theorem qF3:OpR X (compareOp .Gt) (rI0 fun i j=>.bl (decide (j < i))):=qJ9 fun _ _ _ _ _ _ _ q=>gt_int q
theorem qJ4:OpR X (compareOp .GtE) (rI0 fun i j=>.bl (decide (j≤i))):=qJ9 fun _ _ _ _ _ _ _ q=>ge_int q
theorem OpR.or {f:Value→Value→Sem Value}{r r':R2}(h:OpR X f r)(h':OpR X f r'):OpR X f (fun x y H Q=>r x y H Q∨r' x y H Q):=by
 intro pins s σ H x y v u Q I rx ry q
 rcases q with q | q
 · exact h pins s σ H x y v u Q I rx ry q
 · exact h' pins s σ H x y v u Q I rx ry q
theorem qh (b:Expr){op:CmpOp}(h:op≠ .In:=by decide)(h2:op≠ .NotIn:=by decide):behindInMarks op b=false:=by
 have e1:(op == CmpOp.In)=false:=by cases op <;> first | rfl | exact absurd rfl h
 have e2:(op == CmpOp.NotIn)=false:=by cases op <;> first | rfl | exact absurd rfl h2
 cases b <;> simp [behindInMarks,e1,e2]
theorem qEz {op:CmpOp}{r:R2}(ho:OpR X (compareOp op) r)(ha:PE X a ta)(hb:PE X b tb)(hm:behindInMarks op b=false):PE X (.Compare a [op] [b] pos) (tOp r ta tb):=by
 intro pins s σ H Q I h
 exact wpAny_Compare1 (qKy ha hb I h fun v u s2 x y H2 I2 rx ry q=>ho pins s2 σ H2 x y v u Q I2 rx ry q) hm
inductive qI8 (Q:Bool→Hp→Prop)(x:V)(H':Hp):Prop
| mk k (_:x= .bl k) (_:Q k H')
def qKw (t:TE):TT:=fun σ H Q=>t σ H fun x H'=>qI8 Q x H'
theorem qY {op:CmpOp}{r:R2}(ho:OpR X (compareOp op) r)(ha:PE X a ta)(hb:PE X b tb)(hm:behindInMarks op b=false):PT X (.Compare a [op] [b] pos) (qKw (tOp r ta tb)):=by
 intro pins s σ H Q I h
 refine wpAny_isTrue_Compare1 (thn (ha pins s σ H _ I h) fun v s1 ⟨x,H1,I1,r1,q1⟩=>thn (hb pins s1 σ H1 _ I1 q1) fun u s2 ⟨y,H2,I2,r2,q2⟩=>
  thn (ho pins s2 σ H2 x y v u _ I2 r1 r2 q2) fun c s3 ⟨z,H3,I3,r3,k,e,q3⟩=>?_) hm
 subst e
 cases r3
 exact wpAny_truthy_bool ⟨H3,I3,q3⟩
theorem qBp:(sizeLine:Nat) < 2 ^ 63:=by rw [sizeLine_eq];decide
theorem qCy:OpR X (binaryOp .Add) (fun x y H Q=>∃ i j,x= .str i∧y= .str j∧i.length+j.length≤sizeLine∧Q (.str (i++j)) H):=by
 intro pins s σ H x y v u Q I rx ry h
 obtain⟨i,j,rfl,rfl,hz,q⟩:=h
 obtain⟨t,rfl⟩:=rx
 obtain⟨t',rfl⟩:=ry
 exact add_str (fun t' tk=>⟨.str (i++j),H,I.tok _,⟨_,rfl⟩,q⟩) hz
theorem qBl {x:V}{us:List Value}(r:Vals [x] us):∃ u,us=[u]∧RelV x u:=by
 cases r with
 | cons r1 r2=>cases r2;exact⟨_,rfl,r1⟩
theorem qF4 {x y:V}{us:List Value}(r:Vals [x,y] us):∃ u w',us=[u,w']∧RelV x u∧RelV y w':=by
 cases r with
 | cons r1 r2=>
  cases r2 with
  | cons r3 r4=>cases r4;exact⟨_,_,rfl,r1,r3⟩
theorem qFk:zu X (.builtin "abs") (fun xs H Q=>∃ i,xs=[.int i]∧Q (.int (if i < 0 then -i else i)) H):=by
 intro pins s σ H xs us Q I r h
 obtain⟨i,rfl,q⟩:=h
 obtain⟨u,rfl,t,rfl⟩:=qBl r
 exact call_abs_int fun u tk=>⟨.int (if i < 0 then -i else i),H,I.tok _,⟨_,rfl⟩,q⟩
theorem qDl (hc:X.calm=true):zu X (.builtin "max") (fun xs H Q=>∃ i j,xs=[.int i,.int j]∧Q (.int (if j > i then j else i)) H):=by
 intro pins s σ H xs us Q I r h
 obtain⟨i,j,rfl,q⟩:=h
 obtain⟨u,w',rfl,⟨t,rfl⟩,⟨t',rfl⟩⟩:=qF4 r
 refine max_two_ints (I.ok.hd hc) fun h' tk k=>⟨_,H,I.kept k,?_,q⟩
 by_cases hj:j > i
 · rw [if_pos hj,if_pos hj];exact⟨_,rfl⟩
 · rw [if_neg hj,if_neg hj];exact⟨_,rfl⟩
theorem zY (hc:X.calm=true):zu X (.builtin "min") (fun xs H Q=>∃ i j,xs=[.int i,.int j]∧Q (.int (if j < i then j else i)) H):=by
 intro pins s σ H xs us Q I r h
 obtain⟨i,j,rfl,q⟩:=h
 obtain⟨u,w',rfl,⟨t,rfl⟩,⟨t',rfl⟩⟩:=qF4 r
 refine min_two_ints (I.ok.hd hc) fun h' tk k=>⟨_,H,I.kept k,?_,q⟩
 by_cases hj:j < i
 · rw [if_pos hj,if_pos hj];exact⟨_,rfl⟩
 · rw [if_neg hj,if_neg hj];exact⟨_,rfl⟩
end
end L2
namespace L2
open PySem PySem.Spec PyProof.Rows
structure ObjM (h:Heap)(x dx C:Addr)(mA:Str→Option Value):Prop where
 obj:h.get? x=some (PySem.W.instObj C dx)
 ns:h.Ns1 dx mA
 ne:dx≠x
theorem qEk {h:Heap}{dx:Addr}{mA:Str→Option Value}(n:h.Ns1 dx mA):∃ od,h.get? dx=some od∧∀ name,PySem.W.lookIn name od=some (mA name):=by
 obtain⟨o,es,ep,ho,hd,hk,_,hm⟩:=n
 refine⟨o,ho,fun name=>?_⟩
 have e:=hm name
 unfold nsFind findBy at e
 rw [← Array.find?_toList] at e
 unfold PySem.W.lookIn
 rw [hd]
 dsimp only
 split
 · rename_i y q
   rw [q] at e
   exact congrArg some e
 · rename_i q
   rw [q] at e
   have a:es.toList.any (·.refKey)=false:=by
    rw [List.any_eq_false]
    intro y hy
    obtain⟨z,t,hkey⟩:=hk y (Array.mem_toList_iff.mp hy)
    simp [DictEntry.refKey,hkey]
   have a':¬ es.toList.any (·.refKey)=true:=by rw [a];exact Bool.false_ne_true
   rw [if_neg a']
   exact congrArg some e
theorem ObjM.look {h:Heap}{x dx C:Addr}{mA:Str→Option Value}(I:ObjM h x dx C mA):∃ od,PySem.W.InstAt h x (PySem.W.instObj C dx) C (some od)∧∀ name,PySem.W.lookIn name od=some (mA name):=
 let ⟨od,ho,hl⟩:=qEk I.ns
 ⟨od,⟨I.obj,rfl,rfl,ho⟩,hl⟩
section
variable {prog : Program} {w : World} {A : Around} {E : Value → Shared → Prop} {s : Shared} {K : PySem.W.Frag} {x dx C f : Addr} {mA : Str → Option Value} {name : Str} {v : Value}
end
theorem RelO.some_of {v:V}{o:Option Value}(r:RelO (some v) o):∃ u,o=some u∧RelV v u:=by
 cases o with
 | none=>exact(show False from r).elim
 | some u=>exact⟨u,rfl,r⟩
theorem RelO.none_of {o:Option Value}(r:RelO none o):o=none:=by
 cases o with
 | none=>rfl
 | some u=>exact(show False from r).elim
section
variable {P : Program} {w : World} {H H' : Hp} {h h' : Heap} {a C dx : Addr} {fs fs' : List (Str × V)}
theorem qIf (hok:HOk P w H h)(e:H a=some (.ins C dx fs)):∃ mA,ObjM h a dx C mA∧(∀ f,RelO (fs.lookup f) (mA f))∧PySem.Within mA (fs.map (·.1))∧fs.length≤1000∧H dx=some (.own a):=by
 obtain⟨d,z,ne,ob,mA,n,r,q⟩:=(show ObjOk P w H h a (.ins C dx fs) from hok a _ e)
 exact⟨mA,⟨ob,n,ne⟩,r,q,z,d⟩
end
structure Cls (K:PySem.W.Frag)(C:Addr):Prop where
 pg:PySem.W.plainGet K C Str.empty=true
 hd:PySem.W.hasDictIn K C=true
 po:PySem.W.plainOver K C=true
 sa:PySem.W.findIn K (.ref C) "__setattr__"=some (some (.builtin "object.__setattr__"))
theorem Cls.get {K:PySem.W.Frag}{C:Addr}(c:Cls K C)(f:Str):PySem.W.plainGet K C f=true:=c.pg
section
variable {X : Cx} {pins : List (Addr × Obj)} {σ : St} {H : Hp} {s : Shared} {a C dx : Addr} {fs : List (Str × V)} {f : Str} {v : V} {A : Around} {E : Value → Shared → Prop}
theorem Inv.made (I:Inv X pins σ H s):Inv X pins σ (upd (upd H s.heap.objs.size (.own (s.heap.objs.size+1))) (s.heap.objs.size+1) (.ins C s.heap.objs.size []))
 {s with heap:=(s.heap.push PySem.W.emptyDict).push (PySem.W.instObj C s.heap.objs.size)}:=by
 have e1:(s.heap.push PySem.W.emptyDict).get? s.heap.objs.size=some PySem.W.emptyDict:=Heap.get?_push_size s.heap rfl
 have e2:((s.heap.push PySem.W.emptyDict).push (PySem.W.instObj C s.heap.objs.size)).get? (s.heap.objs.size+1)=some (PySem.W.instObj C s.heap.objs.size):=by
  have:=Heap.get?_push_size (s.heap.push PySem.W.emptyDict) (o:=PySem.W.instObj C s.heap.objs.size) rfl
  rwa [Heap.size_push] at this
 have e3:(s.heap.push PySem.W.emptyDict).Ns s.heap.objs.size (fun _=>none):=⟨PySem.W.emptyDict,#[],_,e1,rfl,(fun e he=>absurd he (by simp)),fun _=>rfl⟩
 have I1:=I.laid (a:=s.heap.objs.size) (o:=.own (s.heap.objs.size+1)) (h':=s.heap.push PySem.W.emptyDict) (t':=s.toks) (fun b u q=>Heap.get?_push_of_some _ q) (Nat.le_refl _) ⟨_,e1⟩
 refine I1.laid (a:=s.heap.objs.size+1) (o:=.ins C s.heap.objs.size []) (t':=s.toks) (fun b u q=>Heap.get?_push_of_some _ q) (Nat.le_of_eq (Heap.size_push _ _)) ?_
 have ne:s.heap.objs.size≠s.heap.objs.size+1:=Nat.ne_of_lt (Nat.lt_succ_self _)
 refine⟨by rw [qK ne,qD],Nat.zero_le _,ne,e2,fun _=>none,(Heap.Ns1.of_empty e3).at fun o q=>Heap.get?_push_of_some _ q,fun _=>True.intro,fun y hy=>absurd rfl hy⟩
end
section
variable {X : Cx} {o e value : Expr} {f : Str} {pos pos' tpos : Pos} {ta tv : TE}
end
section
variable {X : Cx} {pins : List (Addr × Obj)} {σ : St} {H : Hp} {s : Shared} {A : Around} {E : Value → Shared → Prop} {Q : Value → Shared → Prop} {c : Value} {b : Bool}
inductive qBz (K:PySem.W.Frag)(H:Hp):V→Value→Prop where
 | non:qBz K H .non (.type "NoneType")
 | bl (x:Bool):qBz K H (.bl x) (.type "bool")
 | int (i:Int):qBz K H (.int i) (.type "int")
 | str (x:Str):qBz K H (.str x) (.type "str")
 | flt (x:UInt64):qBz K H (.flt x) (.type "float")
 | lst {a:Addr} {xs:List V} (e:H a=some (.lst xs)):qBz K H (.ref a) (.type "list")
 | frz {a:Addr} {o:Obj} {xs:List V} (e:H a=some (.frz o (.lst xs))):qBz K H (.ref a) (.type "list")
 | tup {a:Addr} {xs:List V} (e:H a=some (.tup xs)):qBz K H (.ref a) (.type "tuple")
 | dK {a:Addr} {kvs:List (Key × V)} (e:H a=some (.dK kvs)):qBz K H (.ref a) (.type "dict")
 | dT {a:Addr} {kvs:List (List Key × V)} (e:H a=some (.dT kvs)):qBz K H (.ref a) (.type "dict")
 | ins {a C dx:Addr} {fs:List (Str × V)} (e:H a=some (.ins C dx fs)) (cl:Cls K C) (ha:PySem.W.findIn K (.ref C) "__class__"=some (some (.builtin "object.__class__")))
  (hn:PySem.W.specialIn K (.builtin "object.__class__") "__get__"=some (some (.builtin "getset_descriptor.__get__"))) (htk:PySem.W.takesIn K (.builtin "object.__class__")=some true)
  (hm:PySem.W.mroIn K C (.type "object")=some true):qBz K H (.ref a) (.ref C)
theorem qAt {x:V}{u t:Value}(I:Inv X pins σ H s)(rx:RelV x u)(ty:qBz X.K H x t)(e:PySem.W.kitOne X.K t c=some b)(h:∀ tk,Q (.bool b) {s with toks:=tk}):
 wpAny (model X.prog X.w) A (call (.builtin "isinstance") [u,c]) Q E s:=by
 cases ty with
 | non=>cases (show u=Value.none from rx);exact PySem.W.kia_one PySem.W.kitx_none I.kIn True.intro e (fun z=>nomatch z) h
 | bl y=>cases (show u=Value.bool y from rx);exact PySem.W.kia_one PySem.W.kitx_bool I.kIn True.intro e (fun z=>nomatch z) h
 | int i=>obtain⟨t,q⟩:=(show ∃ t,u=Value.int i t from rx);cases q;exact PySem.W.kia_one PySem.W.kitx_int I.kIn True.intro e (fun z=>nomatch z) h
 | str y=>obtain⟨t,q⟩:=(show ∃ t,u=Value.str y t from rx);cases q;exact PySem.W.kia_one PySem.W.kitx_str I.kIn True.intro e (fun z=>nomatch z) h
 | flt y=>obtain⟨t,q⟩:=(show ∃ t,u=Value.float y t from rx);cases q;exact PySem.W.kia_one PySem.W.kitx_float I.kIn True.intro e (fun z=>nomatch z) h
 | @lst a xs ea=>
  cases (show u=Value.ref a from rx)
  obtain⟨_,_,n,_,h1⟩:=(show ObjOk X.prog X.w H s.heap a (.lst xs) from I.hok a _ ea)
  exact PySem.W.kia_one PySem.W.kitx_list I.kIn ⟨_,h1,rfl⟩ e (fun z=>nomatch z) h
 | @frz a ob xs ea=>
  cases (show u=Value.ref a from rx)
  obtain⟨_,_,_,n,_,h1⟩:=(show ObjOk X.prog X.w H s.heap a (.frz ob (.lst xs)) from I.hok a _ ea)
  exact PySem.W.kia_one PySem.W.kitx_list I.kIn ⟨_,h1,rfl⟩ e (fun z=>nomatch z) h
 | @tup a xs ea=>
  cases (show u=Value.ref a from rx)
  obtain⟨_,_,_,p⟩:=(show ObjOk X.prog X.w H s.heap a (.tup xs) from I.hok a _ ea)
  obtain⟨o,h1,h2,_⟩:=p
  exact PySem.W.kia_one PySem.W.kitx_tuple I.kIn ⟨o,h1,h2⟩ e (fun z=>nomatch z) h
 | @dK a kvs ea=>
  cases (show u=Value.ref a from rx)
  obtain⟨_,_,vs,_,p⟩:=(show ObjOk X.prog X.w H s.heap a (.dK kvs) from I.hok a _ ea)
  obtain⟨o,es,ep,h1,h2,_⟩:=p
  exact PySem.W.kia_one PySem.W.kitx_dict I.kIn ⟨o,h1,h2.1⟩ e (fun z=>nomatch z) h
 | @dT a kvs ea=>
  cases (show u=Value.ref a from rx)
  obtain⟨_,_,xs,_,o,es,ep,h1,h2,_⟩:=(show ObjOk X.prog X.w H s.heap a (.dT kvs) from I.hok a _ ea)
  exact PySem.W.kia_one PySem.W.kitx_dict I.kIn ⟨o,h1,h2.1⟩ e (fun z=>nomatch z) h
 | @ins a C dx fs ea cl ha hn htk hm=>
  cases (show u=Value.ref a from rx)
  obtain⟨mA,O,_⟩:=qIf I.hok ea
  obtain⟨od,J,_⟩:=O.look
  exact PySem.W.kia_one (PySem.W.kitx_own (cl.get _) cl.hd ha hn htk hm) I.kIn J e (fun z=>nomatch z) h
end
end L2
namespace L2
open PySem PySem.Spec PyProof.Rows
structure Room (k:Nat)(A:Around):Prop where
 hd:A.handled=none
 dp:A.depth+3*k+5 < recursionLimit
 un:A.units+16*k+200 < cLine
theorem Room.mono {j k:Nat}{A:Around}(r:Room k A)(h:j≤k):Room j A:=⟨r.hd,by have:=r.dp;omega,by have:=r.un;omega⟩
theorem Room.deeper {k:Nat}{A:Around}(r:Room (k+1) A)(env:Env):Room k (A.deeper env):=
 ⟨r.hd,by have:=r.dp;show A.depth+1+3*k+5 < _;omega,by have:=r.un;show A.units+3+16*k+200 < _;omega⟩
theorem Room.in1 {k:Nat}{A:Around}(r:Room (k+1) A):Room k A.in1:=
 ⟨r.hd,by have:=r.dp;show A.depth+3*k+5 < _;omega,by have:=r.un;show A.units+1+16*k+200 < _;omega⟩
theorem Room.depth {k:Nat}{A:Around}(r:Room k A):A.depth < recursionLimit:=by have:=r.dp;omega
theorem Room.units {k:Nat}{A:Around}(r:Room k A):A.units+64 < cLine:=by have:=r.un;omega
def qL4:TA:=fun _ H Q=>Q [] H
def qK9 (ta:TE)(tr:TA):TA:=fun σ H Q=>ta σ H fun x H1=>tr σ H1 fun xs H2=>Q (x::xs) H2
section
variable {X : Cx} {e : Expr} {es : List Expr} {te : TE} {t : TA} {pos : Pos}
theorem qC:PA X [] qL4:=fun _ _ _ _ H Q I h=>Calls.spliced_nil ⟨[],H,I,.nil,h⟩
theorem qA (ha:PE X e te)(hr:PA X es t)(hs:starEach (e::es) X.env=(false,eval e X.env)::starEach es X.env:=by rfl):PA X (e::es) (qK9 te t):=by
 intro pos pins s σ H Q I h
 rw [hs]
 show wpAny _ _ (spliced ((false,eval e X.env)::backTo pos (starEach es X.env))) _ _ s
 refine Calls.spliced_cons (thn (ha pins s σ H _ I h) fun u s1 ⟨x,H1,I1,r1,q1⟩=>?_)
 exact thn (hr pos pins s1 σ H1 _ I1 q1) fun us s2 ⟨xs,H2,I2,r2,q2⟩=>⟨x::xs,H2,I2,.cons r1 r2,q2⟩
inductive qLe (Q:VK)(xs:List V)(H1:Hp):Prop
| mk (_:xs.length≤sizeLine) (_:∀ p,H1 p=none→Q (.ref p) (upd H1 p (.tup xs)))
def qLt (t:TA):TE:=fun σ H Q=>t σ H fun xs H1=>qLe Q xs H1
inductive qKe (Q:VK)(xs:List V)(H1:Hp):Prop
| mk (_:xs.length≤sizeLine) (_:∀ p,H1 p=none→Q (.ref p) (upd H1 p (.lst xs)))
def qLl (t:TA):TE:=fun σ H Q=>t σ H fun xs H1=>qKe Q xs H1
theorem qd {x1}(h:PA X es t):PE X (.Tuple es x1 pos) (qLt t):=by
 intro pins s σ H Q I hq
 refine wpAny_Tuple_spliced (thn (h pos pins s σ H _ I hq) fun us s1 ⟨xs,H1,I1,r,z,q⟩=>⟨by rw [← r.length];exact z,?_⟩)
 have hf:H1 s1.heap.objs.size=none:=I1.hok.fresh (Nat.le_refl _)
 refine⟨.ref s1.heap.objs.size,upd H1 s1.heap.objs.size (.tup xs),I1.laid (t':=s1.toks) (fun b u e=>Heap.get?_push_of_some _ e) (Nat.le_refl _) ?_,rfl,q _ hf⟩
 exact⟨z,us,r,⟨_,Heap.get?_push_size _ rfl,rfl,_,rfl⟩⟩
theorem jO (h:PA X es t):PE X (.List es pos) (qLl t):=by
 intro pins s σ H Q I hq
 refine wpAny_List_spliced (thn (h pos pins s σ H _ I hq) fun us s1 ⟨xs,H1,I1,r,z,q⟩=>⟨by rw [← r.length];exact z,?_⟩)
 have hf:H1 s1.heap.objs.size=none:=I1.hok.fresh (Nat.le_refl _)
 refine⟨.ref s1.heap.objs.size,upd H1 s1.heap.objs.size (.lst xs),I1.laid (t':=s1.toks) (fun b u e=>Heap.get?_push_of_some _ e) (Nat.le_refl _) ?_,rfl,q _ hf⟩
 exact⟨z,us,0,r,Heap.get?_push_size _ rfl⟩
end
abbrev Sp:=List V→Hp→VK→XK→Prop
abbrev CXT:=List Env→Hp→Shared→XK→Value→Shared→Prop
structure qKc (P:Program)(w:World)(K:PySem.W.Frag)(mg:Str→Option Value)(base:Heap)(A:Around)(outer:List Env)(s:Shared)(H:Hp):Prop where
 frames:A.frames=some outer
 mod:Mod K mg base
 bs:∀ b o,base.get? b=some o→s.heap.get? b=some o∧H b=none
 bsz:base.objs.size≤s.heap.objs.size
 funs:s.heap.FunFrames base outer
 frf:∀ b∈frs outer,H b=none
 hok:HOk P w H s.heap
 bare:AllBare s.gens
def CE (outer:List Env)(P:Program)(w:World)(H:Hp)(s:Shared)(Q:VK)(u:Value)(s':Shared):Prop:=
 ∃ v H',s'.os=s.os∧AllBare s'.gens∧Un (frs outer) [] H H' s.heap s'.heap∧HOk P w H' s'.heap∧RelV v u∧Q v H'
def CR (CX:CXT)(outer:List Env)(P:Program)(w:World)(H:Hp)(s:Shared)(Q:VK)(E:XK)(r:Result)(s':Shared):Prop:=
 match r with
 | .ok (.ret u)=>CE outer P w H s Q u s'
 | .ok _=>False
 | .error e=>CX outer H s E e s'
structure FnOk (P:Program)(w:World)(K:PySem.W.Frag)(mg:Str→Option Value)(base:Heap)(CX:CXT)(k:Nat)(f:Addr)(fd:FuncData)(ps:List Str)(sp:Sp):Prop where
 len:∀ vs H Q E,sp vs H Q E→vs.length=ps.length
 run:∀ (A:Around) (outer:List Env) (s:Shared) (H:Hp) (args:Args) (us:List Value) (vs:List V) (Q:VK) (E:XK),Room k A→qKc P w K mg base A outer s H→BindsTo s fd args (ps.zip us)→Vals vs us→sp vs H Q E→
  codeAny (model P w) A (.call (.ref f) args) (CR CX outer P w H s Q E) s
theorem FnOk.imp {P:Program}{w:World}{K:PySem.W.Frag}{mg:Str→Option Value}{base:Heap}{CX:CXT}{k:Nat}{f:Addr}{fd:FuncData}{ps:List Str}{sp sp':Sp}(F:FnOk P w K mg base CX k f fd ps sp)
 (h:∀ vs H Q E,sp' vs H Q E→sp vs H Q E):FnOk P w K mg base CX k f fd ps sp':=
 ⟨fun vs H Q E q=>F.len vs H Q E (h _ _ _ _ q),fun A outer s H args us vs Q E hr he hb hv hs=>F.run A outer s H args us vs Q E hr he hb hv (h _ _ _ _ hs)⟩
section
variable {X : Cx} {pins : List (Addr × Obj)} {σ : St} {H : Hp} {s s' : Shared}
theorem Inv.env0 (I:Inv X pins σ H s):qKc X.prog X.w X.K X.mg X.base X.A X.stack s H:=
 ⟨I.ok.frames,I.ok.mod,I.bs,Nat.le_trans I.ok.bsz I.sz,I.stack,I.stkFree,I.hok,I.bare⟩
theorem Inv.after {Q:VK}{u:Value}(I:Inv X pins σ H s)(h:CE X.stack X.prog X.w H s Q u s'):EP X pins σ Q u s':=by
 obtain⟨v,H',os,bare,un,hok,r,q⟩:=h
 obtain⟨hh,g,d,t,os'⟩:=s'
 obtain rfl:os'=s.os:=os
 exact⟨v,H',I.call (h':=hh) (g':=g) (d':=d) (t':=t) (ch:=[]) un hok bare (fun b z=>absurd z (by simp)),r,q⟩
end
def qHy (sp:Sp)(dvs:List V)(E:XK)(t:TA):TE:=fun σ H Q=>t σ H fun vs H1=>sp (vs++dvs) H1 Q E
def Binds (K:PySem.W.Frag)(fd:FuncData)(ps:List Str)(ds:List Value):Prop:=
 ∀ (s:Shared) (us:List Value),K.In s.heap→(us++ds).length=ps.length→BindsTo s fd ⟨us,[]⟩ (ps.zip (us++ds))
theorem Binds.all {K:PySem.W.Frag}{fd:FuncData}{ps:List Str}(h:∀ us:List Value,us.length=ps.length→bindArgs fd ⟨us,[]⟩=pure (ps.zip us)):Binds K fd ps []:=fun s us _ hl=>by
 rw [List.append_nil] at hl ⊢
 exact .of_eq (h us hl)
def qCm (CX:CXT)(X:Cx)(E:XK):Prop:=∀ (pins:List (Addr × Obj)) (σ:St) (H:Hp) (s:Shared) (e:Value) (s':Shared),Inv X pins σ H s→CX X.stack H s E e s'→X.xe e s'
section
variable {X : Cx} {CX : CXT} {k : Nat} {f C : Addr} {fd : FuncData} {ps : List Str} {sp : Sp} {dvs : List V} {ds : List Value} {E : XK} {x m : Str} {p pos apos : Pos} {e o : Expr} {es : List Expr} {ta : TE} {t : TA}
theorem qJm {pins:List (Addr × Obj)}{σ:St}{H:Hp}{s:Shared}{Q:VK}{us:List Value}{vs:List V}(F:FnOk X.prog X.w X.K X.mg X.base CX k f fd ps sp)(hr:Room k X.A)(hb:Binds X.K fd ps ds)(hd:Vals dvs ds)(hx:qCm CX X E)
 (I:Inv X pins σ H s) (r:Vals vs us) (h:sp (vs++dvs) H Q E):wpAny (model X.prog X.w) X.A (call (.ref f) us) (EP X pins σ Q) X.xe s:=by
 have r2:Vals (vs++dvs) (us++ds):=r.append hd
 have hl:(us++ds).length=ps.length:=by rw [← r2.length];exact F.len _ _ _ _ h
 refine wpAny_call (codeAny_mono (F.run X.A X.stack s H ⟨us,[]⟩ (us++ds) (vs++dvs) Q E hr I.env0 (hb s us I.kIn hl) r2 h) fun r s' hq=>?_)
 cases r with
 | error e=>exact hx pins σ H s e s' I hq
 | ok fl=>
  cases fl with
  | ret u=>exact I.after hq
  | next=>exact False.elim hq
  | brk=>exact False.elim hq
  | cont=>exact False.elim hq
theorem qEx (F:FnOk X.prog X.w X.K X.mg X.base CX k f fd ps sp)(hr:Room k X.A)(hg:Gl X x)(hm:X.mg x=some (.ref f))(hk:PySem.W.keepIn X.K (.ref f)=true)(hb:Binds X.K fd ps ds)(hd:Vals dvs ds)(hx:qCm CX X E)
 (ha:PA X (e::es) t) (hdb:(x == ("__debug__":Str))=false:=by decide) (he:starEach (e::es) X.env=(false,eval e X.env)::starEach es X.env:=by rfl) (hpl:(backTo pos (starEach es X.env)).any (·.1)=false:=by rfl):
 PE X (.Call (.Name x p) (e::es) [] pos) (qHy sp dvs E t):=by
 intro pins s σ H Q I h
 refine wpAny_Call_Name_kw (vc I hg hm ?_ hdb)
 refine PySem.W.callWith_K (h₀:=X.base) I.ok.mod.kin hk (thn (ha pos pins s σ H _ I h) fun us s1 ⟨vs,H1,I1,r,q⟩=>⟨I1.kIn,?_⟩) he hpl
 exact qJm F hr hb hd hx I1 r q
end
section
variable {X : Cx} {CX : CXT} {k : Nat} {f C : Addr} {fd : FuncData} {ps ks : List Str} {sp : Sp} {E : XK} {x m : Str} {p pos apos kpos : Pos} {e o : Expr} {es : List Expr} {kws : List Keyword} {te ta : TE} {t tk : TA} {nm : Option Str}
variable {g : List Value → List Value → List Value} {gV : List V → List V → List V}
end
structure qS (N P:List Str)(sc:Scope):Prop where
 kind:sc.kind= .function
 co:sc.isCoroutine=false
 gen:sc.isGenerator=false
 nd:N.Nodup
 pre:N.take P.length=P
 par:∀ x∈P,sc.names.lookup x=some .local∨sc.names.lookup x=some .cell
 nofree:∀ y∈sc.names,y.2≠ .free
theorem qAk {kindOf:Str→Option NameKind}{x:Str}:∀ {binds:List (Str × Value)} {m:Str→Option Value},(∀ v,(x,v) ∉ binds)→bindL kindOf binds m x=m x
 | [],_,_=>rfl
 | (n,v)::r,m,h=>by
  unfold bindL
  rw [qAk fun w hw=>h w (List.mem_cons_of_mem _ hw)]
  split
  · have:x≠n:=by rintro rfl;exact h v List.mem_cons_self
    simp [this]
  · rfl
theorem wv {kindOf:Str→Option NameKind}{x:Str}:∀ {binds:List (Str × Value)} {m:Str→Option Value},(∀ v,(x,v) ∉ binds)→bindC kindOf binds m x=m x
 | [],_,_=>rfl
 | (n,v)::r,m,h=>by
  unfold bindC
  rw [wv fun w hw=>h w (List.mem_cons_of_mem _ hw)]
  split
  · rfl
  · have:x≠n:=by rintro rfl;exact h v List.mem_cons_self
    simp [this]
theorem wY {kindOf:Str→Option NameKind}{x:Str}{v:Value}:∀ {P:List Str} {vs:List Value} {i:Nat} {m:Str→Option Value},P.Nodup→P[i]? =some x→vs[i]? =some v→kindOf x=some .local→
 bindL kindOf (P.zip vs) m x=some v
 | [],_,_,_,_,h,_,_=>by simp at h
 | _::_,[],_,_,_,_,h,_=>by simp at h
 | p::P,w::vs,0,m,nd,h1,h2,hk=>by
  simp at h1 h2;subst h1;subst h2
  show bindL kindOf ((p,w)::P.zip vs) m p=_
  unfold bindL
  rw [qAk fun v hv=>(List.nodup_cons.mp nd).1 (List.of_mem_zip hv).1,if_pos hk]
  simp
 | p::P,w::vs,i+1,m,nd,h1,h2,hk=>by
  show bindL kindOf ((p,w)::P.zip vs) m x=_
  unfold bindL
  exact wY (i:=i) (List.nodup_cons.mp nd).2 (by simpa using h1) (by simpa using h2) hk
theorem qAh {kindOf:Str→Option NameKind}{x:Str}{v:Value}:∀ {P:List Str} {vs:List Value} {i:Nat} {m:Str→Option Value},P.Nodup→P[i]? =some x→vs[i]? =some v→kindOf x≠some .local→
 bindC kindOf (P.zip vs) m x=some v
 | [],_,_,_,_,h,_,_=>by simp at h
 | _::_,[],_,_,_,_,h,_=>by simp at h
 | p::P,w::vs,0,m,nd,h1,h2,hk=>by
  simp at h1 h2;subst h1;subst h2
  show bindC kindOf ((p,w)::P.zip vs) m p=_
  unfold bindC
  rw [wv fun v hv=>(List.nodup_cons.mp nd).1 (List.of_mem_zip hv).1,if_neg hk]
  simp
 | p::P,w::vs,i+1,m,nd,h1,h2,hk=>by
  show bindC kindOf ((p,w)::P.zip vs) m x=_
  unfold bindC
  exact qAh (i:=i) (List.nodup_cons.mp nd).2 (by simpa using h1) (by simpa using h2) hk
def start (N:List Str)(vs:List V):St:=vs.map some++List.replicate (N.length - vs.length) none
def qFd (CX:CXT)(P:Program)(w:World)(K:PySem.W.Frag)(mg:Str→Option Value)(base:Heap)(N:List Str)(qual:Str)(scope:Scope)(f:Addr)(cd:Value)(A:Around)(outer:List Env)(s:Shared)(H:Hp)(E:XK):Cx where
 prog:=P
 w:=w
 K:=K
 mg:=mg
 base:=base
 A:=A.deeper (envOfC qual scope s.heap.objs.size f cd)
 N:=N
 s₀:=s
 H₀:=H
 env:=envOfC qual scope s.heap.objs.size f cd
 outer:=outer
 stack:=envOfC qual scope s.heap.objs.size f cd::outer
 ex:=[]
 calm:=true
 fn:=fun _=>true
 pn:=[]
 xe:=fun e s'=>wpAny (model P w) (A.deeper (envOfC qual scope s.heap.objs.size f cd)) (leaving (envOfC qual scope s.heap.objs.size f cd) e) (fun _ s''=>CX outer H s E e s'') (fun e' s''=>CX outer H s E e' s'') s'
theorem qBx {sc:Scope}{n:Nat}{x:Str}(h:sc.names.lookup x=some .cell):∃ c,(cellsFrom n sc.names []).lookup x=some c:=by
 have q:=PySem.W.cellsFrom_some sc.names n [] (.inl h)
 exact Option.isSome_iff_exists.mp q
theorem qDs {CX:CXT}{P:Program}{w:World}{K:PySem.W.Frag}{mg:Str→Option Value}{base:Heap}{N ps:List Str}{qual:Str}{scope:Scope}{f:Addr}{cd:Value}{A:Around}{outer:List Env}{s s1:Shared}{H:Hp}{E:XK}{us:List Value}{vs:List V}
 (S:qS N ps scope) (hd:A.handled=none) (e0:qKc P w K mg base A outer s H) (hl:vs.length=ps.length) (r:Vals vs us)
 (x:InCallC s s.heap.objs.size (bindL (envOfC qual scope s.heap.objs.size f cd).kindOf (ps.zip us) fun _=>none) (cellsFrom (s.heap.objs.size+1) scope.names []) (bindC (envOfC qual scope s.heap.objs.size f cd).kindOf (ps.zip us) fun _=>none) s1):
 Inv (qFd CX P w K mg base N qual scope f cd A outer s H E) [] (start N vs) H s1:=by
 have hpl:ps.length≤N.length:=by have:=congrArg List.length S.pre;rw [List.length_take] at this;omega
 obtain⟨h1,tk,rfl,hk⟩:=x.done
 have noA:∀ b:Addr,b ∉ (qFd CX P w K mg base N qual scope f cd A outer s H E).ex:=fun b z=>absurd (show b∈([]:List Addr) from z) (by simp)
 refine⟨⟨e0.mod,S.kind,rfl,rfl,Nat.le_refl _,fun y z c h1 h2=>?_,fun y hy=>?_,fun y c _ h=>?_,fun _=>hd,Around.frames_deeper e0.frames,.inr ⟨rfl,rfl⟩,fun b z=>absurd z (noA b),e0.bs,e0.bsz,fun b _ _=>noA b,fun b z=>absurd z (noA b),e0.funs,e0.frf⟩,
  rfl,e0.bare,Un.kept hk,⟨_,x.toInCall.ns,fun i y v h1 h2 h3=>?_⟩,fun y c h=>⟨_,x.cell y c h⟩,e0.hok.fresh (Nat.le_refl _),fun y c h=>?_,fun p hp=>absurd (show p∈([]:List (Addr × Obj)) from hp) (by simp),e0.hok.kept hk,?_⟩
 · exact name_of_addr x.apart (PySem.mem_of_lookup h1) (PySem.mem_of_lookup h2)
 · have hy:scope.names.lookup y=some .cell∨scope.names.lookup y=some .free:=hy
   rcases hy with hy | hy
   · exact qBx hy
   · exact absurd rfl (S.nofree _ (PySem.mem_of_lookup hy))
 · exact Nat.le_of_lt (x.above y c (PySem.mem_of_lookup h))
 · have hi:i < vs.length:=by
    unfold start at h2
    by_cases hi:i < vs.length
    · exact hi
    · rw [List.getElem?_append_right (by simpa using hi)] at h2
      rw [List.getElem?_replicate] at h2
      split at h2 <;> cases h2
   have ha:vs[i]? =some v:=by
    unfold start at h2
    rw [List.getElem?_append_left (by simpa using hi),List.getElem?_map] at h2
    cases e:vs[i]? with
    | none=>rw [e] at h2;cases h2
    | some a=>rw [e] at h2;cases h2;rfl
   obtain⟨u,hu,rv⟩:=r.get ha
   have hp:ps[i]? =some y:=by
    rw [← S.pre,List.getElem?_take_of_lt (by omega)];exact h1
   have ndP:ps.Nodup:=by rw [← S.pre];exact S.nd.sublist (List.take_sublist _ _)
   refine⟨u,rv,?_⟩
   rcases S.par y (List.mem_of_getElem? hp) with k | k
   · exact .inl ⟨k,wY ndP hp hu k⟩
   · obtain⟨c,e⟩:=qBx (n:=s.heap.objs.size+1) k
     refine .inr ⟨.inl k,c,e,?_⟩
     have q:=x.cell y c e
     rw [qAh ndP hp hu (by show scope.names.lookup y≠_;rw [k];decide)] at q
     exact q
 · exact e0.hok.fresh (Nat.le_of_lt (x.above y c (PySem.mem_of_lookup h)))
 · unfold start
   show _=N.length
   rw [List.length_append,List.length_map,List.length_replicate]
   omega
theorem qJ6 {CX:CXT}{P:Program}{w:World}{K:PySem.W.Frag}{mg:Str→Option Value}{base:Heap}{k:Nat}{f:Addr}{name qual:Str}{params:Arguments}{body:List Stmt}{scope:Scope}{dV kV doc pm cdv ct oc:Value}{an od:Option Addr}
 {osl:Array (Option Value)} {N ps:List Str} {sp:Sp} (lk:K.lookup f=some ⟨oc,od,.func (PySem.W.fnOf name qual params body scope dV kV doc pm an cdv ct),osl⟩) (hcd:PySem.W.codeIn K cdv qual=true) (S:qS N ps scope)
 (len:∀ vs H Q E,sp vs H Q E→vs.length=ps.length)
 (hbody:∀ (A:Around) (outer:List Env) (s:Shared) (H:Hp) (vs:List V) (Q:VK) (E:XK),Room k (A.deeper (envOfC qual scope s.heap.objs.size f cdv))→sp vs H Q E→
   ∃ t,PSs (qFd CX P w K mg base N qual scope f cdv A outer s H E) body t∧t {nx:=fun _ H'=>Q .non H',rt:=Q} (start N vs) H):
 FnOk P w K mg base CX (k+1) f (PySem.W.fnOf name qual params body scope dV kV doc pm an cdv ct) ps sp:=by
 refine⟨len,fun A outer s H args us vs Q E hr e0 hb r hsp=>?_⟩
 have hl:=len _ _ _ _ hsp
 have KX:K.In s.heap:=e0.mod.kin.keeps fun b o e=>(e0.bs b o e).1
 have lim:s.heap.NoLimit:=e0.mod.nolimit.keeps fun b o e=>(e0.bs b o e).1
 have hkind:∀ y∈ps.zip us,scope.names.lookup y.1=some .local∨(scope.names.lookup y.1=some .cell∧((cellsFrom (s.heap.objs.size+1) scope.names []).lookup y.1).isSome=true):=fun⟨n,v⟩ hy=>by
  rcases S.par n (List.of_mem_zip hy).1 with q | q
  · exact .inl q
  · exact .inr ⟨q,PySem.W.cellsFrom_some _ _ _ (.inl q)⟩
 refine codeAny_call_function hr.depth (KX _ _ lk) rfl S.co S.gen rfl (PySem.W.codeRec_of KX hcd) (hb _ _ _ _ ?_)
 refine wpAny_newFunctionEnv_cells S.kind hkind fun env he s1 x=>?_
 subst he
 refine⟨lim.keeps x.toInCall.keep,codeAny_func ?_⟩
 obtain⟨t,ht,hq⟩:=hbody A outer s H vs Q E (hr.deeper _) hsp
 have I:Inv (qFd CX P w K mg base N qual scope f cdv A outer s H E) [] (start N vs) H s1:=qDs S hr.hd e0 hl r x
 refine wpAny_mono (ht [] s1 (start N vs) H _ I hq) (fun fl s' hs=>?_) fun e s' hs=>hs
 have fin:∀ {σ':St} {H':Hp} {v:V} {u:Value},Inv (qFd CX P w K mg base N qual scope f cdv A outer s H E) [] σ' H' s'→RelV v u→Q v H'→CE outer P w H s Q u s':=
  fun {σ' H' v u} J rv q=>⟨v,H',J.os,J.bare,J.base,J.hok,rv,q⟩
 cases fl with
 | ret u=>
  obtain⟨v,σ',H',J,rv,q⟩:=hs
  exact fin J rv q
 | next=>
  obtain⟨σ',H',J,q⟩:=hs
  exact fin (v:=V.non) (u:=Value.none) J rfl q
 | brk=>
  obtain⟨_,_,_,q⟩:=hs
  exact False.elim q
 | cont=>
  obtain⟨_,_,_,q⟩:=hs
  exact False.elim q
end L2
namespace L2
open PySem PySem.Spec PyProof.Rows
section
variable {X : Cx} {x : Str} {p pos : Pos} {e : Expr} {es : List Expr} {t : TA} {id T : String} {r : List V → Hp → VK → Prop}
def tCB (r:List V→Hp→VK→Prop)(t:TA):TE:=fun σ H Q=>t σ H fun vs H1=>r vs H1 Q
theorem qQ (hc:zu X (.builtin id) r)(hg:Gl X x)(hm:X.mg x=none)(hv:bootBuiltins x=some (.builtin id))(ha:PA X (e::es) t)(hn:x≠"__name__":=by decide)(hdb:(x == ("__debug__":Str))=false:=by decide)
 (he:starEach (e::es) X.env=(false,eval e X.env)::starEach es X.env:=by rfl) (hpl:(backTo pos (starEach es X.env)).any (·.1)=false:=by rfl):PE X (.Call (.Name x p) (e::es) [] pos) (tCB r t):=by
 intro pins s σ H Q I h
 refine wpAny_Call_Name_kw (kr I hg hm hv ?_ hn hdb)
 exact PyProof.Rows.callWith_builtin1 (thn (ha pos pins s σ H _ I h) fun us s1 ⟨vs,H1,I1,r1,q1⟩=>hc pins s1 σ H1 vs us Q I1 r1 q1) he hpl
theorem kY (hc:zu X (.type T) r)(hg:Gl X x)(hm:X.mg x=none)(hv:bootBuiltins x=some (.type T))(ha:PA X (e::es) t)(hn:x≠"__name__":=by decide)(hdb:(x == ("__debug__":Str))=false:=by decide)
 (he:starEach (e::es) X.env=(false,eval e X.env)::starEach es X.env:=by rfl) (hpl:(backTo pos (starEach es X.env)).any (·.1)=false:=by rfl):PE X (.Call (.Name x p) (e::es) [] pos) (tCB r t):=by
 intro pins s σ H Q I h
 refine wpAny_Call_Name_kw (kr I hg hm hv ?_ hn hdb)
 exact PyProof.Rows.callWith_type1 (thn (ha pos pins s σ H _ I h) fun us s1 ⟨vs,H1,I1,r1,q1⟩=>hc pins s1 σ H1 vs us Q I1 r1 q1) he hpl
end
end L2
namespace HT
open PySem PyProof.Rows
section
open PySem.SeqAt
open PySem.AutoSeq1 (wpAny_loadPart')
open PySem.MeetsSeq PySem.MeetsSeq2 PySem.MeetsSeq3
end
section
variable {prog : Program} {w : World} {A : Around} {E : Value → Shared → Prop} {s : Shared}
def sIx (n d:Nat):Option Int→Nat
 | none=>d
 | some v=>if v < 0 then (v+(n:Int)).toNat else min v.toNat n
end
end HT
namespace L2
open PySem PySem.Spec PyProof.Rows
abbrev TO:=St→Hp→(Option Int→Hp→Prop)→Prop
def PO (X:Cx)(e:Option Expr)(t:TO):Prop:=
 ∀ (pins:List (Addr × Obj)) (s:Shared) (σ:St) (H:Hp) (Q:Option Int→Hp→Prop),Inv X pins σ H s→t σ H Q→
  wpAny (model X.prog X.w) X.A (evalPart e X.env) (fun u s'=>∃ o H',Inv X pins σ H' s'∧IsPart u o∧Q o H') X.xe s
def qHm:TO:=fun _ H Q=>Q none H
inductive qJj (Q:Option Int→Hp→Prop)(x:V)(H1:Hp):Prop
| mk i (_:x= .int i) (_:Q (some i) H1)
def qK1 (t:TE):TO:=fun σ H Q=>t σ H fun x H1=>qJj Q x H1
section
variable {X : Cx} {e : Expr} {te : TE} {lo hi : Option Expr} {tl th : TO} {pos p2 : Pos}
theorem qHc:PO X none qHm:=by
 intro pins s σ H Q I h
 rw [evalPart_none]
 exact wpAny_pure ⟨none,H,I,.none,h⟩
theorem qIm (h:PE X e te):PO X (some e) (qK1 te):=by
 intro pins s σ H Q I hw
 rw [evalPart_some]
 refine thn (h pins s σ H _ I hw) fun u s1 ⟨x,H1,I1,r1,q1⟩=>?_
 obtain⟨i,rfl,q⟩:=q1
 obtain⟨t,rfl⟩:=r1
 exact⟨some i,H1,I1,.int i t,q⟩
def SlR (X:Cx)(r:V→Option Int→Option Int→Hp→VK→Prop):Prop:=
 ∀ (pins:List (Addr × Obj)) (s:Shared) (σ:St) (H:Hp) (x:V) (v vl vu:Value) (lo hi:Option Int) (sl:Addr) (Q:VK),Inv X pins σ H s→RelV x v→s.heap.IsSliceOf sl vl vu .none→IsPart vl lo→IsPart vu hi→r x lo hi H Q→
  ∃ T id,typeLookup (.type T) "__getitem__"=pure (some (.builtin id))∧s.TypeIs v T∧wpAny (model X.prog X.w) X.A (getItem v (.ref sl)) (EP X pins σ Q) X.xe s
def tSl (r:V→Option Int→Option Int→Hp→VK→Prop)(te:TE)(tl th:TO):TE:=fun σ H Q=>te σ H fun x H1=>tl σ H1 fun l H2=>th σ H2 fun u H3=>r x l u H3 Q
theorem qF8 {r:V→Option Int→Option Int→Hp→VK→Prop}(hr:SlR X r)(he:PE X e te)(hl:PO X lo tl)(hu:PO X hi th):PE X (.Subscript e (.Slice lo hi none p2) pos) (tSl r te tl th):=by
 intro pins s σ H Q I h
 refine Subscript_ (thn (he pins s σ H _ I h) fun v s1 ⟨x,H1,I1,r1,q1⟩=>?_)
 refine wpAny_Slice (thn (hl pins s1 σ H1 _ I1 q1) fun vl s2 ⟨l,H2,I2,pl,q2⟩=>thn (hu pins s2 σ H2 _ I2 q2) fun vu s3 ⟨u,H3,I3,pu,q3⟩=>?_)
 rw [evalPart_none]
 refine wpAny_pure ?_
 have I4:Inv X pins σ H3 {s3 with heap:=s3.heap.push {cls:=.type "slice",data:=.fields #[vl,vu,.none]}}:=I3.kept (t':=s3.toks) fun b ob q=>Heap.get?_push_of_some _ q
 obtain⟨T,id,hT,ht,hg⟩:=hr pins {s3 with heap:=s3.heap.push {cls:=.type "slice",data:=.fields #[vl,vu,.none]}} σ H3 x v vl vu l u s3.heap.objs.size Q I4 r1 (Heap.IsSliceOf.new ..) pl pu q3
 show wpAny (model X.prog X.w) X.A (subscriptTail e (.Slice lo hi none p2) v (.ref s3.heap.objs.size)) (EP X pins σ Q) X.xe {s3 with heap:=s3.heap.push {cls:=.type "slice",data:=.fields #[vl,vu,.none]}}
 exact tail_any (ops:=[.ref s3.heap.objs.size,v]) ht hT hg (by with_unfolding_all rfl)
def qKa (xs:List V)(lo hi:Option Int):List V:=(xs.drop (HT.sIx xs.length 0 lo)).take (HT.sIx xs.length xs.length hi - HT.sIx xs.length 0 lo)
theorem qAy (xs:List V)(lo hi:Option Int):(qKa xs lo hi).length≤xs.length:=by
 unfold qKa
 rw [List.length_take,List.length_drop]
 omega
end
end L2
namespace L2
open PySem PySem.Spec PyProof.Rows
def ixN (n:Nat)(i:Int):Option Nat:=if 0≤i then (if i < n then some i.toNat else none) else if -(n:Int)≤i then some (i+n).toNat else none
def atI {α:Type}(xs:List α)(i:Int):Option α:=(ixN xs.length i).bind fun j=>xs[j]?
theorem qH6 {n:Nat}{i:Int}{j:Nat}(h:ixN n i=some j):seqIndex? i n=some j∧j < n∧-(n:Int)≤i∧i < n:=by
 unfold ixN at h
 by_cases h0:0≤i
 · rw [if_pos h0] at h
   by_cases h1:i < n
   · rw [if_pos h1] at h
     have e:i.toNat=j:=Option.some.inj h
     exact⟨by rw [seqIndex_of h0 h1,e],by omega,by omega,h1⟩
   · rw [if_neg h1] at h;cases h
 · rw [if_neg h0] at h
   by_cases h1:-(n:Int)≤i
   · rw [if_pos h1] at h
     have e:(i+n).toNat=j:=Option.some.inj h
     exact⟨by rw [seqIndex_neg (by omega) h1,e],by omega,h1,by omega⟩
   · rw [if_neg h1] at h;cases h
theorem qA6 {α:Type}{xs:List α}{i:Int}{v:α}(h:atI xs i=some v):∃ j,seqIndex? i xs.length=some j∧xs[j]? =some v∧j < xs.length∧-(xs.length:Int)≤i∧i < xs.length:=by
 unfold atI at h
 cases e:ixN xs.length i with
 | none=>rw [e] at h;cases h
 | some j=>
  rw [e] at h
  obtain⟨h1,h2,h3,h4⟩:=qH6 e
  exact⟨j,h1,h,h2,h3,h4⟩
theorem qy {α:Type}{xs:List α}{j:Nat}{v:α}(h:xs[j]? =some v):atI xs (j:Int)=some v:=by
 have hj:j < xs.length:=(List.getElem?_eq_some_iff.mp h).1
 have e:ixN xs.length (j:Int)=some j:=by
  unfold ixN
  rw [if_pos (by omega),if_pos (by omega)];simp
 unfold atI;rw [e];exact h
def qIa (b:Expr):Prop:=∀ o i,subscripted b false o i=operate [o,i] (getItem o i)
def IxR (X:Cx)(r:R2):Prop:=
 ∀ (value slice:Expr) (pins:List (Addr × Obj)) (s:Shared) (σ:St) (H:Hp) (x y:V) (v u:Value) (Q:VK),Inv X pins σ H s→RelV x v→RelV y u→r x y H Q→
  subscripted slice false v u=operate [v,u] (getItem v u)→wpAny (model X.prog X.w) X.A (subscriptTail value slice v u) (EP X pins σ Q) X.xe s
def MtR (X:Cx)(id:String)(r:V→List V→Hp→VK→Prop):Prop:=
 ∀ (pins:List (Addr × Obj)) (s:Shared) (σ:St) (H:Hp) (x:V) (xs:List V) (v:Value) (us:List Value) (Q:VK),Inv X pins σ H s→RelV x v→Vals xs us→r x xs H Q→
  wpAny (model X.prog X.w) X.A (call (.builtin id) (v::us)) (EP X pins σ Q) X.xe s
section
variable {X : Cx} {a b : Expr} {ta tb : TE} {pos : Pos}
theorem jC {r:R2}(hr:IxR X r)(ha:PE X a ta)(hb:PE X b tb)(hs:qIa b):PE X (.Subscript a b pos) (tOp r ta tb):=by
 intro pins s σ H Q I h
 exact Subscript_ (qKy ha hb I h fun v u s2 x y H2 I2 rx ry q=>hr a b pins s2 σ H2 x y v u Q I2 rx ry q (hs _ _))
inductive qLg (K:PySem.W.Frag)(x:V)(y:V)(H:Hp)(Q:VK):Prop
| mk p xs i v (_:x= .ref p) (_:y= .int i) (_:SqL K H p xs) (_:atI xs i=some v) (_:Q v H)
inductive qIp (K:PySem.W.Frag)(x:V)(y:V)(H:Hp)(Q:VK):Prop
| mk p xs i v (_:x= .ref p) (_:y= .int i) (_:SqT K H p xs) (_:atI xs i=some v) (_:Q v H)
def qL0:R2:=fun x y H Q=>∃ z i c,x= .str z∧y= .int i∧z.length≤sizeLine∧atI z.cps.toList i=some c∧Q (.str ⟨#[c]⟩) H
theorem qi:IxR X (qLg X.K):=by
 intro value slice pins s σ H x y v u Q I rx ry h hs
 obtain⟨p,xs,i,z,rfl,rfl,hq,he,q⟩:=h
 cases rx
 obtain⟨t,rfl⟩:=ry
 obtain⟨its,r,pl,hz⟩:=I.list hq
 obtain⟨j,h1,h2,h3,h4,h5⟩:=qA6 he
 obtain⟨w,ew,rw'⟩:=r.get h2
 have hl:=r.length
 have hn:=qBp
 have fin:EP X pins σ Q w s:=⟨z,H,I,rw',q⟩
 by_cases h0:0≤i
 · have hj:i.toNat=j:=by
    rw [seqIndex_of h0 h5] at h1
    exact Option.some.inj h1
   exact item_listR pl.isList h0 (by omega) (by rw [hj];simpa using ew) fin hs
 · have hj:(i+(its.toArray.size:Int)).toNat=j:=by
    rw [seqIndex_neg (by omega) h4] at h1
    rw [List.size_toArray,← hl]
    exact Option.some.inj h1
   exact subscriptTail_builtinR (x:=w) pl.isList.typeIs slot_list_getitem.lookup
    (wpAny_getItem_list_neg (Q:=fun r s'=>r=w∧EP X pins σ Q r s') pl.isList (by omega) (by rw [List.size_toArray] <;> omega) (by omega) (by rw [hj];simpa using ew) ⟨rfl,fin⟩) hs
theorem vP:IxR X (qIp X.K):=by
 intro value slice pins s σ H x y v u Q I rx ry h hs
 obtain⟨p,xs,i,z,rfl,rfl,hq,he,q⟩:=h
 cases rx
 obtain⟨t,rfl⟩:=ry
 obtain⟨its,r,pl,hz⟩:=I.tuple hq
 obtain⟨j,h1,h2,h3,h4,h5⟩:=qA6 he
 obtain⟨w,ew,rw'⟩:=r.get h2
 have hl:=r.length
 have hn:=qBp
 have fin:EP X pins σ Q w s:=⟨z,H,I,rw',q⟩
 exact subscriptTail_builtinR (x:=w) pl.typeIs slot_tuple_getitem.lookup
  (getItem_tuple (j:=j) (Q:=fun r s'=>r=w∧EP X pins σ Q r s') pl (by omega) (by omega) (by rw [List.size_toArray,← hl];exact h1) (by simpa using ew) ⟨rfl,fin⟩) hs
theorem qJv:IxR X qL0:=by
 intro value slice pins s σ H x y v u Q I rx ry h hs
 obtain⟨z,i,c,rfl,rfl,hz,he,q⟩:=h
 obtain⟨t,rfl⟩:=rx
 obtain⟨t',rfl⟩:=ry
 obtain⟨j,h1,h2,h3,h4,h5⟩:=qA6 he
 have hl:z.cps.toList.length=z.length:=by simp [Str.length]
 rw [hl] at h1 h4 h5
 have hn:=qBp
 exact tail_any (typeIs_str s z t) slot_str_getitem.lookup (getItem_str (c:=c) (by
  have e1:decide (i < -(2 ^ 63:Int))=false:=decide_eq_false (by omega)
  have e2:decide (i ≥ 2 ^ 63)=false:=decide_eq_false (by omega)
  rw [e1,e2,Bool.or_false]) (by rw [h1];simpa using h2) ⟨.str ⟨#[c]⟩,H,I.tok _,⟨_,rfl⟩,q⟩) hs
theorem Inv.lst {pins:List (Addr × Obj)}{σ:St}{H:Hp}{s:Shared}{p:Addr}{xs:List V}(I:Inv X pins σ H s)(h:H p=some (.lst xs)):
 ∃ (its:List Value) (n:Nat),Vals xs its∧s.heap.get? p=some {cls:=.type "list",data:=.seq its.toArray n}∧xs.length≤sizeLine:=by
 obtain⟨z,its,n,r,e⟩:=I.hok p _ h
 exact⟨its,n,r,e,z⟩
theorem wz (lo hi:Option Int)(n:Nat):(sliceBounds lo hi none n).1=((HT.sIx n 0 lo:Nat):Int)∧(sliceBounds lo hi none n).2.1=((HT.sIx n n hi:Nat):Int)∧(sliceBounds lo hi none n).2.2=1:=by
 refine⟨?_,?_,rfl⟩
 · cases lo with
   | none=>simp [sliceBounds,HT.sIx]
   | some i=>
    simp only [sliceBounds,HT.sIx,Option.getD_none,show (1:Int) > 0 by decide,if_true]
    by_cases h:i < 0
    · simp only [h,if_true] <;> omega
    · simp only [h,if_false] <;> omega
 · cases hi with
   | none=>simp [sliceBounds,HT.sIx]
   | some i=>
    simp only [sliceBounds,HT.sIx,Option.getD_none,show (1:Int) > 0 by decide,if_true]
    by_cases h:i < 0
    · simp only [h,if_true] <;> omega
    · simp only [h,if_false] <;> omega
theorem wN (its:List Value)(lo hi:Option Int):slicePick its.toArray lo hi none=((its.drop (HT.sIx its.length 0 lo)).take (HT.sIx its.length its.length hi - HT.sIx its.length 0 lo)).toArray:=by
 obtain⟨h1,h2,h3⟩:=wz lo hi its.toArray.size
 unfold slicePick
 rw [h1,h2,h3]
 simp only [sliceRange_one,pick_run,List.size_toArray] <;> rfl
inductive qLs (K:PySem.W.Frag)(x:V)(lo:Option Int)(hi:Option Int)(H:Hp)(Q:VK):Prop
| mk a xs (_:x= .ref a) (_:SqL K H a xs) (_:∀ p,H p=none→Q (.ref p) (upd H p (.lst (qKa xs lo hi))))
theorem sl_list:SlR X (qLs X.K):=by
 intro pins s σ H x v vl vu lo hi sl Q I rx hs pl pu h
 obtain⟨a,xs,rfl,hx,q⟩:=h
 cases rx
 obtain⟨its,r,ht,hz⟩:=I.list hx
 have hlen:=r.length
 refine⟨"list",_,slot_list_getitem.lookup,ht.isList.typeIs,?_⟩
 refine wpAny_getItem_list_slice ht.isList hs pl pu .none (by simp) ?_ (by rw [List.size_toArray] <;> omega)
 rw [wN,← hlen]
 refine⟨.ref s.heap.objs.size,_,I.laid (t':=s.toks) (o:=.lst (qKa xs lo hi)) (fun b ob q=>Heap.get?_push_of_some _ q) (Nat.le_refl _) ?_,rfl,q _ (I.hok.fresh (Nat.le_refl _))⟩
 exact⟨Nat.le_trans (qAy xs lo hi) hz,_,0,(r.drop (HT.sIx xs.length 0 lo)).take (HT.sIx xs.length xs.length hi - HT.sIx xs.length 0 lo),Heap.get?_push_size _ rfl⟩
def wQ:V→Bool
 | .non=>true
 | .bl _=>true
 | .int _=>true
 | .str _=>true
 | _=>false
def eqV:V→V→Bool
 | .non,.non=>true
 | .bl a,.bl b=>a == b
 | .bl a,.int b=>(if a then 1 else 0) == b
 | .int a,.bl b=>a == (if b then 1 else 0)
 | .int a,.int b=>a == b
 | .str a,.str b=>a == b
 | _,_=>false
theorem qG2 {A:Around}{s:Shared}{y x:V}{u v:Value}(ry:RelV y u)(rx:RelV x v)(fy:wQ y=true)(fx:wQ x=true):SeqAt.EqAt A s u v (eqV y x):=by
 cases y with
 | non=>
  cases ry
  cases x with
  | non=>cases rx;exact SeqAt.EqAt.same _
  | bl b=>cases rx;exact SeqAt.EqAt.none_bool b
  | int b=>obtain⟨t,rfl⟩:=rx;exact SeqAt.EqAt.none_int b t
  | str b=>obtain⟨t,rfl⟩:=rx;exact SeqAt.EqAt.none_str b t
  | _=>exact absurd (show false=true from fx) Bool.false_ne_true
 | bl a=>
  cases ry
  cases x with
  | non=>cases rx;exact SeqAt.EqAt.bool_none a
  | bl b=>cases rx;exact SeqAt.EqAt.bool_bool a b
  | int b=>obtain⟨t,rfl⟩:=rx;exact SeqAt.EqAt.bool_int a b t
  | str b=>obtain⟨t,rfl⟩:=rx;exact SeqAt.EqAt.bool_str a b t
  | _=>exact absurd (show false=true from fx) Bool.false_ne_true
 | int a=>
  obtain⟨t',rfl⟩:=ry
  cases x with
  | non=>cases rx;exact SeqAt.EqAt.int_none a t'
  | bl b=>cases rx;exact SeqAt.EqAt.int_bool a t' b
  | int b=>obtain⟨t,rfl⟩:=rx;exact SeqAt.EqAt.int_int a t' b t
  | str b=>obtain⟨t,rfl⟩:=rx;exact SeqAt.EqAt.int_str a t' b t
  | _=>exact absurd (show false=true from fx) Bool.false_ne_true
 | str a=>
  obtain⟨t',rfl⟩:=ry
  cases x with
  | non=>cases rx;exact SeqAt.EqAt.str_none a t'
  | bl b=>cases rx;exact SeqAt.EqAt.str_bool a t' b
  | int b=>obtain⟨t,rfl⟩:=rx;exact SeqAt.EqAt.str_int a t' b t
  | str b=>obtain⟨t,rfl⟩:=rx;exact SeqAt.EqAt.str_str a t' b t
  | _=>exact absurd (show false=true from fx) Bool.false_ne_true
 | _=>exact absurd (show false=true from fy) Bool.false_ne_true
theorem qc:zu X (.builtin "len") (fun xs H Q=>∃ p ys,xs=[.ref p]∧(SqL X.K H p ys∨SqT X.K H p ys)∧Q (.int ys.length) H):=by
 intro pins s σ H xs us Q I r h
 obtain⟨p,ys,rfl,hq,q⟩:=h
 obtain⟨u,rfl,rx⟩:=qBl r
 cases rx
 have hn:=qBp
 rcases hq with hq | hq
 · obtain⟨its,r',pl,hz⟩:=I.list hq
   have hlen:=r'.length
   exact Calls.call_len_list pl.isList (by simp only [List.size_toArray] <;> omega) ⟨.int ys.length,H,I.tok _,⟨s.toks+1,by rw [List.size_toArray,hlen]⟩,q⟩
 · obtain⟨its,r',pl,hz⟩:=I.tuple hq
   have hlen:=r'.length
   exact len_tuple pl (by simp only [List.size_toArray] <;> omega) ⟨.int ys.length,H,I.tok _,⟨s.toks+1,by rw [List.size_toArray,hlen]⟩,q⟩
theorem vy:zu X (.type "tuple") (fun xs H Q=>∃ p ys,xs=[.ref p]∧((SqL X.K H p ys∧∀ l,H l=none→Q (.ref l) (upd H l (.tup ys)))∨(SqT X.K H p ys∧Q (.ref p) H))):=by
 intro pins s σ H xs us Q I r h
 obtain⟨p,ys,rfl,h⟩:=h
 obtain⟨u,rfl,rx⟩:=qBl r
 cases rx
 rcases h with ⟨hq,q⟩ | ⟨hq,q⟩
 · obtain⟨its,r',pl,hz⟩:=I.list hq
   have hlen:=r'.length
   refine call_tuple_list pl.isList (fun h' kp=>?_) (by simp only [List.size_toArray] <;> omega)
   have I1:Inv X pins σ H {s with heap:=h'}:=I.kept (t':=s.toks) kp
   have I2:Inv X pins σ (upd H h'.objs.size (.tup ys)) {s with heap:=h'.push {cls:=.type "tuple",data:=.seq its.toArray}}:=
    I1.laid (t':=s.toks) (fun b o e=>Heap.get?_push_of_some _ e) (Nat.le_refl _) (show ObjOk X.prog X.w _ _ _ (.tup ys) from ⟨hz,its,r',IsTup.new _ _⟩)
   exact⟨.ref h'.objs.size,_,I2,rfl,q _ (I1.hok.fresh (Nat.le_refl _))⟩
 · obtain⟨its,r',pl,hz⟩:=I.tuple hq
   exact call_tuple_same pl ⟨.ref p,H,I,rfl,q⟩
def tyV (K:PySem.W.Frag)(T:String)(x:V)(H:Hp):Prop:=match x with
 | .str _=>T="str"
 | .int _=>T="int"
 | .ref p=>(T="list"∧∃ xs,SqL K H p xs)∨(T="tuple"∧∃ o,K.lookup p=some o∧o.cls= .type "tuple"∧o.dict=none)∨
  (T="dict"∧((∃ kvs,H p=some (.dK kvs))∨∃ kvs,H p=some (.dT kvs)))∨(T="set"∧∃ S n,H p=some (.set S n))
 | _=>False
theorem qJy {pins:List (Addr × Obj)}{σ:St}{H:Hp}{s:Shared}{T:String}{x:V}{v:Value}(I:Inv X pins σ H s)(r:RelV x v)(ty:tyV X.K T x H):
 s.TypeIs v T∧∀ a,v= .ref a→∃ ob,s.heap.get? a=some ob∧ob.dict=none:=by
 cases x with
 | str z=>
  obtain⟨t,rfl⟩:=r
  cases (show T="str" from ty)
  exact⟨typeIs_str s z t,fun _ e=>nomatch e⟩
 | int i=>
  obtain⟨t,rfl⟩:=r
  cases (show T="int" from ty)
  exact⟨typeIs_int s i t,fun _ e=>nomatch e⟩
 | ref p=>
  cases r
  rcases ty with ⟨rfl,xs,hq⟩ | ⟨rfl,o,hk,hc,hd⟩ | ⟨rfl,hk⟩ | ⟨rfl,S,n,hk⟩
  · obtain⟨its,_,pl,_⟩:=I.list hq
    refine⟨pl.isList.typeIs,fun a e=>?_⟩
    cases e
    obtain⟨o,n,e,c,hd,_⟩:=pl
    exact⟨o,e,hd⟩
  · refine⟨⟨o,I.kIn p o hk,hc⟩,fun a e=>?_⟩
    cases e
    exact⟨o,I.kIn _ o hk,hd⟩
  · have z:∃ o,s.heap.get? p=some o∧o.ExactDict:=by
     rcases hk with ⟨kvs,hk⟩ | ⟨kvs,hk⟩
     · obtain⟨_,_,_,_,o,_,_,e,ex,_⟩:=I.hok p _ hk
       exact⟨o,e,ex⟩
     · obtain⟨_,_,_,_,o,_,_,e,ex,_⟩:=I.hok p _ hk
       exact⟨o,e,ex⟩
    obtain⟨o,e,ex⟩:=z
    refine⟨⟨o,e,ex.1⟩,fun a e2=>?_⟩
    cases e2
    exact⟨o,e,ex.2.1⟩
  · obtain⟨o,_,_,_,e,ex,_⟩:=I.hok p _ hk
    refine⟨⟨o,e,ex.1⟩,fun a e2=>?_⟩
    cases e2
    exact⟨o,e,ex.2.1⟩
 | _=>exact False.elim ty
def tBM (K:PySem.W.Frag)(T:String)(r:V→List V→Hp→VK→Prop)(to:TE)(t:TA):TE:=fun σ H Q=>to σ H fun x H1=>tyV K T x H1∧t σ H1 fun xs H2=>r x xs H2 Q
variable {o e : Expr} {es : List Expr} {to : TE} {t : TA} {name : Str} {apos cpos : Pos} {T id : String} {r : V → List V → Hp → VK → Prop}
theorem wH (pa:PlainAttrs T)(slot:Slot T name id)(hty:typeOf (.builtin id)=pure (.type "method_descriptor"))(hm:MtR X id r)(ho:PE X o to)(ha:PA X (e::es) t)
 (hbase:attributeBase o name X.env (eval o X.env)=eval o X.env:=by rfl)
 (hfew:((backTo cpos (starEach (e::es) X.env)).all (fun x=>!x.1) && (backToKw cpos (keywordEach [] X.env)).all (fun x=>x.1.isSome)
   && decide ((e::es).length+([]:List Keyword).length+(if ([]:List Keyword).isEmpty then 0 else 1) < 30))=true:=by rfl)
 (hline:(apos.endLine == cpos.line)=true:=by rfl) (hs:starEach (e::es) X.env=(false,eval e X.env)::starEach es X.env:=by rfl) (hplain:(backTo cpos (starEach es X.env)).any (·.1)=false:=by rfl):
 PE X (.Call (.Attribute o name apos) (e::es) [] cpos) (tBM X.K T r to t):=by
 intro pins s σ H Q I h
 refine wpAny_Call_method_late hbase hfew hline rfl (thn (ho pins s σ H _ I h) fun v s1 ⟨x,H1,I1,r1,ty,q1⟩=>?_)
 obtain⟨h1,h2⟩:=qJy I1 r1 ty
 refine⟨T,id,pa,slot,hty,h1,h2,?_⟩
 have hA:=ha cpos pins s1 σ H1 _ I1 q1
 rw [hs] at hA ⊢
 refine Calls.callWith_builtin (by show (false || (backTo cpos (starEach es X.env)).any (·.1))=false;rw [hplain] <;> rfl) (Calls.evalArgs_plain ?_)
 exact thn hA fun us s2 ⟨vs,H2,I2,r2,q2⟩=>hm pins s2 σ H2 x vs v us Q I2 r1 r2 q2
end
end L2
namespace L2
open PySem PySem.Spec PyProof.Rows
def MtM (X:Cx)(id:String)(r:V→List V→Hp→VK→Prop):Prop:=
 ∀ (pins:List (Addr × Obj)) (s:Shared) (σ:St) (H:Hp) (x:V) (xs:List V) (v:Value) (us:List Value) (Q:VK),Inv X pins σ H s→RelV x v→Vals xs us→r x xs H Q→
  wpAny (model X.prog X.w) X.A (call (.builtin id) (v::us)) (EP X pins σ Q) X.xe s
theorem Vals.one:∀ {x:V} {us:List Value},Vals [x] us→∃ u,us=[u]∧RelV x u
 | _,_,.cons r .nil=>⟨_,rfl,r⟩
theorem Vals.two:∀ {x y:V} {us:List Value},Vals [x,y] us→∃ u v,us=[u,v]∧RelV x u∧RelV y v
 | _,_,_,.cons r (.cons q .nil)=>⟨_,_,rfl,r,q⟩
theorem Vals.dropLast {xs:List V}{us:List Value}(h:Vals xs us):Vals xs.dropLast us.dropLast:=by
 induction h with
 | nil=>exact .nil
 | cons r t ih=>
  cases t with
  | nil=>exact .nil
  | cons q t'=>exact .cons r ih
section
variable {X : Cx} {pins : List (Addr × Obj)} {σ : St} {H : Hp} {s : Shared} {l b : Addr} {xs ys zs : List V}
theorem Inv.lset {its its':List Value}{n:Nat}{f:Array Value→Array Value}{t':Nat}(I:Inv X pins σ H s)(hH:H l=some (.lst xs))
 (e:s.heap.get? l=some {cls:=.type "list",data:=.seq its.toArray n}) (hf:f its.toArray=its'.toArray) (hv:Vals ys its') (hz:ys.length≤sizeLine):
 Inv X pins σ (upd H l (.lst ys)) {s with heap:=s.heap.update l (Obj.mapSeq f),toks:=t'}:=by
 have q:=PySem.IsL.update e f
 rw [hf] at q
 refine I.write (x:=l) (e:=l) (by rw [hH];exact trivial) (.inl rfl) (fun b' u hb hu=>(Heap.get?_update_other s.heap (Obj.mapSeq f) (Ne.symm hb)).trans hu) ⟨_,q⟩ ?_
 exact⟨hz,its',_,hv,q⟩
theorem Inv.lstM (I:Inv X pins σ H s)(hH:H l=some (.lst xs)):xs.length≤sizeLine∧∃ (its:List Value) (n:Nat),Vals xs its∧xs.length=its.length∧s.heap.get? l=some {cls:=.type "list",data:=.seq its.toArray n}:=by
 obtain⟨z,its,n,r,e⟩:=I.hok l _ hH
 exact⟨z,its,n,r,r.length,e⟩
end
section
variable {X : Cx}
inductive qHz (x:V)(vs:List V)(H:Hp)(Q:VK):Prop
| mk l xs y (_:x= .ref l) (_:vs=[y]) (_:H l=some (.lst xs)) (_:xs.length < sizeLine) (_:Q .non (upd H l (.lst (xs++[y]))))
theorem jp:MtM X "list.append" qHz:=by
 intro pins s σ H x vs v us Q I rx rv h
 obtain⟨l,xs,y,rfl,rfl,hH,hz,q⟩:=h
 cases rx
 obtain⟨u,rfl,ru⟩:=rv.one
 obtain⟨z,its,n,r,hl,e⟩:=I.lstM hH
 refine call_meets F.slot_list_append ⟨_,e,rfl⟩ F.entry_list_append (F.args_list_append_2 _ _) (PySem.list_append l its.toArray n u (by rw [List.size_toArray];omega)) ⟨e,?_⟩
 refine⟨.non,_,I.lset (its':=its++[u]) hH e (by simp) (r.append (.cons ru .nil)) ?_,rfl,q⟩
 rw [List.length_append,List.length_singleton]
 omega
end
section
variable {prog : Program} {w : World} {A : Around} {E : Value → Shared → Prop} {s : Shared}
end
section
variable {X : Cx}
end
end L2
namespace Att
open PySem PySem.W PySem.Calls PyProof.Rows
theorem kL {P:Params}{h:Heap}:∀ (ns:List Int) (vs:List Value),WellAll P h vs (ns.map WData.int)→IntsAre vs ns:=by
 intro ns
 induction ns with
 | nil=>
  intro vs w
  rw [List.map_nil] at w
  cases w
  exact .nil
 | cons n ns ih=>
  intro vs w
  rw [List.map_cons] at w
  cases w with
  | cons a b=>
   cases a
   exact .cons _ _ (ih _ b)
theorem qEs {l:OpenLaw}{n:Nat}(hn:l.most=some n){P:Params}{h:Heap}{args:List WData}{vals:List Value}
 (hpre:l.row.toRowW.claim.pre args=true) (hwl:WellAll P h vals args):
 ∃ a vs ns,vals=[Value.ref a]∧args=[WData.list (ns.map WData.int)]∧h.get? a=some {cls:=.type "list",data:=.seq vs.toArray}∧IntsAre vs ns∧ns.length≤n:=by
 have hsh:WShape.hasAll [] args [.list .int]=true:=(pre_splitW hpre).1
 have hc:l.pre.holds [] {args:=args}=true:=(pre_splitW hpre).2
 obtain⟨d,r,rfl,h1,h2⟩:=hasAllW_cons hsh
 obtain rfl:=hasAllW_nil h2
 obtain⟨xs,rfl,h3⟩:=hasW_list h1
 obtain⟨ns,rfl⟩:=items_int h3
 have hlen:ns.length≤n:=by
  unfold OpenLaw.pre at hc
  have h4:(WTm.not (.lt (.lit (.int (n:Int))) (.len (.arg 0)))).holds [] {args:=[.list (ns.map .int)]}=true:=by
   have h4:=(holds_andW hc).1
   rw [hn] at h4
   exact h4
  have h5:=condW_of h4 (w_not (w_lt w_lit (w_len_list (w_arg rfl))))
  rw [List.length_map] at h5
  refine Nat.le_of_not_lt fun q=>?_
  have q':(n:Int) < ((ns.length:Nat):Int):=by omega
  first
   | (rw [decide_eq_true q'] at h5;exact absurd h5 (by decide))
   | (simp at h5;omega)
 cases hwl with
 | cons w1 w2=>
  cases w2
  cases w1 with
  | list ho hall=>exact⟨_,_,ns,rfl,rfl,ho,kL ns _ hall,hlen⟩
theorem qD2 (l:OpenLaw)(args:List WData):l.row.toRowW.claim.post args (.bool true) args=true:=
 postW_of (r:=l.row.toRowW) (X:=(true == true))
  (show WShape.has [] (.bool true) .bool=true by first | rfl | decide | simp [WShape.has,WShape.arms,WShape.armsAll])
  (show (WTm.eq .res (.lit (.bool true))).value [] {args:=args,res:=some (.bool true),after:=args}=some (.bool (true == true)) from w_eq_bool (w_res rfl) w_lit) rfl
theorem attach_call {l:OpenLaw}{n:Nat}{q:Program}{loose:List Str}{XP:(Str→Option Value)→Heap→Prop}{YP:World→Heap→Prop}{d:DefRec}
 (hn:l.most=some n) (hdf:d.params.defaults=[])
 (call:∀ (w:World) (s₀ s₁:Shared) (mg mb:Str→Option Value) (fa:Addr) (o:Obj) (pm cd doc:Value) (a:Addr) (vs:List Value) (ns:List Int),
   Ground q loose [] XP w s₀ mg mb s₁.heap→YP w s₁.heap→
   s₁.heap.get? fa=some o→o.data= .func (docDef d.name d.params d.body d.scope pm cd doc)→s₁.heap.CodeRec cd d.name→mg d.name=some (.ref fa)→
   s₁.heap.get? a=some {cls:=.type "list",data:=.seq vs.toArray}→IntsAre vs ns→ns.length≤n→s₁.gens=#[]→
   codeAny (model l.prog w) callerA (.call (.ref fa) ⟨[.ref a],[]⟩) (fun r s'=>r= .ok (.ret (.bool true))∧OldK s₁.heap s'.heap∧s'.os=s₁.os∧AllBare s'.gens) s₁):
 WalkO q loose XP YP l.row.toRowW d [] (fun f vs=>PySem.call f vs):=by
 intro w s₀ s₁ mg mb G Y fa o pm cd doc dV kV ho hd hcd hD hmg hg args vals as hpre hlay hrd hwl hlo
 obtain rfl:dV= .none:=Dflts.none hD hdf
 obtain rfl:kV= .none:=Dflts.noKw hD
 obtain⟨a,vs,ns,rfl,rfl,hobj,hints,hlen⟩:=qEs hn hpre hwl
 refine enter_call (codeAny_mono (call w s₀ s₁ mg mb fa o pm cd doc a vs ns G Y ho (fd_plain hd) hcd hmg hobj hints hlen hg) fun r s' hq=>?_)
 obtain⟨rfl,h2,h3,h4⟩:=hq
 exact⟨.inl ⟨.bool true,.bool true,[],rfl,fun _=>rfl,.bool true,qD2 l _,fun _=>⟨List.Pairwise.nil,fun _ hm=>(nomatch hm)⟩⟩,h2,h3,h4⟩
section
variable {prog : Program} {w : World} {A : Around} {E : Value → Shared → Prop} {s : Shared} {K : Frag}
def ledger (h:Heap)(L d:Addr):List (Addr × Obj):=(List.range h.objs.size).filterMap fun a=>if a=L∨a=d then none else (h.get? a).map fun o=>(a,o)
end
end Att
namespace L2
open PySem PySem.Spec PyProof.Rows
theorem wX:∀ {vs:List Value} {ns:List Int},IntsAre vs ns→Vals (ns.map V.int) vs
 | _,_,.nil=>.nil
 | _,_,.cons n t h=>.cons ⟨t,rfl⟩ (wX h)
def qKz (H:Hp):Prop:=∀ b,H b=none∨∃ o xs,H b=some (.frz o (.lst xs))
theorem qGm {P:Program}{w:World}{K:PySem.W.Frag}{mg mb:Str→Option Value}{CX:CXT}{k:Nat}{fa a:Addr}{fd:FuncData}{x:Str}{sp:Sp}{s₁:Shared}{vs:List Value}{ns:List Int}
 (KX:K.In s₁.heap) (hns:s₁.heap.Ns mainGlobals mg) (hb:s₁.heap.Ns builtinsNs mb) (hbb:∀ x:Str,x≠"__name__"→mb x=bootBuiltins x) (hlim:s₁.heap.NoLimit) (hg:s₁.gens=#[])
 (ha:s₁.heap.get? a=some {cls:=.type "list",data:=.seq vs.toArray}) (hi:IntsAre vs ns) (hl:ns.length≤sizeLine) (hr:Room k callerA)
 (F:∀ base:Heap,K.In base→base.Ns mainGlobals mg→FnOk P w K mg base CX k fa fd [x] sp) (hbind:∀ (s:Shared) (u:Value),BindsTo s fd ⟨[u],[]⟩ [(x,u)])
 (hsp:∀ H:Hp,qKz H→SqL K H a (ns.map V.int)→sp [.ref a] H (fun v _=>v= .bl true) fun _ _ _=>False)
 (hCX:∀ H e s',CX [] H s₁ (fun _ _ _=>False) e s'→False):
 codeAny (model P w) callerA (.call (.ref fa) ⟨[.ref a],[]⟩) (fun r s'=>r= .ok (.ret (.bool true))∧OldK s₁.heap s'.heap∧s'.os=s₁.os∧AllBare s'.gens) s₁:=by
 have rv:=wX hi
 have lenV:=hi.length
 have core:∀ H:Hp,qKz H→SqL K H a (ns.map V.int)→HOk P w H s₁.heap→(∀ b,H b≠none→b=a)→(H a≠none→K.lookup a=none)→
  codeAny (model P w) callerA (.call (.ref fa) ⟨[.ref a],[]⟩) (fun r s'=>r= .ok (.ret (.bool true))∧OldK s₁.heap s'.heap∧s'.os=s₁.os∧AllBare s'.gens) s₁:=by
  intro H hO hS hok hA hK
  have base_of:∀ {b:Addr} {o:Obj},s₁.heap.get? b=some o→H b=none→(qF1 s₁.heap H).get? b=some o:=fun e n=>qF7 e n
  have noA:∀ {b:Addr} {o:Obj} {es:Array DictEntry} {ep:Nat},s₁.heap.get? b=some o→o.data= .dict es ep→H b=none:=fun {b o es ep} e d=>by
   cases q:H b with
   | none=>rfl
   | some u=>
    have e':b=a:=hA b (by rw [q];simp)
    subst e'
    rw [ha] at e;cases e
    have d':Data.seq vs.toArray _=Data.dict es ep:=d
    cases d'
  have nsK:∀ {b:Addr} {m:Str→Option Value},s₁.heap.Ns b m→(qF1 s₁.heap H).Ns b m:=fun {b m} ⟨o,es,ep,e,d,r⟩=>⟨o,es,ep,base_of e (noA e d),d,r⟩
  have hKb:K.In (qF1 s₁.heap H):=fun b o e=>base_of (KX b o e) (by
   cases q:H b with
   | none=>rfl
   | some u=>
    have e':b=a:=hA b (by rw [q];simp)
    subst e'
    rw [hK (by rw [q];simp)] at e;cases e)
  have hM:Mod K mg (qF1 s₁.heap H):=⟨hKb,nsK hns,⟨mb,nsK hb,hbb⟩,let ⟨mc,h1,h2⟩:=hlim;⟨mc,nsK h1,h2⟩⟩
  have e0:qKc P w K mg (qF1 s₁.heap H) callerA [] s₁ H:=⟨rfl,hM,fun b o e=>qHx e,Nat.le_of_eq (qDk _ _),trivial,fun b hb=>absurd (show b∈([]:List Addr) from hb) (by simp),hok,.of_eq hg⟩
  refine codeAny_mono ((F _ hKb (nsK hns)).run callerA [] s₁ H ⟨[.ref a],[]⟩ [.ref a] [.ref a] _ _ hr e0 (hbind s₁ (.ref a)) (.cons rfl .nil) (hsp H hO hS)) fun r s' h=>?_
  cases r with
  | error e=>exact(hCX H e s' h).elim
  | ok fl=>
   cases fl with
   | next=>exact False.elim h
   | brk=>exact False.elim h
   | cont=>exact False.elim h
   | ret u=>
    obtain⟨v,H',os,bare,un,hok',r',q⟩:=h
    have q':v= .bl true:=q
    subst q'
    obtain rfl:u=Value.bool true:=r'
    refine⟨rfl,OldK.of_keep fun b o e=>?_,os,bare⟩
    cases q:H b with
    | none=>exact un.keep b o e q (by intro z;exact absurd (show b∈([]:List Addr) from z) (by simp)) (by simp)
    | some u=>
     rcases hO b with z | ⟨ob,xs,z⟩
     · rw [q] at z;cases z
     · have z2:=un.frzs b ob _ z
       obtain⟨e1,_⟩:=hok b _ z
       obtain⟨e2,_⟩:=hok' b _ z2
       rw [e] at e1;cases e1
       exact e2
 cases hk:K.lookup a with
 | some o=>
  have e:=KX a o hk
  rw [ha] at e
  cases e
  refine core (fun _=>none) (fun _=>.inl rfl) (.inr ⟨_,vs.toArray,_,hk,rfl,rfl,rfl,by rw [List.size_toArray,lenV];exact hl,by simpa using rv⟩) (fun b u z=>by have z':(none:Option HO)=some u:=z;cases z') (fun b z=>absurd rfl z) fun z=>absurd rfl z
 | none=>
  refine core (fun b=>if b=a then some (.frz {cls:=.type "list",data:=.seq vs.toArray} (.lst (ns.map V.int))) else none) (fun b=>?_) (.inl (.inr ⟨{cls:=.type "list",data:=.seq vs.toArray},if_pos rfl⟩)) (fun b u z=>?_) (fun b z=>?_) fun _=>hk
  · by_cases hb:b=a
    · exact .inr ⟨_,_,if_pos hb⟩
    · exact .inl (if_neg hb)
  · by_cases hb:b=a
    · have z':=(if_pos hb).symm.trans z
      cases z'
      subst hb
      exact⟨ha,by rw [List.length_map];exact hl,vs,_,rv,ha⟩
    · have z':=(if_neg hb).symm.trans z
      cases z'
  · by_cases hb:b=a
    · exact hb
    · exact absurd (if_neg hb) z
end L2
namespace L2
open PySem PySem.Spec PyProof.Rows
theorem walk_of {l:PySem.W.OpenLaw}{n k:Nat}{q:Program}{loose:List Str}{XP:(Str→Option Value)→Heap→Prop}{YP:World→Heap→Prop}{d:DefRec}{K:Params→PySem.W.Frag}{CX:World→CXT}{sp:World→Sp}{x:Str}
 (hn:l.most=some n) (hn2:n≤sizeLine) (hdf:d.params.defaults=[]) (hr:Room k callerA)
 (hY:∀ (w:World) (h:Heap),YP w h→(K w.params).In h)
 (F:∀ (w:World) (mg:Str→Option Value) (fa:Addr) (h:Heap),(K w.params).In h→h.Ns mainGlobals mg→mg d.name=some (.ref fa)→
   ∃ fd:FuncData,(∀ (s:Shared) (u:Value),BindsTo s fd ⟨[u],[]⟩ [(x,u)])∧
    ∀ base:Heap,(K w.params).In base→base.Ns mainGlobals mg→FnOk l.prog w (K w.params) mg base (CX w) k fa fd [x] (sp w))
 (hsp:∀ (w:World) (H:Hp) (a:Addr) (ns:List Int),ns.length≤n→qKz H→SqL (K w.params) H a (ns.map V.int)→sp w [.ref a] H (fun v _=>v= .bl true) fun _ _ _=>False)
 (hCX:∀ (w:World) (H:Hp) (s:Shared) (e:Value) (s':Shared),CX w [] H s (fun _ _ _=>False) e s'→False):
 PySem.W.WalkO q loose XP YP l.row.toRowW d [] (fun f vs=>PySem.call f vs):=by
 refine Att.attach_call hn hdf fun w s₀ s₁ mg mb fa o pm cd doc a vs ns G Y ho hd hcd hmg hobj hints hlen hg=>?_
 have KX:=hY w _ Y
 obtain⟨fd,hb,hF⟩:=F w mg fa _ KX G.T.g hmg
 exact qGm KX G.T.g G.T.b G.T.builtins G.T.nolimit hg hobj hints (Nat.le_trans hlen hn2) hr hF hb (fun H hO hS=>hsp w H a ns hlen hO hS) fun H e s'=>hCX w H s₁ e s'
end L2
namespace L2
open PySem PySem.Spec PyProof.Rows
def qIg (s:Stmt)(j:Nat):Stmt:=match s with
 | .ClassDef _ _ _ body _ _ _ _ _ _ _=>body.getD j (.Pass ⟨0,0,0,0⟩)
 | _=>.Pass ⟨0,0,0,0⟩
def xJ (s:Stmt):Arguments:=match s with
 | .FunctionDef _ a _ _ _ _ _ _ _ _=>a
 | _=>{posonlyargs:=[],args:=[],vararg:=none,kwonlyargs:=[],kw_defaults:=[],kwarg:=none,defaults:=[]}
def ju (s:Stmt):List Stmt:=match s with
 | .FunctionDef _ _ b _ _ _ _ _ _ _=>b
 | _=>[]
def qH (s:Stmt):Scope:=match s with
 | .FunctionDef _ _ _ _ _ _ sc _ _ _=>sc
 | _=>{kind:=.function,names:=[],isGenerator:=false,isCoroutine:=false}
abbrev CX0:CXT:=fun _ _ _ _ _ _=>False
abbrev E0:XK:=fun _ _ _=>False
theorem qK6 {X:Cx}:qCm CX0 X E0:=fun _ _ _ _ _ _ _ h=>h.elim
structure Fun (K:PySem.W.Frag)(x qual:Str)(st:Stmt)(f:Addr)(fd:FuncData):Prop where
 ex:∃ (oc:Value) (od:Option Addr) (kV doc pm:Value) (an:Option Addr) (cdv ct:Value) (osl:Array (Option Value)),
  fd=PySem.W.fnOf x qual (xJ st) (ju st) (qH st) .none kV doc pm an cdv ct∧K.lookup f=some ⟨oc,od,.func fd,osl⟩∧PySem.W.codeIn K cdv qual=true
 kp:PySem.W.keepIn K (.ref f)=true
section
variable {P : Program} {w : World} {K : PySem.W.Frag} {mg : Str → Option Value} {base : Heap}
theorem Fun.ok {x qual:Str}{st:Stmt}{f:Addr}{fd:FuncData}{N ps:List Str}{k:Nat}{sp:Sp}(F:Fun K x qual st f fd)(S:qS N ps (qH st))(len:∀ vs H Q E,sp vs H Q E→vs.length=ps.length)
 (hbody:∀ (cdv:Value) (A:Around) (outer:List Env) (s:Shared) (H:Hp) (vs:List V) (Q:VK) (E:XK),Room k (A.deeper (envOfC qual (qH st) s.heap.objs.size f cdv))→sp vs H Q E→
   ∃ t,PSs (qFd CX0 P w K mg base N qual (qH st) f cdv A outer s H E).nox (ju st) t∧t {nx:=fun _ H'=>Q .non H',rt:=Q} (start N vs) H):FnOk P w K mg base CX0 (k+1) f fd ps sp:=by
 obtain⟨oc,od,kV,doc,pm,an,cdv,ct,osl,rfl,lk,hcd⟩:=F.ex
 refine qJ6 lk hcd S len fun A outer s H vs Q E hr hsp=>?_
 obtain⟨t,h,q⟩:=hbody cdv A outer s H vs Q E hr hsp
 exact⟨t,h.nox,q⟩
theorem Fun.binds {x qual:Str}{st:Stmt}{f:Addr}{fd:FuncData}{ps:List Str}(F:Fun K x qual st f fd)
 (h:∀ (kV doc pm:Value) (an:Option Addr) (cdv ct:Value) (us:List Value),us.length=ps.length→bindArgs (PySem.W.fnOf x qual (xJ st) (ju st) (qH st) .none kV doc pm an cdv ct) ⟨us,[]⟩=pure (ps.zip us)):Binds K fd ps []:=by
 obtain⟨oc,od,kV,doc,pm,an,cdv,ct,osl,rfl,lk,hcd⟩:=F.ex
 exact .all (h kV doc pm an cdv ct)
theorem qG0 {x qual:Str}{st:Stmt}{f:Addr}{oc:Value}{od an:Option Addr}{osl:Array (Option Value)}{kV doc pm cdv ct:Value}(l:K.lookup f=some ⟨oc,od,.func (PySem.W.fnOf x qual (xJ st) (ju st) (qH st) .none kV doc pm an cdv ct),osl⟩)
 (c:PySem.W.codeIn K cdv qual=true) (k:PySem.W.keepIn K (.ref f)=true):Fun K x qual st f (PySem.W.fnOf x qual (xJ st) (ju st) (qH st) .none kV doc pm an cdv ct):=⟨⟨oc,od,kV,doc,pm,an,cdv,ct,osl,rfl,l,c⟩,k⟩
end
theorem qCq {A:Around}{k:Nat}(hr:Room k A):A.units+1 < cLine:=Nat.lt_of_le_of_lt (Nat.add_le_add_left (by decide:1≤64) _) hr.units
theorem qf {n:Nat}(h:n≤1000):n < sizeLine:=Nat.lt_of_le_of_lt h (by decide)
section
variable {X : Cx}
theorem pv (i:Nat){x:Str}{pos:Pos}(hN:X.N[i]? =some x:=by rfl)(hv:Vis X.env.scope x:=by first | exact Or.inl rfl | exact Or.inr (Or.inl rfl) | exact Or.inr (Or.inr rfl))(hd:(x == ("__debug__":Str))=false:=by decide)
 (hcd:(x == ("__classdict__":Str))=false:=by decide):PE X (.Name x pos) (qKb i):=qJa hN hv hd hcd
end
theorem qCv {A B:Prop}(h:B):if false=true then A else B:=by
 rw [if_neg Bool.false_ne_true]
 exact h
theorem qDi {A B:Prop}(h:A):if true=true then A else B:=by
 rw [if_pos rfl]
 exact h
theorem xI {c A B:Prop} [Decidable c] (h1:c→A)(h2:¬ c→B):if c then A else B:=by
 by_cases h:c
 · rw [if_pos h]
   exact h1 h
 · rw [if_neg h]
   exact h2 h
theorem qH9 {c A B:Prop} [Decidable c] (hc:c)(h:B):if (!decide c)=true then A else B:=by
 rw [decide_eq_true hc]
 exact qCv h
def Same (H H':Hp):Prop:=∀ b o,H b=some o→H' b=some o
theorem Same.refl (H:Hp):Same H H:=fun _ _ h=>h
theorem Same.trans {H H1 H2:Hp}(a:Same H H1)(b:Same H1 H2):Same H H2:=fun c o h=>b c o (a c o h)
theorem Same.free {H H':Hp}(e:Same H H'){l:Addr}(h:H' l=Option.none):H l=Option.none:=by
 cases q:H l with
 | none=>rfl
 | some o=>
  rw [e l o q] at h
  cases h
theorem Same.seq {K:PySem.W.Frag}{H H':Hp}{a:Addr}{xs:List V}(e:Same H H')(h:SqL K H a xs):SqL K H' a xs:=by
 rcases h with (h | ⟨o,h⟩) | h
 · exact .inl (.inl (e _ _ h))
 · exact .inl (.inr ⟨o,e _ _ h⟩)
 · exact .inr h
end L2
namespace L2
open PySem PySem.Spec PyProof.Rows
section
variable {κ : Type} [DecidableEq κ]
def jg (kvs:List (κ × V))(k:κ):Option V:=(kvs.find? fun kv=>decide (kv.1=k)).map (·.2)
def jl (kvs:List (κ × V))(k:κ)(v:V):List (κ × V):=
 if (kvs.any fun kv=>decide (kv.1=k))=true then kvs.map (fun kv=>if kv.1=k then (kv.1,v) else kv) else kvs++[(k,v)]
def qJf (kvs:List (κ × V))(k:κ):List (κ × V):=kvs.filter fun kv=>decide (kv.1≠k)
theorem jM {p:κ × V}{r:List (κ × V)}{k:κ}(e:p.1=k):jg (p::r) k=some p.2:=by simp [jg,List.find?_cons,e]
theorem jT {p:κ × V}{r:List (κ × V)}{k:κ}(e:¬ p.1=k):jg (p::r) k=jg r k:=by simp [jg,List.find?_cons,e]
theorem zS (k:κ):∀ kvs:List (κ × V),(kvs.any fun kv=>decide (kv.1=k))=(jg kvs k).isSome
 | []=>rfl
 | p::r=>by
  rw [List.any_cons]
  by_cases e:p.1=k
  · simp only [jM e,decide_eq_true e,Bool.true_or,Option.isSome_some]
  · rw [jT e,decide_eq_false e,Bool.false_or];exact zS k r
theorem qCi (k j:κ)(y:V):∀ kvs:List (κ × V),jg (kvs.map fun kv=>if kv.1=k then (kv.1,y) else kv) j=(jg kvs j).map fun x=>if j=k then y else x
 | []=>rfl
 | p::r=>by
  have ih:=qCi k j y r
  rw [List.map_cons]
  by_cases h:p.1=k
  · rw [if_pos h]
    by_cases e:p.1=j
    · rw [jM (p:=(p.1,y)) e,jM e,Option.map_some,if_pos (e.symm.trans h)]
    · rw [jT (p:=(p.1,y)) e,jT e,ih]
  · rw [if_neg h]
    by_cases e:p.1=j
    · rw [jM (p:=p) e,jM e,Option.map_some,if_neg (fun z=>h (e.trans z))]
    · rw [jT (p:=p) e,jT e,ih]
theorem qAc (k j:κ)(y:V):∀ kvs:List (κ × V),jg kvs k=none→jg (kvs++[(k,y)]) j=if j=k then some y else jg kvs j
 | [],_=>by
  by_cases e:k=j
  · rw [if_pos e.symm];exact jM (p:=(k,y)) e
  · rw [if_neg (fun z=>e z.symm)];exact jT (p:=(k,y)) e
 | p::r,hn=>by
  rw [List.cons_append]
  have hk:¬ p.1=k:=fun z=>by rw [jM z] at hn;cases hn
  rw [jT hk] at hn
  have ih:=qAc k j y r hn
  by_cases e:p.1=j
  · rw [jM e,jM e,if_neg (fun z=>hk (e.trans z))]
  · rw [jT e,jT e,ih]
theorem jm (kvs:List (κ × V))(k j:κ)(y:V):jg (jl kvs k y) j=if j=k then some y else jg kvs j:=by
 unfold jl
 by_cases a:(kvs.any fun kv=>decide (kv.1=k))=true
 · rw [if_pos a,qCi]
   rw [zS] at a
   by_cases e:j=k
   · obtain⟨x,hx⟩:=Option.isSome_iff_exists.mp a
     rw [if_pos e,e,hx,Option.map_some,if_pos rfl]
   · rw [if_neg e]
     cases jg kvs j with
     | none=>rfl
     | some x=>rw [Option.map_some,if_neg e]
 · rw [if_neg a]
   refine qAc k j y kvs ?_
   rw [zS] at a
   cases q:jg kvs k with
   | none=>rfl
   | some x=>rw [q] at a;exact(a rfl).elim
theorem jW (kvs:List (κ × V))(k:κ)(v:V):(jl kvs k v).length≤kvs.length+1:=by
 unfold jl
 split
 · rw [List.length_map];omega
 · rw [List.length_append,List.length_cons,List.length_nil];omega
theorem qFq {kvs:List (κ × V)}{k:κ}(v:V)(h:jg kvs k=none):jl kvs k v=kvs++[(k,v)]:=by
 unfold jl
 rw [zS,h]
 exact if_neg (by decide)
theorem RelO.isSome_eq {o:Option V}{u:Option Value}(r:RelO o u):o.isSome=u.isSome:=by
 cases o with
 | none=>cases u with
  | none=>rfl
  | some _=>exact(show False from r).elim
 | some _=>cases u with
  | none=>exact(show False from r).elim
  | some _=>rfl
theorem RelO.getD {o:Option V}{u:Option Value}{d:V}{d':Value}(r:RelO o u)(rd:RelV d d'):RelV (o.getD d) (u.getD d'):=by
 cases o with
 | none=>cases u with
  | none=>exact rd
  | some _=>exact(show False from r).elim
 | some _=>cases u with
  | none=>exact(show False from r).elim
  | some _=>exact r
theorem KV.val {kvs:List (κ × V)}{vs:List (κ × Value)}(r:KV kvs vs)(k:κ):RelO (jg kvs k) (valueAt vs k):=by
 unfold KV at r
 induction r with
 | nil=>exact True.intro
 | @cons p q ps qs h t ih=>
  obtain⟨h1,h2⟩:=h
  by_cases e:p.1=k
  · have e':q.1=k:=h1.symm.trans e
    have b:valueAt (q::qs) k=some q.2:=by simp [valueAt,List.find?_cons,e']
    rw [jM e,b];exact h2
  · have e':¬ q.1=k:=fun z=>e (h1.trans z)
    have b:valueAt (q::qs) k=valueAt qs k:=by simp [valueAt,List.find?_cons,e']
    rw [jT e,b];exact ih
theorem KV.any {kvs:List (κ × V)}{vs:List (κ × Value)}(r:KV kvs vs)(k:κ):(kvs.any fun kv=>decide (kv.1=k))=vs.any fun kv=>decide (kv.1=k):=by
 unfold KV at r
 induction r with
 | nil=>rfl
 | cons h t ih=>rw [List.any_cons,List.any_cons,ih,h.1]
theorem KV.repl {kvs:List (κ × V)}{vs:List (κ × Value)}(r:KV kvs vs)(k:κ){y:V}{u:Value}(ry:RelV y u):
 KV (kvs.map fun kv=>if kv.1=k then (kv.1,y) else kv) (vs.map fun kv=>if kv.1=k then (kv.1,u) else kv):=by
 unfold KV at r ⊢
 induction r with
 | nil=>exact .nil
 | @cons p q ps qs h t ih=>
  rw [List.map_cons,List.map_cons]
  refine .cons ?_ ih
  obtain⟨h1,h2⟩:=h
  by_cases e:p.1=k
  · rw [if_pos e,if_pos (h1.symm.trans e)];exact⟨h1,ry⟩
  · rw [if_neg e,if_neg (fun z=>e (h1.trans z))];exact⟨h1,h2⟩
theorem KV.put {kvs:List (κ × V)}{vs:List (κ × Value)}(r:KV kvs vs)(k:κ){y:V}{u:Value}(ry:RelV y u):KV (jl kvs k y) (stored vs k u):=by
 unfold jl stored
 rw [r.any k]
 by_cases e:(vs.any fun kv=>decide (kv.1=k))=true
 · rw [if_pos e,if_pos e];exact r.repl k ry
 · rw [if_neg e,if_neg e];exact Paired.snoc r ⟨rfl,ry⟩
theorem KV.drop {kvs:List (κ × V)}{vs:List (κ × Value)}(r:KV kvs vs)(k:κ):KV (qJf kvs k) (without vs k):=by
 unfold KV at r ⊢
 unfold qJf without
 induction r with
 | nil=>exact .nil
 | @cons p q ps qs h t ih=>
  obtain⟨h1,h2⟩:=h
  rw [List.filter_cons,List.filter_cons]
  by_cases e:p.1=k
  · have a:¬ decide (p.1≠k)=true:=by simp [e]
    have b:¬ decide (q.1≠k)=true:=by simp [h1.symm.trans e]
    rw [if_neg a,if_neg b];exact ih
  · have e':¬ q.1=k:=fun z=>e (h1.trans z)
    have a:decide (p.1≠k)=true:=by simp [e]
    have b:decide (q.1≠k)=true:=by simp [e']
    rw [if_pos a,if_pos b];exact .cons ⟨h1,h2⟩ ih
theorem KV.keys {kvs:List (κ × V)}{vs:List (κ × Value)}(r:KV kvs vs):kvs.map (·.1)=vs.map (·.1):=by
 unfold KV at r
 induction r with
 | nil=>rfl
 | cons h t ih=>rw [List.map_cons,List.map_cons,ih,h.1]
theorem KV.length {kvs:List (κ × V)}{vs:List (κ × Value)}(r:KV kvs vs):kvs.length=vs.length:=Paired.length r
end
theorem qE0 {P:Program}{w:World}{k:Key}{u:Value}(r:RelV (kV k) u):(jL P w).is k u=true:=by
 cases k with
 | inl i=>obtain⟨t,e⟩:=(show ∃ t,u=Value.int i t from r);subst e;exact qA5 P w i t
 | inr x=>obtain⟨t,e⟩:=(show ∃ t,u=Value.str x t from r);subst e;exact qBh P w x t
theorem qAp {P:Program}{w:World}:∀ {ks:List Key} {us:List Value},Vals (ks.map kV) us→ItemsAre (jL P w) ks us
 | [],_,r=>by rw [List.map_nil] at r;cases r;exact .nil
 | k::ks,_,r=>by
  rw [List.map_cons] at r
  cases r with
  | cons h t=>exact .cons (qE0 h) (qAp t)
abbrev KT (H:Hp):List (List Key × V)→List (List Key × Addr × Value)→Prop:=Paired fun p q=>p.1=q.1∧H q.2.1=some (.tup (p.1.map kV))∧RelV p.2 q.2.2
theorem KT.val {H:Hp}{kvs:List (List Key × V)}{xs:List (List Key × Addr × Value)}(r:KT H kvs xs)(k:List Key):RelO (jg kvs k) ((atKey xs k).map (·.2)):=by
 induction r with
 | nil=>exact True.intro
 | @cons p q ps qs h t ih=>
  obtain⟨h1,_,h2⟩:=h
  by_cases e:p.1=k
  · have e':q.1=k:=h1.symm.trans e
    have b:atKey (q::qs) k=some q.2:=by simp [atKey,List.find?_cons,e']
    rw [jM e,b];exact h2
  · have e':¬ q.1=k:=fun z=>e (h1.trans z)
    have b:atKey (q::qs) k=atKey qs k:=by simp [atKey,List.find?_cons,e']
    rw [jT e,b];exact ih
theorem KT.repl {H:Hp}{kvs:List (List Key × V)}{xs:List (List Key × Addr × Value)}(r:KT H kvs xs)(k:List Key){y:V}{u:Value}(ry:RelV y u):
 KT H (kvs.map fun kv=>if kv.1=k then (kv.1,y) else kv) (xs.map (putAt k u)):=by
 induction r with
 | nil=>exact .nil
 | @cons p q ps qs h t ih=>
  rw [List.map_cons,List.map_cons]
  refine .cons ?_ ih
  obtain⟨h1,h2,h3⟩:=h
  unfold putAt
  by_cases e:p.1=k
  · rw [if_pos e,if_pos (h1.symm.trans e)];exact⟨h1,h2,ry⟩
  · rw [if_neg e,if_neg (fun z=>e (h1.trans z))];exact⟨h1,h2,h3⟩
theorem KT.put {H:Hp}{kvs:List (List Key × V)}{xs:List (List Key × Addr × Value)}(r:KT H kvs xs)(k:List Key){b:Addr}{y:V}{u:Value}(hb:H b=some (.tup (k.map kV)))(ry:RelV y u):
 KT H (jl kvs k y) (storedH xs k b u):=by
 have e:(kvs.any fun kv=>decide (kv.1=k))=(atKey xs k).isSome:=by
  rw [zS,(r.val k).isSome_eq,Option.isSome_map]
 unfold jl storedH
 rw [e]
 by_cases q:(atKey xs k).isSome=true
 · rw [if_pos q,if_pos q];exact r.repl k ry
 · rw [if_neg q,if_neg q];exact Paired.snoc r ⟨rfl,hb,ry⟩
theorem KT.keeps {H H':Hp}{kvs:List (List Key × V)}{xs:List (List Key × Addr × Value)}(r:KT H kvs xs)(ht:∀ b ys,H b=some (.tup ys)→H' b=some (.tup ys)):KT H' kvs xs:=
 Paired.mapP r fun _ _ z=>⟨z.1,ht _ _ z.2.1,z.2.2⟩
section
variable {P : Program} {w : World} {H : Hp} {h : Heap} {a : Addr}
theorem qIq {u:HO}(ok:HOk P w H h)(e:Rd H a u):ObjOk P w H h a u:=e.ok ok
theorem qBb {kvs:List (Key × V)}(ok:HOk P w H h)(e:Rd H a (.dK kvs)):kvs.length≤sizeLine∧(a == sysModules)=false∧∃ vs,KV kvs vs∧h.DictOf (jL P w) a vs:=
 show ObjOk P w H h a (.dK kvs) from qIq ok e
theorem qH3 {kvs:List (Key × V)}(ok:HOk P w H h)(e:H a=some (.dK kvs)):kvs.length≤sizeLine∧(a == sysModules)=false∧∃ vs,KV kvs vs∧h.DictOf (jL P w) a vs:=qBb ok (.inl e)
theorem qFb {ks:List Key}(ok:HOk P w H h)(e:H a=some (.tup (ks.map kV))):(tupleKind (jL P w)).is h ks a:=by
 obtain⟨_,its,r,o,h1,h2,n,h3⟩:=(show ObjOk P w H h a (.tup (ks.map kV)) from ok a _ e)
 exact⟨o,its.toArray,n,h1,h2,h3,by simpa using qAp r⟩
theorem qFp {kvs:List (List Key × V)}(ok:HOk P w H h)(e:Rd H a (.dT kvs)):kvs.length≤sizeLine∧(a == sysModules)=false∧
 ∃ xs,KT H kvs xs∧h.DictOfH (tupleKind (jL P w)) a xs:=by
 obtain⟨z,y,xs,r,o,es,ep,h1,h2,h3,h4,h5⟩:=(show ObjOk P w H h a (.dT kvs) from qIq ok e)
 refine⟨z,y,xs,r,o,es,ep,h1,h2,h3,h4,fun x hx=>?_,h5⟩
 have all:∀ {l:List (List Key × V)} {m:List (List Key × Addr × Value)},KT H l m→∀ x∈m,(tupleKind (jL P w)).is h x.1 x.2.1:=by
  intro l m q
  induction q with
  | nil=>intro x hx;exact nomatch hx
  | @cons p q ps qs hq t ih=>
   intro x hx
   rcases List.mem_cons.mp hx with e | hx
   · subst e
     exact qFb ok (by rw [← hq.1];exact hq.2.1)
   · exact ih x hx
 exact all r x hx
theorem qK3 {kvs:List (List Key × V)}(ok:HOk P w H h)(e:H a=some (.dT kvs)):kvs.length≤sizeLine∧(a == sysModules)=false∧
 ∃ xs,KT H kvs xs∧h.DictOfH (tupleKind (jL P w)) a xs:=qFp ok (.inl e)
end
def DGet (H:Hp)(a:Addr)(y:V)(r:Option V):Prop:=
 (∃ kvs k,Rd H a (.dK kvs)∧y=kV k∧r=jg kvs k)∨∃ kvs k b,Rd H a (.dT kvs)∧y= .ref b∧H b=some (.tup (k.map kV))∧r=jg kvs k
def DPut (H:Hp)(a:Addr)(y v:V)(H':Hp):Prop:=
 (∃ kvs k,H a=some (.dK kvs)∧y=kV k∧kvs.length < sizeLine∧H'=upd H a (.dK (jl kvs k v)))∨
 ∃ kvs k b,H a=some (.dT kvs)∧y= .ref b∧H b=some (.tup (k.map kV))∧kvs.length < sizeLine∧H'=upd H a (.dT (jl kvs k v))
theorem DGet.k {H:Hp}{a:Addr}{kvs:List (Key × V)}{k:Key}(e:H a=some (.dK kvs)):DGet H a (kV k) (jg kvs k):=.inl ⟨kvs,k,.inl e,rfl,rfl⟩
theorem DGet.t {H:Hp}{a b:Addr}{kvs:List (List Key × V)}{k:List Key}(e:H a=some (.dT kvs))(eb:H b=some (.tup (k.map kV))):DGet H a (.ref b) (jg kvs k):=.inr ⟨kvs,k,b,.inl e,rfl,eb,rfl⟩
theorem DPut.k {H:Hp}{a:Addr}{kvs:List (Key × V)}{k:Key}{v:V}(e:H a=some (.dK kvs))(hl:kvs.length < sizeLine):DPut H a (kV k) v (upd H a (.dK (jl kvs k v))):=.inl ⟨kvs,k,e,rfl,hl,rfl⟩
section
variable {X : Cx} {pins : List (Addr × Obj)} {σ : St} {H : Hp} {s : Shared} {a : Addr} {y v : V} {u r : Value} {o : Option V} {A : Around} {E : Value → Shared → Prop}
theorem Inv.big (I:Inv X pins σ H s):sysModules < s.heap.objs.size:=by
 have h:mainGlobals < s.heap.objs.size:=(I.mod.glob.keeps I.bk).lt
 exact Nat.lt_trans (by decide) h
theorem qDh {Q:Value→Shared→Prop}(hu:A.units+1 < cLine)(I:Inv X pins σ H s)(g:DGet H a y (some v))(ry:RelV y u)(h:∀ w' s',Inv X pins σ H s'→RelV v w'→Q w' s'):
 wpAny (model X.prog X.w) A (getItem (.ref a) u) Q E s:=by
 rcases g with ⟨kvs,k,e,ey,l⟩ | ⟨kvs,k,b,e,ey,eb,l⟩
 · subst ey
   obtain⟨z,hd,vs,rel,dd⟩:=qBb I.hok e
   obtain⟨w',hw,rw'⟩:=RelO.some_of (v:=v) (o:=valueAt vs k) (by rw [l];exact rel.val k)
   exact wpAny_getItem_of (qE0 ry) dd.mapOf hw (h w' _ (I.tok _) rw')
 · subst ey
   cases (show u=Value.ref b from ry)
   obtain⟨z,hd,xs,rel,dd⟩:=qFp I.hok e
   obtain⟨w',hw,rw'⟩:=RelO.some_of (v:=v) (o:=(atKey xs k).map (·.2)) (by rw [l];exact rel.val k)
   obtain⟨p,hp,hp2⟩:=Option.map_eq_some_iff.mp hw
   refine wpAny_getItem_heap (tupleKind_room_in1 hu) (qFb I.hok eb) dd hp ?_
   rw [hp2]
   exact h w' _ (I.tok _) rw'
theorem wO {h':Heap}{t':Nat}{ob:HO}(I:Inv X pins σ H s)(mu:Mut (H a))(hs:Heap.SameBut a s.heap h')(he:∃ q,h'.get? a=some q)(new:ObjOk X.prog X.w (upd H a ob) h' a ob):
 Inv X pins σ (upd H a ob) {s with heap:=h',toks:=t'}:=
 I.write (x:=a) (e:=a) mu (.inl rfl) (fun b q hb z=>(hs.2 b hb).trans z) he new
theorem qB4 {P:Program}{w:World}{H':Hp}{h':Heap}{kvs:List (Key × V)}{vs:List (Key × Value)}(z:kvs.length≤sizeLine)(hd:(a == sysModules)=false)(rel:KV kvs vs)(dd:h'.DictOf (jL P w) a vs):
 ObjOk P w H' h' a (.dK kvs):=⟨z,hd,vs,rel,dd⟩
theorem qE6 {H':Hp}{Q:Unit→Shared→Prop}(hu:A.units+1 < cLine)(I:Inv X pins σ H s)(g:DPut H a y v H')(ry:RelV y u)(rv:RelV v r)(h:∀ s',Inv X pins σ H' s'→Q () s'):
 wpAny (model X.prog X.w) A (setItem (.ref a) u r) Q E s:=by
 rcases g with ⟨kvs,k,e,ey,l,eH⟩ | ⟨kvs,k,b,e,ey,eb,l,eH⟩
 · subst ey eH
   obtain⟨z,hd,vs,rel,dd⟩:=qH3 I.hok e
   have hz:vs.length≤sizeLine:=by rw [← rel.length];exact z
   have hl:(jl kvs k v).length≤sizeLine:=by have:=jW kvs k v;omega
   refine wpAny_setItem_pairs (hsz:=hz) (qE0 ry) dd fun h' dd' hs=>h _ ?_
   have he:∃ q,h'.get? a=some q:=let ⟨q,_,_,hq,_⟩:=dd';⟨q,hq⟩
   exact wO I (by rw [e];exact True.intro) hs he (qB4 hl hd (rel.put k rv) dd')
 · subst ey eH
   cases (show u=Value.ref b from ry)
   obtain⟨z,hd,xs,rel,dd⟩:=qK3 I.hok e
   have hz:xs.length≤sizeLine:=by rw [← Paired.length rel];exact z
   have hl:(jl kvs k v).length≤sizeLine:=by have:=jW kvs k v;omega
   refine wpAny_setItem_heap (hsz:=hz) (tupleKind_room_in1 hu) (qFb I.hok eb) dd fun h' dd' hs=>h _ ?_
   obtain⟨q,es,ep,hq,h2,h3,h4,_,h5⟩:=dd'
   refine wO I (by rw [e];exact True.intro) hs ⟨q,hq⟩ ⟨hl,hd,_,(rel.put k eb rv).keeps fun c ys ec=>?_,q,es,ep,hq,h2,h3,h4,h5⟩
   rw [qK (qI2 ec e (fun z=>nomatch z))]
   exact ec
end
section
variable {X : Cx} {pins : List (Addr × Obj)} {σ : St} {H : Hp} {s : Shared} {a : Addr} {kvs : List (Key × V)} {k : Key} {u : Value} {A : Around} {E : Value → Shared → Prop}
end
def qLj (i:Expr):Prop:=∀ ov iv,subscripted i false ov iv=operate [ov,iv] (getItem ov iv)
theorem qIj {prog:Program}{w:World}{A:Around}{E:Value→Shared→Prop}{s:Shared}{env:Env}{value slice:Expr}{pos:Pos}{T id:String}{Q:Value→Shared→Prop}
 (hl:typeLookup (.type T) "__getitem__"=pure (some (.builtin id))) (hs:qLj slice)
 (h:wpAny (model prog w) A (eval value env) (fun o s₁=>wpAny (model prog w) A (eval slice env) (fun i s₂=>s₂.TypeIs o T∧wpAny (model prog w) A (getItem o i) Q E s₂) E s₁) E s):
 wpAny (model prog w) A (eval (.Subscript value slice pos) env) Q E s:=by
 refine Subscript_ (wpAny_mono h (fun o s₁ h₁=>wpAny_mono h₁ (fun i s₂ h₂=>?_) fun _ _ x=>x) fun _ _ x=>x)
 obtain⟨hT,h₂⟩:=h₂
 unfold subscriptTail
 refine wpAny_bind ?_
 rw [getitemInPython_of_ne hT.not_modules]
 refine wpAny_bind (wpAny_specialOf hT hl ?_)
 have fin:wpAny (model prog w) A (subscripted slice false o i) (fun r s₃=>wpAny (model prog w) A (letTemporaryGo value o r >>=fun _=>pure r) Q E s₃) E s₂:=by
  rw [hs o i]
  exact wpAny_operating (wpAny_mono h₂ (fun r s₃ h₃=>wpAny_bind (wpAny_letTemporaryGo (wpAny_pure h₃))) fun _ _ x=>x)
 first
  | exact wpAny_pure (wpAny_bind fin)
  | exact wpAny_bind (wpAny_pure (wpAny_bind fin))
  | exact wpAny_bind fin
theorem qBi {X:Cx}{pins:List (Addr × Obj)}{σ:St}{H:Hp}{s:Shared}{a:Addr}{y:V}{o:Option V}(I:Inv X pins σ H s)(g:DGet H a y o):s.TypeIs (.ref a) "dict":=by
 rcases g with ⟨kvs,k,e,_,_⟩ | ⟨kvs,k,b,e,_,_,_⟩
 · obtain⟨_,_,vs,_,dd⟩:=qBb I.hok e
   exact dd.typeIs
 · obtain⟨_,_,xs,_,dd⟩:=qFp I.hok e
   exact dd.typeIs
def qK0 (td ty:TE):TE:=fun σ H Q=>td σ H fun x H1=>ty σ H1 fun y H2=>∃ a v,x= .ref a∧DGet H2 a y (some v)∧Q v H2
def qLb (td ty tv:TE):TS:=fun D σ H=>tv σ H fun v H1=>td σ H1 fun x H2=>ty σ H2 fun y H3=>∃ a H4,x= .ref a∧DPut H3 a y v H4∧D.nx σ H4
section
variable {X : Cx} {o i e value : Expr} {pos pos' tpos : Pos} {td ty tv : TE}
theorem qAv (hu:X.A.units+1 < cLine)(ho:PE X o td)(hi:PE X i ty)(hs:qLj i):PE X (.Subscript o i pos) (qK0 td ty):=by
 intro pins s σ H Q I h
 refine qIj PySem.F.slot_dict_getitem.lookup hs (thn (ho pins s σ H _ I h) fun u s1 ⟨x,H1,I1,rx,q1⟩=>thn (hi pins s1 σ H1 _ I1 q1) fun iv s2 ⟨y,H2,I2,ry,a,v,ex,g,q2⟩=>?_)
 subst ex
 obtain rfl:u=Value.ref a:=rx
 exact⟨qBi I2 g,qDh hu I2 g ry fun w' s3 I3 rw'=>⟨v,H2,I3,rw',q2⟩⟩
theorem qDf (hu:X.A.units+1 < cLine)(ho:PE X o td)(hi:PE X i ty)(hv:PE X value tv)(hs:swapsWith value (some (.Subscript o i pos')) pos.line X.env=pure false):
 PS X (.Assign [.Subscript o i pos'] value pos) (qLb td ty tv):=by
 intro pins s σ H D I h
 refine wpAny_Assign_Subscript (thn (hv pins s σ H _ I h) fun r s1 ⟨v,H1,I1,rv,q1⟩=>thn (ho pins s1 σ H1 _ I1 q1) fun u s2 ⟨x,H2,I2,rx,q2⟩=>thn (hi pins s2 σ H2 _ I2 q2) fun iv s3 ⟨y,H3,I3,ry,a,H4,ex,g,q3⟩=>?_) hs
 subst ex
 obtain rfl:u=Value.ref a:=rx
 exact qE6 hu I3 g ry rv fun s4 I4=>⟨σ,H4,I4,q3⟩
end
theorem qB7 {P:Program}{w:World}{H:Hp}(h:Heap)(hb:sysModules < h.objs.size):ObjOk P w H (h.push {cls:=.type "dict",data:=.dict #[]}) h.objs.size (.dK []):=
 ⟨Nat.zero_le _,beq_eq_false_iff_ne.mpr (Ne.symm (Nat.ne_of_lt hb)),[],.nil,Heap.DictOf.new h⟩
def qIr:TE:=fun _ H Q=>∀ p,H p=none→Q (.ref p) (upd H p (.dK []))
section
variable {X : Cx} {pos : Pos}
theorem qCj:PE X (.Dict [] [] pos) qIr:=fun pins s σ H Q I h=>
 wpAny_Dict_empty ⟨.ref s.heap.objs.size,_,I.laid (a:=s.heap.objs.size) (o:=.dK []) (t':=s.toks) (fun _ _ q=>Heap.get?_push_of_some _ q) (Nat.le_refl _) (qB7 s.heap I.big),rfl,h _ (I.hok.fresh (Nat.le_refl _))⟩
end
def qD6:List (TE × TE)→St→Hp→(List (V × V)→Hp→Prop)→Prop
 | [],_,H,Q=>Q [] H
 | (tk,tv)::r,σ,H,Q=>tk σ H fun x H1=>tv σ H1 fun y H2=>qD6 r σ H2 fun ps H3=>Q ((x,y)::ps) H3
abbrev VV:List (V × V)→List (Value × Value)→Prop:=Paired fun p q=>RelV p.1 q.1∧RelV p.2 q.2
def PPs (X:Cx)(pos:Pos)(keys:List (Option Expr))(values:List Expr)(trs:List (TE × TE)):Prop:=
 ∀ (pins:List (Addr × Obj)) (s:Shared) (σ:St) (H:Hp) (Q:List (V × V)→Hp→Prop),Inv X pins σ H s→qD6 trs σ H Q→
  wpAny (model X.prog X.w) X.A (evalPairs (pairTrees keys values X.env pos)) (fun vs s'=>∃ ps H',Inv X pins σ H' s'∧VV ps vs∧Q ps H') X.xe s
theorem wI {X:Cx}{pos:Pos}:PPs X pos [] [] []:=fun pins s σ H Q I h=>pairTrees_nil_walk ⟨[],H,I,.nil,h⟩
theorem kG {X:Cx}{pos:Pos}{k v:Expr}{ks:List (Option Expr)}{vs:List Expr}{tk tv:TE}{trs:List (TE × TE)}(hk:PE X k tk)(hv:PE X v tv)(hr:PPs X pos ks vs trs):
 PPs X pos (some k::ks) (v::vs) ((tk,tv)::trs):=fun pins s σ H Q I h=>
 pairTrees_cons_walk (thn (hk pins s σ H _ I h) fun u s1 ⟨x,H1,I1,rx,q1⟩=>thn (hv pins s1 σ H1 _ I1 q1) fun w2 s2 ⟨y,H2,I2,ry,q2⟩=>
  thn (hr pins s2 σ H2 _ I2 q2) fun ws s3 ⟨ps,H3,I3,rel,q3⟩=>⟨(x,y)::ps,H3,I3,.cons ⟨rx,ry⟩ rel,q3⟩)
def z8 (kvs more:List (Key × V)):List (Key × V):=more.foldl (fun acc kv=>jl acc kv.1 kv.2) kvs
theorem KV.merge:∀ {more:List (Key × V)} {rs:List (Key × Value)} {kvs:List (Key × V)} {vs:List (Key × Value)},KV more rs→KV kvs vs→KV (z8 kvs more) (merged vs rs):=by
 intro more rs kvs vs r
 unfold KV at r
 induction r generalizing kvs vs with
 | nil=>intro q;exact q
 | @cons p q ps qs h t ih=>
  intro r0
  have e:KV (jl kvs p.1 p.2) (stored vs q.1 q.2):=by
   have:=r0.put p.1 h.2
   rw [← h.1];exact this
  exact ih e
theorem zc:∀ (more kvs:List (Key × V)),(z8 kvs more).length≤kvs.length+more.length
 | [],kvs=>by show kvs.length≤kvs.length+0;omega
 | p::r,kvs=>by
  have h1:=zc r (jl kvs p.1 p.2)
  have h2:=jW kvs p.1 p.2
  show (z8 (jl kvs p.1 p.2) r).length≤_
  rw [List.length_cons];omega
theorem vW {P:Program}{w:World}:∀ {kvs:List (Key × V)} {ws:List (Value × Value)},VV (kvs.map fun kv=>(kV kv.1,kv.2)) ws→∃ rs,Carries (jL P w) ws rs∧KV kvs rs
 | [],_,r=>by rw [List.map_nil] at r;cases r;exact⟨[],True.intro,.nil⟩
 | p::kvs,_,r=>by
  rw [List.map_cons] at r
  cases r with
  | @cons a b as bs h t=>
   obtain⟨rs,c,q⟩:=vW (P:=P) (w:=w) t
   obtain⟨b1,b2⟩:=b
   exact⟨(p.1,b2)::rs,⟨qE0 h.1,rfl,c⟩,.cons ⟨rfl,h.2⟩ q⟩
def qK5 (trs:List (TE × TE)):TE:=fun σ H Q=>∀ p,H p=none→qD6 trs σ (upd H p (.dK [])) fun ps H2=>H2 p=some (.dK [])∧∃ kvs:List (Key × V),ps=kvs.map (fun kv=>(kV kv.1,kv.2))∧kvs.length≤15∧Q (.ref p) (upd H2 p (.dK (z8 [] kvs)))
theorem wD {X:Cx}{pos:Pos}{keys:List (Option Expr)}{values:List Expr}{trs:List (TE × TE)}(h:PPs X pos keys values trs)(hall:keys.all (·.isSome)=true)(hl:keys.length=values.length)(h0:keys≠[])
 (h15:keys.length≤15):PE X (.Dict keys values pos) (qK5 trs):=by
 intro pins s σ H Q I q
 have hn:=I.hok.fresh (Nat.le_refl s.heap.objs.size)
 have I1:=I.laid (a:=s.heap.objs.size) (o:=.dK []) (h':=s.heap.push {cls:=.type "dict",data:=.dict #[]}) (t':=s.toks) (fun _ _ q=>Heap.get?_push_of_some _ q) (Nat.le_refl _) (qB7 s.heap I.big)
 refine wpAny_Dict_walk (knd:=jL X.prog X.w) hall hl h0 h15 (thn (h pins _ σ _ _ I1 (q _ hn)) fun ws s2 ⟨ps,H2,I2,rel,e,kvs,ep,lk,q2⟩=>?_)
 subst ep
 obtain⟨rs,c,rk⟩:=vW (P:=X.prog) (w:=X.w) rel
 obtain⟨z,hd,vs0,r0,dd⟩:=qH3 I2.hok e
 cases r0
 refine⟨rs,c,dd,fun h' dd' hs=>⟨.ref s.heap.objs.size,_,?_,rfl,q2⟩⟩
 have hz:(z8 [] kvs).length≤sizeLine:=by
  have h1:=zc kvs []
  rw [List.length_nil] at h1
  rw [sizeLine_eq];omega
 have he:∃ q,h'.get? s.heap.objs.size=some q:=let ⟨q,_,_,hq,_⟩:=dd';⟨q,hq⟩
 exact wO I2 (by rw [e];exact True.intro) hs he (qB4 hz hd (rk.merge .nil) dd')
structure M1 (X:Cx)(o:Expr)(m:Str)(apos:Pos)(e:Expr)(cpos:Pos):Prop where
 base:attributeBase o m X.env (eval o X.env)=eval o X.env
 few:((backTo cpos (starEach [e] X.env)).all (fun x=>!x.1) && (backToKw cpos (keywordEach [] X.env)).all (fun x=>x.1.isSome)
  && decide (([e]:List Expr).length+([]:List Keyword).length+(if ([]:List Keyword).isEmpty then 0 else 1) < 30))=true
 line:(apos.endLine == cpos.line)=true
 trees:backTo cpos (starEach [e] X.env)=[(false,eval e X.env)]
structure M2 (X:Cx)(o:Expr)(m:Str)(apos:Pos)(e f:Expr)(cpos:Pos):Prop where
 base:attributeBase o m X.env (eval o X.env)=eval o X.env
 few:((backTo cpos (starEach [e,f] X.env)).all (fun x=>!x.1) && (backToKw cpos (keywordEach [] X.env)).all (fun x=>x.1.isSome)
  && decide (([e,f]:List Expr).length+([]:List Keyword).length+(if ([]:List Keyword).isEmpty then 0 else 1) < 30))=true
 line:(apos.endLine == cpos.line)=true
 trees:backTo cpos (starEach [e,f] X.env)=[(false,eval e X.env),(false,eval f X.env)]
def IsD (H:Hp)(a:Addr):Prop:=(∃ kvs,Rd H a (.dK kvs))∨∃ kvs,Rd H a (.dT kvs)
theorem qJ2 {X:Cx}{pins:List (Addr × Obj)}{σ:St}{H:Hp}{s:Shared}{a:Addr}(I:Inv X pins σ H s)(d:IsD H a):
 s.TypeIs (.ref a) "dict"∧(∀ b,Value.ref a= .ref b→∃ ob,s.heap.get? b=some ob∧ob.dict=none)∧(a == sysModules)=false:=by
 rcases d with ⟨kvs,e⟩ | ⟨kvs,e⟩
 · obtain⟨_,hd,vs,_,dd⟩:=qBb I.hok e
   refine⟨dd.typeIs,fun b q=>?_,hd⟩
   cases q
   obtain⟨ob,_,_,h1,h2,_⟩:=dd
   exact⟨ob,h1,h2.2.1⟩
 · obtain⟨_,hd,xs,_,dd⟩:=qFp I.hok e
   refine⟨dd.typeIs,fun b q=>?_,hd⟩
   cases q
   obtain⟨ob,_,_,h1,h2,_⟩:=dd
   exact⟨ob,h1,h2.2.1⟩
section
variable {X : Cx} {pins : List (Addr × Obj)} {σ : St} {H : Hp} {s : Shared} {a : Addr} {y d : V} {u r : Value} {o : Option V} {A : Around} {E : Value → Shared → Prop}
end
section
variable {X : Cx} {o e f : Expr} {apos cpos : Pos} {td ty tx : TE}
end
section
variable {X : Cx} {pins : List (Addr × Obj)} {σ : St} {H : Hp} {s : Shared} {a : Addr} {kvs : List (Key × V)} {A : Around} {E : Value → Shared → Prop}
theorem qFz {Q:Value→Shared→Prop}(I:Inv X pins σ H s)(e:Rd H a (.dK kvs))(h:∀ p s',H p=none→Inv X pins σ (upd H p (.dK kvs)) s'→Q (.ref p) s'):wpAny (model X.prog X.w) A (call (.type "dict") [.ref a]) Q E s:=by
 obtain⟨z,hd,vs,rel,dd⟩:=qBb I.hok e
 refine kt_call_dict hd dd (by rw [← rel.length];exact z) fun h' dd' hs=>?_
 refine h _ _ (I.hok.fresh (Nat.le_refl _)) (I.laid (a:=s.heap.objs.size) (o:=.dK kvs) (t':=s.toks) (fun b q hq=>?_) (Nat.le_refl _) (qB4 z (beq_eq_false_iff_ne.mpr (Ne.symm (Nat.ne_of_lt I.big))) rel dd'))
 exact(hs.2 b (Nat.ne_of_lt (Heap.lt_size hq))).trans (Heap.get?_push_of_some _ hq)
end
section
variable {X : Cx} {pins : List (Addr × Obj)} {σ : St} {H : Hp} {s : Shared} {a : Addr} {y : V} {u : Value} {A : Around} {E : Value → Shared → Prop}
end
end L2
namespace Att
open PySem PySem.W PySem.Calls PyProof.Rows
section
variable {prog : Program} {w : World} {A : Around} {E : Value → Shared → Prop} {s : Shared} {K : Frag}
end
end Att
namespace L2
open PySem PySem.Spec PyProof.Rows
end L2
namespace L2
open PySem PySem.Spec PyProof.Rows
end L2
namespace L2
open PySem PySem.Spec PyProof.Rows
section
variable {P : Program} {w : World} {K : PySem.W.Frag} {mg : Str → Option Value} {base : Heap}
end
section
variable {X : Cx}
end
section
variable {κ : Type} [DecidableEq κ]
end
end L2
namespace Mt
theorem qHa (a b:Int):a.fmod b=a - b*a.fdiv b:=by
 have:=Int.fmod_add_mul_fdiv a b
 omega
theorem qGd (a b:Int):Int.gcd b (a.fmod b)=Int.gcd a b:=by
 apply Nat.dvd_antisymm
 · refine Int.dvd_gcd ?_ (Int.gcd_dvd_left b (a.fmod b))
   have h1:((Int.gcd b (a.fmod b):Nat):Int) ∣ b:=Int.gcd_dvd_left ..
   have h2:((Int.gcd b (a.fmod b):Nat):Int) ∣ a.fmod b:=Int.gcd_dvd_right ..
   have h3:=Int.dvd_add h2 (Int.dvd_trans h1 (Int.dvd_mul_right b (a.fdiv b)))
   have e:a.fmod b+b*a.fdiv b=a:=Int.fmod_add_mul_fdiv a b
   rwa [e] at h3
 · refine Int.dvd_gcd (Int.gcd_dvd_right ..) ?_
   rw [qHa]
   exact Int.dvd_sub (Int.gcd_dvd_left ..) (Int.dvd_trans (Int.gcd_dvd_right ..) (Int.dvd_mul_right ..))
theorem qHj (a b:Int)(h:b≠0):(a.fmod b).natAbs < b.natAbs:=by
 rcases Int.lt_or_gt_of_ne h with h | h
 · have h1:=Int.fmod_lt_of_pos (-a) (show 0 < -b by omega)
   have h2:=Int.fmod_nonneg_of_pos (-a) (show 0 < -b by omega)
   rw [Int.neg_fmod_neg] at h1 h2
   omega
 · have h1:=Int.fmod_lt_of_pos a h
   have h2:=Int.fmod_nonneg_of_pos a h
   omega
def sg (t b:Int):Int:=if b < 0 then -((Int.gcd t b:Nat):Int) else ((Int.gcd t b:Nat):Int)
def q9 (t b:Int):Int:=t.fdiv (sg t b)
def qm (t b:Int):Int:=b.fdiv (sg t b)
theorem kO {t b:Int}(h:b≠0):0 < Int.gcd t b:=by
 rcases Nat.eq_zero_or_pos (Int.gcd t b) with z | z
 · rw [Int.gcd_eq_zero_iff] at z
   exact absurd z.2 h
 · exact z
theorem qK7 {t b:Int}(h:b≠0):sg t b≠0:=by
 have:=kO (t:=t) h
 unfold sg;split <;> omega
theorem qFw (t b:Int):sg t b ∣ t:=by
 unfold sg;split
 · exact Int.neg_dvd.mpr (Int.gcd_dvd_left ..)
 · exact Int.gcd_dvd_left ..
theorem qFv (t b:Int):sg t b ∣ b:=by
 unfold sg;split
 · exact Int.neg_dvd.mpr (Int.gcd_dvd_right ..)
 · exact Int.gcd_dvd_right ..
theorem qB8 (t b:Int):(sg t b).natAbs=Int.gcd t b:=by
 unfold sg;split <;> omega
theorem qH4 (t b:Int):q9 t b*sg t b=t:=Int.fdiv_mul_cancel (qFw t b)
theorem qGb (t b:Int):qm t b*sg t b=b:=Int.fdiv_mul_cancel (qFv t b)
theorem jH {t b:Int}(h:b≠0):0 < qm t b:=by
 have e:=qGb t b
 have g:=kO (t:=t) h
 by_cases hb:b < 0
 · have s:sg t b= -((Int.gcd t b:Nat):Int):=by unfold sg;rw [if_pos hb]
   rw [s] at e
   rcases Int.lt_trichotomy (qm t b) 0 with z | z | z
   · have:=Int.mul_pos_of_neg_of_neg z (show -((Int.gcd t b:Nat):Int) < 0 by omega)
     omega
   · rw [z] at e;omega
   · exact z
 · have s:sg t b=((Int.gcd t b:Nat):Int):=by unfold sg;rw [if_neg hb]
   rw [s] at e
   rcases Int.lt_trichotomy (qm t b) 0 with z | z | z
   · have:=Int.mul_neg_of_neg_of_pos z (show 0 < ((Int.gcd t b:Nat):Int) by omega)
     omega
   · rw [z] at e;omega
   · exact z
theorem xX {t b:Int}(h:b≠0):Int.gcd (q9 t b) (qm t b)=1:=by
 have e:=Int.gcd_mul_right (q9 t b) (sg t b) (qm t b)
 rw [qH4,qGb,qB8] at e
 have g:=kO (t:=t) h
 have e':1*Int.gcd t b=(q9 t b).gcd (qm t b)*Int.gcd t b:=by omega
 exact(Nat.eq_of_mul_eq_mul_right g e').symm
theorem jq (t b:Int):q9 t b*b=t*qm t b:=by
 have e1:=qH4 t b
 have e2:=qGb t b
 calc q9 t b*b=q9 t b*(qm t b*sg t b):=by rw [e2]
  _=(q9 t b*sg t b)*qm t b:=by rw [Int.mul_comm (qm t b),Int.mul_assoc]
  _=t*qm t b:=by rw [e1]
theorem kH {t b:Int}(h:b≠0):(q9 t b).natAbs≤t.natAbs:=by
 have e:=congrArg Int.natAbs (qH4 t b)
 rw [Int.natAbs_mul,qB8] at e
 have g:=kO (t:=t) h
 rw [← e]
 exact Nat.le_mul_of_pos_right _ g
theorem kF {t b:Int}(h:b≠0):(qm t b).natAbs≤b.natAbs:=by
 have e:=congrArg Int.natAbs (qGb t b)
 rw [Int.natAbs_mul,qB8] at e
 have g:=kO (t:=t) h
 have:=Nat.le_mul_of_pos_right (qm t b).natAbs g
 omega
end Mt
namespace Mt
theorem qHw {p q p' q':Int}(hq:0 < q)(hq':0 < q')(g:Int.gcd p q=1)(g':Int.gcd p' q'=1)(c:p*q'=p'*q):p=p'∧q=q':=by
 have d1:q ∣ q':=by
  have h:q ∣ p*q':=by rw [c];exact Int.dvd_mul_left ..
  have n:q.natAbs ∣ p.natAbs*q'.natAbs:=by
   have:=Int.natAbs_dvd_natAbs.mpr h
   rwa [Int.natAbs_mul] at this
  have co:Nat.Coprime q.natAbs p.natAbs:=by
   show Nat.gcd q.natAbs p.natAbs=1
   rw [Nat.gcd_comm];exact g
  exact Int.natAbs_dvd_natAbs.mp (Nat.Coprime.dvd_of_dvd_mul_left co n)
 have d2:q' ∣ q:=by
  have h:q' ∣ p'*q:=by rw [← c];exact Int.dvd_mul_left ..
  have n:q'.natAbs ∣ p'.natAbs*q.natAbs:=by
   have:=Int.natAbs_dvd_natAbs.mpr h
   rwa [Int.natAbs_mul] at this
  have co:Nat.Coprime q'.natAbs p'.natAbs:=by
   show Nat.gcd q'.natAbs p'.natAbs=1
   rw [Nat.gcd_comm];exact g'
  exact Int.natAbs_dvd_natAbs.mp (Nat.Coprime.dvd_of_dvd_mul_left co n)
 have e:q=q':=by
  have h1:=Int.le_of_dvd hq' d1
  have h2:=Int.le_of_dvd hq d2
  omega
 subst e
 exact⟨Int.eq_of_mul_eq_mul_right (by omega) c,rfl⟩
theorem qB0 {t b p q:Int}(h:b≠0)(hq:0 < q)(g:Int.gcd p q=1)(c:p*b=t*q):q9 t b=p∧qm t b=q:=by
 have e:=jq t b
 have k:q9 t b*q=p*qm t b:=by
  have:(q9 t b*q)*b=(p*qm t b)*b:=by
   calc (q9 t b*q)*b=(q9 t b*b)*q:=by rw [Int.mul_assoc,Int.mul_comm q b,← Int.mul_assoc]
    _=(t*qm t b)*q:=by rw [e]
    _=(t*q)*qm t b:=by rw [Int.mul_assoc,Int.mul_comm (qm t b) q,← Int.mul_assoc]
    _=(p*b)*qm t b:=by rw [c]
    _=(p*qm t b)*b:=by rw [Int.mul_assoc,Int.mul_comm b,← Int.mul_assoc]
  exact Int.eq_of_mul_eq_mul_right h this
 exact qHw (jH h) hq (xX h) g k
theorem qBu {p q:Int}(hq:0 < q)(g:Int.gcd p q=1):q9 p q=p∧qm p q=q:=qB0 (by omega) hq g rfl
theorem jt {p q:Int}(hq:0 < q):p.fdiv q*q≤p∧p < (p.fdiv q+1)*q:=by
 have e:=Int.fmod_add_mul_fdiv p q
 have h1:=Int.fmod_nonneg_of_pos p hq
 have h2:=Int.fmod_lt_of_pos p hq
 have c:q*p.fdiv q=p.fdiv q*q:=Int.mul_comm ..
 have d:(p.fdiv q+1)*q=p.fdiv q*q+q:=by rw [Int.add_mul,Int.one_mul]
 omega
end Mt
namespace Mt
theorem qC4 {A B C D:Int}(hB:0 < B)(hD:0 < D)(h:A*D=C*B):A.fdiv B=C.fdiv D:=by
 obtain⟨h1,h2⟩:=jt (p:=A) hB
 obtain⟨h3,h4⟩:=jt (p:=C) hD
 generalize A.fdiv B=f at h1 h2 ⊢
 generalize C.fdiv D=g at h3 h4 ⊢
 have k1:f*B*D≤A*D:=Int.mul_le_mul_of_nonneg_right h1 (by omega)
 have k2:C*B < (g+1)*D*B:=Int.mul_lt_mul_of_pos_right h4 hB
 have k3:g*D*B≤C*B:=Int.mul_le_mul_of_nonneg_right h3 (by omega)
 have k4:A*D < (f+1)*B*D:=Int.mul_lt_mul_of_pos_right h2 hD
 have p:=Int.mul_pos hB hD
 have e1:f*(B*D) < (g+1)*(B*D):=by grind
 have e2:g*(B*D) < (f+1)*(B*D):=by grind
 have:=Int.lt_of_mul_lt_mul_right e1 (by omega)
 have:=Int.lt_of_mul_lt_mul_right e2 (by omega)
 omega
theorem qBo {A B C D:Int}(hB:B≠0)(hD:D≠0)(h:A*D=C*B):q9 A B=q9 C D∧qm A B=qm C D:=by
 refine qB0 hB (jH hD) (xX hD) ?_
 have c:=jq C D
 generalize q9 C D=u at c ⊢
 generalize qm C D=v at c ⊢
 refine Int.eq_of_mul_eq_mul_right hD ?_
 grind
def plP (p q r s k:Int):Int:=q9 (p*s+k*r*q) (q*s)
def plQ (p q r s k:Int):Int:=qm (p*s+k*r*q) (q*s)
theorem zE {p q r s k:Int}(hq:0 < q)(hs:0 < s):0 < plQ p q r s k:=jH (Int.ne_of_gt (Int.mul_pos hq hs))
theorem wn {p q r s k:Int}(hq:0 < q)(hs:0 < s):Int.gcd (plP p q r s k) (plQ p q r s k)=1:=xX (Int.ne_of_gt (Int.mul_pos hq hs))
theorem qBs (p q r s k:Int):plP p q r s k*(q*s)=(p*s+k*r*q)*plQ p q r s k:=jq _ _
theorem zl {p q r s lo k:Int}(hq:0 < q)(hs:0 < s):plP (plP p q r s lo) (plQ p q r s lo) r s k=plP p q r s (lo+k)∧plQ (plP p q r s lo) (plQ p q r s lo) r s k=plQ p q r s (lo+k):=by
 have c:=qBs p q r s lo
 have h:=zE (p:=p) (r:=r) (k:=lo) hq hs
 generalize plP p q r s lo=u at c ⊢
 generalize plQ p q r s lo=v at c h ⊢
 refine qBo (Int.ne_of_gt (Int.mul_pos h hs)) (Int.ne_of_gt (Int.mul_pos hq hs)) ?_
 grind
theorem qBc {p q r s:Int}(hq:0 < q)(hs:0 < s)(g:Int.gcd p q=1):plP p q r s 0=p∧plQ p q r s 0=q:=by
 refine qB0 (Int.ne_of_gt (Int.mul_pos hq hs)) hq g ?_
 grind
theorem qEp {p q r s k:Int}(hq:0 < q)(hs:0 < s):(plP p q r s k).natAbs≤(p*s+k*r*q).natAbs:=kH (Int.ne_of_gt (Int.mul_pos hq hs))
theorem qDz {p q r s k:Int}(hq:0 < q)(hs:0 < s):(plQ p q r s k).natAbs≤(q*s).natAbs:=kF (Int.ne_of_gt (Int.mul_pos hq hs))
end Mt
namespace Mt
end Mt
namespace L3
open PySem PySem.Spec PyProof.Rows L2
def CMulB (i j:Int):Prop:=CMul i j∨(i.natAbs < 2 ^ 60000∧j.natAbs < 2 ^ 60000)
theorem zV {i:Int}(h:i.natAbs < 2 ^ 60000):Builtin.Int.intBits i≤2 ^ 20:=by
 unfold Builtin.Int.intBits
 split
 · exact Nat.zero_le _
 · rename_i h0
   have hz:i.natAbs≠0:=by
    intro z
    apply h0
    have:i=0:=by omega
    rw [this];rfl
   have:=(Nat.log2_lt hz).mpr h
   have e:(2:Nat) ^ 20=1048576:=by decide
   omega
theorem CMulB.ok {i j:Int}(h:CMulB i j):IntMulOk i j:=by
 rcases h with h | ⟨h1,h2⟩
 · exact h.ok
 · exact IntMulOk.of_bits (zV h1) (zV h2)
def CDivB (_ j:Int):Prop:=j≠0∧j.natAbs < 2 ^ 8000
theorem CDivB.ok {i j:Int}(h:CDivB i j):Builtin.divisionGoesByPylong i j=false:=by
 refine PyProof.noPylong_of_log2 ?_
 have hz:j.natAbs≠0:=by have:=h.1;omega
 have:=(Nat.log2_lt hz).mpr h.2
 omega
section
variable {X : Cx}
theorem jr:OpR X (binaryOp .Mult) (rI CMulB fun i j=>.int (i*j)):=opI fun _ _ _ _ _ _ _ hc q=>mul_int q hc.ok
theorem q8:OpR X (binaryOp .FloorDiv) (rI CDivB fun i j=>.int (i.fdiv j)):=opI fun _ _ _ _ _ _ _ hc q=>floordiv_int hc.1 q (.inl hc.ok)
theorem kQ:zu X (.builtin "isinstance") (fun xs H Q=>∃ x c t b,xs=[x,c]∧qBz X.K H x t∧
 (∃ n,c= .ty n∧PySem.W.kitOne X.K t (.type n)=some b∨∃ a,c= .ref a∧PySem.W.kitOne X.K t (.ref a)=some b)∧Q (.bl b) H):=by
 intro pins s σ H xs us Q I r h
 obtain⟨x,c,t,b,rfl,ty,hk,q⟩:=h
 obtain⟨u,u',rfl,rx,rc⟩:=qF4 r
 obtain⟨n,⟨rfl,e⟩ | ⟨a,rfl,e⟩⟩:=hk
 · cases rc
   exact qAt I rx ty e fun tk=>⟨.bl b,H,I.tok _,rfl,q⟩
 · cases rc
   exact qAt I rx ty e fun tk=>⟨.bl b,H,I.tok _,rfl,q⟩
end
def qr (X:Cx)(scope:Scope)(cl:List (Str × Addr))(C:Addr)(N:List Str)(s:Shared)(H:Hp)(fp:List Addr):Cx:=
 {X with N:=N,s₀:=s,H₀:=H,env:=compEnvC scope cl C X.env,outer:=X.stack,stack:=X.stack,ex:=fp,fn:=fun _=>false,pn:=[]}
def zW (js:List Nat)(σ:L2.St):L2.St:=js.map fun j=>(σ[j]?).join
theorem qCs {prog:Program}{w:World}{A:Around}{R:Result→Shared→Prop}{s0:Shared}{el tg src:Expr}{cs:List Expr}{sco:Scope}{po:Pos}{itv lst:Value}{en:Env}(J:Nat→Shared→Prop)
 (step:∀ k st,J k st→wpAny (model prog w) A (pyNext itv) (fun got s1=>match got with
   | none=>R (.ok .next) s1
   | some u=>wpAny (model prog w) A (letOwnedTupleGo tg itv u) (fun _ s1'=>wpAny (model prog w) A (assign tg en u) (fun _ s2=>
    wpAny (model prog w) A (forIn cs true fun c r=>if r=true then do let ok ← isTrue c en (eval c en);pure (ForInStep.yield ok) else pure (ForInStep.yield r)) (fun good s3=>
     if good=true then wpAny (model prog w) A (eval el en) (fun y s4=>
      wpAny (model prog w) A (call (.builtin "list.append") [lst,y]) (fun _ s5=>∃ j,j < k∧J j s5) (notedBy (model prog w) A en fun x z=>R (.error x) z) s4) (notedBy (model prog w) A en fun x z=>R (.error x) z) s3
     else ∃ j,j < k∧J j s3) (notedBy (model prog w) A en fun x z=>R (.error x) z) s2) (notedBy (model prog w) A en fun x z=>R (.error x) z) s1') (notedBy (model prog w) A en fun x z=>R (.error x) z) s1) (notedBy (model prog w) A en fun x z=>R (.error x) z) st)
 (k:Nat) (hJ:J k s0):codeAny (model prog w) A (.compLoop (.ListComp el [⟨tg,src,cs,0⟩] sco po) 0 itv lst en) R s0:=by
 refine codeAny_loop rfl J (fun k st hk=>?_) k hJ
 show wpAny _ A ((compTurn (.ListComp el [⟨tg,src,cs,0⟩] sco po) 0 itv lst en).onRaise (fun x=>do noteFrame x en;theTreesLotGoes x)) _ _ st
 refine wpAny_noted ?_
 rw [compTurn_list]
 refine wpAny_bind (wpAny_standAt (wpAny_bind (wpAny_mono (step k st hk) (fun got s1 g1=>?_) fun _ _ q=>q)))
 match got with
 | none=>exact wpAny_pure g1
 | some u=>
  refine wpAny_bind (wpAny_mono g1 (fun _ s1' g2=>?_) fun _ _ q=>q)
  refine wpAny_bind (wpAny_mono g2 (fun _ s2 g3=>wpAny_bind (wpAny_mono g3 (fun good s3 g4=>?_) fun _ _ q=>q)) fun _ _ q=>q)
  match good with
  | false=>exact wpAny_pure ⟨rfl,g4⟩
  | true=>
   refine wpAny_bind (wpAny_bind (wpAny_mono g4 (fun y s4 g5=>?_) fun _ _ q=>q))
   exact wpAny_bind (wpAny_mono g5 (fun _ s5 g6=>wpAny_pure (wpAny_pure ⟨rfl,g6⟩)) fun _ _ q=>q)
structure COk (X:Cx)(scope:Scope)(cl:List (Str × Addr))(iter:Expr)(xs ys:List Str)(js:List Nat):Prop where
 clos:closureFor scope X.env=pure cl
 cls:cl.map (fun p=>X.env.cells.lookup p.1)=cl.map (fun p=>some p.2)
 cell:(scope.names.all fun p=>p.2 != .cell)=true
 kind:scope.kind= .function
 names:(scope.names.all fun p=>p.2 != .local || scope.names.lookup p.1 == some .local)=true
 has:((relabel scope X.env).names.all fun p=>(p.2 != .cell && p.2 != .free) || (cl.lookup p.1).isSome)=true
 hjs:js.map (fun j=>X.N[j]?)=ys.map some
 hys:(ys.all fun y=>((relabel scope X.env).names.lookup y == some .cell || (relabel scope X.env).names.lookup y == some .free) && (X.env.scope.names.lookup y == some .cell || X.env.scope.names.lookup y == some .free))=true
 set:∀ x,foldedSetIterable iter X.env x=pure x
 nd:(xs++ys).Nodup
def PTs (X:Cx)(cs:List Expr)(t:TT):Prop:=
 ∀ (pins:List (Addr × Obj)) (s:Shared) (σ:L2.St) (H:Hp) (Q:Bool→Hp→Prop),Inv X pins σ H s→t σ H Q→wpAny (model X.prog X.w) X.A (forIn cs true fun c r=>if r=true then do let ok ← isTrue c X.env (eval c X.env);pure (ForInStep.yield ok) else pure (ForInStep.yield r)) (TP X pins σ Q) X.xe s
theorem qDb {X:Cx}:PTs X [] fun _ H Q=>Q true H:=fun _ _ _ H _ I h=>wpAny_pure ⟨H,I,h⟩
theorem qFc {X:Cx}{c:Expr}{t:TT}(hc:PT X c t):PTs X [c] t:=fun pins s σ H Q I h=>by
 simp only [List.forIn_cons,List.forIn_nil,if_true]
 exact wpAny_bind (wpAny_bind (thn (hc pins s σ H Q I h) fun _ _ q=>wpAny_pure (wpAny_pure q)))
def xE (n:Nat)(js:List Nat)(g:TG)(tc:TT)(te:TE)(σ:L2.St)(Q:VK)(J:It)(H1:Hp):Prop:=∃ W:Nat→Nat→List V→Hp→Prop,(∃ m,W 0 m [] H1)∧∀ i m acc H2,W i m acc H2→
 acc.length < sizeLine∧((J.stop i H2∧∀ D,H2 D=none→Q (.ref D) (upd H2 D (.lst acc)))∨
  (J.go i H2∧∀ x H3,J.yld i H2 x H3→g x (List.replicate n none++zW js σ) H3 fun σ' H4=>∃ vs:L2.St,σ'=vs++zW js σ∧vs.length=n∧tc σ' H4 fun ok H5=>if ok=true then te σ' H5 fun v H6=>∃ m',m' < m∧W (i+1) m' (acc++[v]) H6 else ∃ m',m' < m∧W (i+1) m' acc H5))
theorem vS {X:Cx}{elt iter tg:Expr}{cs:List Expr}{scope:Scope}{cl:List (Str × Addr)}{pos:Pos}{wi:TI}{g:TG}{tc:TT}{te:TE}{xs ys:List Str}{js:List Nat}{E:It→Hp→Prop}
 (hcm:X.calm=true) (hi:PI X tg iter wi) (hg:∀ C s H fp,PG (qr X scope cl C (xs++ys) s H fp).nox tg g) (hc:∀ C s H fp,PTs (qr X scope cl C (xs++ys) s H fp).nox cs tc) (he:∀ C s H fp,PE (qr X scope cl C (xs++ys) s H fp).nox elt te)
 (hC:COk X scope cl iter xs ys js)
 {pins:List (Addr × Obj)} {s:Shared} {σ:L2.St} {H:Hp} (R:V→Hp→Prop) (use:Option (Value→Sem Unit)) (Q:Value→Shared→Prop) (I:Inv X pins σ H s) (h:wi σ H E) (hE:∀ J H1,E J H1→xE xs.length js g tc te σ R J H1)
 (fin:∀ (v:V) (u:Value) (H':Hp) (s':Shared) (C:Addr),Inv X pins σ H' s'→RelV v u→R v H'→(∃ m,s'.heap.Ns C m)→H' C=none→C≠X.env.locals→X.s₀.heap.objs.size≤C→(∀ y c,X.env.cells.lookup y=some c→c≠C)→(∀ p∈X.pn++pins,p.1≠C)→
   compPost (model X.prog X.w) X.A X.xe use Q u C (.ok .next) s'):
 wpAny (model X.prog X.w) X.A (comprehension (.ListComp elt [⟨tg,iter,cs,0⟩] scope pos) scope X.env (firstIterPos [⟨tg,iter,cs,0⟩] pos) (newList []) false (eval iter X.env) use) Q X.xe s:=by
 obtain⟨hclos,hcl,hcell,hkind,hnames,hhas,hjs,hys,hs,hnd⟩:=hC
 have hcell':∀ y∈scope.names,y.2≠ .cell:=fun y hy=>by
  have:=List.all_eq_true.mp hcell y hy
  simpa using this
 have hnm:∀ y∈scope.names,y.2= .local→scope.names.lookup y.1=some .local:=fun y hy e=>by
  have:=List.all_eq_true.mp hnames y hy
  rw [e] at this
  simpa using this
 have clX:∀ y c,cl.lookup y=some c→X.env.cells.lookup y=some c:=fun y c e=>by
  have hm:=PySem.mem_of_lookup e
  obtain⟨k,hk,e2⟩:=List.mem_iff_getElem.mp hm
  have:=congrArg (fun l=>l[k]?) hcl
  simp only [List.getElem?_map,List.getElem?_eq_getElem hk,Option.map_some,e2] at this
  exact Option.some.inj this
 have has:∀ y,((relabel scope X.env).names.lookup y=some .cell∨(relabel scope X.env).names.lookup y=some .free)→∃ c,cl.lookup y=some c:=fun y hy=>by
  have key:∀ k:NameKind,(k= .cell∨k= .free)→(relabel scope X.env).names.lookup y=some k→∃ c,cl.lookup y=some c:=fun k hk e=>by
   have:=List.all_eq_true.mp hhas _ (PySem.mem_of_lookup e)
   rcases hk with rfl | rfl <;> exact Option.isSome_iff_exists.mp (by simpa using this)
  rcases hy with e | e
  · exact key _ (.inl rfl) e
  · exact key _ (.inr rfl) e
 refine wpAny_comprehension_free (use:=use) rfl hs hclos hkind hnm (thn (hi pins s σ H _ I h) fun v s1 h1=>thn h1 fun itv s2 h2=>?_)
 obtain⟨it,fp,tn,J,H2,e,I2,T,st2,f2,hw⟩:=h2
 obtain⟨W,⟨m0,w0⟩,turn⟩:=hE J H2 hw
 subst e
 refine wpAny_newObj_type (wpAny_newFunctionEnv hcell' (by intro y hy;simp at hy) (fun h₁ hns hsb=>?_) hkind)
 dsimp only at hns hsb ⊢
 generalize hG:s2.heap.push {cls:=.type "list",dict:=none,data:=.seq ([]:List Value).toArray}=G at hns hsb ⊢
 have szG:G.objs.size=s2.heap.objs.size+1:=by rw [← hG,Heap.size_push]
 have inG:∀ b o,s2.heap.get? b=some o→G.get? b=some o:=fun b o e=>hG ▸ Heap.get?_push_of_some _ e
 have ltC:∀ b o,s2.heap.get? b=some o→b≠G.objs.size:=fun b o e=>by rw [szG];exact Nat.ne_of_lt (Nat.lt_succ_of_lt (Heap.lt_size e))
 have ltD:∀ b o,s2.heap.get? b=some o→b≠s2.heap.objs.size:=fun b o e=>Nat.ne_of_lt (Heap.lt_size e)
 have DC:s2.heap.objs.size≠G.objs.size:=by rw [szG];omega
 have old:∀ b o,s2.heap.get? b=some o→h₁.get? b=some o:=fun b o e=>hsb.extBut b o (ltC b o e) (Heap.get?_push_of_some _ (inG b o e))
 have hacc:h₁.PlainList s2.heap.objs.size #[]:=⟨_,hsb.extBut _ _ DC (Heap.get?_push_of_some _ (hG ▸ Heap.get?_push_size _ rfl))⟩
 have fpO:∀ b∈fp,∃ o,s2.heap.get? b=some o:=fun b hb=>let ⟨o,e,_⟩:=T.obj 0 _ st2 b hb;⟨o,e⟩
 have stkO:∀ b∈frs X.stack,∃ o,s2.heap.get? b=some o:=fun b hb=>by
  obtain⟨_,o,ho,_⟩:=I2.stack.mem hb
  exact⟨o,ho⟩
 have freshH:∀ a,s2.heap.objs.size≤a→H2 a=none:=fun a ha=>I2.hok.fresh ha
 have stkFp:∀ b∈fp,b ∉ frs X.stack:=fun b hb z=>by
  rcases List.mem_cons.mp (I2.stkSub b z) with q | q
  · exact(f2 b hb).2.1 q
  · exact(f2 b hb).2.2.1 q
 have okX:(qr X scope cl G.objs.size (xs++ys) s2 H2 fp).Ok:={
  mod:=I2.ok.mod
  kind:=hkind
  glob:=I2.ok.glob
  blt:=I2.ok.blt
  above:=by show s2.heap.objs.size≤G.objs.size;rw [szG];omega
  inj:=fun y z c e1 e2=>I2.ok.inj y z c (clX y c e1) (clX z c e2)
  has:=fun y hy=>has y hy
  cab:=fun y c e _=>absurd (show false=true from e) Bool.false_ne_true
  hd:=I2.ok.hd
  frames:=I2.ok.frames
  stk:=.inl rfl
  exf:=fun b hb=>by
   obtain⟨o,e⟩:=fpO b hb
   exact⟨ltC b o e,fun y c e1=>(f2 b hb).2.2.2.2.1 y c (clX y c e1)⟩
  bs:=I2.bs
  bsz:=Nat.le_trans I2.ok.bsz I2.sz
  noex:=fun b o e hb=>by
   rcases (f2 b hb).2.2.2.1 with q | q
   · exact I2.ok.noex b o e q
   · exact Nat.lt_irrefl _ (Nat.lt_of_lt_of_le (Nat.lt_of_lt_of_le (Heap.lt_size e) I2.ok.bsz) q)
  exfs:=stkFp
  funs:=I2.stack
  frf:=I2.stkFree}
 have lenY:js.length=ys.length:=by have:=congrArg List.length hjs;simpa using this
 have I0:Inv (qr X scope cl G.objs.size (xs++ys) s2 H2 fp) [] (List.replicate xs.length none++zW js σ) H2 {s2 with heap:=h₁,toks:=s2.toks+([]:List (Str × Value)).length}:=by
  refine⟨okX,rfl,I2.bare,Un.kept old,⟨_,hns,fun k y v e1 e2 e3=>?_⟩,fun y c e=>?_,freshH _ (by show s2.heap.objs.size≤G.objs.size;rw [szG];omega),fun y c e=>I2.freeC y c (clX y c e),fun p hp=>absurd (show p∈([]:List (Addr × Obj)) from hp) (by simp),I2.hok.kept old,?_⟩
  · obtain⟨k,e1',e2'⟩:∃ k,ys[k]? =some y∧(zW js σ)[k]? =some (some v):=by
     have e1:(xs++ys)[k]? =some y:=e1
     by_cases hk:k < xs.length
     · rw [List.getElem?_append_left (by simpa using hk),List.getElem?_replicate,if_pos hk] at e2
       cases e2
     · rw [List.getElem?_append_right (by simpa using hk),List.length_replicate] at e2
       rw [List.getElem?_append_right (Nat.le_of_not_lt hk)] at e1
       exact⟨_,e1,e2⟩
    unfold zW at e2'
    rw [List.getElem?_map] at e2'
    cases ej:js[k]? with
    | none=>rw [ej] at e2';cases e2'
    | some j=>
     rw [ej] at e2'
     have e4:(σ[j]?).join=some v:=Option.some.inj e2'
     have e5:σ[j]? =some (some v):=by
      cases q:σ[j]? with
      | none=>rw [q] at e4;cases e4
      | some o=>rw [q] at e4;exact congrArg some e4
     have e6:X.N[j]? =some y:=by
      have:=congrArg (fun l=>l[k]?) hjs
      simp only [List.getElem?_map,ej,e1',Option.map_some] at this
      exact Option.some.inj this
     have hy:=List.all_eq_true.mp hys y (List.mem_of_getElem? e1')
     simp only [Bool.and_eq_true,Bool.or_eq_true,beq_iff_eq] at hy
     obtain⟨ky,ko⟩:=hy
     obtain⟨m,hn,hl⟩:=I2.loc
     obtain⟨u,r,lk⟩:=hl j y v e6 e5 (.inr ko)
     refine⟨u,r,.inr ⟨ky,?_⟩⟩
     rcases lk with ⟨kl,_⟩ | ⟨_,c,ec,hc⟩
     · have kl':X.env.scope.names.lookup y=some .local:=kl
       rw [kl'] at ko
       rcases ko with z | z <;> cases z
     · obtain⟨c',ec'⟩:=has y ky
       have:=clX y c' ec'
       rw [ec] at this
       cases this
       obtain⟨o,ho,hd⟩:=hc
       exact⟨c,ec',o,old c o ho,hd⟩
  · obtain⟨v,o,ho,hd⟩:=I2.cell y c (clX y c e)
    exact⟨v,o,old c o ho,hd⟩
  · show (List.replicate xs.length none++zW js σ).length=(xs++ys).length
    simp [zW,lenY]
 have loop:∀ s3:Shared,s3={s2 with heap:=h₁,toks:=s2.toks+([]:List (Str × Value)).length}→
  codeAny (model X.prog X.w) X.A (.compLoop (.ListComp elt [⟨tg,iter,cs,0⟩] scope pos) 0 (.ref it) (.ref s2.heap.objs.size) (compEnvC scope cl G.objs.size X.env))
   (compPost (model X.prog X.w) X.A X.xe use Q (.ref s2.heap.objs.size) G.objs.size) s3:=by
  rintro s3 rfl
  have stat:∀ {H':Hp} (o:Obj),(∀ b∈fp,H' b=none)→∀ b∈fp,qFs (qr X scope cl G.objs.size (xs++ys) s2 H2 fp) [(s2.heap.objs.size,o)] H' b:=fun {H'} o hn b hb=>by
   obtain⟨ob,eb⟩:=fpO b hb
   refine⟨hn b hb,ltC b ob eb,stkFp b hb,.inl hb,fun y c e1=>(f2 b hb).2.2.2.2.1 y c (clX y c e1),fun p hp=>?_⟩
   have hp':p=(s2.heap.objs.size,o):=by
    have:p∈[(s2.heap.objs.size,o)]:=hp
    simpa using this
   rw [hp']
   exact Ne.symm (ltD b ob eb)
  refine qCs (fun n s'=>∃ i acc its H3,Inv (qr X scope cl G.objs.size (xs++ys) s2 H2 fp) [] (List.replicate xs.length none++zW js σ) H3 s'∧tn i s'.heap∧(∀ b∈fp,H3 b=none)∧s'.heap.PlainList s2.heap.objs.size its.toArray∧Vals acc its∧H3 s2.heap.objs.size=none∧W i n acc H3)
   ?_ m0 ⟨0,[],[],H2,I0,T.keep _ _ _ st2 fun b _ o e=>old b o e,fun b hb=>(f2 b hb).1,hacc,.nil,freshH _ (Nat.le_refl _),w0⟩
  rintro n s3 ⟨i,acc,its,H3,I3,st3,fr3,⟨nn,pl3⟩,va3,hD3,w3⟩
  obtain⟨hlen,cs⟩:=turn i n acc H3 w3
  have hal:acc.length=its.length:=va3.length
  have nD:s2.heap.objs.size ∉ frs X.stack:=fun z=>by
   obtain⟨o,e⟩:=stkO _ z
   exact ltD _ o e rfl
  have I3p:Inv (qr X scope cl G.objs.size (xs++ys) s2 H2 fp) [(s2.heap.objs.size,{cls:=.type "list",data:=.seq its.toArray nn})] (List.replicate xs.length none++zW js σ) H3 s3:=I3.pins_of fun p hp=>by
   have e:p=(s2.heap.objs.size,{cls:=.type "list",data:=.seq its.toArray nn}):=by simpa using hp
   subst e
   exact⟨pl3,hD3,DC,nD,fun v z=>nomatch z⟩
  rcases cs with ⟨stop,q⟩ | ⟨go,step⟩
  · refine thn (T.done (qr X scope cl G.objs.size (xs++ys) s2 H2 fp) rfl rfl rfl hcm i _ s3 _ H3 _ I3p (stat _ fr3) st3 stop) fun r s4 hr=>?_
    obtain⟨hr,I4⟩:=hr
    subst hr
    have pl4:=(I4.pin (s2.heap.objs.size,{cls:=.type "list",data:=.seq its.toArray nn}) (by simp)).1
    obtain⟨m,hn,_⟩:=I4.loc
    have B:=I4.base
    have un':Un (frs X.stack) fp H2 (upd H3 s2.heap.objs.size (.lst acc)) s2.heap s4.heap:=by
     refine⟨fun b o e n hb hx=>B.keep b o e n hb hx,fun b o e n hb hx=>B.slot b o e n hb hx,fun b o e n hx=>?_,fun b o e hx=>B.there b o e hx,fun b xs e=>?_,fun b o u e=>?_,fun b ps e=>?_⟩
     · rw [qK (ltD b o e)]
       exact B.free b o e n hx
     · have z:=B.tups b xs e
       rw [qK (qM z hD3)]
       exact z
     · have z:=B.frzs b o u e
       rw [qK (qM z hD3)]
       exact z
     · obtain⟨more,z⟩:=B.tbls b ps e
       exact⟨more,by rw [qK (qM z hD3)];exact z⟩
    have freeC4:H3 G.objs.size=none:=I4.free
    have hok':HOk X.prog X.w (upd H3 s2.heap.objs.size (.lst acc)) s4.heap:=fun b u e=>by
     by_cases hb:b=s2.heap.objs.size
     · subst hb
       rw [qD] at e
       cases e
       exact⟨Nat.le_of_lt hlen,its,nn,va3,pl4⟩
     · rw [qK hb] at e
       exact(I4.hok b u e).stay (fun c v hc z=>z) (fun c z=>by rw [qK (qM z hD3)];exact z) fun c xs z=>by rw [qK (qM z hD3)];exact z
    have hch:∀ b∈fp,(b∈X.ex∨X.s₀.heap.objs.size≤b)∧b≠X.env.locals∧(∀ y c,X.env.cells.lookup y=some c→c≠b)∧∀ p∈X.pn++pins,p.1≠b:=fun b hb=>by
     obtain⟨_,z1,_,z3,z4,z5⟩:=f2 b hb
     exact⟨z3,z1,z4,z5⟩
    have I5:=I2.call' (s':=s4) (ch:=fp) I4.os un' hok' I4.bare hch
    refine fin (.ref s2.heap.objs.size) _ _ s4 G.objs.size I5 rfl (q _ hD3) ⟨m,hn⟩ ?_ ?_ ?_ (fun y c e=>?_) fun p hp=>?_
    · rw [qK (Ne.symm DC)];exact freeC4
    · rw [szG];exact Nat.ne_of_gt (Nat.lt_succ_of_lt I2.lt)
    · rw [szG];exact Nat.le_succ_of_le I2.sz
    · obtain⟨v,o,ho,_⟩:=I2.cell y c e
      exact ltC c o ho
    · exact ltC p.1 p.2 (I2.pin p hp).1
  · refine thn (T.item (qr X scope cl G.objs.size (xs++ys) s2 H2 fp) rfl rfl rfl hcm i _ s3 _ H3 _ I3p (stat _ fr3) st3 go) fun r s4 hr=>?_
    obtain⟨u,hr,h4⟩:=hr
    subst hr
    refine thn h4 fun _ s5 h5=>?_
    obtain⟨v,H5,I5,r5,y5,st5,fr5⟩:=h5
    have I5':=I5.pinned (stat _ fr5) (T.obj _ _ st5)
    refine wpAny_mono (hg G.objs.size s2 H2 fp _ s5 _ H5 v u _ (I5'.wish _) r5 (step v H5 y5)) (fun _ s6 h6=>?_) fun _ _ z=>z.elim
    obtain⟨σ6,H6',I6',vs,eσ,hv,q5⟩:=h6
    subst eσ
    have back:∀ (H7:Hp) (s7:Shared) (σ7:L2.St) (h':Heap) (acc':List V) (its':List Value) (m':Nat),Inv (qr X scope cl G.objs.size (xs++ys) s2 H2 fp) ([(s2.heap.objs.size,{cls:=.type "list",data:=.seq its.toArray nn})]++wg fp s5.heap) (vs++zW js σ) H7 s7→
     Heap.SameBut s2.heap.objs.size s7.heap h'→h'.PlainList s2.heap.objs.size its'.toArray→Vals acc' its'→m' < n→W (i+1) m' acc' H7→
     ∃ m,m < n∧∃ i acc its H3,Inv (qr X scope cl G.objs.size (xs++ys) s2 H2 fp) [] (List.replicate xs.length none++zW js σ) H3 {s7 with heap:=h'}∧tn i h'∧(∀ b∈fp,H3 b=none)∧h'.PlainList s2.heap.objs.size its.toArray∧Vals acc its∧H3 s2.heap.objs.size=none∧W i m acc H3:=by
     intro H7 s7 _ h' acc' its' m' I7 hsb' hp' va' hm' w7
     have pinD:=I7.pin (s2.heap.objs.size,{cls:=.type "list",data:=.seq its.toArray nn}) (by simp)
     have pf:∀ b∈fp,∀ o,s5.heap.get? b=some o→s7.heap.get? b=some o∧H7 b=none:=fun b hb o e=>by
      have z:=I7.pin (b,o) (List.mem_append_right _ (List.mem_append_right _ (zp hb e)))
      exact⟨z.1,z.2.1⟩
     have I8:Inv (qr X scope cl G.objs.size (xs++ys) s2 H2 fp) [] (List.replicate xs.length none++zW js σ) H7 {s7 with heap:=h'}:=by
      have I7u:Inv (qr X scope cl G.objs.size (xs++ys) s2 H2 fp) [] (List.replicate xs.length none++zW js σ) H7 s7:=(I7.pins_of (pins':=[]) fun p hp=>absurd hp (by simp)).weak (by simp [hv]) fun k v e=>by
       by_cases hk:k < xs.length
       · rw [List.getElem?_append_left (by simpa using hk),List.getElem?_replicate,if_pos hk] at e
         cases e
       · rw [List.getElem?_append_right (by simpa using hk),List.length_replicate] at e
         rw [List.getElem?_append_right (by rw [hv];exact Nat.le_of_not_lt hk),hv]
         exact e
      refine I7u.turned (t':=s7.toks) (it:=s2.heap.objs.size) (fun b o hb e=>hsb'.extBut b o hb e) pinD.2.1 DC (.inr (Nat.le_refl _)) (fun y c e=>?_) fun p hp=>absurd (show p∈([]:List (Addr × Obj)) from hp) (by simp)
      obtain⟨v,o,ho,_⟩:=I2.cell y c (clX y c e)
      exact ltD c o ho
     refine⟨m',hm',i+1,acc',its',H7,I8,?_,fun b hb=>?_,hp',va',pinD.2.1,w7⟩
     · refine T.keep _ _ _ st5 fun b hb o e=>hsb'.extBut b o ?_ (pf b hb o e).1
       obtain⟨ob,eb⟩:=fpO b hb
       exact ltD b ob eb
     · obtain⟨o,e,_⟩:=T.obj _ _ st5 b hb
       exact(pf b hb o e).2
    refine wpAny_mono (hc G.objs.size s2 H2 fp _ s6 _ _ _ I6' q5) (fun ok s6a h6=>?_) fun _ _ z=>z.elim
    obtain⟨H6,I6a,q6⟩:=h6
    cases ok with
    | false=>
     rw [if_neg (by decide)] at q6 ⊢
     obtain⟨m',hm',w7⟩:=q6
     have I7:=I6a.unwish
     have pinD:=I7.pin (s2.heap.objs.size,{cls:=.type "list",data:=.seq its.toArray nn}) (by simp)
     exact back H6 s6a (List.replicate xs.length none++zW js σ) s6a.heap acc its m' I7 (Heap.SameBut.refl _ _) ⟨nn,pinD.1⟩ va3 hm' w7
    | true=>
     rw [if_pos rfl] at q6 ⊢
     refine wpAny_mono (he G.objs.size s2 H2 fp _ s6a _ H6 _ I6a q6) (fun y s7 h7=>?_) fun _ _ z=>z.elim
     obtain⟨v7,H7,I7,r7,m',hm',w7⟩:=h7
     have I7:=I7.unwish
     have pinD:=I7.pin (s2.heap.objs.size,{cls:=.type "list",data:=.seq its.toArray nn}) (by simp)
     refine wpAny_list_append_plain (items:=its.toArray) ⟨nn,pinD.1⟩ (fun h' hp' hsb'=>?_) (by rw [List.size_toArray,← hal];exact Nat.le_of_lt hlen)
     have e8:its.toArray.push y=(its++[y]).toArray:=by simp
     rw [e8] at hp'
     exact back H7 s7 (List.replicate xs.length none++zW js σ) h' (acc++[v7]) (its++[y]) m' I7 hsb' hp' (va3.append (.cons r7 .nil)) hm' w7
 exact codeAny_compStart_list (loop _ rfl) (T.self _ 0 _ _ _ (T.keep _ _ _ st2 fun b _ o e=>old b o e) (loop _ rfl))
theorem qB6 {X:Cx}{pins:List (Addr × Obj)}{σ:L2.St}{H:Hp}{s:Shared}{C:Addr}{h':Heap}(I:Inv X pins σ H s)(hsb:Heap.SameBut C s.heap h')(h0:H C=none)(h1:C≠X.env.locals)(h2:X.s₀.heap.objs.size≤C)
 (h3:∀ y c,X.env.cells.lookup y=some c→c≠C) (h4:∀ p∈X.pn++pins,p.1≠C):Inv X pins σ H {s with heap:=h'}:=
 I.turned (t':=s.toks) (it:=C) (fun b o hb e=>hsb.extBut b o hb e) h0 h1 (.inr h2) h3 h4
theorem qCg {X:Cx}{elt iter tg:Expr}{cs:List Expr}{scope:Scope}{cl:List (Str × Addr)}{pos:Pos}{wi:TI}{g:TG}{tc:TT}{te:TE}{xs ys:List Str}{js:List Nat}{T:L2.St→VK→It→Hp→Prop}
 (hcm:X.calm=true) (hi:PI X tg iter wi) (hg:∀ C s H fp,PG (qr X scope cl C (xs++ys) s H fp).nox tg g) (hc:∀ C s H fp,PTs (qr X scope cl C (xs++ys) s H fp).nox cs tc) (he:∀ C s H fp,PE (qr X scope cl C (xs++ys) s H fp).nox elt te) (hC:COk X scope cl iter xs ys js) (hE:∀ σ Q J H1,T σ Q J H1→xE xs.length js g tc te σ Q J H1):PE X (.ListComp elt [⟨tg,iter,cs,0⟩] scope pos) (fun σ H Q=>wi σ H (T σ Q)):=by
 intro pins s σ H Q I h
 rw [eval_ListComp]
 refine vS hcm hi hg hc he hC Q none (EP X pins σ Q) I h (hE σ Q) fun v u H' s' C I' r q hm h0 h1 h2 h3 h4=>?_
 obtain⟨m,hm⟩:=hm
 exact⟨m,hm,fun h' hsb=>⟨v,H',qB6 I' hsb h0 h1 h2 h3 h4,r,q⟩⟩
theorem qCh {X:Cx}{elt iter tg:Expr}{cs:List Expr}{scope:Scope}{cl:List (Str × Addr)}{pos:Pos}{wi:TI}{g:TG}{tc:TT}{te:TE}{xs ys:List Str}{js:List Nat}{T:L2.St→VK→It→Hp→Prop}{i:Nat}{y:Str}{py spos:Pos}(hN:X.N.Nodup)(hi':X.N[i]? =some y)(hy:X.env.kindOf y=some .local)
 (hcm:X.calm=true) (hi:PI X tg iter wi) (hg:∀ C s H fp,PG (qr X scope cl C (xs++ys) s H fp).nox tg g) (hc:∀ C s H fp,PTs (qr X scope cl C (xs++ys) s H fp).nox cs tc) (he:∀ C s H fp,PE (qr X scope cl C (xs++ys) s H fp).nox elt te) (hC:COk X scope cl iter xs ys js) (hE:∀ σ Q J H1,T σ Q J H1→xE xs.length js g tc te σ Q J H1) (hsw:swapsWith (.ListComp elt [⟨tg,iter,cs,0⟩] scope pos) (some (.Name y py)) spos.line X.env=pure true):PS X (.Assign [.Name y py] (.ListComp elt [⟨tg,iter,cs,0⟩] scope pos) spos) (qI9 (fun σ H Q=>wi σ H (T σ Q)) (xV i)):=by
 intro pins s σ H D I h
 rw [exec_Assign_Name_used _ _ _ _ hsw]
 refine wpAny_bind (wpAny_standAt (wpAny_bind ?_))
 have key:=vS (pos:=pos) hcm hi hg hc he hC (fun v H'=>D.nx (σ.set i (some v)) H') (some (assign (.Name y py) X.env)) (fun _ s'=>SP X pins D .next s') I h (hE σ _) fun v u H' s' C I' r q hm h0 h1 h2 h3 h4=>?_
 · exact wpAny_bind (thn key fun _ s' hq=>wpAny_pure (wpAny_pure hq))
 · refine wpAny_assign_Name (wV I' hN hi' (.inl hy) r (fun s2 I2 ch=>?_) (.inr hy))
   obtain⟨b,sb,hb⟩:=ch
   obtain⟨m,hm⟩:=hm
   have nb:C≠b:=by
    rcases hb with rfl | hb
    · exact h1
    · exact Ne.symm (h3 y b hb)
   exact⟨m,hm.sameBut sb nb,fun h' hsb=>⟨_,H',qB6 I2 hsb h0 h1 h2 h3 h4,q⟩⟩
def CompEnd (js:List Nat)(te:TE)(σ:L2.St)(Q:VK)(J:It)(H1:Hp):Prop:=∃ W:Nat→Nat→List V→Hp→Prop,(∃ m,W 0 m [] H1)∧∀ i m acc H2,W i m acc H2→
 acc.length < sizeLine∧((J.stop i H2∧∀ D,H2 D=none→Q (.ref D) (upd H2 D (.lst acc)))∨
  (J.go i H2∧∀ x H3,J.yld i H2 x H3→te (some x::zW js σ) H3 fun v H4=>∃ m',m' < m∧W (i+1) m' (acc++[v]) H4))
def qKv (js:List Nat)(wi:TI)(te:TE):TE:=fun σ H Q=>wi σ H (CompEnd js te σ Q)
theorem CompEnd.g {js:List Nat}{te:TE}(σ:L2.St)(Q:VK)(J:It)(H1:Hp):CompEnd js te σ Q J H1→xE 1 js (xV 0) (fun _ H Q=>Q true H) te σ Q J H1:=fun⟨W,w0,st⟩=>
 ⟨W,w0,fun i m acc H2 w=>⟨(st i m acc H2 w).1,(st i m acc H2 w).2.imp id fun⟨go,y⟩=>⟨go,fun x H3 z=>⟨[some x],rfl,rfl,(if_pos rfl).mpr (y x H3 z)⟩⟩⟩⟩
theorem x8 {X:Cx}{elt iter:Expr}{x:Str}{px:Pos}{scope:Scope}{cl:List (Str × Addr)}{pos:Pos}{wi:TI}{te:TE}(ys:List Str)(js:List Nat)
 (hcm:X.calm=true) (hi:PI X (.Name x px) iter wi) (he:∀ C s H fp,PE (qr X scope cl C (x::ys) s H fp).nox elt te) (hx:scope.names.lookup x=some .local:=by rfl) (hC:COk X scope cl iter [x] ys js:=by exact⟨rfl,rfl,rfl,rfl,rfl,rfl,rfl,rfl,fun _=>rfl,by decide⟩):PE X (.ListComp elt [⟨.Name x px,iter,[],0⟩] scope pos) (qKv js wi te):=
 qCg (xs:=[x]) (T:=CompEnd js te) hcm hi (fun _ _ _ _=>jE (i:=0) hC.nd rfl (.inl (lookup_relabel_local hx)) (.inr (lookup_relabel_local hx))) (fun _ _ _ _=>qDb) he hC CompEnd.g
def Nxt (n i:Nat)(P:Prop):Prop:=∃ m',m' < n - i∧m'=n - (i+1)∧i+1≤n∧P
theorem Nxt.mk {n i:Nat}{P:Prop}(h:i < n)(p:P):Nxt n i P:=⟨n - (i+1),by omega,rfl,h,p⟩
theorem jz {K:PySem.W.Frag}{a:Addr}{xs:List V}{js:List Nat}{te:TE}{σ:L2.St}{H:Hp}{Q:VK}(Pv:Nat→List V→Hp→Prop)(h0:Pv 0 [] H)(hl:∀ i acc H,i≤xs.length→Pv i acc H→SqL K H a xs∧acc.length < sizeLine)
 (hs:∀ i x acc H,i < xs.length→xs[i]? =some x→Pv i acc H→te (some x::zW js σ) H fun v H'=>Nxt xs.length i (Pv (i+1) (acc++[v]) H')) (hd:∀ acc H,Pv xs.length acc H→∀ D,H D=none→Q (.ref D) (upd H D (.lst acc))):CompEnd js te σ Q (Itl K a) H:=by
 refine⟨fun i m acc H=>m=xs.length - i∧i≤xs.length∧Pv i acc H,⟨xs.length,by simp,Nat.zero_le _,h0⟩,?_⟩
 rintro i m acc H2 ⟨rfl,hi,p⟩
 obtain⟨q,hz⟩:=hl i acc H2 hi p
 refine⟨hz,?_⟩
 by_cases hlt:i < xs.length
 · refine .inr ⟨⟨xs,xs[i],q,by simp [hlt]⟩,fun x H3 y=>?_⟩
   obtain⟨e,y⟩:=y
   subst e
   exact hs i x acc _ hlt (y xs q) p
 · have e:i=xs.length:=by omega
   subst e
   exact .inl ⟨⟨xs,q,Nat.le_refl _⟩,hd acc H2 p⟩
theorem qCp {lo:Int}{n:Nat}{js:List Nat}{te:TE}{σ:L2.St}{H:Hp}{Q:VK}(Pv:Nat→List V→Hp→Prop)(h0:Pv 0 [] H)(hl:∀ i acc H,i≤n→Pv i acc H→acc.length < sizeLine)
 (hs:∀ i acc H,i < n→Pv i acc H→te (some (.int (lo+i))::zW js σ) H fun v H'=>Nxt n i (Pv (i+1) (acc++[v]) H')) (hd:∀ acc H,Pv n acc H→∀ D,H D=none→Q (.ref D) (upd H D (.lst acc))):CompEnd js te σ Q (Itr lo n) H:=by
 refine⟨fun i m acc H=>m=n - i∧i≤n∧Pv i acc H,⟨n,by simp,Nat.zero_le _,h0⟩,?_⟩
 rintro i m acc H2 ⟨rfl,hi,p⟩
 refine⟨hl i acc H2 hi p,?_⟩
 by_cases hlt:i < n
 · refine .inr ⟨hlt,fun x H3 y=>?_⟩
   obtain⟨e,y⟩:=y
   subst e y
   exact hs i acc _ hlt p
 · have e:i=n:=by omega
   subst e
   exact .inl ⟨Nat.le_refl _,hd acc H2 p⟩
structure Def (K:PySem.W.Frag)(mg:Str→Option Value)(x:Str)(st:Stmt)(ps:List Str)(f:Addr)(fd:FuncData):Prop where
 F:Fun K x x st f fd
 b:Binds K fd ps []
 m:mg x=some (.ref f)
section
variable {X : Cx}
theorem qI {k j:Nat}{x:Str}{st:Stmt}{ps:List Str}{f:Addr}{fd:FuncData}{sp:Sp}{e:Expr}{es:List Expr}{t:TA}{p pos:Pos}(D:Def X.K X.mg x st ps f fd)(F:FnOk X.prog X.w X.K X.mg X.base CX0 j f fd ps sp)(hr:Room k X.A)(hg:Gl X x)(ha:PA X (e::es) t)(hj:j≤k:=by decide)
 (hdb:(x == ("__debug__":Str))=false:=by decide) (he:starEach (e::es) X.env=(false,eval e X.env)::starEach es X.env:=by rfl) (hpl:(backTo pos (starEach es X.env)).any (·.1)=false:=by rfl):
 PE X (.Call (.Name x p) (e::es) [] pos) (qHy sp [] E0 t):=qEx F (hr.mono hj) hg D.m D.F.kp D.b .nil qK6 ha hdb he hpl
theorem qHi {x:Str}{n:String}{pos:Pos}(hg:Gl X x)(hm:X.mg x=none)(hv:bootBuiltins x=some (.type n))(hn:x≠"__name__":=by decide)(hd:(x == ("__debug__":Str))=false:=by decide):PE X (.Name x pos) (tC (.ty n)):=
 qH2 hg hm hv rfl hn hd
end
theorem qCd {X:Cx}{K:PySem.W.Frag}(h:X.K=K):IxR X (qLg K):=h ▸ qi
theorem wL {X:Cx}{K:PySem.W.Frag}(h:X.K=K):IxR X (qIp K):=h ▸ vP
def qKl (t:TS):TS:=fun D σ H=>∃ R:L2.St→Hp→Prop,t {D with nx:=R} σ H∧∀ σ' H',R σ' H'→D.nx σ' H'
theorem vz {X:Cx}{st:Stmt}{t:TS}(h:PS X st t):PS X st (qKl t):=by
 rintro pins s σ H D I ⟨R,ht,hR⟩
 refine thn (h pins s σ H {D with nx:=R} I ht) fun f s' q=>?_
 cases f with
 | next=>obtain⟨σ',H',I',r⟩:=q;exact⟨σ',H',I',hR _ _ r⟩
 | brk=>exact q
 | cont=>exact q
 | ret u=>exact q
theorem qE {H:Hp}{p:Addr}(h:H p=none)(o:HO):Same H (upd H p o):=fun b u q=>by rw [qK (qM q h)];exact q
theorem Same.tup {K:PySem.W.Frag}{H H':Hp}{a:Addr}{xs:List V}(e:Same H H')(h:SqT K H a xs):SqT K H' a xs:=by
 rcases h with (h | ⟨o,h⟩) | h
 · exact .inl (.inl (e _ _ h))
 · exact .inl (.inr ⟨o,e _ _ h⟩)
 · exact .inr h
section
variable {X : Cx}
def qLo:V→Option Int→Option Int→Hp→VK→Prop:=fun x lo hi H Q=>∃ z,x= .str z∧z.length≤sizeLine∧Q (.str (Txt.slice z lo hi)) H
theorem qI6:SlR X qLo:=by
 intro pins s σ H x v vl vu lo hi sl Q I rx hs pl pu h
 obtain⟨z,rfl,hz,q⟩:=h
 obtain⟨t,rfl⟩:=rx
 refine⟨"str",_,F.slot_str_getitem.lookup,typeIs_str _ _ _,?_⟩
 obtain⟨o,ho,hc,hd⟩:=hs
 have fin:∀ t' k,EP X pins σ Q (.str (Txt.slice z lo hi) t') {s with toks:=k}:=fun t' k=>⟨.str _,H,I.tok _,⟨_,rfl⟩,q⟩
 cases pl with
 | none=>
  cases pu with
  | none=>exact wpAny_getItem_str_slice (l:=none) (u:=none) (st:=none) ⟨_,ho,hc,hd⟩ rfl (post_val_or_str ⟨Nat.le_trans (Txt.slice_le z _ _) hz,fun t' k=>fin t' _⟩)
  | int j u=>exact wpAny_getItem_str_slice (l:=none) (u:=some (j,u)) (st:=none) ⟨_,ho,hc,hd⟩ rfl (post_val_or_str ⟨Nat.le_trans (Txt.slice_le z _ _) hz,fun t' k=>fin t' _⟩)
 | int i u=>
  cases pu with
  | none=>exact wpAny_getItem_str_slice (l:=some (i,u)) (u:=none) (st:=none) ⟨_,ho,hc,hd⟩ rfl (post_val_or_str ⟨Nat.le_trans (Txt.slice_le z _ _) hz,fun t' k=>fin t' _⟩)
  | int j u'=>exact wpAny_getItem_str_slice (l:=some (i,u)) (u:=some (j,u')) (st:=none) ⟨_,ho,hc,hd⟩ rfl (post_val_or_str ⟨Nat.le_trans (Txt.slice_le z _ _) hz,fun t' k=>fin t' _⟩)
end
abbrev EC:=Value × Option Addr
def xq (h:Heap)(e:Addr)(C:EC)(hd:Option Addr):Prop:=
 ∃ (vs:Array Value) (sl:Array (Option Value)),h.get? e=some {cls:=C.1,dict:=C.2,data:=.fields vs,slots:=sl}∧
  match hd with
  | none=>vs[1]? =some .none
  | some T=>vs[1]? =some (.ref T)∧T≠e∧∃ oT ts m,h.get? T=some oT∧oT.data= .fields ts∧ts[3]? =some m
structure Noted (fs:List Addr)(e:Addr)(hd:Option Addr)(C:EC)(h h':Heap):Prop where
 keep:∀ b o,h.get? b=some o→b ∉ fs→b≠e→some b≠hd→h'.get? b=some o
 slot:∀ b o,h.get? b=some o→b∈fs→b≠e→some b≠hd→∃ sl,h'.get? b=some {o with slots:=sl}
 ent:∃ T,(h.get? T=none∨hd=some T)∧xq h' e C (some T)
theorem Noted.before {fs:List Addr}{e T:Addr}{C:EC}{h h1 h':Heap}(x:Noted fs e none C h1 h')(k:∀ b,b≠T→h1.get? b=h.get? b)(t:∃ o,h1.get? T=some o):Noted fs e (some T) C h h':=by
 refine⟨fun b o q hf he ht=>x.keep b o ?_ hf he (by simp),fun b o q hf he ht=>x.slot b o ?_ hf he (by simp),?_⟩
 · rw [k b (fun z=>ht (by rw [z]))];exact q
 · rw [k b (fun z=>ht (by rw [z]))];exact q
 · obtain⟨T',n | n,r⟩:=x.ent
   · refine⟨T',.inl ?_,r⟩
     rw [← k T' (fun z=>?_)];exact n
     obtain⟨o,q⟩:=t
     rw [z,q] at n;cases n
   · cases n
section
variable {M : Model} {A : Around} {E : Value → Shared → Prop} {s : Shared}
theorem Noted.then {fs:List Addr}{e T:Addr}{hd:Option Addr}{C:EC}{h h1 h2:Heap}(x:Noted fs e hd C h h1)(hT:h.get? T=none∨hd=some T)(y:Noted fs e (some T) C h1 h2):Noted fs e hd C h h2:=by
 have nt:∀ b o,h.get? b=some o→some b≠hd→(some b:Option Addr)≠some T:=fun b o q hb z=>by
  cases z
  rcases hT with n | n
  · rw [q] at n;cases n
  · exact hb n.symm
 have n1:∀ T',h1.get? T'=none→T'≠e→some T'≠hd→h.get? T'=none:=fun T' n he ht=>by
  cases q:h.get? T' with
  | none=>rfl
  | some o=>
   by_cases hs:T'∈fs
   · obtain⟨sl,z⟩:=x.slot T' o q hs he ht
     rw [n] at z;cases z
   · have z:=x.keep T' o q hs he ht
     rw [n] at z;cases z
 refine⟨fun b o q hf he ht=>y.keep b o (x.keep b o q hf he ht) hf he (nt b o q ht),fun b o q hf he ht=>?_,?_⟩
 · obtain⟨sl,z⟩:=x.slot b o q hf he ht
   obtain⟨sl',z'⟩:=y.slot b _ z hf he (nt b o q ht)
   exact⟨sl',z'⟩
 · obtain⟨T',n,r⟩:=y.ent
   refine⟨T',?_,r⟩
   rcases n with n | n
   · by_cases hh:hd=some T'
     · exact .inr hh
     · refine .inl (n1 T' n (fun z=>?_) (Ne.symm hh))
       obtain⟨vs,sl,q,r1,nT,_⟩:=r
       exact nT z
   · cases n
     exact hT
theorem wW {base:Heap}{env:Env}{outer:List Env}{L e:Addr}{C:EC}{head:Value}{vs:Array Value}{sl:Array (Option Value)}{had:Bool}{Q:Unit→Shared→Prop}
 (fr:A.frames=some (env::outer)) (ff:s.heap.FunFrames base (env::outer)) (ef:env.frame=some L) (re:s.heap.get? e=some {cls:=C.1,dict:=C.2,data:=.fields vs,slots:=sl}) (v1:1 < vs.size)
 (k:∀ h',Noted (frs (env::outer)) e none C s.heap h'→Q () {s with heap:=h'}):
 wpAny M A (do let a ← frameOf env;let pl ← entryPlaceOf L had;let b ← EntryCells.newEntry head a .none (rawInt L) .none pl;setField (.ref e) 1 b) Q E s:=by
 have efs:e ∉ frs (env::outer):=fun z=>by
  obtain⟨_,o,q,nf⟩:=ff.mem z
  rw [re] at q;cases q
  exact nf vs rfl
 refine wpAny_bind (wpAny_frameOf_fun fr ff ef fun g so=>?_)
 refine wpAny_bind (wpAny_entryPlaceOf fun pl ip=>?_)
 unfold EntryCells.newEntry newFields
 refine wpAny_bind (wpAny_newObj_type ?_ (ip.sizeOk5 _ _ _ _ _))
 generalize hN:({cls:=.type "traceback",dict:=none,data:=.fields ([head,.ref L,.none,rawInt L,.none]++(if pl.isEmpty then List.replicate 6 Value.none else pl)).toArray}:Obj)=N
 have Nd:N.data= .fields ([head,.ref L,.none,rawInt L,.none]++(if pl.isEmpty then List.replicate 6 Value.none else pl)).toArray:=by rw [← hN]
 have q1:g.get? e=some {cls:=C.1,dict:=C.2,data:=.fields vs,slots:=sl}:=(so.2.1 e efs).trans re
 have q2:=Heap.get?_push_of_some (h:=g) N q1
 have ne:g.objs.size≠e:=Nat.ne_of_gt (Heap.lt_size q1)
 refine wpAny_setField q2 rfl v1 (k _ ?_)
 have q3:=Heap.get?_update_self (Obj.mapFields (·.setIfInBounds 1 (Value.ref g.objs.size))) q2 rfl
 have nf:N.isFreed=false:=Obj.isFreed_of_fields Nd
 have t3:((g.push N).update e (Obj.mapFields (·.setIfInBounds 1 (Value.ref g.objs.size)))).get? g.objs.size=some N:=
  (Heap.get?_update_other (g.push N) _ (Ne.symm ne)).trans (Heap.get?_push_size g nf)
 have oth:∀ b o,b≠e→g.get? b=some o→((g.push N).update e (Obj.mapFields (·.setIfInBounds 1 (Value.ref g.objs.size)))).get? b=some o:=fun b o hb q=>by
  rw [Heap.get?_update_other _ _ (Ne.symm hb)]
  exact Heap.get?_push_of_some _ q
 refine⟨fun b o q hf he _=>oth b o he ((so.2.1 b hf).trans q),fun b o q hf he _=>?_,g.objs.size,.inl ?_,vs.setIfInBounds 1 (.ref g.objs.size),sl,q3,by simp [v1],ne,N,_,rawInt L,t3,Nd,?_⟩
 · obtain⟨sl',q'⟩:=so.2.2 b o q
   exact⟨sl',oth b _ he q'⟩
 · rw [so.1]
   exact Heap.get?_none_of_le (Nat.le_refl _)
 · simp
theorem qBw {base:Heap}{env:Env}{outer:List Env}{L e:Addr}{C:EC}{hd:Option Addr}{Q:Unit→Shared→Prop}
 (fr:A.frames=some (env::outer)) (ff:s.heap.FunFrames base (env::outer)) (ef:env.frame=some L) (re:xq s.heap e C hd)
 (k:∀ h',Noted (frs (env::outer)) e hd C s.heap h'→Q () {s with heap:=h'}):wpAny M A (noteFrame (.ref e) env) Q E s:=by
 have re0:=re
 obtain⟨vs,sl,q,r⟩:=re
 unfold noteFrame
 simp only [ef]
 cases hd with
 | none=>
  refine wpAny_bind (wpAny_field q rfl r ?_)
  rw [if_neg (by decide)]
  exact wW fr ff ef q (Array.getElem?_eq_some_iff.mp r).1 k
 | some T=>
  obtain⟨r1,nT,oT,ts,m,qT,dT,r3⟩:=r
  refine wpAny_bind (wpAny_field q rfl r1 ?_)
  rw [if_pos (by simp)]
  refine wpAny_bind (wpAny_field qT dT r3 ?_)
  by_cases hm:(m == rawInt L)=true
  · rw [if_pos hm]
    exact wpAny_pure (k s.heap ⟨fun b o q _ _ _=>q,fun b o q _ _ _=>⟨o.slots,q⟩,T,.inr rfl,re0⟩)
  rw [if_neg hm]
  refine wpAny_bind (wpAny_setField qT dT (Array.getElem?_eq_some_iff.mp r3).1 ?_)
  have oth:∀ b,b≠T→(s.heap.update T (Obj.mapFields (·.setIfInBounds 3 Value.none))).get? b=s.heap.get? b:=fun b z=>Heap.get?_update_other _ _ (Ne.symm z)
  have qT':=Heap.get?_update_self (Obj.mapFields (·.setIfInBounds 3 Value.none)) qT (Obj.isFreed_of_fields (Obj.data_mapFields dT _))
  have nf:∀ b o,s.heap.get? b=some o→(∀ vs,o.data≠ .fields vs)→b≠T:=fun b o z n w=>by
   rw [w,qT] at z;cases z
   exact n ts dT
  refine wW (s:={s with heap:=s.heap.update T (Obj.mapFields (·.setIfInBounds 3 Value.none))}) fr (ff.of_keeps fun b o z n=>⟨o,(oth b (nf b o z n)).trans z,rfl⟩) ef ((oth e (Ne.symm nT)).trans q) (Array.getElem?_eq_some_iff.mp r1).1 fun h' x=>?_
  exact k h' (x.before oth ⟨_,qT'⟩)
theorem vT {e T:Addr}{C:EC}{fo:Option Addr}{Q:Unit→Shared→Prop}(re:xq s.heap e C (some T))
 (k:∀ h',(∀ fs,Noted fs e (some T) C s.heap h')→Q () {s with heap:=h'}):wpAny M A (setFlight (.ref e) fo) Q E s:=by
 obtain⟨vs,sl,q,r1,nT,oT,ts,m,qT,dT,r3⟩:=re
 unfold setFlight
 refine wpAny_bind (wpAny_field q rfl r1 ?_)
 rw [if_pos (by simp)]
 have oth:∀ b,b≠T→(s.heap.update T (Obj.mapFields (·.setIfInBounds 3 (fo.elim Value.none fun f=>rawInt f)))).get? b=s.heap.get? b:=fun b z=>Heap.get?_update_other _ _ (Ne.symm z)
 refine wpAny_setField qT dT (Array.getElem?_eq_some_iff.mp r3).1 (k _ fun fs=>⟨fun b o q _ _ z=>?_,fun b o q _ _ z=>⟨o.slots,?_⟩,T,.inr rfl,?_⟩)
 · rw [oth b fun w=>z (by rw [w])];exact q
 · rw [oth b fun w=>z (by rw [w])];exact q
 · refine⟨vs,sl,(Heap.get?_update_other _ _ nT).trans q,r1,nT,_,_,fo.elim Value.none fun f=>rawInt f,Heap.get?_update_self _ qT (Obj.isFreed_of_fields (Obj.data_mapFields dT _)),Obj.data_mapFields dT _,?_⟩
   have h3:=(Array.getElem?_eq_some_iff.mp r3).1
   simp [h3]
theorem kj {e T:Addr}{C:EC}{Q:Unit→Shared→Prop}(re:xq s.heap e C (some T))
 (k:∀ h',(∀ fs,Noted fs e (some T) C s.heap h')→Q () {s with heap:=h'}):wpAny M A (setFlight (.ref e) none) Q E s:=vT re k
theorem qEo {base:Heap}{env:Env}{outer:List Env}{L e:Addr}{C:EC}{hd:Option Addr}{Q:Unit→Shared→Prop}
 (fr:A.frames=some (env::outer)) (ff:s.heap.FunFrames base (env::outer)) (ef:env.frame=some L) (re:xq s.heap e C hd)
 (k:∀ h',Noted (frs (env::outer)) e hd C s.heap h'→Q () {s with heap:=h'}):wpAny M A (noteFrame (.ref e) env) (fun _ s'=>wpAny M A (setFlight (.ref e) none) Q E s') E s:=by
 refine qBw fr ff ef re fun h1 N1=>?_
 obtain⟨T,hT,rT⟩:=N1.ent
 exact kj (s:={s with heap:=h1}) rT fun h2 N2=>k h2 (N1.then hT (N2 _))
theorem qFh {base:Heap}{env:Env}{outer:List Env}{L e:Addr}{C:EC}{hd:Option Addr}{E2:Value→Shared→Prop}
 (fr:A.frames=some (env::outer)) (ff:s.heap.FunFrames base (env::outer)) (ef:env.frame=some L) (re:xq s.heap e C hd)
 (k:∀ h',Noted (frs (env::outer)) e hd C s.heap h'→E2 (.ref e) {s with heap:=h'}):notedBy M A env (cameBackBy M A env E2) (.ref e) s:=by
 refine qBw fr ff ef re fun h1 N1=>?_
 obtain⟨T,hT,rT⟩:=N1.ent
 obtain⟨vs,sl,q,r1,_⟩:=id rT
 show wpAny M A _ _ _ _
 refine wpAny_bind (wpAny_field (s:={s with heap:=h1}) q rfl r1 ?_)
 rw [if_neg (by simp)]
 exact vT (s:={s with heap:=h1}) rT fun h2 N2=>k h2 (N1.then hT (N2 _))
end
theorem qGp {P:Program}{w:World}{H:Hp}{h:Heap}{a:Addr}{o:HO}(x:ObjOk P w H h a o):∃ ob,h.get? a=some ob:=by
 cases o with
 | lst xs=>obtain⟨_,_,_,_,e⟩:=x;exact⟨_,e⟩
 | tup xs=>obtain⟨_,_,_,ob,e,_⟩:=x;exact⟨ob,e⟩
 | dK kvs=>obtain⟨_,_,_,_,o,_,_,e,_⟩:=x;exact⟨_,e⟩
 | dT kvs=>obtain⟨_,_,_,_,o,_,_,e,_⟩:=x;exact⟨_,e⟩
 | set S n=>obtain⟨o,_,_,_,e,_⟩:=x;exact⟨_,e⟩
 | ins C dx fs=>obtain⟨_,_,_,e,_⟩:=x;exact⟨_,e⟩
 | own y=>exact x
 | xd fs=>obtain⟨_,⟨_,_,_,e,_⟩,_⟩:=x;exact⟨_,e⟩
 | rng lo hi=>obtain⟨_,_,_,e⟩:=x;exact⟨_,e⟩
 | frz ob u=>obtain⟨e,_⟩:=x;exact⟨_,e⟩
 | tbl ps=>exact⟨_,x⟩
 | met f y=>exact⟨_,x⟩
 | ext φ=>exact x.2.1
def qEg (h₀:Heap)(H:Hp)(ps:List (Addr × Obj))(e:Addr):Prop:=h₀.get? e=none∧H e=none∧∀ p∈ps,p.1≠e
def qIh (h₀:Heap)(H:Hp)(ps:List (Addr × Obj))(h:Heap)(e:Addr)(C:EC):Prop:=
 qEg h₀ H ps e∧∃ hd,xq h e C hd∧∀ T,hd=some T→qEg h₀ H ps T
def CXR (P:Program)(w:World):CXT:=fun outer H s E e s'=>∃ ea C H',e= .ref ea∧s'.os=s.os∧AllBare s'.gens∧Un (frs outer) [] H H' s.heap s'.heap∧HOk P w H' s'.heap∧qIh s.heap H' [] s'.heap ea C∧E C.1 C.2 H'
def XE (X:Cx)(Ex:Value→Option Addr→Hp→Prop):Value→Shared→Prop:=fun e s'=>∃ ea C σ H',e= .ref ea∧Inv X [] σ H' s'∧qIh X.s₀.heap H' X.pn s'.heap ea C∧Ex C.1 C.2 H'
section
variable {X : Cx} {σ : L2.St} {H : Hp} {s : Shared}
theorem xP {e:Addr}{hd:Option Addr}{C:EC}{h':Heap}(I:Inv X [] σ H s)(hex:X.ex=[])(re:xq s.heap e C hd)(n1:qEg X.s₀.heap H X.pn e)(n3:∀ T,hd=some T→qEg X.s₀.heap H X.pn T)
 (N:Noted (frs X.stack) e hd C s.heap h'):Inv X [] σ H {s with heap:=h'}∧qIh X.s₀.heap H X.pn h' e C:=by
 have B:=I.base
 rw [hex] at B
 have ne:∀ b o,X.s₀.heap.get? b=some o→b≠e∧some b≠hd∧b≠X.env.locals:=fun b o q=>by
  refine⟨fun z=>?_,fun z=>?_,Nat.ne_of_lt (Nat.lt_of_lt_of_le (Heap.lt_size q) I.ok.above)⟩
  · rw [z,n1.1] at q;cases q
  · rw [(n3 b z.symm).1] at q;cases q
 have nin:∀ b,b ∉ ([]:List Addr):=fun b z=>nomatch z
 have nfl:∀ b o,s.heap.get? b=some o→(∀ vs,o.data≠ .fields vs)→b≠e∧some b≠hd:=fun b o q nf=>by
  obtain⟨vs,sl,qe,r⟩:=re
  refine⟨fun z=>?_,fun z=>?_⟩
  · rw [z,qe] at q;cases q
    exact nf vs rfl
  · subst z
    obtain⟨_,_,oT,ts,_,qT,dT,_⟩:=r
    rw [qT] at q;cases q
    exact nf ts dT
 have up:∀ b o,s.heap.get? b=some o→b≠e→some b≠hd→∃ sl,h'.get? b=some {o with slots:=sl}:=fun b o q z1 z2=>by
  by_cases hs:b∈frs X.stack
  · exact N.slot b o q hs z1 z2
  · exact⟨o.slots,N.keep b o q hs z1 z2⟩
 have un:Un X.fs [] X.H₀ H X.s₀.heap h':=by
  refine⟨fun b o q n hb hx=>?_,fun b o q n hb hx=>?_,fun b o q n hx=>B.free b o q n hx,fun b o q hx=>?_,B.tups,B.frzs,B.tbls⟩
  · obtain⟨z1,z2,z3⟩:=ne b o q
    refine N.keep b o (B.keep b o q n hb hx) (fun z=>?_) z1 z2
    rcases List.mem_cons.mp (I.stkSub b z) with w | w
    · exact z3 w
    · exact hb w
  · obtain⟨z1,z2,z3⟩:=ne b o q
    obtain⟨sl,q1⟩:=B.slot b o q n hb hx
    obtain⟨sl',q2⟩:=up b _ q1 z1 z2
    exact⟨sl',q2⟩
  · obtain⟨z1,z2,z3⟩:=ne b o q
    obtain⟨o',q1⟩:=B.there b o q hx
    obtain⟨sl',q2⟩:=up b _ q1 z1 z2
    exact⟨_,q2⟩
 have hok:HOk X.prog X.w H h':=fun a u q=>by
  have key:∀ c,H c=none→¬ (c=a∨H c=some (.own a)):=fun c z w=>by
   rcases w with w | w
   · rw [w,q] at z;cases z
   · rw [z] at w;cases w
  exact(I.hok a u q).stay (fun c v hc z=>N.keep c v z (fun w=>key c (I.stkFree c w) hc) (fun w=>key c (by rw [w];exact n1.2.1) hc) fun w=>key c (n3 c w.symm).2.1 hc) (fun _ z=>z) fun _ _ z=>z
 have cellK:∀ c v,s.heap.IsCell c v→h'.IsCell c v:=fun c v ⟨o,q,d⟩=>by
  obtain⟨z1,z2⟩:=nfl c o q fun vs w=>by rw [d] at w;cases w
  obtain⟨sl,q'⟩:=up c o q z1 z2
  exact⟨_,q',d⟩
 have I':Inv X [] σ H {s with heap:=h'}:=by
  refine⟨I.ok,I.os,I.bare,by rw [hex];exact un,?_,fun y c e=>?_,I.free,I.freeC,fun p hp=>?_,hok,I.len⟩
  · obtain⟨m,⟨o,es,ep,ho,hd',r⟩,hl⟩:=I.loc
    obtain⟨z1,z2⟩:=nfl _ o ho fun vs w=>by rw [hd'] at w;cases w
    obtain⟨sl,q'⟩:=up _ o ho z1 z2
    refine⟨m,⟨_,es,ep,q',hd',r⟩,fun i x v e1 e2 e3=>?_⟩
    obtain⟨u,r,l⟩:=hl i x v e1 e2 e3
    refine⟨u,r,?_⟩
    rcases l with l | ⟨k,c,ec,z⟩
    · exact .inl l
    · exact .inr ⟨k,c,ec,cellK c _ z⟩
  · obtain⟨v,z⟩:=I.cell y c e
    exact⟨v,cellK c v z⟩
  · obtain⟨q,n,nl,nf,d⟩:=I.pin p hp
    have hp':p∈X.pn:=by simpa using hp
    refine⟨N.keep p.1 p.2 q (fun z=>?_) (n1.2.2 p hp') fun z=>(n3 p.1 z.symm).2.2 p hp' rfl,n,nl,nf,d⟩
    rcases List.mem_cons.mp (I.stkSub p.1 z) with w | w
    · exact nl w
    · exact nf w
 refine⟨I',n1,?_⟩
 obtain⟨T,nT,r⟩:=N.ent
 refine⟨some T,r,fun T' e'=>?_⟩
 cases e'
 rcases nT with nT | nT
 rotate_left
 · exact n3 T nT
 refine⟨?_,?_,fun p hp z=>?_⟩
 · cases q:X.s₀.heap.get? T with
   | none=>rfl
   | some o=>
    obtain⟨o',z⟩:=B.there T o q (nin T)
    rw [nT] at z;cases z
 · cases q:H T with
   | none=>rfl
   | some u=>
    obtain⟨o',z⟩:=qGp (I.hok T u q)
    rw [nT] at z;cases z
 · have q:=(I.pin p (List.mem_append_left _ hp)).1
   rw [z,nT] at q;cases q
end
theorem qK8 {X:Cx}{Ex:Value→Option Addr→Hp→Prop}{L:Addr}{env:Env}{outer:List Env}(hst:X.stack=env::outer)(he:X.env=env)(hf:env.frame=some L)(hex:X.ex=[]):PassesOwn (model X.prog X.w) X.A X.env (XE X Ex):=by
 rintro e s' ⟨ea,C,σ,H',rfl,I,⟨n1,hd,r,n3⟩,z⟩
 subst he
 have fr:=I.ok.frames
 rw [hst] at fr
 have ff:=I.stack
 rw [hst] at ff
 refine qFh fr ff hf r fun h' N'=>?_
 rw [← hst] at N'
 obtain⟨I',x'⟩:=xP I hex r n1 n3 N'
 exact⟨ea,C,σ,H',rfl,I',x',z⟩
theorem qIb {X:Cx}{E:Value→Shared→Prop}{st:List Stmt}{t:TS}(h:PSs (X.wish E) st t)(hE:∀ e s',E e s'→X.xe e s'):PSs X st t:=fun pins s σ H D I hw=>
 wpAny_mono (h pins s σ H D (I.wish E) hw) (fun _ _ q=>q.unwish) hE
section
variable {P : Program} {w : World} {K : PySem.W.Frag} {mg : Str → Option Value} {base : Heap}
theorem okX {x qual:Str}{st:Stmt}{f:Addr}{fd:FuncData}{N ps:List Str}{k:Nat}{sp:Sp}(F:Fun K x qual st f fd)(S:qS N ps (qH st))(len:∀ vs H Q E,sp vs H Q E→vs.length=ps.length)
 (hbody:∀ (cdv:Value) (A:Around) (outer:List Env) (s:Shared) (H:Hp) (vs:List V) (Q:VK) (E:XK),Room k (A.deeper (envOfC qual (qH st) s.heap.objs.size f cdv))→sp vs H Q E→
   ∃ t,PSs ((qFd (CXR P w) P w K mg base N qual (qH st) f cdv A outer s H E).wish (XE (qFd (CXR P w) P w K mg base N qual (qH st) f cdv A outer s H E) E)) (ju st) t∧
    t {nx:=fun _ H'=>Q .non H',rt:=Q} (start N vs) H):FnOk P w K mg base (CXR P w) (k+1) f fd ps sp:=by
 obtain⟨oc,od,kV,doc,pm,an,cdv,ct,osl,rfl,lk,hcd⟩:=F.ex
 refine qJ6 lk hcd S len fun A outer s H vs Q E hr hsp=>?_
 obtain⟨t,h,q⟩:=hbody cdv A outer s H vs Q E hr hsp
 refine⟨t,qIb h ?_,q⟩
 rintro e s' ⟨ea,C,σ,H',rfl,I,⟨n1,hd,r,n3⟩,z⟩
 show wpAny _ _ (leaving _ _) _ _ _
 unfold leaving
 refine wpAny_bind (qEo I.ok.frames I.stack rfl r fun h' N'=>?_)
 obtain⟨I',x'⟩:=xP I rfl r n1 n3 N'
 exact⟨ea,C,H',rfl,I.os,I.bare,I'.base,I'.hok,x',z⟩
end
theorem qKm {X:Cx}{Ex:Value→Option Addr→Hp→Prop}(hex:X.ex=[]):qCm (CXR X.prog X.w) (X.wish (XE X Ex)) Ex:=by
 rintro pins σ H s e s' I ⟨ea,C,H',rfl,os,bare,un,hok,⟨n1,hd,r,n3⟩,q⟩
 have I0:=I.unwish
 have I1:Inv X pins σ H' s':=I0.call' (ch:=[]) os un hok bare fun b z=>nomatch z
 have old:∀ b,s.heap.get? b=none→X.s₀.heap.get? b=none:=fun b z=>by
  cases w:X.s₀.heap.get? b with
  | none=>rfl
  | some o=>
   obtain⟨o',w'⟩:=I0.base.there b o w (by rw [hex];intro y;cases y)
   rw [z] at w';cases w'
 have pn:∀ b,s.heap.get? b=none→∀ p∈X.pn,p.1≠b:=fun b z p hp w=>by
  have q:=(I0.pin p (List.mem_append_left _ hp)).1
  rw [w,z] at q;cases q
 exact⟨ea,C,σ,H',rfl,I1.pins_of (pins':=[]) fun p hp=>(nomatch hp),⟨⟨old _ n1.1,n1.2.1,pn _ n1.1⟩,hd,r,fun T e=>⟨old _ (n3 T e).1,(n3 T e).2.1,pn _ (n3 T e).1⟩⟩,q⟩
theorem qIl {X:Cx}{Ex:Value→Option Addr→Hp→Prop}{k j:Nat}{x:Str}{st:Stmt}{ps:List Str}{f:Addr}{fd:FuncData}{sp:Sp}{e:Expr}{es:List Expr}{t:TA}{p pos:Pos}(D:Def X.K X.mg x st ps f fd)(F:FnOk X.prog X.w X.K X.mg X.base (CXR X.prog X.w) j f fd ps sp)(hr:Room k X.A)(hg:Gl X x)
 (ha:PA (X.wish (XE X Ex)) (e::es) t) (hj:j≤k:=by decide) (hex:X.ex=[]:=by rfl)
 (hdb:(x == ("__debug__":Str))=false:=by decide) (he:starEach (e::es) X.env=(false,eval e X.env)::starEach es X.env:=by rfl) (hpl:(backTo pos (starEach es X.env)).any (·.1)=false:=by rfl):
 PE (X.wish (XE X Ex)) (.Call (.Name x p) (e::es) [] pos) (qHy sp [] Ex t):=
 qEx (X:=X.wish (XE X Ex)) (CX:=CXR X.prog X.w) F (hr.mono hj) hg D.m D.F.kp D.b .nil (qKm hex) ha hdb he hpl
def qJ8:List Value:=[.type "ValueError",.type "Exception",.type "BaseException",.type "object"]
def OwnX (K:PySem.W.Frag)(C:Addr):Prop:=PySem.W.excIn K C qJ8 "ValueError.__new__"=true
theorem qH8 {K:PySem.W.Frag}{h:Heap}{mg:Str→Option Value}{x:Str}{C:Addr}(X:K.In h)(b:mg x=some (.ref C))(q:OwnX K C):OwnCls x C qJ8 "ValueError.__new__" mg h:=by
 refine⟨b,?_⟩
 unfold OwnX PySem.W.excIn at q
 split at q
 · rename_i dd cd sl ho
   split at q
   · rename_i C' bm k0 k1 k2 k3 n k5 hm hs
     simp only [Bool.and_eq_true,beq_iff_eq,Bool.not_eq_true'] at q
     obtain⟨⟨⟨⟨⟨eC,en⟩,del⟩,ht⟩,ok⟩,ni⟩:=q
     subst eC en
     obtain⟨nm,bs,mro,ns,qn,hd,sn,sub,ab,col,dl⟩:=cd
     dsimp only at hm del ok ni
     subst hm del
     have hsl:sl=#[k0,k1,k2,k3,some (.builtin "ValueError.__new__"),k5]:=by
      obtain⟨l⟩:=sl
      simp only at hs
      rw [hs]
     subst hsl
     exact⟨bm,ns,nm,qn,bs,hd,sn,sub,ab,col,dd,k0,k1,k2,k3,k5,_,X _ _ ho,.of_isNs (PySem.W.isNs_of_in X ok),PySem.W.nsMap_none_of_in X ok ni,PySem.W.tail_of_in X ht⟩
   · cases q
 · cases q
def qJb (C:Addr)(Ex:Value→Option Addr→Hp→Prop)(t:TA):TS:=fun _ σ H=>t σ H fun vs H1=>vs.length≤sizeLine∧Ex (.ref C) none H1
theorem qGj {X:Cx}{Ex:Value→Option Addr→Hp→Prop}{x:Str}{C:Addr}{np cpos pos:Pos}{e₀:Expr}{jZ:List Expr}{t:TA}(hcm:X.calm=true)(hg:Gl X x)(hm:X.mg x=some (.ref C))(hx:OwnX X.K C)(ha:PA (X.wish (XE X Ex)) (e₀::jZ) t)
 (he:starEach (e₀::jZ) X.env=(false,eval e₀ X.env)::starEach jZ X.env:=by rfl) (hpl:(backTo cpos (starEach jZ X.env)).any (·.1)=false:=by rfl) (hex:X.ex=[]:=by rfl) (hdb:(x == ("__debug__":Str))=false:=by decide):
 PS (X.wish (XE X Ex)) (.Raise (some (.Call (.Name x np) (e₀::jZ) [] cpos)) none pos) (qJb C Ex t):=by
 intro pins s σ H D I h
 obtain⟨tl,N,nm,q,bs,hdct,sn,sub,ab,col,dd,k0,k1,k2,k3,k5,mN,hC,hN,hni,T⟩:=
  (qH8 (X:=I.ok.mod.kin) hm hx).obj
 refine wpAny_Raise_call_subT (bm:=tl) (C:=C) (N:=N) (nm:=nm) (q:=q) (bs:=bs) (hdct:=hdct) (sn:=sn) (sub:=sub) (ab:=ab) (col:=col) (dd:=dd) (k5:=k5) (k0:=k0) (k1:=k1) (k2:=k2) (k3:=k3)
  PySem.F.excBase_ValueError (mN:=mN) (T.hasType PySem.F.excBase_ValueError.hasBase) (I.ok.hd hcm) (by rw [he];show (false || (backTo cpos (starEach jZ X.env)).any (·.1))=false;rw [hpl];rfl) hni (vc I hg hm ⟨rfl,?_⟩ hdb)
 have z:=ha cpos pins s σ H _ I h
 rw [show (X.wish (XE X Ex)).env=X.env from rfl] at z
 rw [he] at z ⊢
 refine Calls.evalArgs_plain (wpAny_mono z (fun us s2 w=>?_) fun _ _ y=>y)
 obtain⟨vs,H1,I1,r1,hl,ex⟩:=w
 have I1':=I1.unwish
 refine⟨rfl,by rw [← r1.length];exact hl,I1.bk _ _ hC,hN.keeps I1.bk,T.keeps I1.bk,fun h' e hmk=>?_⟩
 obtain⟨tt,q1,q2,q3⟩:=hmk.there
 have I2:Inv X pins σ H1 {s2 with heap:=h'}:=I1'.kept (t':=s2.toks) hmk.keeps
 refine⟨e,(.ref C,none),σ,H1,rfl,I2.pins_of (pins':=[]) fun p hp=>(nomatch hp),⟨⟨?_,?_,fun p hp z=>?_⟩,none,⟨_,_,q1,rfl⟩,fun T e'=>nomatch e'⟩,ex⟩
 · cases w:X.s₀.heap.get? e with
   | none=>rfl
   | some o=>
    obtain⟨o',w'⟩:=I1'.base.there e o w (by rw [hex];intro y;cases y)
    rw [hmk.new] at w';cases w'
 · cases w:H1 e with
   | none=>rfl
   | some u=>
    obtain⟨o',w'⟩:=qGp (I1'.hok e u w)
    rw [hmk.new] at w';cases w'
 · have q':=(I1'.pin p (List.mem_append_left _ hp)).1
   rw [z,hmk.new] at q';cases q'
def pnX (X:Cx)(l:List (Addr × Obj)):Cx:={X with pn:=l}
def hdX (X:Cx)(ea:Addr):Cx:={X with A:=X.A.mark (some (.ref ea)),calm:=false}
section
variable {X : Cx} {pins : List (Addr × Obj)} {σ : L2.St} {H : Hp} {s : Shared}
theorem qI7 (I:Inv X pins σ H s):Inv (pnX X (X.pn++pins)) [] σ H s:=by
 obtain⟨a1,a2,a3,a4,a5,a6,a7,a8,a9,a10,a11,a12,a13,a14,a15,a16,a17,a18⟩:=I.ok
 exact⟨⟨a1,a2,a3,a4,a5,a6,a7,a8,a9,a10,a11,a12,a13,a14,a15,a16,a17,a18⟩,I.os,I.bare,I.base,I.loc,I.cell,I.free,I.freeC,fun p hp=>I.pin p (by have z:p∈(X.pn++pins)++[]:=hp;simpa using z),I.hok,I.len⟩
theorem kB (I:Inv (pnX X (X.pn++pins)) [] σ H s):Inv X pins σ H s:=by
 obtain⟨a1,a2,a3,a4,a5,a6,a7,a8,a9,a10,a11,a12,a13,a14,a15,a16,a17,a18⟩:=I.ok
 exact⟨⟨a1,a2,a3,a4,a5,a6,a7,a8,a9,a10,a11,a12,a13,a14,a15,a16,a17,a18⟩,I.os,I.bare,I.base,I.loc,I.cell,I.free,I.freeC,fun p hp=>I.pin p (by show p∈(X.pn++pins)++[];simpa using hp),I.hok,I.len⟩
theorem qDn {ea:Addr}(I:Inv X pins σ H s):Inv (hdX X ea) pins σ H s:=by
 obtain⟨a1,a2,a3,a4,a5,a6,a7,a8,a9,a10,a11,a12,a13,a14,a15,a16,a17,a18⟩:=I.ok
 exact⟨⟨a1,a2,a3,a4,a5,a6,a7,a8,fun h=>absurd (show false=true from h) Bool.false_ne_true,a10,a11,a12,a13,a14,a15,a16,a17,a18⟩,I.os,I.bare,I.base,I.loc,I.cell,I.free,I.freeC,I.pin,I.hok,I.len⟩
theorem wt {ea:Addr}(I:Inv (hdX X ea) pins σ H s)(hd:X.calm=true→X.A.handled=none):Inv X pins σ H s:=by
 obtain⟨a1,a2,a3,a4,a5,a6,a7,a8,a9,a10,a11,a12,a13,a14,a15,a16,a17,a18⟩:=I.ok
 exact⟨⟨a1,a2,a3,a4,a5,a6,a7,a8,hd,a10,a11,a12,a13,a14,a15,a16,a17,a18⟩,I.os,I.bare,I.base,I.loc,I.cell,I.free,I.freeC,I.pin,I.hok,I.len⟩
def vH (e:Addr)(C:EC):HO:=.ext fun h=>∃ (vs:Array Value) (sl:Array (Option Value)),h.get? e=some {cls:=C.1,dict:=C.2,data:=.fields vs,slots:=sl}
theorem wl {a:Addr}{C:EC}{hd:Option Addr}(I:Inv X [] σ H s)(_:X.ex=[])(n:qEg X.s₀.heap H X.pn a)(r:xq s.heap a C hd):Inv X [] σ (upd H a (vH a C)) s:=by
 obtain⟨vs,sl,q,_⟩:=r
 have B:=I.base
 have ne:∀ b o,X.s₀.heap.get? b=some o→b≠a:=fun b o w z=>by rw [z,n.1] at w;cases w
 refine⟨I.ok,I.os,I.bare,⟨B.keep,B.slot,fun b o w z hx=>?_,B.there,fun b xs w=>?_,fun b o u w=>?_,fun b ps w=>?_⟩,I.loc,I.cell,?_,fun y c e=>?_,fun p hp=>?_,fun b u w=>?_,I.len⟩
 · rw [qK (ne b o w)];exact B.free b o w z hx
 · have z:=B.tups b xs w
   rw [qK (qM z n.2.1)];exact z
 · have z:=B.frzs b o u w
   rw [qK (qM z n.2.1)];exact z
 · obtain⟨more,z⟩:=B.tbls b ps w
   exact⟨more,by rw [qK (qM z n.2.1)];exact z⟩
 · obtain⟨m,⟨o,es,ep,ho,hd',_⟩,_⟩:=I.loc
   rw [qK (fun z=>by rw [z,q] at ho;cases ho;cases hd')]
   exact I.free
 · obtain⟨v,o,ho,hd'⟩:=I.cell y c e
   rw [qK (fun z=>by rw [z,q] at ho;cases ho;cases hd')]
   exact I.freeC y c e
 · obtain⟨w1,w2,w3⟩:=I.pin p hp
   have hp':p∈X.pn:=by simpa using hp
   rw [qK (n.2.2 p hp')]
   exact⟨w1,w2,w3⟩
 · by_cases hb:b=a
   · subst hb
     rw [qD] at w
     cases w
     refine⟨⟨vs,sl,q⟩,⟨_,q⟩,fun h1 h2 z k=>?_⟩
     obtain⟨vs',sl',z⟩:=z
     exact⟨vs',sl',k _ z⟩
   · rw [qK hb] at w
     exact(I.hok b u w).stay (fun _ _ _ z=>z) (fun c z=>by rw [qK (qM z n.2.1)];exact z) fun c xs z=>by rw [qK (qM z n.2.1)];exact z
theorem zC {M:Model}{A:Around}{E:Value→Shared→Prop}{i:Nat}{n:Str}{pos:Pos}{Q:Unit→Shared→Prop}(I:Inv X pins σ H s)(hN:X.N.Nodup)(hi:X.N[i]? =some n)(hl:X.env.scope.names.lookup n=some .local)
 (h:∀ s',Inv X pins (σ.set i none) H s'→Q () s'):wpAny M A (do bindName X.env n .none;unbindBehindTheSuite X.env n pos) Q E s:=by
 refine wpAny_bind (wpAny_bindName (kC (v:=.non) I hN hi (.inl hl) rfl (fun s1 I1=>?_) (.inr hl)))
 unfold unbindBehindTheSuite
 refine wpAny_onRaise ?_
 have hcls:(X.env.scope.kind == .class || (X.env.scope.kind == .module && X.env.locals != X.env.globals))=false:=by rw [I1.ok.kind];rfl
 have hiσ:i < σ.length:=by rw [I.len];exact(List.getElem?_eq_some_iff.mp hi).1
 obtain⟨m,hn,hlk⟩:=I1.loc
 obtain⟨u,r,lk⟩:=hlk i n .non hi (by rw [List.getElem?_set_self hiσ]) (.inl hl)
 have hm:m n=some u:=by
  rcases lk with ⟨_,z⟩ | ⟨z,_⟩
  · exact z
  · have hl':X.env.kindOf n=some .local:=hl
    rw [hl'] at z
    rcases z with z | z <;> cases z
 obtain⟨oL,es,ep,hoL,hdL,_⟩:=id hn
 refine wpAny_unbindName_local hl hn hm hcls fun h' u' hn' hs=>h _ ?_
 have B:=I1.base
 have neL:∀ b o,X.s₀.heap.get? b=some o→b≠X.env.locals:=fun b o e=>Nat.ne_of_lt (Nat.lt_of_lt_of_le (Heap.lt_size e) I1.ok.above)
 refine⟨I1.ok,I1.os,I1.bare,⟨fun b o e n hb hx=>(hs.2 b (neL b o e)).trans (B.keep b o e n hb hx),fun b o e n hb hx=>?_,B.free,fun b o e hx=>?_,B.tups,B.frzs,B.tbls⟩,⟨_,hn',fun j y v e1 e2 e3=>?_⟩,fun y c e=>?_,I1.free,I1.freeC,fun p hp=>?_,fun b ob e=>?_,?_⟩
 · obtain⟨sl,z⟩:=B.slot b o e n hb hx
   exact⟨sl,(hs.2 b (neL b o e)).trans z⟩
 · obtain⟨o',z⟩:=B.there b o e hx
   exact⟨o',(hs.2 b (neL b o e)).trans z⟩
 · have hj:j≠i:=fun z=>by
    subst z
    rw [List.getElem?_set_self hiσ] at e2
    cases e2
   rw [List.getElem?_set_ne (Ne.symm hj)] at e2
   obtain⟨u2,r2,l2⟩:=hlk j y v e1 (by rw [List.getElem?_set_ne (Ne.symm hj)];exact e2) e3
   refine⟨u2,r2,?_⟩
   rcases l2 with ⟨k,z⟩ | ⟨k,c,ec,z⟩
   · refine .inl ⟨k,?_⟩
     have:y≠n:=fun w=>hj (wJ hN e1 (w ▸ hi))
     simp [this,z]
   · exact .inr ⟨k,c,ec,z.sameBut hs (I1.cne y c ec)⟩
 · obtain⟨w',z⟩:=I1.cell y c e
   exact⟨w',z.sameBut hs (I1.cne y c e)⟩
 · obtain⟨e,n,ne,nf,d⟩:=I1.pin p hp
   exact⟨(hs.2 p.1 ne).trans e,n,ne,nf,d⟩
 · refine(I1.hok b ob e).stay (fun c w' hc q=>(hs.2 c fun z=>?_).trans q) (fun _ q=>q) fun _ _ q=>q
   have fr:=I1.free
   rcases hc with hc | hc
   · rw [← hc,z,fr] at e;cases e
   · rw [z,fr] at hc;cases hc
 · have:=I1.len
   simpa using this
end
def qHo (D:qC6)(i:Option Nat):qC6:=
 let f:(L2.St→Hp→Prop)→L2.St→Hp→Prop:=fun q σ H=>match i with | some i=>q (σ.set i none) H | none=>q σ H
 {nx:=f D.nx,rt:=D.rt,bk:=f D.bk,ct:=f D.ct}
def qKt (i:Option Nat)(ea:Addr)(σ:L2.St):L2.St:=match i with | some i=>σ.set i (some (.ref ea)) | none=>σ
def qLk (K:PySem.W.Frag)(Ex:Value→Option Addr→Hp→Prop)(C:Addr)(i:Option Nat)(tb ts:TS):TS:=fun D σ H=>tb D σ H∧∀ (ea:Addr) (B:EC) (σ':L2.St) (H':Hp),Ex B.1 B.2 H'→H' ea=none→σ'.length=σ.length→
 PySem.W.exmOne K B.1 (.ref C)=some true∧ts (qHo D i) (qKt i ea σ') (upd H' ea (vH ea B))
def qKg (K:PySem.W.Frag)(Ex:Value→Option Addr→Hp→Prop)(C:Addr)(i:Option Nat)(tb ts te:TS):TS:=fun D σ H=>qLk K Ex C i (fun _=>tb {D with nx:=te D}) ts D σ H
inductive qAd (X:Cx):Option Str→Option Nat→Prop where
 | none:qAd X none none
 | some {n:Str} {i:Nat} (hi:X.N[i]? =some n) (hl:X.env.scope.names.lookup n=some .local):qAd X (some n) (some i)
theorem qIi {X:Cx}{body:List Stmt}{b₀:Stmt}{suite:List Stmt}{x:Str}{C:Addr}{nm:Option Str}{i:Option Nat}{np hpos pos:Pos}{oe:List Stmt}{tb ts te:TS}(Ex:Value→Option Addr→Hp→Prop)
 (hcl:qAd X nm i) (hN:X.N.Nodup) (hg:Gl X x) (hm:X.mg x=some (.ref C))
 (hb:∀ l,PSs ((pnX X l).wish (XE (pnX X l) Ex)) body tb) (hs:∀ l ea,PSs (hdX (pnX X l) ea).nox (b₀::suite) ts) (ho:PSs X oe te)
 (hstk:X.stack=X.env::X.outer:=by rfl) (hfr:X.env.frame=some X.env.locals:=by rfl) (hex:X.ex=[]:=by rfl) (hdb:(x == ("__debug__":Str))=false:=by decide):
 PS X (.Try body [.ExceptHandler (some (.Name x np)) nm (b₀::suite) hpos] oe [] pos) (qKg X.K Ex C i tb ts te):=by
 rintro pins s σ H D I ⟨h1,h2⟩
 have I0:=qI7 I
 refine wpAny_Try_except (wpAny_mono (hb (X.pn++pins) [] s σ H {D with nx:=te D} (I0.wish _) h1) (fun f s1 q=>?_) fun e s1 q=>?_)
 · have q:=q.unwish
   cases f with
   | next=>
    obtain⟨σ',H',J,z⟩:=q
    exact ho pins s1 σ' H' D (kB J) z
   | brk=>
    obtain⟨σ',H',J,z⟩:=q
    exact⟨σ',H',kB J,z⟩
   | cont=>
    obtain⟨σ',H',J,z⟩:=q
    exact⟨σ',H',kB J,z⟩
   | ret u=>
    obtain⟨v,σ',H',J,r,z⟩:=q
    exact⟨v,σ',H',kB J,r,z⟩
 · obtain⟨ea,B,σ',H',rfl,I1,⟨n1,hd,r,n3⟩,ex⟩:=q
   have hlen:σ'.length=σ.length:=I1.len.trans I.len.symm
   obtain⟨hx,ht⟩:=h2 ea B σ' H' ex n1.2.1 hlen
   have fr:X.A.frames=some (X.env::X.outer):=by rw [← hstk];exact I.ok.frames
   have ff:s1.heap.FunFrames X.base (X.env::X.outer):=by
    have z:=I1.stack
    rw [show (pnX X (X.pn++pins)).stack=X.env::X.outer from hstk] at z
    exact z
   refine qEo fr ff hfr r fun h' N'=>?_
   have N':Noted (frs X.stack) ea hd B s1.heap h':=by rw [hstk];exact N'
   obtain⟨I2,n1,hd2,r2,n3⟩:=xP I1 hex r n1 n3 N'
   refine wpAny_handleBy_cons (codeAny_handlers_test (vc (X:=hdX (pnX X (X.pn++pins)) ea) (qDn I2) hg hm ?_ hdb)) (by intro z;cases z)
   have LT:PySem.W.Looks (model X.prog X.w) h' (typeOf (.ref ea)) B.1:=by
    obtain⟨vs,sl,qe,_⟩:=r2
    exact(PySem.W.Looks.ld qe).andThen .now
   refine(PySem.W.exm_one (M:=model X.prog X.w) I2.kIn LT hx).here ?_
   show codeAny _ _ _ _ _
   obtain⟨T,rfl,r3⟩:∃ T,hd2=some T∧xq h' ea B (some T):=by
    obtain⟨T,_,_⟩:=N'.ent
    cases hd2 with
    | some T=>exact⟨T,rfl,r2⟩
    | none=>
     obtain⟨T,_,rT⟩:=N'.ent
     obtain⟨vs,sl,q1,q2⟩:=r2
     obtain⟨vs',sl',q1',q2',_⟩:=rT
     rw [q1] at q1'
     cases q1'
     rw [q2] at q2'
     cases q2'
   have run:∀ (s4:Shared) (σ4:L2.St) (Q:Flow→Shared→Prop) (E:Value→Shared→Prop),Inv (hdX (pnX X (X.pn++pins)) ea) [] σ4 (upd H' ea (vH ea B)) s4→ts (qHo D i) σ4 (upd H' ea (vH ea B))→
    (∀ f s5,SP (hdX (pnX X (X.pn++pins)) ea) [] (qHo D i) f s5→Q f s5)→wpAny (model X.prog X.w) (X.A.mark (some (.ref ea))) (execs (b₀::suite) X.env) Q E s4:=fun s4 σ4 Q E I4 z k=>
    wpAny_mono (hs (X.pn++pins) ea [] s4 σ4 _ _ (I4.wish _) z) (fun f s5 q=>k f s5 q.unwish) fun _ _ z=>z.elim
   have hdn:(pnX X (X.pn++pins)).calm=true→(pnX X (X.pn++pins)).A.handled=none:=I2.ok.hd
   cases hcl with
   | none=>
    refine codeAny_handlers_suite (kj r3 fun h3 N3=>?_)
    obtain⟨I3,n1,hd3,r4,n3⟩:=xP I2 hex r3 n1 n3 (N3 _)
    refine run _ _ _ _ (qDn (wl I3 hex n1 r4)) ht fun f s5 q=>?_
    cases f with
    | next=>obtain⟨σ5,H5,J,z⟩:=q;exact⟨σ5,H5,kB (wt J hdn),z⟩
    | brk=>obtain⟨σ5,H5,J,z⟩:=q;exact⟨σ5,H5,kB (wt J hdn),z⟩
    | cont=>obtain⟨σ5,H5,J,z⟩:=q;exact⟨σ5,H5,kB (wt J hdn),z⟩
    | ret u=>obtain⟨v,σ5,H5,J,rv,z⟩:=q;exact⟨v,σ5,H5,kB (wt J hdn),rv,z⟩
   | some hi hl=>
    refine codeAny_handlers_suite_as (kj r3 fun h3 N3=>?_)
    obtain⟨I3,n1,hd3,r4,n3⟩:=xP I2 hex r3 n1 n3 (N3 _)
    refine kC (X:=hdX (pnX X (X.pn++pins)) ea) (v:=.ref ea) (qDn (wl I3 hex n1 r4)) hN hi (.inl hl) rfl (fun s4 I4=>?_) (.inr hl)
    refine run _ _ _ _ I4 ht fun f s5 q=>?_
    cases f with
    | next=>obtain⟨σ5,H5,J,z⟩:=q;exact zC (X:=pnX X (X.pn++pins)) (wt J hdn) hN hi hl fun s6 J6=>⟨_,H5,kB J6,z⟩
    | brk=>obtain⟨σ5,H5,J,z⟩:=q;exact zC (X:=pnX X (X.pn++pins)) (wt J hdn) hN hi hl fun s6 J6=>⟨_,H5,kB J6,z⟩
    | cont=>obtain⟨σ5,H5,J,z⟩:=q;exact zC (X:=pnX X (X.pn++pins)) (wt J hdn) hN hi hl fun s6 J6=>⟨_,H5,kB J6,z⟩
    | ret u=>obtain⟨v,σ5,H5,J,rv,z⟩:=q;exact zC (X:=pnX X (X.pn++pins)) (wt J hdn) hN hi hl fun s6 J6=>⟨v,_,H5,kB J6,rv,z⟩
theorem qIy {X:Cx}{body:List Stmt}{b₀:Stmt}{suite:List Stmt}{x:Str}{C:Addr}{nm:Option Str}{i:Option Nat}{np hpos pos:Pos}{tb ts:TS}(Ex:Value→Option Addr→Hp→Prop)
 (hcl:qAd X nm i) (hN:X.N.Nodup) (hg:Gl X x) (hm:X.mg x=some (.ref C))
 (hb:∀ l,PSs ((pnX X l).wish (XE (pnX X l) Ex)) body tb) (hs:∀ l ea,PSs (hdX (pnX X l) ea).nox (b₀::suite) ts)
 (hstk:X.stack=X.env::X.outer:=by rfl) (hfr:X.env.frame=some X.env.locals:=by rfl) (hex:X.ex=[]:=by rfl) (hdb:(x == ("__debug__":Str))=false:=by decide):
 PS X (.Try body [.ExceptHandler (some (.Name x np)) nm (b₀::suite) hpos] [] [] pos) (qLk X.K Ex C i tb ts):=
 qIi Ex hcl hN hg hm hb hs qj hstk hfr hex hdb
end L3
set_option maxRecDepth 100000
namespace L3
open PySem PySem.Spec PySem.Calls PyProof.Rows PySem.W
section
variable {prog : Program} {w : World} {A : Around} {E : Value → Shared → Prop} {K : Frag} {h : Heap} {g : Array GenState} {d : Drawn} {t : Nat} {os : OsState} {a D : Addr} {ox : Obj} {od : Option Obj}
structure ExcK (K:Frag)(D:Addr):Prop where
 ga:findIn K (.ref D) "__getattribute__"=some (some (.builtin "BaseException.__getattribute__"))
 gt:findIn K (.ref D) "__getattr__"=some none
 ca:findIn K (.ref D) "__class__"=some (some (.builtin "object.__class__"))
 sg:specialIn K (.builtin "object.__class__") "__get__"=some (some (.builtin "getset_descriptor.__get__"))
 tk:takesIn K (.builtin "object.__class__")=some true
 mo:mroIn K D (.type "object")=some true
 mb:mroIn K D (.type "BaseException")=some true
theorem qEt {tk:Tok}{Q:Fin→Shared→Prop}(c:ExcK K D)(X:K.In h)(I:InstAt h a ox D od)(hq:Q (.done (.ret (.ref D))) ⟨h,g,d,t,os⟩):
 wpAny (model prog w) A (Builtin.«object.__getattribute__» ⟨[.ref a,.str "__class__" tk],[]⟩) Q E ⟨h,g,d,t,os⟩:=by
 have L0:=I.type (M:=model prog w)
 have L1:=looks_findIn (M:=model prog w) X c.ca
 have hf:findObj K D od "__class__"=some (.bind (.builtin "getset_descriptor.__get__") (.builtin "object.__class__")):=by
  have mo:=c.mo
  unfold mroIn at mo
  unfold findObj
  cases e:clsIn K D with
  | none=>rw [e] at mo;cases mo
  | some cd=>
   simp only [Option.bind_some,c.ca,c.sg,c.tk]
 have L2:=looks_find (M:=model prog w) X I hf
 unfold Builtin.«object.__getattribute__»
 repeat (any_goals (first | assumption | (with_reducible refine wpAny_bind (L0.at ?_)) | (with_reducible refine wpAny_bind (L2.at ?_)) | wp_step))
 refine class_get (s:=⟨h,g,d,t,os⟩) (ox:=ox) (od:=od) X I c.mo ?_
 exact wpAny_pure hq
theorem qGn {tk:Tok}{R:Result→Shared→Prop}(c:ExcK K D)(X:K.In h)(I:InstAt h a ox D od)(hq:R (.ok (.ret (.ref D))) ⟨h,g,d,t,os⟩):
 codeAny (model prog w) A (.call (.builtin "BaseException.__getattribute__") ⟨[.ref a,.str "__class__" tk],[]⟩) R ⟨h,g,d,t,os⟩:=by
 refine codeAny_call_builtin F.attr_ValueError.ga.plain F.entry_bexc_ga ?_
 have bkd:builtinKind "BaseException.__getattribute__"=some .slot:=by decide+kernel
 have hsp:splitId "BaseException.__getattribute__"=some ("BaseException","__getattribute__"):=by decide+kernel
 have ha:=F.args_bexc_ga (.ref a) (.str "__class__" tk)
 have L0:=I.type (M:=model prog w)
 have L1:Looks (model prog w) h (isInstance (.ref a) (.type "BaseException")) true:=L0.andThen (looks_mroIn X c.mb)
 simp only [checkBuiltinCall,bkd,hsp]
 refine wpAny_bind (L1.at ?_)
 repeat (first | assumption | (with_reducible refine qEt c X I ?_) | exact hq | wp_step)
theorem qJ0 {tk:Tok}{fill:Bool}{Q:Value→Shared→Prop}(c:ExcK K D)(X:K.In h)(I:InstAt h a ox D od)(hq:Q (.ref D) ⟨h,g,d,t,os⟩):
 wpAny (model prog w) A (getAttrBy (.ref a) (.str "__class__" tk) fill) Q E ⟨h,g,d,t,os⟩:=by
 have L0:=I.type (M:=model prog w)
 have L1:=looks_findIn (M:=model prog w) X c.ga
 have L2:=looks_findIn (M:=model prog w) X c.gt
 have f3:=F.attr_ValueError.ga.bind (.ref a)
 have no2:(Value.builtin "BaseException.__getattribute__" == Value.builtin "object.__getattribute__")=false:=by decide+kernel
 have no1:(onTheHeap (Value.ref D) && Value.builtin "BaseException.__getattribute__" == Value.builtin "object.__getattribute__")=false:=by rw [no2];rfl
 repeat (any_goals (first | assumption | (with_reducible refine wpAny_bind (L0.at ?_)) | (with_reducible refine wpAny_bind (L1.at ?_)) | (with_reducible refine wpAny_bind (L2.at ?_)) | (with_reducible refine L1.at ?_) | (with_reducible refine L2.at ?_) | wp_step))
 refine qGn c X I ?_
 show wpAny _ _ (handedOut (.ref D)) Q E _
 exact wpAny_pure hq
theorem qGi {Q:Option Value→Shared→Prop}(c:ExcK K D)(X:K.In h)(I:InstAt h a ox D od)(hq:Q (some (.ref D)) ⟨h,g,d,t+1,os⟩):wpAny (model prog w) A (getAttr? (.ref a) "__class__") Q E ⟨h,g,d,t,os⟩:=by
 unfold getAttr? getAttrBy?
 repeat (any_goals (first | assumption | with_reducible refine qJ0 c X I ?_ | wp_step))
theorem qCn (c:ExcK K D):KitX K (.ref a) (.ref D) (fun h=>InstAt h a ox D od) where
 ty:=fun _ _ _ I=>I.type
 it:=fun _ _ X _=>by
  have mo:=c.mo
  unfold mroIn clsIn at mo
  split at mo
  · rename_i kls kdi kcd ksl kob
    intro A' Q' E' s' kp wq
    unfold isType loadHead
    exact wpAny_bind (wpAny_loadPart (kp _ _ (X _ _ kob)) (wpAny_pure wq))
  · cases mo
 ne:=fun h tp dd its n sl X htp=>by
  have mo:=c.mo
  refine Bool.eq_false_iff.mpr fun same=>?_
  have here:D=tp:=Value.ref.inj (beq_iff_eq.mp same)
  subst here
  unfold mroIn clsIn at mo
  split at mo
  · rename_i kls kdi kcd ksl kob
    have z:=(X _ _ kob).symm.trans htp
    cases z
  · cases mo
 ca:=fun {_ _ _ _ _ s} X I k=>by
  obtain⟨h,g,d,t,os⟩:=s
  exact qGi c X I k
end
end L3
namespace L3
open PySem PySem.Spec PyProof.Rows L2
def OwnD (H:Hp)(od:Option Addr):Prop:=od=none∨∃ dx fs,od=some dx∧H dx=some (.xd fs)
theorem OwnD.at {X:Cx}{pins:List (Addr × Obj)}{σ:L2.St}{H:Hp}{s:Shared}{e D:Addr}{od:Option Addr}{vs:Array Value}{sl:Array (Option Value)}(I:Inv X pins σ H s)(h:OwnD H od)
 (qe:s.heap.get? e=some {cls:=.ref D,dict:=od,data:=.fields vs,slots:=sl}):∃ o,PySem.W.InstAt s.heap e {cls:=.ref D,dict:=od,data:=.fields vs,slots:=sl} D o:=by
 rcases h with rfl | ⟨dx,fs,rfl,hd⟩
 · exact⟨none,qe,rfl,rfl,trivial⟩
 · obtain⟨mA,⟨o,es,ep,e',c⟩,r⟩:=I.hok dx _ hd
   exact⟨some o,qe,rfl,rfl,e'⟩
theorem qAg {X:Cx}:zu X (.builtin "isinstance") (fun xs H Q=>∃ e D od c b,xs=[.ref e,c]∧H e=some (vH e (.ref D,od))∧OwnD H od∧ExcK X.K D∧
 ((∃ n,c= .ty n∧PySem.W.kitOne X.K (.ref D) (.type n)=some b)∨∃ a,c= .ref a∧PySem.W.kitOne X.K (.ref D) (.ref a)=some b)∧Q (.bl b) H):=by
 intro pins s σ H xs us Q I r h
 obtain⟨e,D,od,c,b,rfl,he,hod,hc,hk,q⟩:=h
 obtain⟨u,u',rfl,rx,rc⟩:=qF4 r
 cases rx
 obtain⟨⟨vs,sl,qe⟩,_⟩:=I.hok e _ he
 obtain⟨oo,J⟩:=hod.at I qe
 rcases hk with ⟨n,rfl,hk⟩ | ⟨a,rfl,hk⟩
 · cases rc
   exact PySem.W.kia_one (qCn hc) I.kIn J hk (fun z=>nomatch z) fun tk=>⟨.bl b,H,I.tok _,rfl,q⟩
 · cases rc
   exact PySem.W.kia_one (qCn hc) I.kIn J hk (fun z=>nomatch z) fun tk=>⟨.bl b,H,I.tok _,rfl,q⟩
end L3
set_option maxRecDepth 100000
namespace L3
open PySem PySem.Spec PySem.Calls PySem.Builtin PySem.Builtin.ObjectAttr PyProof.Rows
def exOver (K:PySem.W.Frag)(C D:Addr):Bool:=(PySem.W.clsIn K C).any fun cd=>cd.mro == .ref C:: .ref D::qJ8
section
variable {prog : Program} {w : World} {A : Around} {E : Value → Shared → Prop} {K : PySem.W.Frag} {s : Shared} {x C D : Addr} {vs : Array Value} {sl : Array (Option Value)} {R : Result → Shared → Prop}
end
section
variable {prog : Program} {w : World} {A : Around} {E : Value → Shared → Prop} {h : Heap} {g : Array GenState} {d : Drawn} {t : Nat} {os : OsState}
variable {nm q : Str} {C N : Addr} {bs bm bmB : List Value} {hdct : Bool} {sn : List Str} {sub : List Value} {ab : Bool} {col : Option Bool} {dd : Option Addr} {k0 k1 k2 k3 k5 : Option Value} {B newId initId : String}
end
section
variable {prog : Program} {w : World} {A : Around} {E : Value → Shared → Prop} {s : Shared} {env : Env}
variable {nm q : Str} {C N : Addr} {bs bm bmB : List Value} {hdct : Bool} {sn : List Str} {sub : List Value} {ab : Bool} {col : Option Bool} {dd : Option Addr} {k0 k1 k2 k3 k5 : Option Value} {B newId initId : String}
end
end L3
namespace L3
open PySem PySem.Spec PyProof.Rows L2
def excInitIn (K:PySem.W.Frag)(C f:Addr):Bool:=match K.lookup C with
 | some ⟨.type "type",_,.cls cd,sl⟩=>(match cd.mro,sl.toList with
  | .ref C'::bm,[_,_,_,_,some (.builtin n),_]=>C' == C && n == "ValueError.__new__" && !cd.hasDel && PySem.W.tailIn K qJ8 bm && PySem.W.nsOkIn K cd.ns && PySem.W.nsIn K cd.ns "__init__" == some (some (.ref f))
  | _,_=>false)
 | _=>false
structure XMk (K:PySem.W.Frag)(C D f:Addr):Prop where
 ov:exOver K C D=true
 hd:PySem.W.hasDictIn K C=true
 sa:PySem.W.findIn K (.ref C) "__setattr__"=some (some (.builtin "object.__setattr__"))
 ex:excInitIn K C f=true
 fn:PySem.W.isFn K (.ref f)=true
section
variable {X : Cx} {pins : List (Addr × Obj)} {σ : L2.St} {H : Hp} {s : Shared}
end
end L3
set_option maxRecDepth 100000
namespace L3
open PySem PySem.Spec PySem.Calls PyProof.Rows PySem.W
section
variable {prog : Program} {w : World} {A : Around} {E : Value → Shared → Prop} {K : Frag} {h : Heap} {g : Array GenState} {d : Drawn} {t : Nat} {os : OsState} {a D : Addr} {ox o : Obj} {name : Str} {v : Value}
end
end L3
namespace L3
open PySem PySem.Spec PyProof.Rows L2
end L3
set_option maxRecDepth 100000
namespace L3
open PySem PySem.Spec PyProof.Rows L2
inductive PHs (X:Cx):List ExceptHandler→List (Addr × Option Nat × TS)→Prop where
 | nil:PHs X [] []
 | cons {x:Str} {np hpos:Pos} {nm:Option Str} {i:Option Nat} {b₀:Stmt} {suite:List Stmt} {C:Addr} {ts:TS} {hs:List ExceptHandler} {cs:List (Addr × Option Nat × TS)} (hcl:qAd X nm i) (hg:Gl X x) (hm:X.mg x=some (.ref C))
  (h:∀ l ea,PSs (hdX (pnX X l) ea).nox (b₀::suite) ts) (r:PHs X hs cs) (hdb:(x == ("__debug__":Str))=false:=by decide):PHs X (.ExceptHandler (some (.Name x np)) nm (b₀::suite) hpos::hs) ((C,i,ts)::cs)
section
variable {X : Cx}
end
theorem jR {X:Cx}{K:PySem.W.Frag}(h:X.K=K):zu X (.builtin "isinstance") (fun xs H Q=>∃ e D od c b,xs=[.ref e,c]∧H e=some (vH e (.ref D,od))∧OwnD H od∧ExcK K D∧
 ((∃ n,c= .ty n∧PySem.W.kitOne K (.ref D) (.type n)=some b)∨∃ a,c= .ref a∧PySem.W.kitOne K (.ref D) (.ref a)=some b)∧Q (.bl b) H):=h ▸ qAg
section
variable {X : Cx}
theorem kU:zu X (.type "dict") (fun xs H Q=>∃ (a:Addr) (kvs:List (Key × V)),xs=[.ref a]∧H a=some (.dK kvs)∧∀ p,H p=none→Q (.ref p) (upd H p (.dK kvs))):=by
 intro pins s σ H xs us Q I r h
 obtain⟨a,kvs,rfl,e,q⟩:=h
 obtain⟨u,rfl,rx⟩:=qBl r
 cases rx
 exact qFz I (.inl e) fun p s' hp I'=>⟨.ref p,_,I',rfl,q p hp⟩
end
inductive D where
 | leaf (v:V)
 | tup (xs:List D)
 | lst (xs:List D)
mutual
def Rep (K:PySem.W.Frag)(H:Hp):D→V→Prop
 | .leaf v,x=>x=v∧wQ v=true
 | .tup ds,x=>∃ p xs,x= .ref p∧SqT K H p xs∧Reps K H ds xs
 | .lst ds,x=>∃ p xs,x= .ref p∧SqL K H p xs∧Reps K H ds xs
def Reps (K:PySem.W.Frag)(H:Hp):List D→List V→Prop
 | [],[]=>True
 | d::ds,x::xs=>Rep K H d x∧Reps K H ds xs
 | _,_=>False
end
mutual
def eqD:D→D→Bool
 | .leaf v,.leaf w=>eqV v w
 | .tup xs,.tup ys=>xn xs ys
 | .lst xs,.lst ys=>xn xs ys
 | _,_=>false
def xn:List D→List D→Bool
 | [],[]=>true
 | x::xs,y::ys=>eqD x y && xn xs ys
 | _,_=>false
end
mutual
def dep:D→Nat
 | .leaf _=>0
 | .tup xs=>zO xs+1
 | .lst xs=>zO xs+1
def zO:List D→Nat
 | []=>0
 | x::xs=>max (dep x) (zO xs)
end
theorem Reps.length {K:PySem.W.Frag}{H:Hp}:∀ {ds:List D} {xs:List V},Reps K H ds xs→ds.length=xs.length
 | [],[],_=>rfl
 | _::_,_::_,h=>by
  unfold Reps at h
  rw [List.length_cons,List.length_cons,h.2.length]
 | [],_::_,h=>by unfold Reps at h;exact h.elim
 | _::_,[],h=>by unfold Reps at h;exact h.elim
theorem qF2 {v:V}(h:wQ v=true):eqV v v=true:=by
 cases v <;> simp_all [wQ,eqV]
theorem kD:∀ {xs ys:List D},xn xs ys=true→xs.length=ys.length
 | [],[],_=>rfl
 | x::xs,y::ys,h=>by
  unfold xn at h
  rw [Bool.and_eq_true] at h
  rw [List.length_cons,List.length_cons,kD h.2]
 | [],_::_,h=>by simp [xn] at h
 | _::_,[],h=>by simp [xn] at h
def itE (xs ys:List D)(j:Nat):Bool:=match xs[j]?,ys[j]? with
 | some a,some b=>eqD a b
 | _,_=>false
theorem qAj:∀ (xs ys:List D),((List.range (min xs.length ys.length)).all (itE xs ys) && xs.length == ys.length)=xn xs ys
 | [],[]=>by simp [xn]
 | [],y::ys=>by simp [xn]
 | x::xs,[]=>by simp [xn]
 | x::xs,y::ys=>by
  have ih:=qAj xs ys
  have e:min (x::xs).length (y::ys).length=min xs.length ys.length+1:=by simp only [List.length_cons];omega
  rw [e,List.range_succ_eq_map,List.all_cons,List.all_map]
  have e2:(itE (x::xs) (y::ys)) ∘ Nat.succ=itE xs ys:=by
   funext j
   simp [itE]
  have e3:itE (x::xs) (y::ys) 0=eqD x y:=by simp [itE]
  have e4:((x::xs).length == (y::ys).length)=(xs.length == ys.length):=by
   rw [Bool.eq_iff_iff];simp
  rw [e2,e3,e4,Bool.and_assoc,ih]
  conv=>rhs;unfold xn
theorem qAw {xs ys:List D}(h:xs.length=ys.length):(List.range xs.length).all (itE xs ys)=xn xs ys:=by
 have:=qAj xs ys
 rw [← h,Nat.min_self] at this
 simpa using this
section
variable {X : Cx} {pins : List (Addr × Obj)} {σ : L2.St} {H : Hp} {s : Shared}
mutual
theorem wM (I:Inv X pins σ H s):∀ (d e:D) {x:V},Rep X.K H d x→Rep X.K H e x→eqD d e=true
 | .leaf v,.leaf w,x,h1,h2=>by
  unfold Rep at h1 h2
  obtain⟨rfl,f⟩:=h1
  obtain⟨rfl,_⟩:=h2
  unfold eqD
  exact qF2 f
 | .leaf v,.tup ds,x,h1,h2=>by
  unfold Rep at h1 h2
  obtain⟨rfl,f⟩:=h1
  obtain⟨p,xs,rfl,_⟩:=h2
  cases f
 | .leaf v,.lst ds,x,h1,h2=>by
  unfold Rep at h1 h2
  obtain⟨rfl,f⟩:=h1
  obtain⟨p,xs,rfl,_⟩:=h2
  cases f
 | .tup ds,.leaf w,x,h1,h2=>by
  unfold Rep at h1 h2
  obtain⟨rfl,f⟩:=h2
  obtain⟨p,xs,rfl,_⟩:=h1
  cases f
 | .lst ds,.leaf w,x,h1,h2=>by
  unfold Rep at h1 h2
  obtain⟨rfl,f⟩:=h2
  obtain⟨p,xs,rfl,_⟩:=h1
  cases f
 | .tup ds,.tup es,x,h1,h2=>by
  unfold Rep at h1 h2
  obtain⟨p,xs,rfl,t1,r1⟩:=h1
  obtain⟨q,ys,e,t2,r2⟩:=h2
  cases e
  rw [I.tuple_inj t1 t2] at r1
  unfold eqD
  exact kR I ds es r1 r2
 | .lst ds,.lst es,x,h1,h2=>by
  unfold Rep at h1 h2
  obtain⟨p,xs,rfl,t1,r1⟩:=h1
  obtain⟨q,ys,e,t2,r2⟩:=h2
  cases e
  rw [I.list_inj t1 t2] at r1
  unfold eqD
  exact kR I ds es r1 r2
 | .tup ds,.lst es,x,h1,h2=>by
  unfold Rep at h1 h2
  obtain⟨p,xs,rfl,t1,r1⟩:=h1
  obtain⟨q,ys,e,t2,r2⟩:=h2
  cases e
  obtain⟨_,_,i1,_⟩:=I.tuple t1
  obtain⟨_,_,i2,_⟩:=I.list t2
  exact(SeqAt.ne_of_list_tuple i2.isList i1 rfl).elim
 | .lst ds,.tup es,x,h1,h2=>by
  unfold Rep at h1 h2
  obtain⟨p,xs,rfl,t1,r1⟩:=h1
  obtain⟨q,ys,e,t2,r2⟩:=h2
  cases e
  obtain⟨_,_,i1,_⟩:=I.list t1
  obtain⟨_,_,i2,_⟩:=I.tuple t2
  exact(SeqAt.ne_of_list_tuple i1.isList i2 rfl).elim
theorem kR (I:Inv X pins σ H s):∀ (ds es:List D) {xs:List V},Reps X.K H ds xs→Reps X.K H es xs→xn ds es=true
 | [],[],_,_,_=>by simp [xn]
 | d::ds,e::es,[],h1,_=>by unfold Reps at h1;exact h1.elim
 | d::ds,e::es,x::xs,h1,h2=>by
  unfold Reps at h1 h2
  unfold xn
  rw [wM I d e h1.1 h2.1,kR I ds es h1.2 h2.2]
  rfl
 | [],e::es,[],_,h2=>by unfold Reps at h2;exact h2.elim
 | [],e::es,_::_,h1,_=>by unfold Reps at h1;exact h1.elim
 | d::ds,[],[],h1,_=>by unfold Reps at h1;exact h1.elim
 | d::ds,[],_::_,_,h2=>by unfold Reps at h2;exact h2.elim
end
theorem xl {A:Around}{x:V}{u:Value}{p:Addr}{its:Array Value}(f:wQ x=true)(r:RelV x u)(hu:A.units < cLine)(h:s.heap.IsTuple p its∨s.heap.IsList p its):SeqAt.EqAt A s u (.ref p) false∧SeqAt.EqAt A s (.ref p) u false:=by
 cases x with
 | non=>cases r;rcases h with h | h <;> exact⟨by first | exact SeqAt.EqAt.none_tuple h hu | exact SeqAt.EqAt.none_list h hu,by first | exact SeqAt.EqAt.tuple_none h hu | exact SeqAt.EqAt.list_none h hu⟩
 | bl b=>cases r;rcases h with h | h <;> exact⟨by first | exact SeqAt.EqAt.bool_tuple _ h hu | exact SeqAt.EqAt.bool_list _ h hu,by first | exact SeqAt.EqAt.tuple_bool _ h hu | exact SeqAt.EqAt.list_bool _ h hu⟩
 | int i=>obtain⟨t,rfl⟩:=r;rcases h with h | h <;> exact⟨by first | exact SeqAt.EqAt.int_tuple _ _ h hu | exact SeqAt.EqAt.int_list _ _ h hu,by first | exact SeqAt.EqAt.tuple_int _ _ h hu | exact SeqAt.EqAt.list_int _ _ h hu⟩
 | str i=>obtain⟨t,rfl⟩:=r;rcases h with h | h <;> exact⟨by first | exact SeqAt.EqAt.str_tuple _ _ h hu | exact SeqAt.EqAt.str_list _ _ h hu,by first | exact SeqAt.EqAt.tuple_str _ _ h hu | exact SeqAt.EqAt.list_str _ _ h hu⟩
 | _=>cases f
theorem Reps.get {K:PySem.W.Frag}{H:Hp}:∀ {ds:List D} {xs:List V},Reps K H ds xs→∀ (j:Nat) (d:D),ds[j]? =some d→∃ x,xs[j]? =some x∧Rep K H d x
 | [],[],_,j,d,e=>by simp at e
 | a::ds,x::xs,h,0,d,e=>by
  unfold Reps at h
  have:a=d:=by simpa using e
  subst this
  exact⟨x,rfl,h.1⟩
 | a::ds,x::xs,h,j+1,d,e=>by
  unfold Reps at h
  exact h.2.get j d (by simpa using e)
 | [],_::_,h,_,_,_=>by unfold Reps at h;exact h.elim
 | _::_,[],h,_,_,_=>by unfold Reps at h;exact h.elim
theorem vX:∀ {ds:List D} {j:Nat} {d:D},ds[j]? =some d→dep d≤zO ds
 | a::ds,0,d,e=>by
  have:a=d:=by simpa using e
  subst this
  unfold zO
  exact Nat.le_max_left _ _
 | a::ds,j+1,d,e=>by
  have:=vX (ds:=ds) (j:=j) (d:=d) (by simpa using e)
  unfold zO
  exact Nat.le_trans this (Nat.le_max_right _ _)
 | [],_,_,e=>by simp at e
theorem qE9 {A:Around}{ds es:List D}{xs ys:List V}{us ws:List Value}(r1:Reps X.K H ds xs)(r2:Reps X.K H es ys)(v1:Vals xs us)(v2:Vals ys ws)
 (ih:∀ d e x y u w,d∈ds→Rep X.K H d x→Rep X.K H e y→RelV x u→RelV y w→SeqAt.EqAt A s u w (eqD d e)):
 ∀ j (h1:j < us.toArray.size) (h2:j < ws.toArray.size),SeqAt.EqAt A s us.toArray[j] ws.toArray[j] (itE ds es j):=by
 intro j h1 h2
 have l1:=v1.length
 have l2:=v2.length
 have m1:=r1.length
 have m2:=r2.length
 rw [List.size_toArray] at h1 h2
 have g1:ds[j]? =some ds[j]:=List.getElem?_eq_getElem (by omega)
 have g2:es[j]? =some es[j]:=List.getElem?_eq_getElem (by omega)
 obtain⟨x,ex,rx⟩:=r1.get j _ g1
 obtain⟨y,ey,ry⟩:=r2.get j _ g2
 obtain⟨u,eu,qu⟩:=v1.get ex
 obtain⟨w,ew,qw⟩:=v2.get ey
 have c1:us.toArray[j]=u:=by
  have:=(List.getElem?_eq_some_iff.mp eu).2
  simpa using this
 have c2:ws.toArray[j]=w:=by
  have:=(List.getElem?_eq_some_iff.mp ew).2
  simpa using this
 have e:itE ds es j=eqD ds[j] es[j]:=by unfold itE;rw [g1,g2]
 rw [c1,c2,e]
 exact ih _ _ _ _ _ _ (List.getElem_mem _) rx ry qu qw
theorem qG9 (I:Inv X pins σ H s):∀ (n:Nat) (A:Around) (d e:D) (x y:V) (u w:Value),dep d≤n→A.units+n < cLine→Rep X.K H d x→Rep X.K H e y→RelV x u→RelV y w→SeqAt.EqAt A s u w (eqD d e):=by
 intro n
 induction n with
 | zero=>
  intro A d e x y u w hd hu r1 r2 q1 q2
  cases d with
  | leaf v=>
   unfold Rep at r1
   obtain⟨rfl,f1⟩:=r1
   cases e with
   | leaf v'=>
    unfold Rep at r2
    obtain⟨rfl,f2⟩:=r2
    unfold eqD
    exact qG2 q1 q2 f1 f2
   | tup es=>
    unfold Rep at r2
    obtain⟨p,ys,rfl,t,_⟩:=r2
    cases q2
    obtain⟨_,_,i,_⟩:=I.tuple t
    unfold eqD
    exact(xl f1 q1 hu (.inl i)).1
   | lst es=>
    unfold Rep at r2
    obtain⟨p,ys,rfl,t,_⟩:=r2
    cases q2
    obtain⟨_,_,i,_⟩:=I.list t
    unfold eqD
    exact(xl f1 q1 hu (.inr i.isList)).1
  | tup ds=>unfold dep at hd;omega
  | lst ds=>unfold dep at hd;omega
 | succ n ih=>
  intro A d e x y u w hd hu r1 r2 q1 q2
  have hu0:A.units < cLine:=by omega
  have hu1:A.in1.units+n < cLine:=by show A.units+1+n < cLine;omega
  cases d with
  | leaf v=>
   unfold Rep at r1
   obtain⟨rfl,f1⟩:=r1
   cases e with
   | leaf v'=>
    unfold Rep at r2
    obtain⟨rfl,f2⟩:=r2
    unfold eqD
    exact qG2 q1 q2 f1 f2
   | tup es=>
    unfold Rep at r2
    obtain⟨p,ys,rfl,t,_⟩:=r2
    cases q2
    obtain⟨_,_,i,_⟩:=I.tuple t
    unfold eqD
    exact(xl f1 q1 hu0 (.inl i)).1
   | lst es=>
    unfold Rep at r2
    obtain⟨p,ys,rfl,t,_⟩:=r2
    cases q2
    obtain⟨_,_,i,_⟩:=I.list t
    unfold eqD
    exact(xl f1 q1 hu0 (.inr i.isList)).1
  | tup ds=>
   have r1':=r1
   unfold Rep at r1
   obtain⟨p,xs,rfl,t1,s1⟩:=r1
   cases q1
   obtain⟨us,v1,i1,_⟩:=I.tuple t1
   cases e with
   | leaf v'=>
    unfold Rep at r2
    obtain⟨rfl,f2⟩:=r2
    unfold eqD
    exact(xl f2 q2 hu0 (.inl i1)).2
   | lst es=>
    unfold Rep at r2
    obtain⟨q,ys,rfl,t2,_⟩:=r2
    cases q2
    obtain⟨_,_,i2,_⟩:=I.list t2
    unfold eqD
    exact SeqAt.EqAt.tuple_list i1 i2.isList hu0
   | tup es=>
    have r2':=r2
    unfold Rep at r2
    obtain⟨q,ys,rfl,t2,s2⟩:=r2
    cases q2
    by_cases pq:p=q
    · subst pq
      rw [wM I _ _ r1' r2']
      exact SeqAt.EqAt.same _
    obtain⟨ws,v2,i2,_⟩:=I.tuple t2
    have hdd:zO ds≤n:=by unfold dep at hd;omega
    have:=SeqAt.EqAt.of_refs pq (SeqAt.RcAt.tuples i1 i2 hu0 (qE9 s1 s2 v1 v2 fun d e x y u w hm ra rb qa qb=>by
     obtain⟨j,hj,ej⟩:=List.mem_iff_getElem.mp hm
     have hde:dep d≤zO ds:=vX (j:=j) (by rw [List.getElem?_eq_getElem hj,ej])
     exact ih A.in1 d e x y u w (by omega) hu1 ra rb qa qb))
    rw [List.size_toArray,List.size_toArray,← v1.length,← v2.length,← s1.length,← s2.length,qAj] at this
    unfold eqD
    exact this
  | lst ds=>
   have r1':=r1
   unfold Rep at r1
   obtain⟨p,xs,rfl,t1,s1⟩:=r1
   cases q1
   obtain⟨us,v1,i1,_⟩:=I.list t1
   cases e with
   | leaf v'=>
    unfold Rep at r2
    obtain⟨rfl,f2⟩:=r2
    unfold eqD
    exact(xl f2 q2 hu0 (.inr i1.isList)).2
   | tup es=>
    unfold Rep at r2
    obtain⟨q,ys,rfl,t2,_⟩:=r2
    cases q2
    obtain⟨_,_,i2,_⟩:=I.tuple t2
    unfold eqD
    exact SeqAt.EqAt.list_tuple i1.isList i2 hu0
   | lst es=>
    have r2':=r2
    unfold Rep at r2
    obtain⟨q,ys,rfl,t2,s2⟩:=r2
    cases q2
    by_cases pq:p=q
    · subst pq
      rw [wM I _ _ r1' r2']
      exact SeqAt.EqAt.same _
    obtain⟨ws,v2,i2,_⟩:=I.list t2
    have hdd:zO ds≤n:=by unfold dep at hd;omega
    unfold eqD
    by_cases hl:ds.length=es.length
    · have hsz:us.toArray.size=ws.toArray.size:=by rw [List.size_toArray,List.size_toArray,← v1.length,← v2.length,← s1.length,← s2.length];exact hl
      have:=SeqAt.EqAt.of_refs pq (SeqAt.RcAt.lists i1.isList i2.isList hsz hu0 (qE9 s1 s2 v1 v2 fun d e x y u w hm ra rb qa qb=>by
       obtain⟨j,hj,ej⟩:=List.mem_iff_getElem.mp hm
       have hde:dep d≤zO ds:=vX (j:=j) (by rw [List.getElem?_eq_getElem hj,ej])
       exact ih A.in1 d e x y u w (by omega) hu1 ra rb qa qb))
      rw [List.size_toArray,← v1.length,← s1.length,qAw hl] at this
      exact this
    · have hsz:(us.toArray.size != ws.toArray.size)=true:=by
       rw [List.size_toArray,List.size_toArray,← v1.length,← v2.length,← s1.length,← s2.length]
       simpa using hl
      have e:xn ds es=false:=by
       rw [Bool.eq_false_iff]
       intro z
       exact hl (kD z)
      rw [e]
      exact SeqAt.EqAt.of_refs pq (SeqAt.RcAt.lists_lengths i1.isList i2.isList hsz hu0)
def kin:D→D→Bool
 | .tup _,.tup _=>true
 | .lst _,.lst _=>true
 | _,_=>false
inductive qLc (K:PySem.W.Frag)(neg:Bool)(x:V)(y:V)(H:Hp)(Q:VK):Prop
| mk (d e:D) (_:Rep K H d x) (_:Rep K H e y) (_:kin d e=true) (_:dep d≤60) (_:Q (.bl (if neg then !eqD d e else eqD d e)) H)
theorem xj {A:Around}(I:Inv X pins σ H s)(hu:A.units+64 < cLine){ds es:List D}{xs ys:List V}{us ws:List Value}(hd:zO ds≤60)(s1:Reps X.K H ds xs)(s2:Reps X.K H es ys)(v1:Vals xs us)(v2:Vals ys ws):
 ∀ j (h1:j < us.toArray.size) (h2:j < ws.toArray.size),SeqAt.EqAt A.in1 s us.toArray[j] ws.toArray[j] (itE ds es j):=
 qE9 s1 s2 v1 v2 fun d e x y u w hm ra rb qa qb=>by
  obtain⟨j,hj,ej⟩:=List.mem_iff_getElem.mp hm
  have hde:dep d≤zO ds:=vX (j:=j) (by rw [List.getElem?_eq_getElem hj,ej])
  exact qG9 I 60 A.in1 d e x y u w (by omega) (by show A.units+1+60 < cLine;omega) ra rb qa qb
theorem op_eqR (hu:X.A.units+64 < cLine):OpR X (compareOp .Eq) (qLc X.K false):=by
 intro pins s σ H x y v u Q I rx ry h
 obtain⟨d,e,r1,r2,hk,hd,q⟩:=h
 have hu0:X.A.units < cLine:=by omega
 cases d with
 | leaf a=>cases e <;> cases hk
 | tup ds=>
  cases e with
  | leaf b=>cases hk
  | lst es=>cases hk
  | tup es=>
   unfold Rep at r1 r2
   obtain⟨p,xs,rfl,t1,s1⟩:=r1
   obtain⟨p',ys,rfl,t2,s2⟩:=r2
   cases rx;cases ry
   obtain⟨us,v1,i1,_⟩:=I.tuple t1
   obtain⟨ws,v2,i2,_⟩:=I.tuple t2
   refine SeqAt.eq_tupleAt i1 i2 hu0 (xj I hu (by unfold dep at hd;omega) s1 s2 v1 v2) ?_
   rw [List.size_toArray,List.size_toArray,← v1.length,← v2.length,← s1.length,← s2.length,qAj]
   refine⟨.bl _,H,I,rfl,?_⟩
   unfold eqD at q
   exact q
 | lst ds=>
  cases e with
  | leaf b=>cases hk
  | tup es=>cases hk
  | lst es=>
   unfold Rep at r1 r2
   obtain⟨p,xs,rfl,t1,s1⟩:=r1
   obtain⟨p',ys,rfl,t2,s2⟩:=r2
   cases rx;cases ry
   obtain⟨us,v1,i1,_⟩:=I.list t1
   obtain⟨ws,v2,i2,_⟩:=I.list t2
   unfold eqD at q
   by_cases hl:ds.length=es.length
   · have hsz:us.toArray.size=ws.toArray.size:=by rw [List.size_toArray,List.size_toArray,← v1.length,← v2.length,← s1.length,← s2.length];exact hl
     refine SeqAt.eq_listAt i1.isList i2.isList hsz hu0 (xj I hu (by unfold dep at hd;omega) s1 s2 v1 v2) ?_
     rw [List.size_toArray,← v1.length,← s1.length,qAw hl]
     exact⟨.bl _,H,I,rfl,q⟩
   · have hsz:(us.toArray.size != ws.toArray.size)=true:=by
      rw [List.size_toArray,List.size_toArray,← v1.length,← v2.length,← s1.length,← s2.length]
      simpa using hl
     have e:xn ds es=false:=by
      rw [Bool.eq_false_iff]
      intro z
      exact hl (kD z)
     rw [e] at q
     exact SeqAt.eq_list_lengthsAt i1.isList i2.isList hsz hu0 ⟨.bl _,H,I,rfl,q⟩
theorem qJt (hu:X.A.units+64 < cLine):OpR X (compareOp .NotEq) (qLc X.K true):=by
 intro pins s σ H x y v u Q I rx ry h
 obtain⟨d,e,r1,r2,hk,hd,q⟩:=h
 have hu0:X.A.units < cLine:=by omega
 cases d with
 | leaf a=>cases e <;> cases hk
 | tup ds=>
  cases e with
  | leaf b=>cases hk
  | lst es=>cases hk
  | tup es=>
   unfold Rep at r1 r2
   obtain⟨p,xs,rfl,t1,s1⟩:=r1
   obtain⟨p',ys,rfl,t2,s2⟩:=r2
   cases rx;cases ry
   obtain⟨us,v1,i1,_⟩:=I.tuple t1
   obtain⟨ws,v2,i2,_⟩:=I.tuple t2
   refine SeqAt.RcNeAt.tuples i1 i2 hu0 (xj I hu (by unfold dep at hd;omega) s1 s2 v1 v2) _ _ _ _ ?_
   rw [List.size_toArray,List.size_toArray,← v1.length,← v2.length,← s1.length,← s2.length,qAj]
   refine⟨.bl _,H,I,rfl,?_⟩
   unfold eqD at q
   exact q
 | lst ds=>
  cases e with
  | leaf b=>cases hk
  | tup es=>cases hk
  | lst es=>
   unfold Rep at r1 r2
   obtain⟨p,xs,rfl,t1,s1⟩:=r1
   obtain⟨p',ys,rfl,t2,s2⟩:=r2
   cases rx;cases ry
   obtain⟨us,v1,i1,_⟩:=I.list t1
   obtain⟨ws,v2,i2,_⟩:=I.list t2
   unfold eqD at q
   by_cases hl:ds.length=es.length
   · have hsz:us.toArray.size=ws.toArray.size:=by rw [List.size_toArray,List.size_toArray,← v1.length,← v2.length,← s1.length,← s2.length];exact hl
     refine SeqAt.RcNeAt.lists i1.isList i2.isList hsz hu0 (xj I hu (by unfold dep at hd;omega) s1 s2 v1 v2) _ _ _ _ ?_
     rw [List.size_toArray,← v1.length,← s1.length,qAw hl]
     exact⟨.bl _,H,I,rfl,q⟩
   · have hsz:(us.toArray.size != ws.toArray.size)=true:=by
      rw [List.size_toArray,List.size_toArray,← v1.length,← v2.length,← s1.length,← s2.length]
      simpa using hl
     have e:xn ds es=false:=by
      rw [Bool.eq_false_iff]
      intro z
      exact hl (kD z)
     rw [e] at q
     exact SeqAt.RcNeAt.lists_lengths i1.isList i2.isList hsz hu0 _ _ _ _ ⟨.bl _,H,I,rfl,q⟩
end
end L3
namespace L3
open PySem PySem.Spec PyProof.Rows L2
def CompEndF (js:List Nat)(tc:TT)(te:TE)(σ:L2.St)(Q:VK)(J:It)(H1:Hp):Prop:=∃ W:Nat→Nat→List V→Hp→Prop,(∃ m,W 0 m [] H1)∧∀ i m acc H2,W i m acc H2→
 acc.length < sizeLine∧((J.stop i H2∧∀ D,H2 D=none→Q (.ref D) (upd H2 D (.lst acc)))∨
  (J.go i H2∧∀ x H3,J.yld i H2 x H3→tc (some x::zW js σ) H3 fun ok H4=>if ok=true then te (some x::zW js σ) H4 fun v H5=>∃ m',m' < m∧W (i+1) m' (acc++[v]) H5 else ∃ m',m' < m∧W (i+1) m' acc H4))
def qJq (js:List Nat)(wi:TI)(tc:TT)(te:TE):TE:=fun σ H Q=>wi σ H (CompEndF js tc te σ Q)
theorem CompEndF.g {js:List Nat}{tc:TT}{te:TE}(σ:L2.St)(Q:VK)(J:It)(H1:Hp):CompEndF js tc te σ Q J H1→xE 1 js (xV 0) tc te σ Q J H1:=fun⟨W,w0,st⟩=>
 ⟨W,w0,fun i m acc H2 w=>⟨(st i m acc H2 w).1,(st i m acc H2 w).2.imp id fun⟨go,y⟩=>⟨go,fun x H3 z=>⟨[some x],rfl,rfl,y x H3 z⟩⟩⟩⟩
theorem qFu {X:Cx}{elt iter cnd:Expr}{x:Str}{px:Pos}{scope:Scope}{cl:List (Str × Addr)}{pos:Pos}{wi:TI}{tc:TT}{te:TE}(ys:List Str)(js:List Nat){i:Nat}{y:Str}{py spos:Pos}(hN:X.N.Nodup)(hi':X.N[i]? =some y)(hy:X.env.kindOf y=some .local)
 (hcm:X.calm=true) (hi:PI X (.Name x px) iter wi) (hc:∀ C s H fp,PT (qr X scope cl C (x::ys) s H fp).nox cnd tc) (he:∀ C s H fp,PE (qr X scope cl C (x::ys) s H fp).nox elt te) (hx:scope.names.lookup x=some .local:=by rfl) (hC:COk X scope cl iter [x] ys js:=by exact⟨rfl,rfl,rfl,rfl,rfl,rfl,rfl,rfl,fun _=>rfl,by decide⟩) (hsw:swapsWith (.ListComp elt [⟨.Name x px,iter,[cnd],0⟩] scope pos) (some (.Name y py)) spos.line X.env=pure true:=by rfl):PS X (.Assign [.Name y py] (.ListComp elt [⟨.Name x px,iter,[cnd],0⟩] scope pos) spos) (qI9 (qJq js wi tc te) (xV i)):=
 qCh (xs:=[x]) (T:=CompEndF js tc te) hN hi' hy hcm hi (fun _ _ _ _=>jE (i:=0) hC.nd rfl (.inl (lookup_relabel_local hx)) (.inr (lookup_relabel_local hx))) (fun C s H fp=>qFc (hc C s H fp)) he hC CompEndF.g hsw
theorem qDg {X:Cx}{pins:List (Addr × Obj)}{σ:L2.St}{H:Hp}{s:Shared}{h':Heap}{t':Nat}{ch:List Addr}(I:Inv X pins σ H s)(hf:∀ b∈ch,qFs X pins H b)
 (k:∀ b o,b ∉ ch→s.heap.get? b=some o→h'.get? b=some o):Inv X pins σ H {s with heap:=h',toks:=t'}:=by
 have nit:∀ b u,H b=some u→b ∉ ch:=fun b u e z=>by rw [(hf b z).1] at e;cases e
 refine I.step (g':=s.gens) (d':=s.drawn) (ch:=ch) (fun b hb=>?_) (fun b o _ _ hc e _=>k b o hc e) (fun b o _ _ hc e _=>⟨o.slots,k b o hc e⟩) (fun _ _ _ _ n=>n)
  (fun b o hc e=>⟨o,k b o hc e⟩) (fun _ _ e=>e) (fun _ _ _ e=>e) (fun b ps e=>⟨#[],by rw [e];simp⟩) (fun m hm=>?_) (fun b u e=>?_) I.bare
 · obtain⟨_,f1,_,f3,f4,f5⟩:=hf b hb
   exact⟨f3,f1,f4,f5⟩
 · obtain⟨o,es,ep,ho,r⟩:=hm
   exact⟨o,es,ep,k _ o (fun z=>(hf _ z).2.1 rfl) ho,r⟩
 · refine(I.hok b u e).stay (fun c v hc q=>k c v ?_ q) (fun _ q=>q) fun _ _ q=>q
   rcases hc with z | z
   · rw [z];exact nit b u e
   · exact nit c _ z
theorem qGt {X:Cx}{pins:List (Addr × Obj)}{σ:L2.St}{H:Hp}{s:Shared}{h':Heap}{t':Nat}{ch:List Addr}{xs:List V}{us:Array Value}(I:Inv X pins σ H s)(hf:∀ b∈ch,qFs X pins H b)(hlt:∀ b∈ch,b < s.heap.objs.size)
 (k:∀ b o,b ∉ ch→s.heap.get? b=some o→h'.get? b=some o) (hT:h'.get? s.heap.objs.size=some {cls:=.type "tuple",data:=.seq us}) (r:Vals xs us.toList) (hz:xs.length≤sizeLine):
 Inv X pins σ (upd H s.heap.objs.size (.tup xs)) {s with heap:=h',toks:=t'}∧∀ b∈ch,upd H s.heap.objs.size (.tup xs) b=none:=by
 have hn:∀ b∈ch,upd H s.heap.objs.size (.tup xs) b=none:=fun b hb=>by
  rw [qK (Nat.ne_of_lt (hlt b hb))];exact(hf b hb).1
 have I1:Inv X pins σ (upd H s.heap.objs.size (.tup xs)) {s with heap:=s.heap.push {cls:=.type "tuple",data:=.seq us},toks:=t'}:=
  I.laid (t':=t') (fun b o e=>Heap.get?_push_of_some _ e) (Nat.le_refl _) ⟨hz,us.toList,r,⟨_,Heap.get?_push_size _ rfl,rfl,_,rfl⟩⟩
 have I2:=qDg (h':=h') (t':=t') (ch:=ch) I1 (fun b hb=>⟨hn b hb,(hf b hb).2⟩) (fun b o hb e=>?_)
 · exact⟨I2,hn⟩
 rcases Heap.get?_push_cases e with ⟨e1,e2⟩ | e1
 · rw [e1,e2];exact hT
 · exact k b o hb e1
def Ite (K:PySem.W.Frag)(a:Addr):It:=
 ⟨fun i H=>∃ xs x,SqL K H a xs∧xs[i]? =some x,fun i H x H'=>∃ p v,H p=none∧x= .ref p∧(∀ xs,SqL K H a xs→xs[i]? =some v)∧H'=upd H p (.tup [.int i,v]),fun i H=>∃ xs,SqL K H a xs∧xs.length≤i⟩
theorem qDy {P:Program}{w:World}{K:PySem.W.Frag}{elts:List Expr}{k1:Nat}{pos:Pos}(a e it:Addr)(hne:e≠it):
 qIo P w K (.Tuple elts k1 pos) (Ite K a) [e,it] e (fun i h=>(∃ old,IsEnum h e it (i:Nat) old)∧h.IsListIter it a i) where
 mem:=by simp
 obj:=fun i h st b hb=>by
  obtain⟨⟨old,he⟩,o,ho,c,d⟩:=st
  rcases List.mem_cons.mp hb with rfl | hb
  · exact⟨_,he,fun v z=>by cases z⟩
  · have e:b=it:=by simpa using hb
    subst e
    exact⟨o,ho,fun v z=>by rw [d] at z;cases z⟩
 keep:=fun i h h' st k=>by
  obtain⟨⟨old,he⟩,hi⟩:=st
  exact⟨⟨old,k e (by simp) _ he⟩,hi.at fun o q=>k it (by simp) o q⟩
 item:=by
  intro X hP hw hK hc i pins s σ H E I hf st hg
  subst hP hw hK
  obtain⟨⟨old,he⟩,hit⟩:=st
  obtain⟨xs,x,hq,hx⟩:=hg
  obtain⟨its,rv,p,hz⟩:=I.list hq
  obtain⟨u,hu,ru⟩:=rv.get hx
  refine wpAny_pyNext_enum_item he hit p.isList (x:=u) (by simpa using hu) hne fun h' heo hit' hT hsz hk=>?_
  refine⟨_,rfl,wpAny_letOwnedTupleGo_enum heo fun h'' he'' hs''=>?_⟩
  have hel:e < s.heap.objs.size:=Heap.lt_size he
  have hil:it < s.heap.objs.size:=by obtain⟨_,q,_⟩:=hit;exact Heap.lt_size q
  have T:=qGt (h':=h'') (t':=s.toks+1) (ch:=[e,it]) (xs:=[.int i,x]) (us:=#[.int i s.toks,u]) I hf (fun b hb=>by
   rcases List.mem_cons.mp hb with rfl | hb
   · exact hel
   · have z:b=it:=by simpa using hb
     subst z;exact hil)
   (fun b o hb q=>(hs''.2 b (fun z=>hb (by simp [z]))).trans (hk b o (fun z=>hb (by simp [z])) (fun z=>hb (by simp [z])) q))
   ((hs''.2 _ (Nat.ne_of_gt hel)).trans hT) (.cons ⟨_,rfl⟩ (.cons ru .nil)) (by show 2≤sizeLine;decide)
  refine⟨.ref s.heap.objs.size,_,T.1,rfl,⟨_,x,I.hok.fresh (Nat.le_refl _),rfl,fun ys hy=>by rw [I.list_inj hy hq];exact hx,rfl⟩,⟨⟨u,by simpa using he''⟩,hit'.at fun o q=>(hs''.2 it hne.symm).trans q⟩,T.2⟩
 done:=by
  intro X hP hw hK hc i pins s σ H E I hf st hg
  subst hP hw hK
  obtain⟨⟨old,he⟩,hit⟩:=st
  obtain⟨xs,hq,hx⟩:=hg
  obtain⟨its,rv,p,hz⟩:=I.list hq
  obtain⟨f0,f1,f2,f3,f4,f5⟩:=hf it (by simp)
  have hl:=rv.length
  exact wpAny_pyNext_enum_end (I.ok.hd hc) he hit p.isList (by simp;omega) fun h' eb=>⟨rfl,I.turned (t':=s.toks) (fun b o hb e=>eb b o hb e) f0 f1 f3 f4 f5⟩
 self:=fun _ _ _ _ _ st h=>by
  obtain⟨⟨old,he⟩,_⟩:=st
  exact wpAny_pyIter_enum he h
inductive qJe (K:PySem.W.Frag)(R:It→Hp→Prop)(vs:List V)(H1:Hp):Prop
| mk a (_:vs=[.ref a]) (_:(∃ xs,SqL K H1 a xs)) (_:R (Ite K a) H1)
def qKr (K:PySem.W.Frag)(t:TA):TI:=fun σ H R=>t σ H fun vs H1=>qJe K R vs H1
theorem qD8 {X:Cx}{l:Expr}{tl:TA}{elts:List Expr}{k1:Nat}{tpos p pos:Pos}(hg:Gl X "enumerate")(hm:X.mg "enumerate"=none)(hl:PA X [l] tl)(hs:starEach [l] X.env=[(false,eval l X.env)]:=by rfl):
 PI X (.Tuple elts k1 tpos) (.Call (.Name "enumerate" p) [l] [] pos) (qKr X.K tl):=by
 intro pins s σ H R I h
 refine Call_ (kr I hg hm boot_enumerate (PyProof.Rows.callWith_type1 (thn (hl pos pins s σ H _ I h) fun us s1 ⟨vs,H1,I1,r1,q1⟩=>?_) hs rfl))
 obtain⟨a,e,⟨xs,hq⟩,q⟩:=q1
 subst e
 cases r1 with
 | cons r rr=>
  cases rr
  cases r
  obtain⟨its,rv,pl,hz⟩:=I1.list hq
  refine call_enumerate_list pl.isList fun h' he hit hsz hk=>?_
  refine wpAny_pyIter_enum he ?_
  refine⟨s1.heap.objs.size+1,[s1.heap.objs.size+1,s1.heap.objs.size],_,_,H1,rfl,I1.kept (t':=s1.toks) fun b o e=>hk b o e,qDy a _ _ (Nat.succ_ne_self _),⟨⟨_,he⟩,hit⟩,fun b hb=>?_,q⟩
  rcases List.mem_cons.mp hb with rfl | hb
  · exact I1.fpOk (Nat.le_succ _) (I1.hok.fresh (Nat.le_succ _))
  · have e:b=s1.heap.objs.size:=by simpa using hb
    subst e
    exact I1.fpOk (Nat.le_refl _) (I1.hok.fresh (Nat.le_refl _))
theorem qF0 {K:PySem.W.Frag}{a:Addr}{xs:List V}{g:TG}{tb:TS}{D:qC6}{σ:L2.St}{H:Hp}(Pv:Nat→L2.St→Hp→Prop)(h0:Pv 0 σ H)(hl:∀ i σ H,i≤xs.length→Pv i σ H→SqL K H a xs)
 (hs:∀ i x σ H p,xs[i]? =some x→Pv i σ H→H p=none→g (.ref p) σ (upd H p (.tup [.int i,x])) fun σ2 H2=>tb {D with nx:=Pv (i+1),ct:=Pv (i+1),bk:=D.nx} σ2 H2) (hd:∀ σ H,Pv xs.length σ H→D.nx σ H):
 ∃ W:Nat→Nat→L2.St→Hp→Prop,(∃ m,W 0 m σ H)∧∀ i m σ H,W i m σ H→
  ((Ite K a).stop i H∧D.nx σ H)∨((Ite K a).go i H∧∃ N:L2.St→Hp→Prop,(∀ σ' H',N σ' H'→∃ m',m' < m∧W (i+1) m' σ' H')∧∀ x H',(Ite K a).yld i H x H'→g x σ H' fun σ2 H2=>tb {D with nx:=N,ct:=N,bk:=D.nx} σ2 H2):=by
 refine⟨fun i m σ H=>m=xs.length - i∧i≤xs.length∧Pv i σ H,⟨xs.length,by simp,Nat.zero_le _,h0⟩,?_⟩
 rintro i m σ H ⟨rfl,hi,p⟩
 have q:=hl i σ H hi p
 by_cases hlt:i < xs.length
 · refine .inr ⟨⟨xs,xs[i],q,by simp [hlt]⟩,Pv (i+1),fun σ' H' p'=>⟨xs.length - (i+1),by omega,rfl,hlt,p'⟩,fun x H' y=>?_⟩
   obtain⟨z,v,hz,rfl,y,rfl⟩:=y
   exact hs i v σ _ z (y xs q) p hz
 · have e:i=xs.length:=by omega
   subst e
   exact .inl ⟨⟨xs,q,Nat.le_refl _⟩,hd σ H p⟩
theorem vv:∀ {ns:List Int} {us:List Value},Vals (ns.map V.int) us→∃ xs:List (Int × Tok),us.toArray=intItems xs.toArray∧xs.map (·.1)=ns
 | [],us,r=>by cases r;exact⟨[],by simp [intItems],rfl⟩
 | n::ns,us,r=>by
  rw [List.map_cons] at r
  cases r with
  | cons h t=>
   obtain⟨xs,e1,e2⟩:=vv t
   obtain⟨tk,rfl⟩:=h
   refine⟨(n,tk)::xs,?_,by rw [List.map_cons,e2]⟩
   have e3:=congrArg Array.toList e1
   simp only [intItems,List.map_toArray] at e3 ⊢
   rw [e3]
   rfl
theorem zT {X:Cx}(hc:X.calm=true):zu X (.builtin "sum") (fun xs H Q=>∃ (p:Addr) (ns:List Int),xs=[.ref p]∧SqL X.K H p (ns.map V.int)∧Q (.int ns.sum) H):=by
 intro pins s σ H xs us Q I r h
 obtain⟨p,ns,rfl,hq,q⟩:=h
 obtain⟨u,rfl,rx⟩:=qBl r
 cases rx
 obtain⟨its,rv,pl,hz⟩:=I.list hq
 obtain⟨ys,e1,e2⟩:=vv rv
 have pl':=pl.isList
 rw [e1] at pl'
 refine sum_intListG (I.ok.hd hc) pl' fun h' tk t' hk=>?_
 rw [preSum_eq,List.take_of_length_le (by simp)]
 have e3:ys.toArray.toList.map (·.1)=ns:=by simpa using e2
 rw [e3]
 exact⟨.int ns.sum,H,I.kept fun b o e=>hk b o e,⟨_,rfl⟩,q⟩
theorem qAb {X:Cx}(hc:X.calm=true):zu X (.builtin "max") (fun xs H Q=>∃ (p:Addr) (ns:List Int),xs=[.ref p]∧SqL X.K H p (ns.map V.int)∧ns≠[]∧∀ m:Int,m∈ns→(∀ n∈ns,n≤m)→Q (.int m) H):=by
 intro pins s σ H xs us Q I r h
 obtain⟨p,ns,rfl,hq,hne,q⟩:=h
 obtain⟨u,rfl,rx⟩:=qBl r
 cases rx
 obtain⟨its,rv,pl,hz⟩:=I.list hq
 obtain⟨ys,e1,e2⟩:=vv rv
 have pl':=pl.isList
 rw [e1] at pl'
 have hlen:ys.length=ns.length:=by rw [← e2,List.length_map]
 have hpos:0 < ys.length:=by
  rw [hlen];exact List.length_pos_iff.mpr hne
 refine max_intList (I.ok.hd hc) pl' (by simpa using hpos) fun v h' tk hv hk=>?_
 obtain⟨t,rfl⟩:=intItems_at hv
 have B:=argBest_gt (numAt ys.toArray) (ys.toArray.size - 1)
 have num:∀ j,j < ys.length→∃ n,ns[j]? =some n∧numAt ys.toArray j=n:=fun j hj=>by
  refine⟨(ys[j]).1,?_,?_⟩
  · rw [← e2,List.getElem?_map,List.getElem?_eq_getElem hj];rfl
  · simp [numAt,hj]
 have hb:argBest (fun i j=>decide (numAt ys.toArray i > numAt ys.toArray j)) (ys.toArray.size - 1) < ys.length:=by
  have:=B.1
  simp only [List.size_toArray] at this ⊢
  omega
 obtain⟨n,hn,en⟩:=num _ hb
 refine⟨.int _,H,I.kept fun b o e=>hk b o e,⟨_,rfl⟩,?_⟩
 rw [en]
 refine q n (List.mem_of_getElem? hn) fun x hx=>?_
 obtain⟨j,hj,ej⟩:=List.mem_iff_getElem.mp hx
 obtain⟨n',hn',en'⟩:=num j (by omega)
 have:x=n':=by rw [List.getElem?_eq_getElem hj,ej] at hn';exact Option.some.inj hn'
 rw [this,← en',← en]
 exact B.2 j (by simp only [List.size_toArray];omega)
def qLq (t:TT):TT:=fun σ H Q=>∃ R:Bool→Hp→Prop,t σ H R∧∀ b H',R b H'→Q b H'
theorem qGz {X:Cx}{e:Expr}{t:TT}(h:PT X e t):PT X e (qLq t):=by
 rintro pins s σ H Q I ⟨R,ht,hR⟩
 exact thn (h pins s σ H R I ht) fun b s' ⟨H',I',r⟩=>⟨H',I',hR b H' r⟩
def CompEndP (K:PySem.W.Frag)(js:List Nat)(tc:TT)(te:TE)(σ:L2.St)(Q:VK)(J:It)(H1:Hp):Prop:=∃ W:Nat→Nat→List V→Hp→Prop,(∃ m,W 0 m [] H1)∧∀ i m acc H2,W i m acc H2→
 acc.length < sizeLine∧((J.stop i H2∧∀ D,H2 D=none→Q (.ref D) (upd H2 D (.lst acc)))∨
  (J.go i H2∧∀ x H3,J.yld i H2 x H3→∃ p va vb,x= .ref p∧SqT K H3 p [va,vb]∧tc (some va::some vb::zW js σ) H3 fun ok H4=>if ok=true then te (some va::some vb::zW js σ) H4 fun v H5=>∃ m',m' < m∧W (i+1) m' (acc++[v]) H5 else ∃ m',m' < m∧W (i+1) m' acc H4))
def qI5 (K:PySem.W.Frag)(js:List Nat)(wi:TI)(tc:TT)(te:TE):TE:=fun σ H Q=>wi σ H (CompEndP K js tc te σ Q)
theorem CompEndP.g {K:PySem.W.Frag}{js:List Nat}{tc:TT}{te:TE}(σ:L2.St)(Q:VK)(J:It)(H1:Hp):CompEndP K js tc te σ Q J H1→xE 2 js (qKd K 2 (vE (xV 0) (vE (xV 1) qJ7))) tc te σ Q J H1:=fun⟨W,w0,st⟩=>
 ⟨W,w0,fun i m acc H2 w=>⟨(st i m acc H2 w).1,(st i m acc H2 w).2.imp id fun⟨go,y⟩=>⟨go,fun x H3 z=>let ⟨p,va,vb,e,q,r⟩:=y x H3 z;⟨p,_,e,q,rfl,va,_,rfl,vb,_,rfl,rfl,[some va,some vb],rfl,rfl,r⟩⟩⟩⟩
theorem qHf {X:Cx}{scope:Scope}{cl:List (Str × Addr)}{x1 x2:Str}{px1 px2:Pos}{tk:Nat}{tpos:Pos}{ys:List Str}(hcm:X.calm=true)(hnd:([x1,x2]++ys).Nodup)(hx1:scope.names.lookup x1=some .local)(hx2:scope.names.lookup x2=some .local)(C:Addr)(s:Shared)(H:Hp)(fp:List Addr):PG (qr X scope cl C ([x1,x2]++ys) s H fp).nox (.Tuple [.Name x1 px1,.Name x2 px2] tk tpos) (qKd X.K 2 (vE (xV 0) (vE (xV 1) qJ7))):=
 qBt (X:=(qr X scope cl C ([x1,x2]++ys) s H fp).nox) hcm (jS (jE (i:=0) hnd rfl (.inl (lookup_relabel_local hx1)) (.inr (lookup_relabel_local hx1))) (jS (jE (i:=1) hnd rfl (.inl (lookup_relabel_local hx2)) (.inr (lookup_relabel_local hx2))) vj))
theorem qFr {X:Cx}{elt iter cnd:Expr}{x1 x2:Str}{px1 px2:Pos}{tk:Nat}{tpos:Pos}{scope:Scope}{cl:List (Str × Addr)}{pos:Pos}{wi:TI}{tc:TT}{te:TE}(ys:List Str)(js:List Nat){i:Nat}{y:Str}{py spos:Pos}(hN:X.N.Nodup)(hi':X.N[i]? =some y)(hy:X.env.kindOf y=some .local)
 (hcm:X.calm=true) (hi:PI X (.Tuple [.Name x1 px1,.Name x2 px2] tk tpos) iter wi) (hc:∀ C s H fp,PT (qr X scope cl C (x1::x2::ys) s H fp).nox cnd tc) (he:∀ C s H fp,PE (qr X scope cl C (x1::x2::ys) s H fp).nox elt te) (hx1:scope.names.lookup x1=some .local:=by rfl) (hx2:scope.names.lookup x2=some .local:=by rfl) (hC:COk X scope cl iter [x1,x2] ys js:=by exact⟨rfl,rfl,rfl,rfl,rfl,rfl,rfl,rfl,fun _=>rfl,by decide⟩) (hsw:swapsWith (.ListComp elt [⟨.Tuple [.Name x1 px1,.Name x2 px2] tk tpos,iter,[cnd],0⟩] scope pos) (some (.Name y py)) spos.line X.env=pure true:=by rfl):PS X (.Assign [.Name y py] (.ListComp elt [⟨.Tuple [.Name x1 px1,.Name x2 px2] tk tpos,iter,[cnd],0⟩] scope pos) spos) (qI9 (qI5 X.K js wi tc te) (xV i)):=
 qCh (xs:=[x1,x2]) (T:=CompEndP X.K js tc te) hN hi' hy hcm hi (qHf hcm hC.nd hx1 hx2) (fun C s H fp=>qFc (hc C s H fp)) he hC CompEndP.g hsw
theorem qC1 {K:PySem.W.Frag}{a:Addr}{xs:List V}{js:List Nat}{tc:TT}{te:TE}{σ:L2.St}{H:Hp}{Q:VK}(Pv:Nat→List V→Hp→Prop)(h0:Pv 0 [] H)(hl:∀ i acc H,i≤xs.length→Pv i acc H→SqL K H a xs∧acc.length < sizeLine)
 (hs:∀ i x acc H p,i < xs.length→xs[i]? =some x→Pv i acc H→H p=none→tc (some (.int i)::some x::zW js σ) (upd H p (.tup [.int i,x])) fun ok H'=>if ok=true then te (some (.int i)::some x::zW js σ) H' fun v H''=>Nxt xs.length i (Pv (i+1) (acc++[v]) H'') else Nxt xs.length i (Pv (i+1) acc H')) (hd:∀ acc H,Pv xs.length acc H→∀ D,H D=none→Q (.ref D) (upd H D (.lst acc))):CompEndP K js tc te σ Q (Ite K a) H:=by
 refine⟨fun i m acc H=>m=xs.length - i∧i≤xs.length∧Pv i acc H,⟨xs.length,by simp,Nat.zero_le _,h0⟩,?_⟩
 rintro i m acc H2 ⟨rfl,hi,p⟩
 obtain⟨q,hz⟩:=hl i acc H2 hi p
 refine⟨hz,?_⟩
 by_cases hlt:i < xs.length
 · refine .inr ⟨⟨xs,xs[i],q,by simp [hlt]⟩,fun x H3 y=>?_⟩
   obtain⟨z,v,hz,rfl,y,rfl⟩:=y
   exact⟨z,_,_,rfl,SqT.of qD,hs i v acc _ z hlt (y xs q) p hz⟩
 · have e:i=xs.length:=by omega
   subst e
   exact .inl ⟨⟨xs,q,Nat.le_refl _⟩,hd acc H2 p⟩
def Itz (K:PySem.W.Frag)(a b:Addr):It:=
 ⟨fun i H=>∃ xs ys x y,SqL K H a xs∧SqL K H b ys∧xs[i]? =some x∧ys[i]? =some y,
  fun i H x H'=>∃ p v u,H p=none∧x= .ref p∧(∀ xs,SqL K H a xs→xs[i]? =some v)∧(∀ ys,SqL K H b ys→ys[i]? =some u)∧H'=upd H p (.tup [v,u]),
  fun i H=>∃ xs ys,SqL K H a xs∧SqL K H b ys∧(xs.length≤i∨ys.length≤i)⟩
theorem qGl {P:Program}{w:World}{K:PySem.W.Frag}{elts:List Expr}{k1:Nat}{pos:Pos}(z TI TO i1 i2 a b:Addr)(n0:z≠TI∧z≠TO∧z≠i1∧z≠i2∧TI≠TO∧TI≠i1∧TI≠i2∧TO≠i1∧TO≠i2∧i1≠i2):
 qIo P w K (.Tuple elts k1 pos) (Itz K a b) [z,TI,TO,i1,i2] z (fun i h=>IsZip h z TI TO .none∧IsPair h TI (.ref i1) (.ref i2)∧(∃ u v,IsPair h TO u v)∧h.IsListIter i1 a i∧h.IsListIter i2 b i) where
 mem:=by simp
 obj:=fun i h st c hc=>by
  obtain⟨hz,hTI,⟨u,v,hTO⟩,⟨o1,e1,_,d1⟩,o2,e2,_,d2⟩:=st
  simp only [List.mem_cons,List.not_mem_nil,or_false] at hc
  rcases hc with rfl | rfl | rfl | rfl | rfl
  · exact⟨_,hz,fun v z=>by cases z⟩
  · exact⟨_,hTI,fun v z=>by cases z⟩
  · exact⟨_,hTO,fun v z=>by cases z⟩
  · exact⟨o1,e1,fun v z=>by rw [d1] at z;cases z⟩
  · exact⟨o2,e2,fun v z=>by rw [d2] at z;cases z⟩
 keep:=fun i h h' st k=>by
  obtain⟨hz,hTI,⟨u,v,hTO⟩,h1,h2⟩:=st
  exact⟨k z (by simp) _ hz,k TI (by simp) _ hTI,⟨u,v,k TO (by simp) _ hTO⟩,h1.at fun o q=>k i1 (by simp) o q,h2.at fun o q=>k i2 (by simp) o q⟩
 item:=by
  intro X hP hw hK hc i pins s σ H E I hf st hg
  subst hP hw hK
  obtain⟨hz,hTI,⟨u0,v0,hTO⟩,h1,h2⟩:=st
  obtain⟨xs,ys,x,y,hq1,hq2,hx,hy⟩:=hg
  obtain⟨its1,rv1,p1,hz1⟩:=I.list hq1
  obtain⟨its2,rv2,p2,hz2⟩:=I.list hq2
  obtain⟨u,hu,ru⟩:=rv1.get hx
  obtain⟨u',hu',ru'⟩:=rv2.get hy
  have free:∀ c∈[z,TI,TO,i1,i2],H c=none:=fun c hc=>(hf c hc).1
  have nl:∀ (l:Addr) (zs:List V),SqL X.K H l zs→∀ c∈[z,TI,TO,i1,i2],l≠c:=fun l zs hl c hc e=>by
   subst e
   rcases hl with (q | ⟨o,q⟩) | ⟨o,its,n,q,_⟩
   · rw [free _ hc] at q;cases q
   · rw [free _ hc] at q;cases q
   · have q1:=(I.bs l o (I.ok.mod.kin l o q)).1
     have:=hf l hc
     rcases this.2.2.2.1 with q2 | q2
     · exact I.ok.noex l o (I.ok.mod.kin l o q) q2
     · exact Nat.lt_irrefl _ (Nat.lt_of_lt_of_le (Nat.lt_of_lt_of_le (Heap.lt_size (I.ok.mod.kin l o q)) I.ok.bsz) q2)
  obtain⟨n1,n2,n3,n4,n5,n6,n7,n8,n9,n10⟩:=n0
  have D:ZipApart z TI TO i1 i2 a b:=⟨n1.symm,n2.symm,n3.symm,n4.symm,n5,n6,n7,n8,n9,n10,nl a xs hq1 z (by simp),nl a xs hq1 TO (by simp),nl a xs hq1 i1 (by simp),nl a xs hq1 i2 (by simp),nl b ys hq2 z (by simp),nl b ys hq2 TO (by simp),nl b ys hq2 i1 (by simp),nl b ys hq2 i2 (by simp)⟩
  refine wpAny_pyNext_zip_item D hz hTI hTO h1 h2 p1.isList p2.isList (x:=u) (y:=u') (by simpa using hu) (by simpa using hu') fun h' hz' hTO' h1' h2' hT hsz hk=>?_
  refine⟨_,rfl,wpAny_letOwnedTupleGo_zip hz' fun h'' hz'' hs''=>?_⟩
  have lt:∀ c∈[z,TI,TO,i1,i2],c < s.heap.objs.size:=fun c hc=>by
   simp only [List.mem_cons,List.not_mem_nil,or_false] at hc
   rcases hc with rfl | rfl | rfl | rfl | rfl
   · exact Heap.lt_size hz
   · exact Heap.lt_size hTI
   · exact Heap.lt_size hTO
   · obtain⟨_,q,_⟩:=h1;exact Heap.lt_size q
   · obtain⟨_,q,_⟩:=h2;exact Heap.lt_size q
  have up:∀ c o,c≠z→h'.get? c=some o→h''.get? c=some o:=fun c o hc q=>(hs''.2 c hc).trans q
  have T:=qGt (h':=h'') (t':=s.toks) (ch:=[z,TI,TO,i1,i2]) (xs:=[x,y]) (us:=#[u,u']) I hf lt
   (fun c o hc q=>up c o (fun e=>hc (by simp [e])) (hk c o (fun e=>hc (by simp [e])) (fun e=>hc (by simp [e])) (fun e=>hc (by simp [e])) (fun e=>hc (by simp [e])) q))
   (up _ _ (Nat.ne_of_gt (lt z (by simp))) hT) (.cons ru (.cons ru' .nil)) (by show 2≤sizeLine;decide)
  refine⟨.ref s.heap.objs.size,_,T.1,rfl,⟨_,x,y,I.hok.fresh (Nat.le_refl _),rfl,fun zs hzs=>by rw [I.list_inj hzs hq1];exact hx,fun zs hzs=>by rw [I.list_inj hzs hq2];exact hy,rfl⟩,?_,T.2⟩
  exact⟨hz'',up _ _ n1.symm (hk _ _ n1.symm n5 n6 n7 hTI),⟨_,_,up _ _ n2.symm hTO'⟩,h1'.at fun o q=>up _ o n3.symm q,h2'.at fun o q=>up _ o n4.symm q⟩
 done:=by
  intro X hP hw hK hc i pins s σ H E I hf st hg
  subst hP hw hK
  obtain⟨hz,hTI,⟨u0,v0,hTO⟩,h1,h2⟩:=st
  obtain⟨xs,ys,hq1,hq2,hend⟩:=hg
  obtain⟨its1,rv1,p1,hz1⟩:=I.list hq1
  obtain⟨its2,rv2,p2,hz2⟩:=I.list hq2
  have free:∀ c∈[z,TI,TO,i1,i2],H c=none:=fun c hc=>(hf c hc).1
  have nl:∀ (l:Addr) (zs:List V),SqL X.K H l zs→∀ c∈[z,TI,TO,i1,i2],l≠c:=fun l zs hl c hc e=>by
   subst e
   rcases hl with (q | ⟨o,q⟩) | ⟨o,its,n,q,_⟩
   · rw [free _ hc] at q;cases q
   · rw [free _ hc] at q;cases q
   · rcases (hf l hc).2.2.2.1 with q2 | q2
     · exact I.ok.noex l o (I.ok.mod.kin l o q) q2
     · exact Nat.lt_irrefl _ (Nat.lt_of_lt_of_le (Nat.lt_of_lt_of_le (Heap.lt_size (I.ok.mod.kin l o q)) I.ok.bsz) q2)
  obtain⟨n1,n2,n3,n4,n5,n6,n7,n8,n9,n10⟩:=n0
  have D:ZipApart z TI TO i1 i2 a b:=⟨n1.symm,n2.symm,n3.symm,n4.symm,n5,n6,n7,n8,n9,n10,nl a xs hq1 z (by simp),nl a xs hq1 TO (by simp),nl a xs hq1 i1 (by simp),nl a xs hq1 i2 (by simp),nl b ys hq2 z (by simp),nl b ys hq2 TO (by simp),nl b ys hq2 i1 (by simp),nl b ys hq2 i2 (by simp)⟩
  have l1:=rv1.length
  have l2:=rv2.length
  refine wpAny_pyNext_zip_end (I.ok.hd hc) D hz hTI hTO h1 h2 p1.isList p2.isList ?_ fun h' hk=>⟨rfl,qDg (t':=s.toks) (ch:=[z,TI,TO,i1,i2]) I hf fun c o hc q=>hk c o (fun e=>hc (by simp [e])) (fun e=>hc (by simp [e])) (fun e=>hc (by simp [e])) (fun e=>hc (by simp [e])) q⟩
  rcases hend with q | q
  · exact .inl (by simp;omega)
  · exact .inr (by simp;omega)
 self:=fun _ _ _ _ _ st h=>wpAny_pyIter_zip st.1 h
theorem qC2 (n:Nat):n+4≠n+2∧n+4≠n+3∧n+4≠n∧n+4≠n+1∧n+2≠n+3∧n+2≠n∧n+2≠n+1∧n+3≠n∧n+3≠n+1∧n≠n+1:=by omega
def qL7 (K:PySem.W.Frag)(t:TA):TI:=fun σ H R=>t σ H fun vs H1=>∃ a b,vs=[.ref a,.ref b]∧(∃ xs,SqL K H1 a xs)∧(∃ ys,SqL K H1 b ys)∧R (Itz K a b) H1
theorem qJ3 {X:Cx}{l l':Expr}{tl:TA}{elts:List Expr}{k1:Nat}{tpos p pos:Pos}(hg:Gl X "zip")(hm:X.mg "zip"=none)(hl:PA X [l,l'] tl)(hs:starEach [l,l'] X.env=[(false,eval l X.env),(false,eval l' X.env)]:=by rfl)(hs2:starEach [l'] X.env=[(false,eval l' X.env)]:=by rfl):
 PI X (.Tuple elts k1 tpos) (.Call (.Name "zip" p) [l,l'] [] pos) (qL7 X.K tl):=by
 intro pins s σ H R I h
 refine Call_ (kr I hg hm boot_zip (PyProof.Rows.callWith_type1 (thn (hl pos pins s σ H _ I h) fun us s1 ⟨vs,H1,I1,r1,q1⟩=>?_) (by rw [hs,hs2]) (by rw [hs2];rfl)))
 obtain⟨a,b,e,⟨xs,hq1⟩,⟨ys,hq2⟩,q⟩:=q1
 subst e
 cases r1 with
 | cons r rr=>
  cases rr with
  | cons r' rr=>
   cases rr
   cases r
   cases r'
   obtain⟨its1,rv1,p1,hz1⟩:=I1.list hq1
   obtain⟨its2,rv2,p2,hz2⟩:=I1.list hq2
   refine call_zip_2 p1.isList p2.isList fun h' hz hTI hTO h1 h2 hsz hk=>?_
   refine wpAny_pyIter_zip hz ?_
   refine⟨s1.heap.objs.size+4,[s1.heap.objs.size+4,s1.heap.objs.size+2,s1.heap.objs.size+3,s1.heap.objs.size,s1.heap.objs.size+1],_,_,H1,rfl,I1.kept (t':=s1.toks) fun c o e=>hk c o e,qGl _ _ _ _ _ a b (qC2 _),⟨hz,hTI,⟨_,_,hTO⟩,h1,h2⟩,fun c hc=>?_,q⟩
   have hle:s1.heap.objs.size≤c:=by
    simp only [List.mem_cons,List.not_mem_nil,or_false] at hc
    rcases hc with rfl | rfl | rfl | rfl | rfl <;> omega
   exact I1.fpOk hle (I1.hok.fresh hle)
theorem qIe {K:PySem.W.Frag}{a b:Addr}{xs ys:List V}{g:TG}{tb:TS}{D:qC6}{σ:L2.St}{H:Hp}(Pv:Nat→L2.St→Hp→Prop)(hlen:xs.length=ys.length)(h0:Pv 0 σ H)(hl:∀ i σ H,i≤xs.length→Pv i σ H→SqL K H a xs∧SqL K H b ys)
 (hs:∀ i x y σ H p,xs[i]? =some x→ys[i]? =some y→Pv i σ H→H p=none→g (.ref p) σ (upd H p (.tup [x,y])) fun σ2 H2=>tb {D with nx:=Pv (i+1),ct:=Pv (i+1),bk:=D.nx} σ2 H2) (hd:∀ σ H,Pv xs.length σ H→D.nx σ H):
 ∃ W:Nat→Nat→L2.St→Hp→Prop,(∃ m,W 0 m σ H)∧∀ i m σ H,W i m σ H→
  ((Itz K a b).stop i H∧D.nx σ H)∨((Itz K a b).go i H∧∃ N:L2.St→Hp→Prop,(∀ σ' H',N σ' H'→∃ m',m' < m∧W (i+1) m' σ' H')∧∀ x H',(Itz K a b).yld i H x H'→g x σ H' fun σ2 H2=>tb {D with nx:=N,ct:=N,bk:=D.nx} σ2 H2):=by
 refine⟨fun i m σ H=>m=xs.length - i∧i≤xs.length∧Pv i σ H,⟨xs.length,by simp,Nat.zero_le _,h0⟩,?_⟩
 rintro i m σ H ⟨rfl,hi,p⟩
 obtain⟨q1,q2⟩:=hl i σ H hi p
 by_cases hlt:i < xs.length
 · have hlt2:i < ys.length:=by omega
   refine .inr ⟨⟨xs,ys,xs[i],ys[i],q1,q2,by simp [hlt],by simp [hlt2]⟩,Pv (i+1),fun σ' H' p'=>⟨xs.length - (i+1),by omega,rfl,hlt,p'⟩,fun x H' y=>?_⟩
   obtain⟨z,v,u,hz,rfl,y1,y2,rfl⟩:=y
   exact hs i v u σ _ z (y1 xs q1) (y2 ys q2) p hz
 · have e:i=xs.length:=by omega
   subst e
   exact .inl ⟨⟨xs,ys,q1,q2,.inl (Nat.le_refl _)⟩,hd σ H p⟩
section
variable {P : Program} {w : World} {K : PySem.W.Frag}
end
def EqIn (P:Program)(w:World)(A:Around)(s:Shared)(y x:Value):Prop:=∀ (E:Value→Shared→Prop) (Q:Bool→Shared→Prop),Q true s→wpAny (model P w) A (eqBool y x) Q E s
theorem EqIn.rc {P:Program}{w:World}{A:Around}{s:Shared}{l b:Addr}(h:∀ (E:Value→Shared→Prop) (Q:Value→Shared→Prop),Q (.bool true) s→wpAny (model P w) A (richCompare .Eq (.ref l) (.ref b)) Q E s):EqIn P w A s (.ref l) (.ref b):=by
 by_cases e:l=b
 · subst e
   exact fun E Q hq=>SeqAt.EqAt.same _ P w E Q hq
 · intro E Q hq
   unfold eqBool
   refine wpAny_holding (wpAny_ite_split (fun z=>?_) (fun _=>?_))
   · have:=eq_of_beq z
     injection this with this
     exact absurd this e
   · exact wpAny_bind (h E _ (wpAny_truthy_bool hq))
def DEq (K:PySem.W.Frag)(H:Hp)(a b:Addr):Prop:=∃ ka kb:List (Key × V),Rd H a (.dK ka)∧Rd H b (.dK kb)∧ka.length=kb.length∧∀ p∈ka,∃ v d,jg kb p.1=some v∧Rep K H d p.2∧Rep K H d v∧eqD d d=true∧dep d≤50
section
variable {X : Cx} {pins : List (Addr × Obj)} {σ : L2.St} {H : Hp} {s : Shared}
theorem qHr (I:Inv X pins σ H s){A:Around}(hu:A.units+50 < cLine){kb:List (Key × V)}{vb:List (Key × Value)}(rb:KV kb vb):∀ {ka:List (Key × V)} {va:List (Key × Value)},KV ka va→
 (∀ p∈ka,∃ v d,jg kb p.1=some v∧Rep X.K H d p.2∧Rep X.K H d v∧eqD d d=true∧dep d≤50)→PySem.W.KeqHits A s vb va true:=by
 intro ka va r
 unfold KV at r
 induction r with
 | nil=>exact fun _=>.nil
 | @cons p q ps qs h t ih=>
  intro hp
  obtain⟨h1,h2⟩:=h
  obtain⟨v,d,e,r1,r2,g,hd⟩:=hp p (by simp)
  have rv:=rb.val p.1
  rw [e] at rv
  cases w:valueAt vb p.1 with
  | none=>rw [w] at rv;exact(show False from rv).elim
  | some y=>
   rw [w] at rv
   have rv:RelV v y:=rv
   have ea:=qG9 I 50 A d d p.2 v q.2 y hd hu r1 r2 h2 rv
   rw [g] at ea
   have hq:q=(p.1,q.2):=by rw [h1]
   have k:=PySem.W.KeqHits.hit (A:=A) (s:=s) (kb:=vb) (k:=p.1) (v:=q.2) (e:=true) w ea (ih fun x hx=>hp x (by simp [hx]))
   rw [hq]
   exact k
theorem DEq.at (I:Inv X pins σ H s){A:Around}(hu:A.units+51 < cLine){a b:Addr}(h:DEq X.K H a b):EqIn X.prog X.w A s (.ref a) (.ref b):=by
 obtain⟨ka,kb,ra,rb,hl,hh⟩:=h
 obtain⟨_,na,va,qa,da⟩:=qBb I.hok ra
 obtain⟨_,nb,vb,qb,db⟩:=qBb I.hok rb
 refine EqIn.rc fun E Q hq=>?_
 refine PySem.W.keq_eq (r:=true) na nb da db (by omega) (fun _=>qHr I (by show A.units+1+50 < cLine;omega) qb qa hh) ?_
 have e:(va.length == vb.length)=true:=by rw [← qa.length,← qb.length,hl];simp
 rw [e]
 exact hq
end
theorem qHp {P:Program}{w:World}{A:Around}{E:Value→Shared→Prop}{s:Shared}{l b:Addr}{u1 u2 v1 v2:Value}{Q:Fin→Shared→Prop}(hl:s.heap.IsTuple l #[u1,u2])(hb:s.heap.IsTuple b #[v1,v2])
 (e1:EqIn P w A s u1 v1) (e2:EqIn P w A s u2 v2) (hq:Q (.done (.ret (.bool true))) s):wpAny (model P w) A (Builtin.«tuple.__eq__» ⟨[.ref l,.ref b],[]⟩) Q E s:=by
 obtain⟨⟨c1,dd1,dt1,sl1⟩,g1,hc1,n1,hd1⟩:=hl
 obtain⟨⟨c2,dd2,dt2,sl2⟩,g2,hc2,n2,hd2⟩:=hb
 simp only at hc1 hd1 hc2 hd2
 subst hc1 hd1 hc2 hd2
 obtain⟨hp,g,dr,tk,os⟩:=s
 have f2:=AutoSeq1.sub_tuple_tuple
 have e1':∀ (E:Value→Shared→Prop) (Q:Bool→Shared→Prop),Q true ⟨hp,g,dr,tk,os⟩→wpAny (model P w) A (eqBool u1 v1) Q E ⟨hp,g,dr,tk,os⟩:=e1
 have e2':∀ (E:Value→Shared→Prop) (Q:Bool→Shared→Prop),Q true ⟨hp,g,dr,tk,os⟩→wpAny (model P w) A (eqBool u2 v2) Q E ⟨hp,g,dr,tk,os⟩:=e2
 wp_walk using wpAny_loadPart' g1,wpAny_loadPart' g2,e1' _ _,e2' _ _
 simpa [Builtin.Tuple.tupleCompareSizes] using hq
theorem qCl {x y:V}{us:List Value}(r:Vals [x,y] us):∃ u v,us=[u,v]∧RelV x u∧RelV y v:=by
 cases r with
 | cons a t=>cases t with
  | cons b t=>cases t;exact⟨_,_,rfl,a,b⟩
def qHg (K:PySem.W.Frag)(neg:Bool):R2:=fun x y H Q=>∃ r1 r2 a1 a2 b1 b2:Addr,x= .ref r1∧y= .ref r2∧SqT K H r1 [.ref a1,.ref b1]∧SqT K H r2 [.ref a2,.ref b2]∧DEq K H a1 a2∧DEq K H b1 b2∧Q (.bl (!neg)) H
theorem qD7 {X:Cx}(hu:X.A.units+64 < cLine):OpR X (compareOp .Eq) (qHg X.K false):=by
 intro pins s σ H x y v u Q I rx ry h
 obtain⟨r1,r2,a1,a2,b1,b2,rfl,rfl,t1,t2,d1,d2,q⟩:=h
 cases rx;cases ry
 obtain⟨us,v1,i1,_⟩:=I.tuple t1
 obtain⟨ws,v2,i2,_⟩:=I.tuple t2
 obtain⟨_,_,rfl,q1,q2⟩:=qCl v1
 obtain⟨_,_,rfl,q3,q4⟩:=qCl v2
 cases q1;cases q2;cases q3;cases q4
 have i1:s.heap.IsTuple r1 #[.ref a1,.ref b1]:=i1
 have i2:s.heap.IsTuple r2 #[.ref a2,.ref b2]:=i2
 have hu1:X.A.in1.units+51 < cLine:=by show X.A.units+1+51 < cLine;omega
 refine wpAny_richCompare_same_room (op:=.Eq) i1.typeIs i2.typeIs F.slot_tuple_eq ?_ (by omega)
 refine wpAny_call_entry F.slot_tuple_eq i1.typeIs F.entry_tuple_eq ?_ (F.args_tuple_eq_2 _ _)
 exact qHp i1 i2 (d1.at I hu1) (d2.at I hu1) ⟨_,rfl,(fun z=>nomatch z),.bl true,H,I,rfl,q⟩
end L3
set_option maxRecDepth 100000
namespace L3
open PySem PySem.Spec PyProof.Rows L2
theorem comp_tup {K:PySem.W.Frag}{a:Addr}{xs:List V}{js:List Nat}{te:TE}{σ:L2.St}{H:Hp}{Q:VK}(Pv:Nat→List V→Hp→Prop)(h0:Pv 0 [] H)(hl:∀ i acc H,i≤xs.length→Pv i acc H→SqT K H a xs∧acc.length < sizeLine)
 (hs:∀ i x acc H,i < xs.length→xs[i]? =some x→Pv i acc H→te (some x::zW js σ) H fun v H'=>Nxt xs.length i (Pv (i+1) (acc++[v]) H')) (hd:∀ acc H,Pv xs.length acc H→∀ D,H D=none→Q (.ref D) (upd H D (.lst acc))):CompEnd js te σ Q (Itt K a) H:=by
 refine⟨fun i m acc H=>m=xs.length - i∧i≤xs.length∧Pv i acc H,⟨xs.length,by simp,Nat.zero_le _,h0⟩,?_⟩
 rintro i m acc H2 ⟨rfl,hi,p⟩
 obtain⟨q,hz⟩:=hl i acc H2 hi p
 refine⟨hz,?_⟩
 by_cases hlt:i < xs.length
 · refine .inr ⟨⟨xs,xs[i],q,by simp [hlt]⟩,fun x H3 y=>?_⟩
   obtain⟨e,y⟩:=y
   subst e
   exact hs i x acc _ hlt (y xs q) p
 · have e:i=xs.length:=by omega
   subst e
   exact .inl ⟨⟨xs,q,Nat.le_refl _⟩,hd acc H2 p⟩
theorem qEd {K:PySem.W.Frag}{a:Addr}{xs:List V}{js:List Nat}{tc:TT}{te:TE}{σ:L2.St}{H:Hp}{Q:VK}(Pv:Nat→List V→Hp→Prop)(h0:Pv 0 [] H)(hl:∀ i acc H,i≤xs.length→Pv i acc H→SqT K H a xs∧acc.length < sizeLine)
 (hs:∀ i x acc H,i < xs.length→xs[i]? =some x→Pv i acc H→tc (some x::zW js σ) H fun ok H'=>if ok=true then te (some x::zW js σ) H' fun v H''=>Nxt xs.length i (Pv (i+1) (acc++[v]) H'') else Nxt xs.length i (Pv (i+1) acc H')) (hd:∀ acc H,Pv xs.length acc H→∀ D,H D=none→Q (.ref D) (upd H D (.lst acc))):CompEndF js tc te σ Q (Itt K a) H:=by
 refine⟨fun i m acc H=>m=xs.length - i∧i≤xs.length∧Pv i acc H,⟨xs.length,by simp,Nat.zero_le _,h0⟩,?_⟩
 rintro i m acc H2 ⟨rfl,hi,p⟩
 obtain⟨q,hz⟩:=hl i acc H2 hi p
 refine⟨hz,?_⟩
 by_cases hlt:i < xs.length
 · refine .inr ⟨⟨xs,xs[i],q,by simp [hlt]⟩,fun x H3 y=>?_⟩
   obtain⟨e,y⟩:=y
   subst e
   exact hs i x acc _ hlt (y xs q) p
 · have e:i=xs.length:=by omega
   subst e
   exact .inl ⟨⟨xs,q,Nat.le_refl _⟩,hd acc H2 p⟩
variable {X : Cx}
end L3
namespace L3
open PySem PySem.Spec PyProof.Rows L2 PySem.NumText PySem.Builtin.Str
def qKf (l:List Nat):List Nat:=if l.head?=some 45 then l.tail else l
def qL8 (c:Nat):Bool:=!(occurrences "0123456789" ⟨#[c]⟩ 0 ("0123456789":Str).length 1).isEmpty
structure Fig (l:List Nat):Prop where
 ne:qKf l≠[]
 len:(qKf l).length≤60
 all:(qKf l).all qL8=true
end L3
namespace L3
open PySem PySem.Spec PyProof.Rows L2 PySem.NumText PySem.Builtin.Str
inductive qFj (l:List Nat):List Str→Prop where
 | none (h:l=[]):qFj l []
 | one {p:Str} (h:l=p.cps.toList) (hf:47 ∉ l):qFj l [p]
 | two {p q:Str} (h:l=p.cps.toList++47::q.cps.toList) (hp:47 ∉ p.cps.toList) (hq:47 ∉ q.cps.toList):qFj l [p,q]
 | more {p q r:Str} {t:List Str} (jZ:List Nat) (h:l=p.cps.toList++47::jZ) (hp:47 ∉ p.cps.toList) (hq:47∈jZ):qFj l (p::q::r::t)
theorem qJ {G:Prop}(k:∀ X:Prop,(G→X)→X):G:=k G id
section
variable {X : Cx}
theorem qX {a:Expr}{ta:TE}{i:Int}{j}{p pos:Pos}(ha:PE X a ta):PE X (.Subscript a (.Constant (.int i) j p) pos) (tOp (qIp X.K) ta (tC (.int i))):=jC vP ha qF (fun _ _=>rfl)
theorem qP (i:Nat){x:Str}{e:Expr}{te:TE}{pos pos':Pos}(hN:X.N.Nodup)(he:PE X e te)(hi:X.N[i]? =some x:=by rfl)(hx:Loc X.env.scope x:=by exact Or.inl rfl)(hs:swapsWith e (some (.Name x pos')) pos.line X.env=pure false:=by rfl)(hf:X.fn x=true∨X.env.scope.names.lookup x=some .local:=by first | exact .inl rfl | exact .inr rfl | assumption):
 PS X (.Assign [.Name x pos'] e pos) (qI9 te (xV i)):=qDq hN hi hx he hs hf
end
end L3
set_option maxRecDepth 100000
namespace L3
open PySem PySem.Spec PyProof.Rows L2
def qH5:V→List V→Hp→VK→Prop:=fun x vs H Q=>∃ (l:Addr) (xs:List V) (i:Nat) (j:Int) (y:V),x= .ref l∧vs=[.int j,y]∧j=(i:Int)∧H l=some (.lst xs)∧i≤xs.length∧xs.length < 1000∧Q .non (upd H l (.lst (xs.take i++y::xs.drop i)))
theorem wZ {vs:List V}{us:List Value}(h:Vals vs us):∀ i,Vals (vs.take i) (us.take i):=by
 induction h with
 | nil=>intro i;simp;exact .nil
 | cons r _ ih=>
  intro i
  cases i with
  | zero=>exact .nil
  | succ i=>exact .cons r (ih i)
theorem wT {vs:List V}{us:List Value}(h:Vals vs us):∀ i,Vals (vs.drop i) (us.drop i):=by
 induction h with
 | nil=>intro i;simp;exact .nil
 | cons r t ih=>
  intro i
  cases i with
  | zero=>exact .cons r t
  | succ i=>exact ih i
theorem qDd {X:Cx}:MtM X "list.insert" qH5:=by
 intro pins s σ H x vs v us Q I rx rv h
 obtain⟨l,xs,i,j,y,rfl,rfl,hj,hH,h1,h2,q⟩:=h
 cases rx
 cases rv with
 | cons r1 rv=>
 cases rv with
 | cons ru rv=>
 cases rv
 obtain⟨t,rfl⟩:=r1
 obtain⟨z,its,n,r,hl,e⟩:=I.lstM hH
 have hli:i≤its.length:=by rw [← hl];exact h1
 have hsz:its.length+1≤sizeLine:=by rw [← hl];exact Nat.le_trans (show xs.length+1≤1000 by omega) (by decide)
 have hfit:¬ (!Builtin.List.listFitsIndex j)=true:=by
  rw [PySem.fitsIndex_both (by omega) (by have:j≤1000:=by omega
                                          omega)]
  decide
 have hz1:its.toArray.size≤sizeLine:=by rw [List.size_toArray];exact Nat.le_of_succ_le hsz
 have M:=fun(x:Int) (y:Value) (hx:¬ (!Builtin.List.listFitsIndex x)=true)=>PySem.AutoSeq1.list_insert_list_int_val_1 l its.toArray n x t y hx hz1
 refine call_meets F.slot_list_insert ⟨_,e,rfl⟩ F.entry_list_insert (F.args_list_insert_3 _ _ _) (M _ _ hfit) ⟨e,?_⟩
 refine⟨.non,_,I.lset (its':=its.take i++_::its.drop i) hH e ?_ ((wZ r i).append (.cons ru (wT r i))) ?_,rfl,q⟩
 · dsimp only
   rw [if_neg (by omega),hj,Int.toNat_natCast,List.size_toArray,Nat.min_eq_left hli]
   simp
   exact List.take_of_length_le (by rw [List.length_drop];exact Nat.le_refl _)
 · rw [List.length_append,List.length_take,List.length_cons,List.length_drop,Nat.min_eq_left h1]
   have:i+(xs.length - i+1)=its.length+1:=by omega
   rw [this];exact hsz
end L3
set_option maxRecDepth 100000
namespace L3
open PySem PySem.Spec PyProof.Rows L2
end L3
set_option maxRecDepth 100000
namespace L3
open PySem PySem.Spec PySem.W PyProof.Rows L2
section
variable {X : Cx} {pins : List (Addr × Obj)} {σ : L2.St} {H : Hp} {s : Shared} {a : Addr} {kvs : List (Key × V)} {k : Key} {u r : Value} {A : Around} {E : Value → Shared → Prop}
theorem qJx {x:V}{Q:Value→Shared→Prop}(I:Inv X pins σ H s)(e:H a=some (.dK kvs))(ry:RelV (kV k) u)(rx:RelV x r)(hz:kvs.length+1≤sizeLine)
 (h1:∀ v w' s',jg kvs k=some v→Inv X pins σ H s'→RelV v w'→Q w' s') (h2:jg kvs k=none→∀ s',Inv X pins σ (upd H a (.dK (jl kvs k x))) s'→Q r s'):
 wpAny (model X.prog X.w) A (call (.builtin "dict.setdefault") [.ref a,u,r]) Q E s:=by
 obtain⟨z,hd,vs,rel,dd⟩:=qH3 I.hok e
 have hv:=rel.val k
 refine call_meetsIn PySem.F.slot_dict_setdefault dd.typeIs PySem.F.entry_dict_setdefault (PySem.F.args_dict_setdefault_3 _ _ _) (kt_meets_setdefault (jL X.prog X.w) a (qE0 ry) hd r)
  ⟨vs,dd,by rw [← rel.length];exact z,fun v' hv'=>?_,fun hn h' dd' hs=>?_⟩
 · cases l:jg kvs k with
   | none=>
    have:=RelO.none_of (o:=valueAt vs k) (by rw [← l];exact hv)
    rw [this] at hv'
    cases hv'
   | some v=>
    obtain⟨w',hw,rw'⟩:=RelO.some_of (v:=v) (o:=valueAt vs k) (by rw [← l];exact hv)
    rw [hw] at hv'
    cases hv'
    exact h1 v _ _ l (I.tok _) rw'
 · cases l:jg kvs k with
   | some v=>
    obtain⟨w',hw,rw'⟩:=RelO.some_of (v:=v) (o:=valueAt vs k) (by rw [← l];exact hv)
    rw [hw] at hn
    cases hn
   | none=>
    have hl:(jl kvs k x).length≤sizeLine:=by have:=jW kvs k x;omega
    have he:∃ q,h'.get? a=some q:=let ⟨q,_,_,hq,_⟩:=dd';⟨q,hq⟩
    exact h2 l _ (wO I (by rw [e];exact True.intro) hs he (qB4 hl hd (rel.put k rx) dd'))
end
def qJn (td ty tx:TE):TE:=fun σ H Q=>td σ H fun x H1=>∃ a,x= .ref a∧IsD H1 a∧ty σ H1 fun y H2=>tx σ H2 fun z H3=>∃ kvs k,H3 a=some (.dK kvs)∧y=kV k∧kvs.length+1≤sizeLine∧∃ u H4,((jg kvs k=some u∧H4=H3)∨(jg kvs k=none∧u=z∧H4=upd H3 a (.dK (jl kvs k z))))∧Q u H4
theorem qGg {X:Cx}{o e f:Expr}{td ty tx:TE}{apos cpos:Pos}(ho:PE X o td)(he:PE X e ty)(hf:PE X f tx)(m:M2 X o "setdefault" apos e f cpos):PE X (.Call (.Attribute o "setdefault" apos) [e,f] [] cpos) (qJn td ty tx):=by
 intro pins s σ H Q I h
 refine wpAny_Call_method m.base m.few m.line PySem.F.plainAttrs_dict PySem.F.slot_dict_setdefault PySem.F.type_dict_setdefault (thn (ho pins s σ H _ I h) fun u s1 ⟨x,H1,I1,rx,a,ex,d,q1⟩=>?_)
 subst ex
 obtain rfl:u=Value.ref a:=rx
 obtain⟨t1,t2,_⟩:=qJ2 I1 d
 refine⟨t1,t2,?_⟩
 rw [m.trees]
 refine Calls.callWith_builtin rfl (Calls.evalArgs_plain (Calls.spliced_cons (thn (he pins s1 σ H1 _ I1 q1) fun iv s2 ⟨y,H2,I2,ry,q2⟩=>
  Calls.spliced_cons (thn (hf pins s2 σ H2 _ I2 q2) fun fv s3 ⟨z,H3,I3,rz,kvs,k,ea,ey,hz,u4,H4,hu4,q4⟩=>Calls.spliced_nil ?_))))
 subst ey
 refine qJx I3 ea ry rz hz (fun v w' s4 l I4 rw'=>?_) (fun l s4 I4=>?_)
 · rcases hu4 with ⟨h1,rfl⟩ | ⟨h1,_⟩
   · rw [h1] at l
     cases l
     exact⟨_,_,I4,rw',q4⟩
   · rw [h1] at l;cases l
 · rcases hu4 with ⟨h1,_⟩ | ⟨_,rfl,rfl⟩
   · rw [h1] at l;cases l
   · exact⟨_,_,I4,rz,q4⟩
def qFo:V→List V→Hp→VK→Prop:=fun x vs H Q=>∃ (l:Addr) (xs:List V) (i:Nat) (j:Int) (y:V),x= .ref l∧vs=[.int j,y]∧j=(i:Int)∧H l=some (.lst xs)∧i≤16777216∧xs.length+1≤sizeLine∧Q .non (upd H l (.lst (xs.take i++y::xs.drop i)))
theorem qCr {X:Cx}:MtM X "list.insert" qFo:=by
 intro pins s σ H x vs v us Q I rx rv h
 obtain⟨l,xs,i,j,y,rfl,rfl,hj,hH,h1,h2,q⟩:=h
 cases rx
 cases rv with
 | cons r1 rv=>
 cases rv with
 | cons ru rv=>
 cases rv
 obtain⟨t,rfl⟩:=r1
 obtain⟨z,its,n,r,hl,e⟩:=I.lstM hH
 have hsz:its.length+1≤sizeLine:=by rw [← hl];exact h2
 have hfit:¬ (!Builtin.List.listFitsIndex j)=true:=by
  rw [PySem.fitsIndex_both (by omega) (by have:j≤16777216:=by omega
                                          omega)]
  decide
 have hz1:its.toArray.size≤sizeLine:=by rw [List.size_toArray];exact Nat.le_of_succ_le hsz
 have M:=fun(x:Int) (y:Value) (hx:¬ (!Builtin.List.listFitsIndex x)=true)=>PySem.AutoSeq1.list_insert_list_int_val_1 l its.toArray n x t y hx hz1
 refine call_meets F.slot_list_insert ⟨_,e,rfl⟩ F.entry_list_insert (F.args_list_insert_3 _ _ _) (M _ _ hfit) ⟨e,?_⟩
 refine⟨.non,_,I.lset (its':=its.take i++_::its.drop i) hH e ?_ ((wZ r i).append (.cons ru (wT r i))) ?_,rfl,q⟩
 · dsimp only
   rw [if_neg (by omega),hj,Int.toNat_natCast,List.size_toArray]
   by_cases hli:i≤its.length
   · rw [Nat.min_eq_left hli]
     simp
     exact List.take_of_length_le (by rw [List.length_drop];exact Nat.le_refl _)
   · rw [Nat.min_eq_right (by omega),List.take_of_length_le (show its.length≤i by omega),List.drop_eq_nil_of_le (show its.length≤i by omega)]
     simp
 · rw [List.length_append,List.length_take,List.length_cons,List.length_drop]
   have:min i xs.length+(xs.length - i+1)=its.length+1:=by omega
   rw [this];exact hsz
end L3
set_option maxRecDepth 100000
namespace L3
open PySem PySem.Spec PySem.W PyProof.Rows L2
section
variable {prog : Program} {w : World} {A : Around} {R : Result → Shared → Prop} {I : Addr} {fp wr : List Addr} {n : Nat} {P : Nat → Value → Prop} {St : Nat → Heap → Prop} {kw : List (Str × Value)}
theorem qHn (W:Walks prog w A.in1 I fp wr n P St)(bt:Nat→Nat→Bool)(hcmp:CmpOf prog w A.in1 .Lt P bt)(S:Addr)(hSf:S ∉ fp):
 ∀ (k j:Nat) (s:Shared) (vb:Value) (c:Nat),n - (j+1)=k→j+1≤n→St (j+1) s.heap→P (argBest bt j) vb→
 s.heap.get? S=some {cls:=.type "list",dict:=none,data:=.seq #[vb,vb] c,slots:=#[]}→
 (∀ v h' tk,P (argBest bt (n - 1)) v→(∀ b o,b ∉ wr→b≠S→s.heap.get? b=some o→h'.get? b=some o)→R (.ok (.ret v)) {s with heap:=h',toks:=tk})→
 codeAny (model prog w) A (.builtin "min.loop" ⟨[.ref I,.none,.ref S],kw⟩) R s:=by
 have hSw:S ∉ wr:=fun h=>hSf (W.sub _ h)
 have hname:(toString "min"++toString ".loop":String)="min.loop":=by decide
 intro k
 induction k with
 | zero=>
  intro j s vb c hk hj hst hPb hS hR
  have hin:j+1=n:=by omega
  refine codeAny_builtin F.entry_min_loop ?_
  rw [Around.under_plainId F.plain_min_loop _]
  refine wpAny_bind (wpAny_seqItems hS rfl (wpAny_bind (wpAny_tryCatch (W.done s _ _ (hin ▸ hst) fun h' tk hk'=>?_))))
  have hS':=hk' S _ hSw hS
  refine wpAny_bind (wpAny_updateSeq hS' rfl (wpAny_bind (wpAny_letGo (wpAny_pure ?_))))
  exact hR vb _ tk (by rw [← hin];exact hPb) fun b o hbw hbS e=>(Heap.get?_update_other _ _ (Ne.symm hbS)).trans (hk' b o hbw e)
 | succ k ih=>
  intro j s vb c hk hj hst hPb hS hR
  have hlt:j+1 < n:=by omega
  refine codeAny_builtin F.entry_min_loop ?_
  rw [Around.under_plainId F.plain_min_loop _]
  refine wpAny_bind (wpAny_seqItems hS rfl (wpAny_bind (wpAny_tryCatch (W.item (j+1) s _ _ hlt hst fun v h' tk hP hst' hk'=>?_))))
  have hS':=hk' S _ hSw hS
  show wpAny _ A.in1 (tryCatch (holding [v,v] (richCompare .Lt v vb >>=_)) _ >>=_) _ _ _
  refine wpAny_bind (wpAny_tryCatch (wpAny_holding (wpAny_bind (hcmp (j+1) (argBest bt j) v vb _ _ _ hP hPb (wpAny_bind (wpAny_holding (wpAny_truthy_bool (wpAny_bind (wpAny_letGo (wpAny_pure ?_))))))))))
  cases hb:bt (j+1) (argBest bt j) with
  | true=>
   simp only [if_true]
   refine wpAny_bind (wpAny_updateSeq hS' rfl (wpAny_bind (wpAny_letGo ?_)))
   rw [hname]
   refine wpAny_pure ⟨plainId_quiet F.plain_min_loop _,ih (j+1) _ v _ (by omega) hlt (W.frame _ _ _ hst' fun b hbf o e=>?_) (by simp only [argBest,hb,if_true];exact hP) (Heap.get?_update_self _ hS' rfl) fun v' h'' tk'' hP' hk''=>?_⟩
   · exact(Heap.get?_update_other _ _ (fun h:S=b=>hSf (by rw [h];exact hbf))).trans e
   · exact hR v' h'' tk'' hP' fun b o hbw hbS e=>hk'' b o hbw hbS ((Heap.get?_update_other _ _ (Ne.symm hbS)).trans (hk' b o hbw e))
  | false=>
   simp only [Bool.false_eq_true,if_false]
   refine wpAny_bind (wpAny_letGo ?_)
   rw [hname]
   refine wpAny_pure ⟨plainId_quiet F.plain_min_loop _,ih (j+1) _ vb c (by omega) hlt hst' (by simp only [argBest,hb,Bool.false_eq_true,if_false];exact hPb) hS' fun v' h'' tk'' hP' hk''=>?_⟩
   exact hR v' h'' tk'' hP' fun b o hbw hbS e=>hk'' b o hbw hbS (hk' b o hbw e)
theorem qKo (a v:Value):argsOk "min" ⟨[a],[(Str.ofString "default",v)]⟩:=by unfold argsOk;kernel_rfl
theorem qC8 {l:Addr}{xs:Array (Int × Tok)}{d:Value}{E:Value→Shared→Prop}{s:Shared}{Q:Value→Shared→Prop}(hh:A.handled=none)(hl:s.heap.IsList l (intItems xs))
 (h0:xs.size=0→∀ h' tk,(∀ b o,s.heap.get? b=some o→h'.get? b=some o)→Q d {s with heap:=h',toks:=tk})
 (h1:0 < xs.size→∀ v h' tk,(intItems xs)[argBest (fun i j=>decide (numAt xs i < numAt xs j)) (xs.size - 1)]? =some v→(∀ b o,s.heap.get? b=some o→h'.get? b=some o)→Q v {s with heap:=h',toks:=tk}):
 wpAny (model prog w) A (call (.builtin "min") [.ref l] [(Str.ofString "default",d)]) Q E s:=by
 have hname:(toString "min"++toString ".loop":String)="min.loop":=by decide
 have hsz:(intItems xs).size=xs.size:=by simp [intItems]
 refine kmk_tree PySem.F.kind_min PySem.F.plain_min PySem.F.entry_min (qKo _ _) ?_
 refine wpAny_bind (wpAny_of_eq (show Builtin.Builtins.bindParams "min" ["key","default"] 0 ⟨[],[(Str.ofString "default",d)]⟩=pure [none,some d] from rfl) (wpAny_bind (wpAny_pure ?_)))
 refine wpAny_bind (iter_intList hl fun s₂ e st hfp hlI=>?_)
 subst e
 refine wpAny_bind (wpAny_newObj_type ?_)
 rw [hname]
 refine wpAny_pure ⟨plainId_quiet PySem.F.plain_min_loop _,?_⟩
 have W:=Walks.list (prog:=prog) (w:=w) (A:=A.in1) hh _ l hlI (intItems xs)
 generalize hs2:({s with heap:=s.heap.push {cls:=.type "list_iterator",data:=.fields #[.ref l,.int 0 0]}}:Shared)=s₂ at st hfp ⊢
 have hk0:∀ b o,s.heap.get? b=some o→s₂.heap.get? b=some o:=fun b o e=>by rw [← hs2];exact Heap.get?_push_of_some _ e
 have hfr:∀ b o,s.heap.get? b=some o→b ∉ [s.heap.objs.size]:=fun b o e z=>by
  rw [List.mem_singleton] at z
  exact absurd (Heap.lt_size e) (by rw [z];exact Nat.lt_irrefl _)
 have hos:∀ h' tk,({s with heap:=h',toks:=tk}:Shared)={s₂ with heap:=h',toks:=tk}:=fun h' tk=>by rw [← hs2]
 have hSf:s₂.heap.objs.size ∉ [s.heap.objs.size,l]:=fun hm=>Nat.lt_irrefl _ (hfp _ hm)
 have hSw:s₂.heap.objs.size ∉ [s.heap.objs.size]:=fun h=>hSf (W.sub _ h)
 have hst:=W.frame 0 s₂.heap (s₂.heap.push {cls:=.type "list",dict:=none,data:=.seq ([]:List Value).toArray}) st fun b _ o e=>Heap.get?_push_of_some _ e
 have hS:(s₂.heap.push {cls:=.type "list",dict:=none,data:=.seq ([]:List Value).toArray}).get? s₂.heap.objs.size=some {cls:=.type "list",dict:=none,data:=.seq ([]:List Value).toArray}:=Heap.get?_push_size _ rfl
 have hk1:∀ b o,s.heap.get? b=some o→(s₂.heap.push {cls:=.type "list",dict:=none,data:=.seq ([]:List Value).toArray}).get? b=some o∧b≠s₂.heap.objs.size:=fun b o e=>⟨Heap.get?_push_of_some _ (hk0 b o e),Nat.ne_of_lt (Heap.lt_size (hk0 b o e))⟩
 generalize s₂.heap.objs.size=S at hSf hSw hS hk1 ⊢
 generalize s₂.heap.push {cls:=.type "list",dict:=none,data:=.seq ([]:List Value).toArray}=G at hst hS hk1 ⊢
 refine codeAny_builtin F.entry_min_loop ?_
 rw [Around.under_plainId F.plain_min_loop _]
 refine wpAny_bind (wpAny_seqItems hS rfl (wpAny_bind (wpAny_tryCatch ?_)))
 by_cases hn:xs.size=0
 · refine W.done _ _ _ (by rw [hsz,hn];exact hst) fun h' tk hk'=>wpAny_bind (wpAny_rule (wpAny_pure ?_))
   have:=h0 hn h' tk fun b o e=>hk' b o (hfr b o e) (hk1 b o e).1
   rw [hos] at this
   exact this
 · refine W.item 0 _ _ _ (by rw [hsz];omega) hst fun v h' tk hP hst' hk'=>?_
   have hS':=hk' S _ hSw hS
   show wpAny _ A.in1 (updateSeq S (fun _=>#[v,v]) >>=_) _ _ _
   refine wpAny_bind ?_
   refine wpAny_updateSeq hS' rfl ?_
   rw [hname]
   refine wpAny_pure ⟨plainId_quiet F.plain_min_loop _,qHn W _ (CmpOf.ints_lt (numAt xs) (fun _ _=>intItems_at)) S hSf _ 0 _ v _ rfl (by omega) (W.frame _ _ _ hst' fun b hbf o e=>?_) hP (Heap.get?_update_self _ hS' rfl) fun v' h'' tk'' hP' hk''=>?_⟩
   · exact(Heap.get?_update_other _ _ (fun h:S=b=>hSf (by rw [h];exact hbf))).trans e
   · have:=h1 (by omega) v' h'' tk'' (by rw [hsz] at hP';exact hP') fun b o e=>hk'' b o (hfr b o e) (hk1 b o e).2 ((Heap.get?_update_other _ _ (Ne.symm (hk1 b o e).2)).trans (hk' b o (hfr b o e) (hk1 b o e).1))
     rw [hos] at this
     exact this
end
def qKu (K:PySem.W.Frag)(t:TA)(td:TE):TE:=fun σ H Q=>t σ H fun vs H1=>td σ H1 fun d H2=>∃ (p:Addr) (ns:List Int),vs=[.ref p]∧SqL K H2 p (ns.map V.int)∧∃ u:V,(ns=[]→u=d)∧(∀ m:Int,m∈ns→(∀ n∈ns,m≤n)→u= .int m)∧Q u H2
theorem qHh {X:Cx}{e dv:Expr}{t:TA}{td:TE}{p kp pos:Pos}(hc:X.calm=true)(hg:Gl X "min")(hm:X.mg "min"=none)(ha:PA X [e] t)(hd:PE X dv td)
 (he:backTo pos (starEach [e] X.env)=(false,eval e X.env)::backTo pos (starEach [] X.env):=by rfl) (hpl:(backTo pos (starEach [e] X.env)).any (·.1)=false:=by rfl):PE X (.Call (.Name "min" p) [e] [⟨some (Str.ofString "default"),dv,kp⟩] pos) (qKu X.K t td):=by
 intro pins s σ H Q I h
 refine wpAny_Call_Name_kw (kr I hg hm (by rfl) ?_ (by decide) (by decide))
 refine callWith_kw (thn (ha pos pins s σ H _ I h) fun us s1 ⟨vs,H1,I1,r1,q1⟩=>kws_cons (thn (hd pins s1 σ H1 _ I1 q1) fun d s2 ⟨y,H2,I2,ry,p,ns,ev,hq,u0,q0,q2,qq⟩=>kws_nil ?_)) he hpl (by rfl) (by rfl)
 subst ev
 obtain⟨u,rfl,rx⟩:=qBl r1
 cases rx
 obtain⟨its,rv,pl,hz⟩:=I2.list hq
 obtain⟨ys,e1,e2⟩:=vv rv
 have pl':=pl.isList
 rw [e1] at pl'
 have hlen:ys.length=ns.length:=by rw [← e2,List.length_map]
 refine qC8 (I2.ok.hd hc) pl' (fun h0 h' tk hk=>?_) fun h0 v h' tk hv hk=>?_
 · have:ns=[]:=List.eq_nil_of_length_eq_zero (by simp only [List.size_toArray] at h0;omega)
   rw [q0 this] at qq
   exact⟨y,H2,I2.kept fun b o e=>hk b o e,ry,qq⟩
 · obtain⟨t,rfl⟩:=intItems_at hv
   have B:=argBest_lt (numAt ys.toArray) (ys.toArray.size - 1)
   simp only [List.size_toArray] at h0
   have num:∀ j,j < ys.length→∃ n,ns[j]? =some n∧numAt ys.toArray j=n:=fun j hj=>by
    refine⟨(ys[j]).1,?_,?_⟩
    · rw [← e2,List.getElem?_map,List.getElem?_eq_getElem hj];rfl
    · simp [numAt,hj]
   have hb:argBest (fun i j=>decide (numAt ys.toArray i < numAt ys.toArray j)) (ys.toArray.size - 1) < ys.length:=by
    have:=B.1
    simp only [List.size_toArray] at this ⊢
    omega
   obtain⟨n,hn,en⟩:=num _ hb
   refine⟨.int _,H2,I2.kept fun b o e=>hk b o e,⟨_,rfl⟩,?_⟩
   rw [en]
   rw [q2 n (List.mem_of_getElem? hn) fun x hx=>?_] at qq
   · exact qq
   obtain⟨j,hj,ej⟩:=List.mem_iff_getElem.mp hx
   obtain⟨n',hn',en'⟩:=num j (by omega)
   have:x=n':=by rw [List.getElem?_eq_getElem hj,ej] at hn';exact Option.some.inj hn'
   rw [this,← en',← en]
   exact B.2 j (by simp only [List.size_toArray];omega)
end L3
set_option maxRecDepth 100000
namespace L3
open PySem PySem.Spec PyProof.Rows L2
def CompEnd5 (K:PySem.W.Frag)(js:List Nat)(te:TE)(σ:L2.St)(Q:VK)(J:It)(H1:Hp):Prop:=∃ W:Nat→Nat→List V→Hp→Prop,(∃ m,W 0 m [] H1)∧∀ i m acc H2,W i m acc H2→
 acc.length < sizeLine∧((J.stop i H2∧∀ D,H2 D=none→Q (.ref D) (upd H2 D (.lst acc)))∨
  (J.go i H2∧∀ x H3,J.yld i H2 x H3→∃ p v1 v2 v3 v4 v5,x= .ref p∧SqT K H3 p [v1,v2,v3,v4,v5]∧te (some v1::some v2::some v3::some v4::some v5::zW js σ) H3 fun v H5=>∃ m',m' < m∧W (i+1) m' (acc++[v]) H5))
def qIz (K:PySem.W.Frag)(js:List Nat)(wi:TI)(te:TE):TE:=fun σ H Q=>wi σ H (CompEnd5 K js te σ Q)
def g5 (K:PySem.W.Frag):TG:=qKd K 5 (vE (xV 0) (vE (xV 1) (vE (xV 2) (vE (xV 3) (vE (xV 4) qJ7)))))
theorem CompEnd5.g {K:PySem.W.Frag}{js:List Nat}{te:TE}(σ:L2.St)(Q:VK)(J:It)(H1:Hp):CompEnd5 K js te σ Q J H1→xE 5 js (g5 K) (fun _ H Q=>Q true H) te σ Q J H1:=fun⟨W,w0,st⟩=>
 ⟨W,w0,fun i m acc H2 w=>⟨(st i m acc H2 w).1,(st i m acc H2 w).2.imp id fun⟨go,y⟩=>⟨go,fun x H3 z=>let ⟨p,v1,v2,v3,v4,v5,e,q,r⟩:=y x H3 z;⟨p,_,e,q,rfl,v1,_,rfl,v2,_,rfl,v3,_,rfl,v4,_,rfl,v5,_,rfl,rfl,[some v1,some v2,some v3,some v4,some v5],rfl,rfl,r⟩⟩⟩⟩
theorem qFx {X:Cx}{elt iter:Expr}{x1 x2 x3 x4 x5:Str}{p1 p2 p3 p4 p5:Pos}{tk:Nat}{tpos:Pos}{scope:Scope}{cl:List (Str × Addr)}{pos:Pos}{wi:TI}{te:TE}(ys:List Str)(js:List Nat)
 (hcm:X.calm=true) (hi:PI X (.Tuple [.Name x1 p1,.Name x2 p2,.Name x3 p3,.Name x4 p4,.Name x5 p5] tk tpos) iter wi) (he:∀ C s H fp,PE (qr X scope cl C (x1::x2::x3::x4::x5::ys) s H fp).nox elt te) (h1:scope.names.lookup x1=some .local:=by rfl) (h2:scope.names.lookup x2=some .local:=by rfl) (h3:scope.names.lookup x3=some .local:=by rfl) (h4:scope.names.lookup x4=some .local:=by rfl) (h5:scope.names.lookup x5=some .local:=by rfl) (hC:COk X scope cl iter [x1,x2,x3,x4,x5] ys js:=by exact⟨rfl,rfl,rfl,rfl,rfl,rfl,rfl,rfl,fun _=>rfl,by decide⟩):PE X (.ListComp elt [⟨.Tuple [.Name x1 p1,.Name x2 p2,.Name x3 p3,.Name x4 p4,.Name x5 p5] tk tpos,iter,[],0⟩] scope pos) (qIz X.K js wi te):=
 qCg (xs:=[x1,x2,x3,x4,x5]) (T:=CompEnd5 X.K js te) hcm hi (fun C s H fp=>qBt (X:=(qr X scope cl C ([x1,x2,x3,x4,x5]++ys) s H fp).nox) hcm (jS (jE (i:=0) hC.nd rfl (.inl (lookup_relabel_local h1)) (.inr (lookup_relabel_local h1))) (jS (jE (i:=1) hC.nd rfl (.inl (lookup_relabel_local h2)) (.inr (lookup_relabel_local h2))) (jS (jE (i:=2) hC.nd rfl (.inl (lookup_relabel_local h3)) (.inr (lookup_relabel_local h3))) (jS (jE (i:=3) hC.nd rfl (.inl (lookup_relabel_local h4)) (.inr (lookup_relabel_local h4))) (jS (jE (i:=4) hC.nd rfl (.inl (lookup_relabel_local h5)) (.inr (lookup_relabel_local h5))) vj)))))) (fun _ _ _ _=>qDb) he hC CompEnd5.g
theorem qEq {K:PySem.W.Frag}{a:Addr}{xs:List V}{js:List Nat}{te:TE}{σ:L2.St}{H:Hp}{Q:VK}(Pv:Nat→List V→Hp→Prop)(h0:Pv 0 [] H)(hl:∀ i acc H,i≤xs.length→Pv i acc H→SqT K H a xs∧acc.length < sizeLine)
 (hs:∀ i x acc H,i < xs.length→xs[i]? =some x→Pv i acc H→∃ p v1 v2 v3 v4 v5,x= .ref p∧SqT K H p [v1,v2,v3,v4,v5]∧te (some v1::some v2::some v3::some v4::some v5::zW js σ) H fun v H'=>Nxt xs.length i (Pv (i+1) (acc++[v]) H')) (hd:∀ acc H,Pv xs.length acc H→∀ D,H D=none→Q (.ref D) (upd H D (.lst acc))):CompEnd5 K js te σ Q (Itt K a) H:=by
 refine⟨fun i m acc H=>m=xs.length - i∧i≤xs.length∧Pv i acc H,⟨xs.length,by simp,Nat.zero_le _,h0⟩,?_⟩
 rintro i m acc H2 ⟨rfl,hi,p⟩
 obtain⟨q,hz⟩:=hl i acc H2 hi p
 refine⟨hz,?_⟩
 by_cases hlt:i < xs.length
 · refine .inr ⟨⟨xs,xs[i],q,by simp [hlt]⟩,fun x H3 y=>?_⟩
   obtain⟨e,y⟩:=y
   subst e
   exact hs i x acc _ hlt (y xs q) p
 · have e:i=xs.length:=by omega
   subst e
   exact .inl ⟨⟨xs,q,Nat.le_refl _⟩,hd acc H2 p⟩
end L3
set_option maxRecDepth 100000
namespace Lw
open PySem L2 L3 Mt
seal L2.PSs L2.PS L2.PE L2.PA L2.PT L2.PW L2.PC L2.PI L2.PG L2.PGs L2.PO
def top (i:Nat):Stmt:=PySem.Challenge.pw_reelcut_k64_too_many_pieces.main.body.getD i (.Pass ⟨0,0,0,0⟩)
theorem scA {N P:List Str}{sc:Scope}(h1:sc.kind= .function:=by rfl)(h2:sc.isCoroutine=false:=by rfl)(h3:sc.isGenerator=false:=by rfl)(h4:N.Nodup:=by decide+kernel)(h5:N.take P.length=P:=by rfl)(h6:∀ x∈P,sc.names.lookup x=some .local∨sc.names.lookup x=some .cell:=by decide+kernel)(h7:∀ y∈sc.names,y.2≠ .free:=by decide+kernel):qS N P sc:=⟨h1,h2,h3,h4,h5,h6,h7⟩
abbrev zn:Stmt:=top 8
abbrev ji:Stmt:=top 9
abbrev zv:Stmt:=top 10
abbrev vY:Stmt:=top 11
abbrev zh:Stmt:=top 12
abbrev zq:Stmt:=top 15
abbrev xK:Stmt:=top 17
abbrev zA:Stmt:=top 18
abbrev kN:Stmt:=top 19
abbrev kP:Stmt:=top 20
abbrev xT:Stmt:=top 22
abbrev j7:Stmt:=top 23
abbrev xu:Stmt:=top 24
abbrev xZ:Stmt:=top 25
abbrev wF:Stmt:=top 26
abbrev jj:Stmt:=top 27
abbrev jv:Stmt:=top 28
abbrev qAu:Stmt:=top 33
abbrev xC:Stmt:=top 34
abbrev xW:Stmt:=top 35
abbrev xU:Stmt:=top 36
abbrev j6:Stmt:=top 37
abbrev xB:Stmt:=top 38
abbrev vo:Stmt:=top 39
abbrev vi:Stmt:=top 40
abbrev xv:Stmt:=top 41
abbrev ve:Stmt:=top 42
abbrev xy:Stmt:=top 43
abbrev jw:Stmt:=top 45
abbrev xY:Stmt:=top 46
abbrev xz:Stmt:=top 47
abbrev xc:Stmt:=top 48
abbrev xN:Stmt:=top 49
abbrev jh:Stmt:=top 50
abbrev jV:Stmt:=top 51
abbrev qHb:Stmt:=top 52
theorem qAx:qS ["x"] ["x"] (qH zn):=scA
theorem jK:qS ["one","other","rest"] ["one","other"] (qH ji):=scA
theorem x9:qS ["top","bottom","divisor"] ["top","bottom"] (qH zv):=scA
theorem qEe:qS ["one","other"] ["one","other"] (qH vY):=scA
theorem qA1:qS ["one","other"] ["one","other"] (qH zh):=scA
theorem qA2:qS ["clip","k"] ["clip","k"] (qH zq):=scA
theorem vh:qS ["item"] ["item"] (qH xK):=scA
theorem qAi:qS ["track"] ["track"] (qH zA):=scA
theorem jn:qS ["track","moment","begin","place","item","end"] ["track","moment"] (qH kN):=scA
theorem qCw:qS ["track","place"] ["track","place"] (qH kP):=scA
theorem vq:qS ["length"] ["length"] (qH xT):=scA
theorem vJ:qS ["length"] ["length"] (qH j7):=scA
theorem jb:qS ["track","spans","border","item"] ["track"] (qH xu):=scA
theorem vt:qS ["length","j"] ["length","j"] (qH xZ):=scA
theorem zL:qS ["track","moment","places","place","span"] ["track","moment"] (qH wF):=scA
theorem zx:qS ["track","place"] ["track","place"] (qH jj):=scA
theorem kT:qS ["track","place"] ["track","place"] (qH jv):=scA
theorem qFi:qS ["first","step","k"] ["first","step","k"] (qH qAu):=scA
theorem vK:qS ["parts","k"] ["parts","k"] (qH xC):=scA
theorem xF:qS ["run","low","high","begin","ends"] ["run","low","high"] (qH xW):=scA
theorem qp:qS ["track","place","begin","length","ahead","behind","shares","from_border","first","second"] ["track","place","begin"] (qH xU):=scA
theorem jY:qS ["track","place","begin","clip","low","high"] ["track","place","begin"] (qH j6):=scA
theorem jX:qS ["room","nest","begin","how_far","known","inner","later","end"] ["room","nest","begin","how_far","known"] (qH xB):=scA
theorem xM:qS ["room","track","moment","known","mixed","found","item","begin"] ["room","track","moment","known"] (qH vo):=scA
theorem zU:qS ["room","name","moment","known","run","track"] ["room","name","moment","known"] (qH vi):=scA
theorem jP:qS ["runs","moment","low","high","middle"] ["runs","moment"] (qH xv):=scA
theorem xO:qS ["room","name","moment","known","runs","place","run"] ["room","name","moment","known"] (qH ve):=scA
theorem qZ:qS ["room","name","end","known","pieces","moment","run"] ["room","name"] (qH xy):=scA
theorem km:qS ["_law_script","_law_k"] ["_law_script","_law_k"] (qH jw):=scA
theorem zD:qS ["_law_cell","_law_k","_law_number"] ["_law_cell","_law_k"] (qH xY):=scA
theorem je:qS ["_law_room","_law_name","_law_found","e","_law_others"] ["_law_room","_law_name"] (qH xz):=scA
theorem zF:qS ["_law_number","_law_some"] ["_law_number"] (qH xc):=scA
theorem jJ:qS ["_law_cell","_law_several","_law_number","_law_track","_law_k","_law_more","_law_step"] ["_law_cell","_law_several"] (qH xN):=scA
theorem qR:qS ["_law_track","_law_start","_law_many","_law_at","_law_place","_law_found","_law_left"] ["_law_track","_law_start","_law_many"] (qH jh):=scA
theorem qv:qS ["_law_script","_law_tables","_law_names","_law_lengths_of","_law_track","_law_k","_law_start","_law_many","_law_room"] ["_law_script","_law_tables","_law_names","_law_lengths_of","_law_track"] (qH jV):=scA
theorem jf:qS ["_law_script","_law_number","_law_two","_law_track","_law_tables","_law_names","_law_product","_law_lengths_of","_law_numbers","_law_k","_law_several","_law_name","_law_handed"] ["_law_script"] (qH qHb):=scA
abbrev zM:Stmt:=qIg (top 6) 0
set_option genInjectivity false
set_option genSizeOf false
structure Ads where
 A0:Addr
 B0:FuncData
 A1:Addr
 B1:FuncData
 A2:Addr
 B2:FuncData
 A3:Addr
 B3:FuncData
 A4:Addr
 B4:FuncData
 A5:Addr
 B5:FuncData
 A6:Addr
 B6:FuncData
 A7:Addr
 B7:FuncData
 A8:Addr
 B8:FuncData
 A9:Addr
 B9:FuncData
 A10:Addr
 B10:FuncData
 A11:Addr
 B11:FuncData
 A12:Addr
 B12:FuncData
 A13:Addr
 B13:FuncData
 A14:Addr
 B14:FuncData
 A15:Addr
 B15:FuncData
 A16:Addr
 B16:FuncData
 A17:Addr
 B17:FuncData
 A18:Addr
 B18:FuncData
 A19:Addr
 B19:FuncData
 A20:Addr
 B20:FuncData
 A21:Addr
 B21:FuncData
 A22:Addr
 B22:FuncData
 A23:Addr
 B23:FuncData
 A24:Addr
 B24:FuncData
 A25:Addr
 B25:FuncData
 A26:Addr
 B26:FuncData
 A27:Addr
 B27:FuncData
 A28:Addr
 B28:FuncData
 A29:Addr
 B29:FuncData
 A30:Addr
 B30:FuncData
 A31:Addr
 B31:FuncData
 A32:Addr
 B32:FuncData
 A33:Addr
 B33:FuncData
 A34:Addr
 B34:FuncData
 A35:Addr
 B35:FuncData
 k_CutError:Addr
 k_NoNumber:Addr
 k_NoPlace:Addr
 k_NoRoom:Addr
 k_TooMuch:Addr
 k_Short:Addr
 n_NOUGHT:Addr
 n_WHOLE_SHARE:Addr
 t_MOST_PIECES:Tok
 n_NOTHING:Addr
 n_NOTHING_2:Addr
 fi_Short:Addr
 gi_Short:FuncData
structure Tx (K:PySem.W.Frag)(mg:Str→Option Value)(a:Ads):Prop where
 D0:L3.Def K mg "is_whole" zn ["x"] a.A0 a.B0
 D1:L3.Def K mg "common_divisor" ji ["one","other"] a.A1 a.B1
 D2:L3.Def K mg "fraction" zv ["top","bottom"] a.A2 a.B2
 D3:L3.Def K mg "sum_of" vY ["one","other"] a.A3 a.B3
 D4:L3.Def K mg "times_of" zh ["one","other"] a.A4 a.B4
 D5:L3.Def K mg "place_at" zq ["clip","k"] a.A5 a.B5
 D6:L3.Def K mg "moments_of" xK ["item"] a.A6 a.B6
 D7:L3.Def K mg "length_of" zA ["track"] a.A7 a.B7
 D8:L3.Def K mg "item_at" kN ["track","moment"] a.A8 a.B8
 D9:L3.Def K mg "kind_at" kP ["track","place"] a.A9 a.B9
 D10:L3.Def K mg "part_ahead" xT ["length"] a.A10 a.B10
 D11:L3.Def K mg "part_behind" j7 ["length"] a.A11 a.B11
 D12:L3.Def K mg "mix_spans" xu ["track"] a.A12 a.B12
 D13:L3.Def K mg "mix_shares" xZ ["length","j"] a.A13 a.B13
 D14:L3.Def K mg "mix_at" wF ["track","moment"] a.A14 a.B14
 D15:L3.Def K mg "taken_at_begin" jj ["track","place"] a.A15 a.B15
 D16:L3.Def K mg "taken_at_end" jv ["track","place"] a.A16 a.B16
 D17:L3.Def K mg "after" qAu ["first","step","k"] a.A17 a.B17
 D18:L3.Def K mg "parts_later" xC ["parts","k"] a.A18 a.B18
 D19:L3.Def K mg "run_within" xW ["run","low","high"] a.A19 a.B19
 D20:L3.Def K mg "run_of_mix" xU ["track","place","begin"] a.A20 a.B20
 D21:L3.Def K mg "run_of_clip" j6 ["track","place","begin"] a.A21 a.B21
 D22:L3.Def K mg "run_of_nest" xB ["room","nest","begin","how_far","known"] a.A22 a.B22
 D23:L3.Def K mg "run_on" vo ["room","track","moment","known"] a.A23 a.B23
 D24:L3.Def K mg "walked" vi ["room","name","moment","known"] a.A24 a.B24
 D25:L3.Def K mg "place_for" xv ["runs","moment"] a.A25 a.B25
 D26:L3.Def K mg "run_at" ve ["room","name","moment","known"] a.A26 a.B26
 D27:L3.Def K mg "laid_flat" xy ["room","name"] a.A27 a.B27
 D28:L3.Def K mg "_law_cell_at" jw ["_law_script","_law_k"] a.A28 a.B28
 D29:L3.Def K mg "_law_mixed" xY ["_law_cell","_law_k"] a.A29 a.B29
 D30:L3.Def K mg "_law_told" xz ["_law_room","_law_name"] a.A30 a.B30
 D31:L3.Def K mg "_law_count" xc ["_law_number"] a.A31 a.B31
 D32:L3.Def K mg "_law_first" xN ["_law_cell","_law_several"] a.A32 a.B32
 D33:L3.Def K mg "_law_pieces_in" jh ["_law_track","_law_start","_law_many"] a.A33 a.B33
 D34:L3.Def K mg "_law_film_right" jV ["_law_script","_law_tables","_law_names","_law_lengths_of","_law_track"] a.A34 a.B34
 D35:L3.Def K mg "law" qHb ["_law_script"] a.A35 a.B35
 c_CutError:mg "CutError"=some (.ref a.k_CutError)
 c_NoNumber:mg "NoNumber"=some (.ref a.k_NoNumber)
 c_NoPlace:mg "NoPlace"=some (.ref a.k_NoPlace)
 c_NoRoom:mg "NoRoom"=some (.ref a.k_NoRoom)
 c_TooMuch:mg "TooMuch"=some (.ref a.k_TooMuch)
 c_Short:mg "Short"=some (.ref a.k_Short)
 b_isinstance:mg "isinstance"=none
 b_int:mg "int"=none
 b_bool:mg "bool"=none
 b_abs:mg "abs"=none
 b_sum:mg "sum"=none
 b_enumerate:mg "enumerate"=none
 b_len:mg "len"=none
 b_zip:mg "zip"=none
 b_tuple:mg "tuple"=none
 b_max:mg "max"=none
 b_min:mg "min"=none
 b_ValueError:mg "ValueError"=none
 b_range:mg "range"=none
 b_dict:mg "dict"=none
 g_NOUGHT:mg "NOUGHT"=some (.ref a.n_NOUGHT)
 sq_NOUGHT:∀ H,SqT K H a.n_NOUGHT [.int 0,.int 1]
 g_WHOLE_SHARE:mg "WHOLE_SHARE"=some (.ref a.n_WHOLE_SHARE)
 sq_WHOLE_SHARE:∀ H,SqT K H a.n_WHOLE_SHARE [.int 1,.int 1]
 g_MOST_PIECES:mg "MOST_PIECES"=some (.int 400 a.t_MOST_PIECES)
 g_NOTHING:mg "NOTHING"=some (.ref a.n_NOTHING)
 sq_NOTHING:∀ H,SqT K H a.n_NOTHING [.int 0,.non,.ref a.n_NOTHING_2]
 sq_NOTHING_2:∀ H,SqT K H a.n_NOTHING_2 []
 x_TooMuch:L3.OwnX K a.k_TooMuch
 e_TooMuch:L3.ExcK K a.k_TooMuch
 x1:PySem.W.exmOne K (.ref a.k_TooMuch) (.ref a.k_CutError)=some true
 p1:PySem.W.kitOne K (.ref a.k_TooMuch) (.ref a.k_NoRoom)=some false
 p2:PySem.W.kitOne K (.ref a.k_TooMuch) (.ref a.k_NoPlace)=some false
 p3:PySem.W.kitOne K (.ref a.k_TooMuch) (.ref a.k_Short)=some false
 p4:PySem.W.kitOne K (.ref a.k_TooMuch) (.ref a.k_TooMuch)=some true
 p5:PySem.W.kitOne K (.ref a.k_TooMuch) (.type "ValueError")=some true
 i_Short:Fun K "__init__" "Short.__init__" zM a.fi_Short a.gi_Short
 ib_Short:Binds K a.gi_Short ["self","most"] []
 m_Short:L3.XMk K a.k_Short a.k_CutError a.fi_Short
 tk_Short:PySem.W.takerIn K a.k_Short "most"=some none
inductive qGk (K:PySem.W.Frag)(vs:List V)(H:Hp)(Q:VK)(_:XK):Prop
| mk (a:Addr) (ns:List Int) (_:vs=[.ref a]) (_:SqL K H a (ns.map V.int)) (_:ns.length≤63) (_:∀ H',Q (.bl true) H')
def qJg (H:Hp)(Q:VK)(p q:Int):Prop:=∀ z,H z=none→Q (.ref z) (upd H z (.tup [.int p,.int q]))
theorem xH {CX:CXT}{P:Program}{w:World}{K:PySem.W.Frag}{mg:Str→Option Value}{base:Heap}{ns:List Str}{n:Str}{sc:Scope}{ad:Addr}{cdv:Value}{A:Around}{outer:List Env}{s:Shared}{H:Hp}{E:XK}:(qFd CX P w K mg base ns n sc ad cdv A outer s H E).K=K:=rfl
theorem jD {CX:CXT}{P:Program}{w:World}{K:PySem.W.Frag}{mg:Str→Option Value}{base:Heap}{ns:List Str}{n:Str}{sc:Scope}{ad:Addr}{cdv:Value}{A:Around}{outer:List Env}{s:Shared}{H:Hp}{E:XK}:(qFd CX P w K mg base ns n sc ad cdv A outer s H E).nox.K=K:=rfl
theorem sL0:(0:Nat)≤sizeLine:=by decide
theorem sL1:(1:Nat)≤sizeLine:=by decide
theorem sL2:(2:Nat)≤sizeLine:=by decide
theorem sL3:(3:Nat)≤sizeLine:=by decide
theorem sL4:(4:Nat)≤sizeLine:=by decide
theorem sL5:(5:Nat)≤sizeLine:=by decide
theorem glt {α:Type}{xs:List α}{i:Nat}{x:α}(h:xs[i]? =some x):i < xs.length:=(List.getElem?_eq_some_iff.mp h).1
theorem ixT {K:PySem.W.Frag}{σ:St}{H:Hp}{p:Addr}{xs:List V}{i:Int}{v:V}{Q:VK}(h:SqT K H p xs)(a:atI xs i=some v)(q:Q v H):tC (.int i) σ H (fun y H2=>qIp K (.ref p) y H2 Q):=⟨p,xs,i,v,rfl,rfl,h,a,q⟩
theorem qD9 {K:PySem.W.Frag}{σ:St}{H:Hp}{p:Addr}{xs:List V}{i:Int}{v:V}{Q:VK}{j:Nat}(e:σ[j]? =some (some (.ref p)))(h:SqT K H p xs)(a:atI xs i=some v)(q:Q v H):tOp (qIp K) (qKb j) (tC (.int i)) σ H Q:=⟨.ref p,e,p,xs,i,v,rfl,rfl,h,a,q⟩
theorem ixO {K:PySem.W.Frag}{σ:St}{H:Hp}{p:Addr}{xs:List V}{i:Int}{v:V}{Q:VK}{j:Nat}(h:H p=some (.tup xs))(a:atI xs i=some v)(q:Q v H)(e:σ[j]? =some (some (.ref p)):=by rfl):tOp (qIp K) (qKb j) (tC (.int i)) σ H Q:=qD9 e (SqT.of h) a q
section
variable {P : Program} {w : World} {K : W.Frag} {mg : Str → Option Value} {base : Heap} {a : Ads}
inductive qBa (vs:List V)(H:Hp)(Q:VK)(_:XK):Prop
| mk (i:Int) (_:vs=[.int i]) (_:Q (.bl true) H)
theorem kq (T:Tx K mg a):FnOk P w K mg base CX0 1 a.A0 a.B0 ["x"] qBa:=by
 refine T.D0.F.ok qAx (fun vs H Q E h=>?_) (fun cdv A outer s H vs Q E hr h=>?_)
 · obtain⟨i,rfl,_⟩:=h
   rfl
 refine qJ fun _ Y=>?_
 obtain⟨i,rfl,q⟩:=h
 apply Y
 refine⟨_,(qG (qU (qJl (qQ kQ rfl T.b_isinstance rfl (qA (pv 0) (qA (qHi rfl T.b_int rfl) qC))) (qGy (qIx (qQ kQ rfl T.b_isinstance rfl (qA (pv 0) (qA (qHi rfl T.b_bool rfl) qC)))))))),?_⟩
 try dsimp only [xH,jD]
 refine⟨_,rfl,_,_,_,true,rfl,.int i,⟨_,.inl ⟨rfl,rfl⟩⟩,true,rfl,qDi ?_⟩
 refine⟨_,rfl,_,_,_,false,rfl,.int i,⟨_,.inl ⟨rfl,by kernel_rfl⟩⟩,false,rfl,?_⟩
 exact q
inductive zw (vs:List V)(H:Hp)(Q:VK)(_:XK):Prop
| mk (i j:Int) (_:vs=[.int i,.int j]) (_:Q (.int ((Int.gcd i j:Nat):Int)) H)
theorem zj (T:Tx K mg a):FnOk P w K mg base CX0 1 a.A1 a.B1 ["one","other"] zw:=by
 refine T.D1.F.ok jK (fun vs H Q E h=>?_) (fun cdv A outer s H vs Q E hr h=>?_)
 · obtain⟨i,j,rfl,_⟩:=h
   rfl
 refine qJ fun _ Y=>?_
 obtain⟨i,j,rfl,q⟩:=h
 apply Y
 refine⟨_,(qB (xf PassesOwn.never (qY qE5 (pv 1) qF (qh _)) (qB (qP 2 jK.nd (qL qx (pv 0) (pv 1)))
  (qB (qP 0 jK.nd (pv 1))
  (qG (qP 1 jK.nd (pv 2))))))
  (qG (qU (qQ qFk rfl T.b_abs rfl (qA (pv 0) qC))))),?_⟩
 try dsimp only [xH,jD]
 refine xg (fun σ H'=>H'=H∧∃ (x y:Int) (v:Option V),σ=[some (.int x),some (.int y),v]∧Int.gcd x y=Int.gcd i j)
  (fun σ _=>match σ with | [_,some (.int y),_]=>y.natAbs | _=>0) ⟨rfl,i,j,none,rfl,rfl⟩ ?_ ?_
 · rintro σ H1 ⟨rfl,x,y,v,rfl,e⟩
   refine⟨_,rfl,rfl,_,rfl,?_⟩
   refine xI (fun c=>?_) (fun c=>?_)
   · have hy:y≠0:=by simpa using c
     refine⟨_,rfl,_,rfl,_,_,rfl,rfl,hy,_,rfl,_,rfl,⟨rfl,y,x.fmod y,_,rfl,?_⟩,?_⟩
     · rw [qGd];exact e
     · exact qHj x y hy
   · have hy:y=0:=by simpa using c
     subst hy
     refine⟨_,rfl,x,rfl,?_⟩
     have e2:(if x < 0 then -x else x)=((Int.gcd i j:Nat):Int):=by
      rw [← e,Int.gcd_zero_right]
      split <;> omega
     rw [e2]
     exact q
 · rintro σ H1 Q1 Q2 hq h
   refine qJ fun _ Y=>?_
   obtain⟨v,e,s,k,hk,z⟩:=h
   apply Y
   exact⟨v,e,s,k,hk,hq _ _ z⟩
theorem qGe {t b:Int}(h:b≠0)(hb:b.natAbs < 2 ^ 8000):CDivB t (sg t b)∧CDivB b (sg t b):=by
 have h1:=qK7 (t:=t) h
 have h2:(sg t b).natAbs < 2 ^ 8000:=by
  rw [qB8]
  exact Nat.lt_of_le_of_lt (Nat.le_of_dvd (by omega) (Int.gcd_dvd_natAbs_right ..)) hb
 exact⟨⟨h1,h2⟩,⟨h1,h2⟩⟩
inductive qAz (vs:List V)(H:Hp)(Q:VK)(_:XK):Prop
| mk (t b:Int) (_:vs=[.int t,.int b]) (_:b≠0) (_:b.natAbs < 2 ^ 8000) (_:qJg H Q (q9 t b) (qm t b))
theorem jI (T:Tx K mg a):FnOk P w K mg base CX0 2 a.A2 a.B2 ["top","bottom"] qAz:=by
 refine T.D2.F.ok x9 (fun vs H Q E h=>?_) (fun cdv A outer s H vs Q E hr h=>?_)
 · obtain⟨t,b,rfl,_⟩:=h
   rfl
 refine qJ fun _ Y=>?_
 obtain⟨t,b,rfl,hb,hs,q⟩:=h
 apply Y
 refine⟨_,(qB (jc (PW.pt (qJo (qCf (vU (qI T.D0 (kq T) hr rfl (qA (pv 0) qC)))) (qG8 (qCf (vU (qI T.D0 (kq T) hr rfl (qA (pv 1) qC))))))) kh qj)
  (qB (jc (qY vI (pv 1) qF (qh _)) kh qj)
  (qB (qP 2 x9.nd (qI T.D1 (zj T) hr rfl (qA (pv 0) (qA (pv 1) qC))))
  (qB (jc (qY vL (pv 1) qF (qh _)) (qG (qP 2 x9.nd (zo jy (pv 2)))) qj)
  (qG (qU (qd (qA (qL q8 (pv 0) (pv 2)) (qA (qL q8 (pv 1) (pv 2)) qC))))))))),?_⟩
 try dsimp only [xH,jD]
 refine⟨_,rfl,t,rfl,true,rfl,qCv ?_⟩
 refine⟨_,rfl,b,rfl,true,rfl,qCv ?_⟩
 refine⟨_,rfl,rfl,_,rfl,?_⟩
 refine xI (fun c=>absurd (by simpa using c) hb) (fun _=>?_)
 refine⟨_,rfl,_,rfl,t,b,rfl,?_⟩
 refine⟨_,rfl,_,_,rfl,rfl,_,rfl,?_⟩
 obtain⟨d1,d2⟩:=qGe (t:=t) hb hs
 refine xI (fun c=>?_) (fun c=>?_)
 · have c':b < 0:=by simpa using c
   have e:-((Int.gcd t b:Nat):Int)=sg t b:=by unfold sg;rw [if_pos c']
   have q':qJg H Q (t.fdiv (-((Int.gcd t b:Nat):Int))) (b.fdiv (-((Int.gcd t b:Nat):Int))):=by rw [e];exact q
   exact⟨_,rfl,_,rfl,_,rfl,_,rfl,_,_,rfl,rfl,(by rw [e];exact d1),_,rfl,_,rfl,_,_,rfl,rfl,(by rw [e];exact d2),sL2,q'⟩
 · have c':¬ b < 0:=by simpa using c
   have e:((Int.gcd t b:Nat):Int)=sg t b:=by unfold sg;rw [if_neg c']
   have q':qJg H Q (t.fdiv ((Int.gcd t b:Nat):Int)) (b.fdiv ((Int.gcd t b:Nat):Int)):=by rw [e];exact q
   exact⟨_,rfl,_,rfl,_,_,rfl,rfl,(by rw [e];exact d1),_,rfl,_,rfl,_,_,rfl,rfl,(by rw [e];exact d2),sL2,q'⟩
def Pr (K:W.Frag)(H:Hp)(v:V)(p q:Int):Prop:=∃ z,v= .ref z∧SqT K H z [.int p,.int q]
theorem Pr.same {H H':Hp}{v:V}{p q:Int}(e:Same H H')(h:Pr K H v p q):Pr K H' v p q:=let ⟨z,h1,h2⟩:=h;⟨z,h1,L3.Same.tup e h2⟩
def Sm (i:Int):Prop:=i.natAbs < 2 ^ 3000
theorem Sm.mul {i j:Int}(h1:Sm i)(h2:Sm j):CMulB i j:=by
 unfold Sm at h1 h2
 have:(2:Nat) ^ 3000≤2 ^ 60000:=Nat.pow_le_pow_right (by decide) (by decide)
 exact .inr ⟨by omega,by omega⟩
theorem Sm.prod {i j:Int}(h1:Sm i)(h2:Sm j):(i*j).natAbs < 2 ^ 8000:=by
 unfold Sm at h1 h2
 rw [Int.natAbs_mul]
 have h3:i.natAbs*j.natAbs < 2 ^ 3000*2 ^ 3000:=Nat.mul_lt_mul'' h1 h2
 rw [← Nat.pow_add] at h3
 exact Nat.lt_of_lt_of_le h3 (Nat.pow_le_pow_right (by decide) (by decide))
theorem at0 {x y:V}:atI [x,y] 0=some x:=rfl
theorem at1 {x y:V}:atI [x,y] 1=some y:=rfl
inductive qDo (K:W.Frag)(vs:List V)(H:Hp)(Q:VK)(_:XK):Prop
| mk (x y:V) (p q r s:Int) (_:vs=[x,y]) (_:Pr K H x p q) (_:Pr K H y r s) (_:q≠0) (_:s≠0) (_:Sm p) (_:Sm q) (_:Sm r) (_:Sm s) (_:qJg H Q (q9 (p*s+r*q) (q*s)) (qm (p*s+r*q) (q*s)))
theorem ww (T:Tx K mg a):FnOk P w K mg base CX0 3 a.A3 a.B3 ["one","other"] (qDo K):=by
 refine T.D3.F.ok qEe (fun vs H Q E h=>?_) (fun cdv A outer s H vs Q E hr h=>?_)
 · obtain⟨x,y,p,q,r,s,rfl,_⟩:=h
   rfl
 refine qJ fun _ Y=>?_
 obtain⟨x,y,p,q,r,s',rfl,⟨z1,rfl,h1⟩,⟨z2,rfl,h2⟩,hq,hs,bp,bq,br,bs,k⟩:=h
 apply Y
 refine⟨_,(qG (qU (qI T.D2 (jI T) hr rfl (qA (qL qg (qL jr (qX (pv 0)) (qX (pv 1))) (qL jr (qX (pv 1)) (qX (pv 0)))) (qA (qL jr (qX (pv 0)) (qX (pv 1))) qC))))),?_⟩
 try dsimp only [xH,jD]
 refine(qD9 rfl h1 at0 (qD9 rfl h2 at1 ⟨_,_,rfl,rfl,bp.mul bs,?_⟩))
 refine(qD9 rfl h2 at0 (qD9 rfl h1 at1 ⟨_,_,rfl,rfl,br.mul bq,_,_,rfl,rfl,?_⟩))
 refine(qD9 rfl h1 at1 (qD9 rfl h2 at1 ⟨_,_,rfl,rfl,bq.mul bs,?_⟩))
 exact⟨_,_,rfl,Int.mul_ne_zero hq hs,bq.prod bs,k⟩
theorem nz {j:Int}(h:j≠0:=by decide):j≠0:=h
theorem cdB {i j:Int}(h0:j≠0)(h:j.natAbs < 18446744073709551616):CDivB i j:=
 ⟨h0,Nat.lt_of_lt_of_le h (Nat.le_trans (by decide:18446744073709551616≤2 ^ 64) (Nat.pow_le_pow_right (by decide) (by decide)))⟩
theorem cmR {i j:Int}(h1:-(18446744073709551616:Int) < j)(h2:j < 18446744073709551616):CMulB i j:=.inl (.inr ⟨h1,h2⟩)
theorem cmL {i j:Int}(h1:-(18446744073709551616:Int) < i)(h2:i < 18446744073709551616):CMulB i j:=.inl (.inl ⟨h1,h2⟩)
theorem fm (i:Int){j:Int}(h:0 < j):0≤i.fmod j∧i.fmod j < j:=⟨Int.fmod_nonneg_of_pos i h,Int.fmod_lt_of_pos i h⟩
def qLf (n:Nat)(p q:Int):Prop:=0 < q∧Int.gcd p q=1∧p.natAbs < 2 ^ n∧q.natAbs < 2 ^ n
inductive qBk (K:W.Frag)(vs:List V)(H:Hp)(Q:VK)(_:XK):Prop
| mk (x y:V) (p q r s:Int) (_:vs=[x,y]) (_:Pr K H x p q) (_:Pr K H y r s) (_:q≠0) (_:s≠0) (_:Sm p) (_:Sm q) (_:Sm r) (_:Sm s) (_:qJg H Q (q9 (p*r) (q*s)) (qm (p*r) (q*s)))
theorem kZ (T:Tx K mg a):FnOk P w K mg base CX0 3 a.A4 a.B4 ["one","other"] (qBk K):=by
 refine T.D4.F.ok qA1 (fun vs H Q E h=>?_) (fun cdv A outer s H vs Q E hr h=>?_)
 · obtain⟨x,y,p,q,r,s,rfl,_⟩:=h
   rfl
 refine qJ fun _ Y=>?_
 obtain⟨x,y,p,q,r,s',rfl,⟨z1,rfl,h1⟩,⟨z2,rfl,h2⟩,hq,hs,bp,bq,br,bs,k⟩:=h
 apply Y
 refine⟨_,(qG (qU (qI T.D2 (jI T) hr rfl (qA (qL jr (qX (pv 0)) (qX (pv 1))) (qA (qL jr (qX (pv 0)) (qX (pv 1))) qC))))),?_⟩
 try dsimp only [xH,jD]
 refine(qD9 rfl h1 at0 (qD9 rfl h2 at0 ⟨_,_,rfl,rfl,bp.mul br,?_⟩))
 refine(qD9 rfl h1 at1 (qD9 rfl h2 at1 ⟨_,_,rfl,rfl,bq.mul bs,?_⟩))
 exact⟨_,_,rfl,Int.mul_ne_zero hq hs,bq.prod bs,k⟩
inductive NoW (H:Hp):V→Prop where
 | non:NoW H .non
 | bl (b:Bool):NoW H (.bl b)
 | str (z:Str):NoW H (.str z)
 | lst {a:Addr} {xs:List V} (e:H a=some (.lst xs)):NoW H (.ref a)
 | tup {a:Addr} {xs:List V} (e:H a=some (.tup xs)):NoW H (.ref a)
def WhB (H:Hp)(x:V)(b:Bool):Prop:=(∃ i:Int,x= .int i∧b=true)∨(NoW H x∧b=false)
theorem WhB.int {H:Hp}(i:Int):WhB H (.int i) true:=.inl ⟨i,rfl,rfl⟩
theorem WhB.ty {H:Hp}{x:V}{b:Bool}(h:WhB H x b):∃ t i c,qBz K H x t∧W.kitOne K t (.type "int")=some i∧W.kitOne K t (.type "bool")=some c∧b=(i && !c):=by
 rcases h with ⟨i,rfl,rfl⟩ | ⟨h,rfl⟩
 · exact⟨_,true,false,.int i,by kernel_rfl,by kernel_rfl,rfl⟩
 · cases h with
   | non=>exact⟨_,false,false,.non,by kernel_rfl,by kernel_rfl,rfl⟩
   | bl b=>exact⟨_,true,true,.bl b,by kernel_rfl,by kernel_rfl,rfl⟩
   | str z=>exact⟨_,false,false,.str z,by kernel_rfl,by kernel_rfl,rfl⟩
   | lst e=>exact⟨_,false,false,.lst e,by kernel_rfl,by kernel_rfl,rfl⟩
   | tup e=>exact⟨_,false,false,.tup e,by kernel_rfl,by kernel_rfl,rfl⟩
structure Cp (K:W.Frag)(H:Hp)(v:V)(n:Str)(p q r s len:Int):Prop where
 ex:∃ z z1 z2,v= .ref z∧SqT K H z [.str "clip",.str n,.ref z1,.ref z2,.int len]∧SqT K H z1 [.int p,.int q]∧SqT K H z2 [.int r,.int s]
theorem qKp {x0 x1 x2 x3 x4:V}:atI [x0,x1,x2,x3,x4] 2=some x2:=rfl
theorem qF5 {x0 x1 x2 x3 x4:V}:atI [x0,x1,x2,x3,x4] 3=some x3:=rfl
theorem qBn {p q r s k:Int}(hq:0 < q)(hs:0 < s):
 q9 (p*qm (k*r) (1*s)+q9 (k*r) (1*s)*q) (q*qm (k*r) (1*s))=q9 (p*s+k*r*q) (q*s)∧
 qm (p*qm (k*r) (1*s)+q9 (k*r) (1*s)*q) (q*qm (k*r) (1*s))=qm (p*s+k*r*q) (q*s):=by
 rw [Int.one_mul]
 have c:=jq (k*r) s
 have n0:=jH (t:=k*r) (b:=s) (by omega)
 generalize q9 (k*r) s=m at c ⊢
 generalize qm (k*r) s=n at c n0 ⊢
 have b1:q*s≠0:=Int.mul_ne_zero (by omega) (by omega)
 have b2:q*n≠0:=Int.mul_ne_zero (by omega) (by omega)
 refine qB0 b2 (jH b1) (xX b1) ?_
 have e:=jq (p*s+k*r*q) (q*s)
 generalize q9 (p*s+k*r*q) (q*s)=u at e ⊢
 generalize qm (p*s+k*r*q) (q*s)=v at e ⊢
 have h:(u*(q*n))*s=((p*n+m*q)*v)*s:=by
  calc (u*(q*n))*s=(u*(q*s))*n:=by rw [Int.mul_assoc,Int.mul_assoc,Int.mul_assoc,Int.mul_assoc,Int.mul_comm n s]
   _=((p*s+k*r*q)*v)*n:=by rw [e]
   _=(p*n*s+(k*r*n)*q)*v:=by
    have h1:(p*s+k*r*q)*v*n=(p*s+k*r*q)*n*v:=by rw [Int.mul_assoc,Int.mul_comm v n,← Int.mul_assoc]
    have h2:(p*s+k*r*q)*n=p*n*s+k*r*n*q:=by
     rw [Int.add_mul,Int.mul_assoc p s n,Int.mul_comm s n,← Int.mul_assoc,Int.mul_assoc (k*r) q n,Int.mul_comm q n,← Int.mul_assoc]
    rw [h1,h2]
   _=(p*n*s+(m*s)*q)*v:=by rw [← c]
   _=((p*n+m*q)*v)*s:=by
    have h3:p*n*s+m*s*q=(p*n+m*q)*s:=by rw [Int.add_mul,Int.mul_assoc m s q,Int.mul_comm s q,← Int.mul_assoc]
    rw [h3,Int.mul_assoc,Int.mul_comm s v,← Int.mul_assoc]
 exact Int.eq_of_mul_eq_mul_right (by omega) h
def Sm2 (i:Int):Prop:=i.natAbs < 2 ^ 700
theorem Sm2.sm {i:Int}(h:Sm2 i):Sm i:=Nat.lt_of_lt_of_le h (Nat.pow_le_pow_right (by decide) (by decide))
theorem jB {i j:Int}{n m:Nat}(h1:i.natAbs < 2 ^ n)(h2:j.natAbs < 2 ^ m):(i*j).natAbs < 2 ^ (n+m):=by
 rw [Int.natAbs_mul,Nat.pow_add]
 exact Nat.mul_lt_mul'' h1 h2
inductive qA8 (K:W.Frag)(vs:List V)(H:Hp)(Q:VK)(_:XK):Prop
| mk (v:V) (n:Str) (p q r s len k:Int) (_:vs=[v,.int k]) (_:Cp K H v n p q r s len) (_:0 < q) (_:0 < s) (_:Sm2 p) (_:Sm2 q) (_:Sm2 r) (_:Sm2 s) (_:Sm2 k) (_:∀ z H',Same H H'→H' z=some (.tup [.int (q9 (p*s+k*r*q) (q*s)),.int (qm (p*s+k*r*q) (q*s))])→Q (.ref z) H')
theorem xw (T:Tx K mg a):FnOk P w K mg base CX0 4 a.A5 a.B5 ["clip","k"] (qA8 K):=by
 refine T.D5.F.ok qA2 (fun vs H Q E h=>?_) (fun cdv A outer s H vs Q E hr h=>?_)
 · obtain⟨v,n,p,q,r,s,len,k,rfl,_⟩:=h
   rfl
 refine qJ fun _ Y=>?_
 obtain⟨v,n,p,q,r,s',len,k,rfl,⟨z,z1,z2,rfl,hc,h1,h2⟩,hq,hs,bp,bq,br,bs,bk,kk⟩:=h
 apply Y
 refine⟨_,(qG (qU (qI T.D3 (ww T) hr rfl (qA (qX (pv 0)) (qA (qI T.D4 (kZ T) hr rfl (qA (qI T.D2 (jI T) hr rfl (qA (pv 1) (qA qF qC))) (qA (qX (pv 0)) qC))) qC))))),?_⟩
 try dsimp only [xH,jD]
 refine⟨_,rfl,z,_,_,_,rfl,rfl,hc,qKp,_,rfl,k,1,rfl,by decide,Nat.lt_of_lt_of_le (m:=2 ^ 1) (by decide) (Nat.pow_le_pow_right (by decide) (by decide)),fun y hy=>?_⟩
 have s1:=qE hy (.tup [.int (q9 k 1),.int (qm k 1)])
 obtain⟨l1,l2⟩:=qBu (p:=k) (q:=1) (by decide) (Int.gcd_one_right ..)
 refine⟨_,rfl,z,_,_,_,rfl,rfl,L3.Same.tup s1 hc,qF5,?_⟩
 have one:Sm 1:=Nat.lt_of_lt_of_le (m:=2 ^ 1) (by decide) (Nat.pow_le_pow_right (by decide) (by decide))
 refine⟨_,_,k,1,r,s',rfl,⟨y,rfl,?_⟩,⟨z2,rfl,L3.Same.tup s1 h2⟩,by decide,by omega,bk.sm,one,br.sm,bs.sm,fun x hx=>?_⟩
 · have e:SqT K (upd H y (.tup [.int (q9 k 1),.int (qm k 1)])) y [.int (q9 k 1),.int (qm k 1)]:=SqT.of qD
   rw [l1,l2] at e ⊢
   exact e
 have s2:=s1.trans (qE hx (.tup [.int (q9 (k*r) (1*s')),.int (qm (k*r) (1*s'))]))
 have b1:(1*s')≠0:=by omega
 have n0:=jH (t:=k*r) b1
 have bm:Sm (q9 (k*r) (1*s')):=by
  refine Nat.lt_of_le_of_lt (kH b1) (Nat.lt_of_lt_of_le (jB bk br) (Nat.pow_le_pow_right (by decide) (by decide)))
 have bn:Sm (qm (k*r) (1*s')):=by
  refine Nat.lt_of_le_of_lt (kF b1) ?_
  rw [Int.one_mul]
  exact bs.sm
 refine⟨_,_,p,q,_,_,rfl,⟨z1,rfl,L3.Same.tup s2 h1⟩,⟨x,rfl,SqT.of qD⟩,by omega,by omega,bp.sm,bq.sm,bm,bn,fun u hu=>?_⟩
 obtain⟨e1,e2⟩:=qBn (p:=p) (r:=r) (k:=k) hq hs
 refine kk u _ (s2.trans (qE hu _)) ?_
 rw [qD,e1,e2]
theorem qId {x0 x1 x2 x3 x4:V}:atI [x0,x1,x2,x3,x4] 1=some x1:=rfl
theorem qJr {x0 x1 x2 x3 x4:V}:atI [x0,x1,x2,x3,x4] 4=some x4:=rfl
structure Bn (n:Nat)(p q r s:Int):Prop where
 q0:0 < q
 s0:0 < s
 bp:p.natAbs < 2 ^ n
 bq:q.natAbs < 2 ^ n
 br:r.natAbs < 2 ^ n
 bs:s.natAbs < 2 ^ n
theorem qHd {i:Int}{n m:Nat}(h:i.natAbs < 2 ^ n)(l:n≤m:=by decide):i.natAbs < 2 ^ m:=Nat.lt_of_lt_of_le h (Nat.pow_le_pow_right (by decide) l)
theorem Bn.part {p q r s k:Int}(h:Bn 110 p q r s)(hk:k.natAbs < 2 ^ 30):Bn 340 (plP p q r s k) (plQ p q r s k) r s:=by
 obtain⟨hq,hs,bp,bq,br,bs⟩:=h
 refine⟨zE hq hs,hs,Nat.lt_of_le_of_lt (qEp hq hs) ?_,Nat.lt_of_le_of_lt (qDz hq hs) (qHd (jB bq bs)),qHd br,qHd bs⟩
 have h1:=jB bp bs
 have h2:=jB (jB hk br) bq
 have e:(2:Nat) ^ (110+110)+2 ^ (30+110+110)≤2 ^ 340:=by decide
 omega
inductive kJ (K:W.Frag)(vs:List V)(H:Hp)(Q:VK)(_:XK):Prop
| mk (z:Addr) (ns:List Int) (i:Int) (_:vs=[.ref z,.int i]) (_:SqL K H z (ns.map V.int)) (_:ns.length≤63) (_:0≤i) (_:∀ c:Int,Q (.int c) H)
theorem qk (T:Tx K mg a):FnOk P w K mg base CX0 1 a.A28 a.B28 ["_law_script","_law_k"] (kJ K):=by
 refine T.D28.F.ok km (fun vs H Q E h=>?_) (fun cdv A outer s H vs Q E hr h=>?_)
 · obtain⟨z,ns,i,rfl,_⟩:=h
   rfl
 refine qJ fun _ Y=>?_
 obtain⟨z,ns,i,rfl,hS,hl,h0,k⟩:=h
 apply Y
 refine⟨_,(qB (jc (qY vL (pv 1) (qQ qc rfl T.b_len rfl (qA (pv 0) qC)) (qh _)) (qG (qU (jC qi (pv 0) (pv 1) (fun _ _=>rfl)))) qj)
  (qG (qU qF))),?_⟩
 try dsimp only [xH,jD]
 have hml:(ns.map V.int).length=ns.length:=List.length_map _
 refine⟨_,rfl,_,rfl,z,_,rfl,.inl hS,_,_,rfl,rfl,_,rfl,?_⟩
 refine xI (fun c=>?_) (fun _=>?_)
 · have c':i < ((ns.map V.int).length:Int):=of_decide_eq_true c
   rw [hml] at c'
   have hi:i.toNat < ns.length:=by omega
   have e:i=((i.toNat:Nat):Int):=by omega
   have hat:atI (ns.map V.int) ((i.toNat:Nat):Int)=some (.int ns[i.toNat]):=qy (by rw [List.getElem?_map,List.getElem?_eq_getElem hi];rfl)
   rw [← e] at hat
   exact⟨_,rfl,_,rfl,z,_,_,.int ns[i.toNat],rfl,rfl,hS,hat,k _⟩
 · exact k 0
inductive wK (vs:List V)(H:Hp)(Q:VK)(_:XK):Prop
| mk (c i:Int) (_:vs=[.int c,.int i]) (_:-1000≤i) (_:i≤1000) (_:∀ n:Int,0≤n→n < 2147483647→Q (.int n) H)
theorem qt (T:Tx K mg a):FnOk P w K mg base CX0 1 a.A29 a.B29 ["_law_cell","_law_k"] wK:=by
 refine T.D29.F.ok zD (fun vs H Q E h=>?_) (fun cdv A outer s H vs Q E hr h=>?_)
 · obtain⟨c,i,rfl,_⟩:=h
   rfl
 refine qJ fun _ Y=>?_
 obtain⟨c,i,rfl,h0,h1,k⟩:=h
 apply Y
 refine⟨_,(qB (qP 2 zD.nd (qL qx (qL jr (qL qg (qL qg (pv 0) (qL jr qF (pv 1))) qF) qF) qF))
  (qG (qU (qL qx (qL jr (pv 2) (qL qg (qL q8 (pv 2) qF) qF)) qF)))),?_⟩
 try dsimp only [xH,jD]
 refine⟨_,rfl,_,rfl,_,_,rfl,rfl,cmL (by decide) (by decide),_,_,rfl,rfl,_,_,rfl,rfl,_,_,rfl,rfl,cmR (by decide) (by decide),_,_,rfl,rfl,nz,?_⟩
 have f:=fm ((c+7919*i+1)*48271) (show (0:Int) < 2147483647 by decide)
 refine⟨_,rfl,_,rfl,_,_,rfl,rfl,cdB (by decide) (by decide),_,_,rfl,rfl,_,_,rfl,rfl,cmL (by omega) (by omega),_,_,rfl,rfl,nz,?_⟩
 have g:=fm ((((c+7919*i+1)*48271).fmod 2147483647)*((((c+7919*i+1)*48271).fmod 2147483647).fdiv 1009+69621)) (show (0:Int) < 2147483647 by decide)
 exact k _ g.1 g.2
theorem qDw {H H':Hp}(e:Same H H'){a:Addr}{u:HO}(h:Rd H a u):Rd H' a u:=by
 rcases h with h | ⟨o,h⟩
 · exact .inl (e _ _ h)
 · exact .inr ⟨o,e _ _ h⟩
structure Ch (H:Hp)(z:Addr)(n:Str)(p q r s len:Int):Prop where
 ex:∃ z1 z2,H z=some (.tup [.str "clip",.str n,.ref z1,.ref z2,.int len])∧H z1=some (.tup [.int p,.int q])∧H z2=some (.tup [.int r,.int s])
theorem qHu {c A B:Prop} [Decidable c] (hc:¬ c)(h:A):if (!decide c)=true then A else B:=by
 rw [decide_eq_false hc]
 exact qDi h
inductive Im where
 | clip (n:Str) (p q r s l:Int)
 | nest (n:Str) (b l:Int)
 | gap (l:Int)
 | mix (l:Int)
def Im.d:Im→D
 | .clip n p q r s l=>.tup [.leaf (.str "clip"),.leaf (.str n),.tup [.leaf (.int p),.leaf (.int q)],.tup [.leaf (.int r),.leaf (.int s)],.leaf (.int l)]
 | .nest n b l=>.tup [.leaf (.str "nest"),.leaf (.str n),.leaf (.int b),.leaf (.int l)]
 | .gap l=>.tup [.leaf (.str "gap"),.leaf (.int l)]
 | .mix l=>.tup [.leaf (.str "mix"),.leaf (.int l)]
def Im.wd:Im→Str
 | .clip .. =>"clip"
 | .nest .. =>"nest"
 | .gap _=>"gap"
 | .mix _=>"mix"
def Im.l:Im→Int
 | .clip _ _ _ _ _ l=>l
 | .nest _ _ l=>l
 | .gap l=>l
 | .mix l=>l
def TS (H H':Hp):Prop:=∀ b xs,H b=some (.tup xs)→H' b=some (.tup xs)
theorem TS.trans {H H1 H2:Hp}(a:TS H H1)(b:TS H1 H2):TS H H2:=fun c o h=>b c o (a c o h)
theorem qV {H H':Hp}(e:Same H H'):TS H H':=fun _ _ h=>e _ _ h
theorem zf {H:Hp}{l:Addr}{xs:List V}{o:HO}(h:H l=some (.lst xs)):TS H (upd H l o):=fun b ys hb=>by
 rw [qK (qI2 hb h (by intro z;cases z))];exact hb
theorem jU {H H':Hp}{y:Addr}{o:HO}(e:Same H H')(h:H y=none):Same H (upd H' y o):=fun b u hb=>by
 rw [qK (qM hb h)];exact e b u hb
def IsI (H:Hp):Im→V→Prop
 | .clip n p q r s l,v=>∃ z x y:Addr,v= .ref z∧H z=some (.tup [.str "clip",.str n,.ref x,.ref y,.int l])∧H x=some (.tup [.int p,.int q])∧H y=some (.tup [.int r,.int s])
 | .nest n b l,v=>∃ z:Addr,v= .ref z∧H z=some (.tup [.str "nest",.str n,.int b,.int l])
 | .gap l,v=>∃ z:Addr,v= .ref z∧H z=some (.tup [.str "gap",.int l])
 | .mix l,v=>∃ z:Addr,v= .ref z∧H z=some (.tup [.str "mix",.int l])
theorem isG {H:Hp}{z:Addr}{l:Int}(h:H z=some (.tup [.str "gap",.int l])):IsI H (.gap l) (.ref z):=⟨z,rfl,h⟩
theorem isN {H:Hp}{z:Addr}{n:Str}{b l:Int}(h:H z=some (.tup [.str "nest",.str n,.int b,.int l])):IsI H (.nest n b l) (.ref z):=⟨z,rfl,h⟩
theorem IsI.ts {H H':Hp}(e:TS H H'):∀ {m:Im} {v:V},IsI H m v→IsI H' m v
 | .clip ..,_,⟨z,x,y,h,hz,hx,hy⟩=>⟨z,x,y,h,e _ _ hz,e _ _ hx,e _ _ hy⟩
 | .nest ..,_,⟨z,h,hz⟩=>⟨z,h,e _ _ hz⟩
 | .gap _,_,⟨z,h,hz⟩=>⟨z,h,e _ _ hz⟩
 | .mix _,_,⟨z,h,hz⟩=>⟨z,h,e _ _ hz⟩
theorem IsI.opn {H:Hp}{m:Im}{v:V}(h:IsI H m v):∃ (z:Addr) (xs:List V),v= .ref z∧H z=some (.tup xs)∧atI xs 0=some (.str m.wd)∧atI xs (-1)=some (.int m.l):=by
 cases m with
 | clip n p q r s l=>obtain⟨z,x,y,h,hz,_⟩:=h;exact⟨z,_,h,hz,rfl,rfl⟩
 | nest n b l=>obtain⟨z,h,hz⟩:=h;exact⟨z,_,h,hz,rfl,rfl⟩
 | gap l=>obtain⟨z,h,hz⟩:=h;exact⟨z,_,h,hz,rfl,rfl⟩
 | mix l=>obtain⟨z,h,hz⟩:=h;exact⟨z,_,h,hz,rfl,rfl⟩
theorem kE {H:Hp}:∀ {xs:List V},xs.all wQ=true→Reps K H (xs.map D.leaf) xs
 | [],_=>by simp [Reps]
 | x::xs,h=>by
  rw [List.all_cons,Bool.and_eq_true] at h
  rw [List.map_cons];unfold Reps Rep
  exact⟨⟨rfl,h.1⟩,kE h.2⟩
theorem zX {H:Hp}{z:Addr}{xs:List V}(hz:H z=some (.tup xs))(h:xs.all wQ=true):Rep K H (.tup (xs.map D.leaf)) (.ref z):=by
 unfold Rep
 exact⟨z,xs,rfl,SqT.of hz,kE h⟩
theorem IsI.rep {H:Hp}:∀ {m:Im} {v:V},IsI H m v→Rep K H m.d v
 | .clip n p q r s l,_,⟨z,x,y,h,hz,hx,hy⟩=>by
  subst h
  have h1:Rep K H (.tup [.leaf (.int p),.leaf (.int q)]) (.ref x):=zX hx rfl
  have h2:Rep K H (.tup [.leaf (.int r),.leaf (.int s)]) (.ref y):=zX hy rfl
  unfold Im.d Rep
  refine⟨z,_,rfl,SqT.of hz,?_⟩
  unfold Reps Reps Reps Reps Reps Reps
  refine⟨?_,?_,h1,h2,?_,trivial⟩
  · unfold Rep;exact⟨rfl,rfl⟩
  · unfold Rep;exact⟨rfl,rfl⟩
  · unfold Rep;exact⟨rfl,rfl⟩
 | .nest n b l,_,⟨z,h,hz⟩=>by subst h;exact zX hz rfl
 | .gap l,_,⟨z,h,hz⟩=>by subst h;exact zX hz rfl
 | .mix l,_,⟨z,h,hz⟩=>by subst h;exact zX hz rfl
theorem qFl (m:Im):eqD m.d m.d=true:=by
 cases m <;> simp [Im.d,eqD,xn,eqV]
theorem qKi (m:Im):dep m.d≤2:=by
 cases m <;> simp [Im.d,dep,zO]
def IsIs (H:Hp):List Im→List V→Prop
 | [],[]=>True
 | m::ms,v::vs=>IsI H m v∧IsIs H ms vs
 | _,_=>False
theorem IsIs.len {H:Hp}:∀ {ms:List Im} {vs:List V},IsIs H ms vs→vs.length=ms.length
 | [],[],_=>rfl
 | _::_,_::_,h=>by rw [List.length_cons,List.length_cons,IsIs.len h.2]
 | [],_::_,h=>h.elim
 | _::_,[],h=>h.elim
theorem IsIs.ts {H H':Hp}(e:TS H H'):∀ {ms:List Im} {vs:List V},IsIs H ms vs→IsIs H' ms vs
 | [],[],_=>trivial
 | _::_,_::_,h=>⟨IsI.ts e h.1,IsIs.ts e h.2⟩
 | [],_::_,h=>h.elim
 | _::_,[],h=>h.elim
theorem IsIs.get {H:Hp}:∀ {ms:List Im} {vs:List V} {i:Nat} {v:V},IsIs H ms vs→vs[i]? =some v→∃ m,ms[i]? =some m∧IsI H m v
 | [],[],_,_,_,h=>by simp at h
 | m::_,x::_,0,v,h,e=>by
  have e':x=v:=by simpa using e
  subst e'
  exact⟨m,rfl,h.1⟩
 | _::ms,_::vs,i+1,v,h,e=>by
  obtain⟨m,h1,h2⟩:=IsIs.get (i:=i) h.2 (by simpa using e)
  exact⟨m,by simpa using h1,h2⟩
 | [],_::_,_,_,h,_=>h.elim
 | _::_,[],_,_,h,_=>h.elim
theorem IsIs.get' {H:Hp}{ms:List Im}{vs:List V}{i:Nat}{m:Im}(h:IsIs H ms vs)(e:ms[i]? =some m):∃ v,vs[i]? =some v∧IsI H m v:=by
 have hi:i < vs.length:=by rw [h.len];exact(glt e)
 have ev:vs[i]? =some vs[i]:=List.getElem?_eq_getElem hi
 obtain⟨m',h1,h2⟩:=h.get ev
 rw [e] at h1
 cases h1
 exact⟨_,ev,h2⟩
theorem IsIs.app {H:Hp}:∀ {ms:List Im} {vs:List V} {ms':List Im} {vs':List V},IsIs H ms vs→IsIs H ms' vs'→IsIs H (ms++ms') (vs++vs')
 | [],[],_,_,_,h'=>h'
 | _::_,_::_,_,_,h,h'=>⟨h.1,h.2.app h'⟩
 | [],_::_,_,_,h,_=>h.elim
 | _::_,[],_,_,h,_=>h.elim
theorem IsIs.one {H:Hp}{m:Im}{v:V}(h:IsI H m v):IsIs H [m] [v]:=⟨h,trivial⟩
theorem IsIs.rep {H:Hp}:∀ {ms:List Im} {vs:List V},IsIs H ms vs→Reps K H (ms.map Im.d) vs
 | [],[],_=>by unfold List.map Reps;trivial
 | _::_,_::_,h=>by unfold List.map Reps;exact⟨h.1.rep,h.2.rep⟩
 | [],_::_,h=>h.elim
 | _::_,[],h=>h.elim
theorem qAr:∀ ms:List Im,xn (ms.map Im.d) (ms.map Im.d)=true
 | []=>by simp [xn]
 | m::ms=>by unfold List.map xn;rw [qFl,qAr ms];rfl
theorem qG3:∀ ms:List Im,zO (ms.map Im.d)≤2
 | []=>by simp [zO]
 | m::ms=>by
  have h1:=qKi m
  have h2:=qG3 ms
  unfold List.map zO
  omega
def Tr (H:Hp)(z:Addr)(ms:List Im):Prop:=∃ vs,H z=some (.lst vs)∧IsIs H ms vs
theorem Tr.same {H H':Hp}{z:Addr}{ms:List Im}(e:Same H H')(h:Tr H z ms):Tr H' z ms:=let ⟨vs,h1,h2⟩:=h;⟨vs,e _ _ h1,h2.ts (qV e)⟩
theorem Tr.rep {H:Hp}{z:Addr}{ms:List Im}(h:Tr H z ms):Rep K H (.lst (ms.map Im.d)) (.ref z):=by
 obtain⟨vs,h1,h2⟩:=h
 unfold Rep
 exact⟨z,vs,rfl,SqL.of h1,h2.rep⟩
theorem qFm {H:Hp}{x:Addr}{ns:List Int}(h:H x=some (.lst (ns.map V.int))):Rep K H (.lst ((ns.map V.int).map D.leaf)) (.ref x):=by
 unfold Rep
 exact⟨x,_,rfl,SqL.of h,kE (by rw [List.all_map,List.all_eq_true];intro _ _;rfl)⟩
theorem qCc:∀ ns:List Int,xn ((ns.map V.int).map D.leaf) ((ns.map V.int).map D.leaf)=true
 | []=>by simp [xn]
 | n::ns=>by
  have ih:=qCc ns
  simp only [List.map_cons]
  unfold xn
  rw [ih]
  simp [eqD,eqV]
theorem qAn:∀ vs:List V,zO (vs.map D.leaf)=0
 | []=>by simp [zO]
 | n::ns=>by
  have ih:=qAn ns
  simp only [List.map_cons]
  unfold zO
  rw [ih]
  simp [dep]
theorem IsIs.dl {H:Hp}:∀ {ms:List Im} {vs:List V},IsIs H ms vs→IsIs H ms.dropLast vs.dropLast
 | [],[],_=>trivial
 | [_],[_],_=>trivial
 | _::_::_,_::_::_,h=>⟨h.1,IsIs.dl h.2⟩
 | [],_::_,h=>h.elim
 | _::_,[],h=>h.elim
 | [_],_::_::_,h=>h.2.elim
 | _::_::_,[_],h=>h.2.elim
theorem IsIs.last {H:Hp}{ms:List Im}{vs:List V}(h:IsIs H ms vs)(hne:ms≠[]):∃ v m,vs[vs.length - 1]? =some v∧ms.getLast?=some m∧m∈ms∧IsI H m v:=by
 have hl:0 < ms.length:=List.length_pos_iff.mpr hne
 have hi:vs.length - 1 < vs.length:=by rw [h.len];omega
 have ev:vs[vs.length - 1]? =some vs[vs.length - 1]:=List.getElem?_eq_getElem hi
 obtain⟨m,h1,h2⟩:=h.get ev
 refine⟨_,m,ev,?_,List.mem_of_getElem? h1,h2⟩
 rw [h.len] at h1
 rw [List.getLast?_eq_getElem?]
 exact h1
def Im.mo:Im→Int
 | .mix _=>0
 | .clip _ _ _ _ _ l=>l
 | .nest _ _ l=>l
 | .gap l=>l
theorem qB9 {α:Type}{xs:List α}{v:α}(h:xs[xs.length - 1]? =some v):atI xs (-1)=some v:=by
 have hl:0 < xs.length:=by
  have:=(glt h)
  omega
 have e:ixN xs.length (-1)=some (xs.length - 1):=by
  unfold ixN
  rw [if_neg (by decide),if_pos (by omega)]
  congr 1
  omega
 unfold atI;rw [e];exact h
theorem vB {m:Im}(h:m.wd="mix"):∃ l,m= .mix l:=by
 cases m with
 | mix l=>exact⟨l,rfl⟩
 | clip=>exact absurd (show ("clip":Str)="mix" from h) (by decide+kernel)
 | nest=>exact absurd (show ("nest":Str)="mix" from h) (by decide+kernel)
 | gap=>exact absurd (show ("gap":Str)="mix" from h) (by decide+kernel)
theorem qLw {m:Im}(h:m.wd≠"mix"):m.mo=m.l:=by
 cases m with
 | mix l=>exact absurd rfl h
 | _=>rfl
theorem qLa {x y:Str}:decide (V.str x=V.str y)=decide (x=y):=by
 rw [Bool.eq_iff_iff];simp
inductive vk (vs:List V)(H:Hp)(Q:VK)(_:XK):Prop
| mk (v:V) (m:Im) (_:vs=[v]) (_:IsI H m v) (_:Q (.int m.mo) H)
theorem jk (T:Tx K mg a):FnOk P w K mg base CX0 1 a.A6 a.B6 ["item"] vk:=by
 refine T.D6.F.ok vh (fun vs H Q E h=>?_) (fun cdv A outer s H vs Q E hr h=>?_)
 · obtain⟨v,m,rfl,_⟩:=h
   rfl
 refine qJ fun _ Y=>?_
 obtain⟨v,m,rfl,hI,kk⟩:=h
 apply Y
 refine⟨_,(qG (qU (qB1 (qY vI (qX (pv 0)) jF (qh _)) qF (jC vP (pv 0) (zo jy qF) (fun _ _=>rfl))))),?_⟩
 try dsimp only [xH,jD]
 refine qJ fun _ Y=>?_
 obtain⟨z,xs,rfl,hz,h0,h1⟩:=hI.opn
 apply Y
 refine⟨_,rfl,z,xs,_,_,rfl,rfl,SqT.of hz,h0,rfl,_,rfl,xI (fun c=>?_) (fun c=>?_)⟩
 · obtain⟨l,rfl⟩:=vB (by simpa using c)
   exact kk
 · rw [qLw (by simpa using c)] at kk
   exact⟨_,rfl,_,rfl,z,xs,_,_,rfl,rfl,SqT.of hz,h1,kk⟩
inductive qAe (vs:List V)(H:Hp)(Q:VK)(_:XK):Prop
| mk (z:Addr) (ms:List Im) (_:vs=[.ref z]) (_:Tr H z ms) (_:ms.length≤300) (_:∀ H',Same H H'→Q (.int (ms.map Im.mo).sum) H')
theorem xQ (T:Tx K mg a):FnOk P w K mg base CX0 3 a.A7 a.B7 ["track"] qAe:=by
 refine T.D7.F.ok qAi (fun vs H Q E h=>?_) (fun cdv A outer s H vs Q E hr h=>?_)
 · obtain⟨z,ms,rfl,_⟩:=h
   rfl
 refine qJ fun _ Y=>?_
 obtain⟨z,ms,rfl,⟨xs,hz,his⟩,hl,kk⟩:=h
 apply Y
 refine⟨_,(qG (qU (qQ (zT rfl) rfl T.b_sum rfl (qA (x8 [] [] rfl (xD (pv 0)) (fun _ _ _ _=>(qI T.D6 (jk T) hr rfl (qA (pv 0) qC)))) qC)))),?_⟩
 try dsimp only [xH,jD]
 refine⟨_,rfl,z,rfl,⟨_,SqL.of hz⟩,jz (K:=K) (a:=z) (xs:=xs) (fun i acc H'=>H'=H∧acc=((ms.take i).map Im.mo).map V.int) ⟨rfl,rfl⟩ ?_ ?_ ?_⟩
 · rintro i acc H' hi ⟨rfl,rfl⟩
   exact⟨SqL.of hz,qf (by simp;omega)⟩
 · rintro i x acc H' hi hx ⟨rfl,rfl⟩
   refine qJ fun _ Y=>?_
   obtain⟨m,hm,hI⟩:=his.get hx
   apply Y
   refine⟨_,rfl,x,m,rfl,hI,Nxt.mk hi ⟨rfl,?_⟩⟩
   rw [List.take_add_one,hm]
   simp
 · rintro acc H' ⟨rfl,rfl⟩ d hd
   refine⟨d,(ms.map Im.mo),rfl,?_,kk _ (qE hd _)⟩
   rw [his.len,List.take_length]
   exact SqL.of qD
def jN:Int→Nat→List Im→Int→Option (Nat × Int)
 | _,_,[],_=>none
 | b,i,m::ms,t=>if b≤t∧t < b+m.mo then some (i,t - b) else jN (b+m.mo) (i+1) ms t
def AtR (H:Hp)(Q:VK)(r:Option (Nat × Int)):Prop:=match r with
 | none=>∀ H',Same H H'→Q .non H'
 | some (i,d)=>∀ (p:Addr) (H':Hp),Same H H'→H' p=some (.tup [.int (i:Int),.int d])→Q (.ref p) H'
theorem xL {α:Type}{xs:List α}{i:Nat}{x:α}(h:xs[i]? =some x):xs.drop i=x::xs.drop (i+1):=by
 have hi:i < xs.length:=(glt h)
 rw [List.drop_eq_getElem_cons hi]
 rw [List.getElem?_eq_getElem hi] at h
 cases h
 rfl
inductive qC0 (vs:List V)(H:Hp)(Q:VK)(_:XK):Prop
| mk (z:Addr) (ms:List Im) (t:Int) (_:vs=[.ref z,.int t]) (_:Tr H z ms) (_:AtR H Q (jN 0 0 ms t))
theorem qC5 (T:Tx K mg a):FnOk P w K mg base CX0 3 a.A8 a.B8 ["track","moment"] qC0:=by
 refine T.D8.F.ok jn (fun vs H Q E h=>?_) (fun cdv A outer s H vs Q E hr h=>?_)
 · obtain⟨z,ms,t,rfl,_⟩:=h
   rfl
 refine qJ fun _ Y=>?_
 obtain⟨z,ms,t,rfl,⟨xs,hz,his⟩,kk⟩:=h
 apply Y
 refine⟨_,(qB (qP 2 jn.nd qF)
  (qB (vA PassesOwn.never rfl (qD8 rfl T.b_enumerate (qA (pv 0) qC)) (qBt rfl (jS (jE (i:=3) jn.nd rfl (Or.inl rfl)) (jS (jE (i:=4) jn.nd rfl (Or.inl rfl)) vj))) (qB (qP 5 jn.nd (qL qg (pv 2) (qI T.D6 (jk T) hr rfl (qA (pv 4) qC))))
  (qB (jc (PW.pt (z6 (qY qF9 (pv 2) (pv 1) (qh _)) (zd (qY vL (pv 1) (pv 5) (qh _))))) (qG (qU (qd (qA (pv 3) (qA (qL jQ (pv 1) (pv 2)) qC))))) qj)
  (qG (qP 2 jn.nd (pv 5))))))
  (qG (qU wo)))),?_⟩
 try dsimp only [xH,jD]
 refine⟨_,rfl,z,rfl,⟨_,SqL.of hz⟩,qF0 (K:=K) (a:=z) (xs:=xs) (fun i σ H'=>∃ (b:Int) (o1 o2 o3:Option V),σ=[some (.ref z),some (.int t),some (.int b),o1,o2,o3]∧jN b i (ms.drop i) t=jN 0 0 ms t∧Same H H')
  ⟨0,none,none,none,rfl,rfl,Same.refl _⟩ ?_ ?_ ?_⟩
 · rintro i σ H' hi ⟨b,o1,o2,o3,rfl,_,e⟩
   exact SqL.of (e _ _ hz)
 · rintro i x σ H' p hx ⟨b,o1,o2,o3,rfl,hap,e⟩ hp
   refine qJ fun _ Y=>?_
   obtain⟨m,hm,hIx⟩:=his.get hx
   apply Y
   have w1:=qE hp (.tup [.int (i:Int),x])
   have e1:=e.trans w1
   have hI:=hIx.ts (qV e1)
   rw [xL hm,jN] at hap
   refine⟨p,_,rfl,SqT.of qD,rfl,_,_,rfl,_,_,rfl,rfl,?_⟩
   generalize upd H' p (.tup [.int (i:Int),x])=H1 at e1 hI ⊢
   refine⟨_,rfl,_,rfl,x,m,rfl,hI,_,_,rfl,rfl,?_⟩
   refine⟨_,rfl,_,rfl,_,_,rfl,rfl,_,rfl,?_⟩
   refine xI (fun c1=>?_) (fun c1=>?_)
   · refine⟨_,rfl,_,rfl,_,_,rfl,rfl,_,rfl,?_⟩
     refine xI (fun c2=>?_) (fun c2=>?_)
     · rw [if_pos ⟨by simpa using c1,by simpa using c2⟩] at hap
       rw [← hap] at kk
       refine⟨_,rfl,_,rfl,_,rfl,_,_,rfl,rfl,sL2,fun q hq=>?_⟩
       exact kk q _ (e1.trans (qE hq _)) qD
     · rw [if_neg (fun c=>c2 (by simpa using c.2))] at hap
       exact⟨_,rfl,_,_,_,_,rfl,hap,e1⟩
   · rw [if_neg (fun c=>c1 (by simpa using c.1))] at hap
     exact qCv ⟨_,rfl,_,_,_,_,rfl,hap,e1⟩
 · rintro σ H' ⟨b,o1,o2,o3,rfl,hap,e⟩
   rw [his.len,List.drop_length,jN] at hap
   rw [← hap] at kk
   exact kk H' e
def Sh (H:Hp)(z:Addr)(p q r s:Int):Prop:=∃ x y:Addr,H z=some (.tup [.ref x,.ref y])∧H x=some (.tup [.int p,.int q])∧H y=some (.tup [.int r,.int s])
inductive vf (vs:List V)(H:Hp)(Q:VK)(_:XK):Prop
| mk (l j:Int) (_:vs=[.int l,.int j]) (_:0≤j) (_:j < l) (_:l < 2 ^ 60) (_:∀ (z:Addr) (H':Hp),Same H H'→Sh H' z (q9 (l - j) (l+1)) (qm (l - j) (l+1)) (q9 (j+1) (l+1)) (qm (j+1) (l+1))→Q (.ref z) H')
theorem p60 {b:Int}(h0:0 < b)(h:b < 2 ^ 61):b.natAbs < 2 ^ 8000:=by
 have e:b.natAbs < 2 ^ 61:=by omega
 exact Nat.lt_of_lt_of_le e (Nat.pow_le_pow_right (by decide) (by decide))
theorem vd (T:Tx K mg a):FnOk P w K mg base CX0 3 a.A13 a.B13 ["length","j"] vf:=by
 refine T.D13.F.ok vt (fun vs H Q E h=>?_) (fun cdv A outer s H vs Q E hr h=>?_)
 · obtain⟨l,j,rfl,_⟩:=h
   rfl
 refine qJ fun _ Y=>?_
 obtain⟨l,j,rfl,j0,j1,l1,kk⟩:=h
 apply Y
 refine⟨_,(qG (qU (qd (qA (qI T.D2 (jI T) hr rfl (qA (qL jQ (pv 0) (pv 1)) (qA (qL qg (pv 0) qF) qC))) (qA (qI T.D2 (jI T) hr rfl (qA (qL qg (pv 1) qF) (qA (qL qg (pv 0) qF) qC))) qC))))),?_⟩
 try dsimp only [xH,jD]
 refine⟨_,rfl,_,rfl,_,_,rfl,rfl,_,rfl,_,_,rfl,rfl,_,_,rfl,by omega,p60 (by omega) (by omega),fun x hx=>?_⟩
 refine⟨_,rfl,_,_,rfl,rfl,_,rfl,_,_,rfl,rfl,_,_,rfl,by omega,p60 (by omega) (by omega),fun y hy=>?_⟩
 refine⟨sL2,fun z hz=>?_⟩
 have w1:=qE hx (.tup [.int (q9 (l - j) (l+1)),.int (qm (l - j) (l+1))])
 have w2:=qE hy (.tup [.int (q9 (j+1) (l+1)),.int (qm (j+1) (l+1))])
 have w3:=qE hz (.tup [.ref x,.ref y])
 exact kk z _ ((w1.trans w2).trans w3) ⟨x,y,qD,w3 _ _ (w2 _ _ qD),w3 _ _ qD⟩
def zZ (ms:List Im)(i:Int):Str:=if i < 0 then "" else match ms[i.toNat]? with
 | some m=>m.wd
 | none=>""
theorem kK {ms:List Im}{i:Nat}{m:Im}(h:ms[i]? =some m){k:Int}(hk:k=(i:Int)):zZ ms k=m.wd:=by
 subst hk
 unfold zZ
 rw [if_neg (by omega)]
 have e:((i:Int)).toNat=i:=by omega
 rw [e,h]
inductive qCu (vs:List V)(H:Hp)(Q:VK)(_:XK):Prop
| mk (z:Addr) (ms:List Im) (i:Int) (_:vs=[.ref z,.int i]) (_:Tr H z ms) (_:Q (.str (zZ ms i)) H)
theorem vO (T:Tx K mg a):FnOk P w K mg base CX0 1 a.A9 a.B9 ["track","place"] qCu:=by
 refine T.D9.F.ok qCw (fun vs H Q E h=>?_) (fun cdv A outer s H vs Q E hr h=>?_)
 · obtain⟨z,ms,i,rfl,_⟩:=h
   rfl
 refine qJ fun _ Y=>?_
 obtain⟨z,ms,i,rfl,⟨vs,hz,his⟩,q⟩:=h
 apply Y
 refine⟨_,(qB (jc (PW.pt (qJo (qY vL (pv 1) qF (qh _)) (qG8 (qY qJ4 (pv 1) (qQ qc rfl T.b_len rfl (qA (pv 0) qC)) (qh _))))) (qG (qU jF)) qj)
  (qG (qU (qX (jC qi (pv 0) (pv 1) (fun _ _=>rfl)))))),?_⟩
 try dsimp only [xH,jD]
 have hl:=his.len
 refine⟨_,rfl,_,_,rfl,rfl,_,rfl,?_⟩
 by_cases h0:i < 0
 · rw [decide_eq_true h0]
   have e:zZ ms i="":=by unfold zZ;rw [if_pos h0]
   rw [e] at q
   exact qDi (qDi q)
 rw [decide_eq_false h0]
 refine qCv ⟨_,rfl,_,rfl,z,_,rfl,.inl (SqL.of hz),_,_,rfl,rfl,_,rfl,?_⟩
 by_cases h1:((vs.length:Nat):Int)≤i
 · rw [decide_eq_true (show i ≥ ((vs.length:Nat):Int) from h1)]
   have e:zZ ms i="":=by
    unfold zZ
    rw [if_neg h0,List.getElem?_eq_none (by omega)]
   rw [e] at q
   exact qDi q
 · rw [decide_eq_false (show ¬ i ≥ ((vs.length:Nat):Int) from h1)]
   refine qCv ?_
   have hi:i.toNat < ms.length:=by omega
   have hm:ms[i.toNat]? =some ms[i.toNat]:=List.getElem?_eq_getElem hi
   refine qJ fun _ Y=>?_
   obtain⟨v,hv,hI⟩:=his.get' hm
   obtain⟨zi,xi,rfl,hzi,q0,_⟩:=hI.opn
   apply Y
   have ei:i=((i.toNat:Nat):Int):=by omega
   have hat:atI vs i=some (.ref zi):=by
    rw [ei];exact qy hv
   have e:zZ ms i=ms[i.toNat].wd:=kK hm ei
   rw [e] at q
   exact⟨_,rfl,_,rfl,z,_,_,_,rfl,rfl,SqL.of hz,hat,zi,xi,_,_,rfl,rfl,SqT.of hzi,q0,q⟩
def qN (ms:List Im)(i:Nat):Int:=((ms.take i).map Im.mo).sum
def TrsAt (H:Hp):List (List Im)→List V→Prop
 | [],[]=>True
 | ms::r,v::vs=>(∃ z:Addr,v= .ref z∧Tr H z ms)∧TrsAt H r vs
 | _,_=>False
theorem TrsAt.same {H H':Hp}(e:Same H H'):∀ {ts:List (List Im)} {vs:List V},TrsAt H ts vs→TrsAt H' ts vs
 | [],[],_=>trivial
 | _::_,_::_,⟨⟨z,h1,h2⟩,h⟩=>⟨⟨z,h1,h2.same e⟩,TrsAt.same e h⟩
 | [],_::_,h=>h.elim
 | _::_,[],h=>h.elim
theorem TrsAt.len {H:Hp}:∀ {ts:List (List Im)} {vs:List V},TrsAt H ts vs→vs.length=ts.length
 | [],[],_=>rfl
 | _::_,_::_,h=>by rw [List.length_cons,List.length_cons,TrsAt.len h.2]
 | [],_::_,h=>h.elim
 | _::_,[],h=>h.elim
theorem TrsAt.get {H:Hp}:∀ {ts:List (List Im)} {vs:List V} {i:Nat} {v:V},TrsAt H ts vs→vs[i]? =some v→∃ (ms:List Im) (z:Addr),ts[i]? =some ms∧v= .ref z∧Tr H z ms
 | [],[],_,_,_,h=>by simp at h
 | ms::_,u::_,0,v,h,e=>by
  have e':u=v:=by simpa using e
  subst e'
  obtain⟨⟨z,h1,h2⟩,_⟩:=h
  exact⟨ms,z,rfl,h1,h2⟩
 | _::_,_::_,i+1,v,h,e=>by
  obtain⟨ms,z,h1,h2⟩:=TrsAt.get (i:=i) h.2 (by simpa using e)
  exact⟨ms,z,by simpa using h1,h2⟩
 | [],_::_,_,_,h,_=>h.elim
 | _::_,[],_,_,h,_=>h.elim
def TabAt (H:Hp)(v:V)(ts:List (List Im)):Prop:=∃ (tt tl ti:Addr) (zs:List V),v= .ref tt∧H tt=some (.tup [.ref tl,.ref ti])∧H tl=some (.lst zs)∧TrsAt H ts zs
theorem TabAt.same {H H':Hp}(e:Same H H'){v:V}{ts:List (List Im)}(h:TabAt H v ts):TabAt H' v ts:=
 let ⟨tt,tl,ti,zs,h1,h2,h3,h4⟩:=h;⟨tt,tl,ti,zs,h1,e _ _ h2,e _ _ h3,h4.same e⟩
theorem qH1 {H:Hp}{v:V}{n:Str}{p q r s l:Int}(h:IsI H (.clip n p q r s l) v):Cp K H v n p q r s l:=by
 obtain⟨z,x,y,h0,hz,hx,hy⟩:=h
 exact⟨z,x,y,h0,SqT.of hz,SqT.of hx,SqT.of hy⟩
def TabF (H:Hp)(v:V)(ts:List (List Im))(tie:List Int):Prop:=∃ (tt tl ti:Addr) (zs:List V),v= .ref tt∧H tt=some (.tup [.ref tl,.ref ti])∧H tl=some (.lst zs)∧TrsAt H ts zs∧H ti=some (.lst (tie.map V.int))
theorem TabF.tab {H:Hp}{v:V}{ts:List (List Im)}{tie:List Int}(h:TabF H v ts tie):TabAt H v ts:=let ⟨tt,tl,ti,zs,h1,h2,h3,h4,_⟩:=h;⟨tt,tl,ti,zs,h1,h2,h3,h4⟩
theorem TabF.same {H H':Hp}(e:Same H H'){v:V}{ts:List (List Im)}{tie:List Int}(h:TabF H v ts tie):TabF H' v ts tie:=
 let ⟨tt,tl,ti,zs,h1,h2,h3,h4,h5⟩:=h;⟨tt,tl,ti,zs,h1,e _ _ h2,e _ _ h3,h4.same e,e _ _ h5⟩
def qGo (ts:List (List Im))(tie:List Int):D:=.tup [.lst (ts.map fun ms=>.lst (ms.map Im.d)),.lst ((tie.map V.int).map D.leaf)]
theorem TrsAt.rep {H:Hp}:∀ {ts:List (List Im)} {vs:List V},TrsAt H ts vs→Reps K H (ts.map fun ms=>.lst (ms.map Im.d)) vs
 | [],[],_=>by unfold List.map Reps;trivial
 | _::_,_::_,⟨⟨z,h1,h2⟩,r⟩=>by unfold List.map Reps;subst h1;exact⟨h2.rep,r.rep⟩
 | [],_::_,h=>h.elim
 | _::_,[],h=>h.elim
theorem TabF.rep {H:Hp}{v:V}{ts:List (List Im)}{tie:List Int}(h:TabF H v ts tie):Rep K H (qGo ts tie) v:=by
 obtain⟨tt,tl,ti,zs,rfl,h2,h3,h4,h5⟩:=h
 unfold qGo Rep
 refine⟨tt,_,rfl,SqT.of h2,?_⟩
 unfold Reps Reps Reps
 refine⟨?_,qFm h5,trivial⟩
 unfold Rep
 exact⟨tl,zs,rfl,SqL.of h3,h4.rep⟩
theorem qCb:∀ ts:List (List Im),xn (ts.map fun ms=>.lst (ms.map Im.d)) (ts.map fun ms=>.lst (ms.map Im.d))=true
 | []=>by simp [xn]
 | ms::r=>by
  unfold List.map xn
  rw [qCb r]
  have:eqD (.lst (ms.map Im.d)) (.lst (ms.map Im.d))=true:=by unfold eqD;exact qAr ms
  rw [this];rfl
theorem qE7:∀ ts:List (List Im),zO (ts.map fun ms=>.lst (ms.map Im.d))≤3
 | []=>by simp [zO]
 | ms::r=>by
  have h1:=qE7 r
  have h2:dep (.lst (ms.map Im.d))≤3:=by have:=qG3 ms;unfold dep;omega
  unfold List.map zO
  omega
theorem qGc (ts:List (List Im))(tie:List Int):eqD (qGo ts tie) (qGo ts tie)=true∧dep (qGo ts tie)≤50:=by
 constructor
 · unfold qGo eqD xn xn xn
   have h1:eqD (.lst (ts.map fun ms=>.lst (ms.map Im.d))) (.lst (ts.map fun ms=>.lst (ms.map Im.d)))=true:=by unfold eqD;exact qCb ts
   have h2:eqD (.lst ((tie.map V.int).map D.leaf)) (.lst ((tie.map V.int).map D.leaf))=true:=by unfold eqD;exact qCc tie
   rw [h1,h2];rfl
 · have h1:=qE7 ts
   have h2:=qAn (tie.map V.int)
   unfold qGo dep zO zO zO dep
   omega
def SB (z:Addr)(H H':Hp):Prop:=∀ b u,b≠z→H b=some u→H' b=some u
theorem SB.trans {z:Addr}{H H1 H2:Hp}(a:SB z H H1)(b:SB z H1 H2):SB z H H2:=fun c u n h=>b c u n (a c u n h)
inductive vZ (vs:List V)(H:Hp)(Q:VK)(_:XK):Prop
| mk (l:Int) (_:vs=[.int l]) (_:Q (.int (l.fdiv 2)) H)
theorem j4 (T:Tx K mg a):FnOk P w K mg base CX0 1 a.A10 a.B10 ["length"] vZ:=by
 refine T.D10.F.ok vq (fun vs H Q E h=>?_) (fun cdv A outer s H vs Q E hr h=>?_)
 · obtain⟨l,rfl,_⟩:=h
   rfl
 refine qJ fun _ Y=>?_
 obtain⟨l,rfl,kk⟩:=h
 apply Y
 refine⟨_,(qG (qU (qL q8 (pv 0) qF))),?_⟩
 try dsimp only [xH,jD]
 exact⟨_,rfl,_,_,rfl,rfl,cdB (by decide) (by decide),kk⟩
inductive vF (vs:List V)(H:Hp)(Q:VK)(_:XK):Prop
| mk (l:Int) (_:vs=[.int l]) (_:Q (.int (l - l.fdiv 2)) H)
theorem xr (T:Tx K mg a):FnOk P w K mg base CX0 1 a.A11 a.B11 ["length"] vF:=by
 refine T.D11.F.ok vJ (fun vs H Q E h=>?_) (fun cdv A outer s H vs Q E hr h=>?_)
 · obtain⟨l,rfl,_⟩:=h
   rfl
 refine qJ fun _ Y=>?_
 obtain⟨l,rfl,kk⟩:=h
 apply Y
 refine⟨_,(qG (qU (qL jQ (pv 0) (qL q8 (pv 0) qF)))),?_⟩
 try dsimp only [xH,jD]
 exact⟨_,rfl,_,rfl,_,_,rfl,rfl,cdB (by decide) (by decide),_,_,rfl,rfl,kk⟩
def xG:Int→List Im→List (Int × Int × Int)
 | _,[]=>[]
 | b,.mix l::ms=>(b - l.fdiv 2,b,b+(l - l.fdiv 2))::xG b ms
 | b,.clip _ _ _ _ _ l::ms=>xG (b+l) ms
 | b,.nest _ _ l::ms=>xG (b+l) ms
 | b,.gap l::ms=>xG (b+l) ms
theorem xx {m:Im}(h:m.wd≠"mix")(b:Int)(ms:List Im):xG b (m::ms)=xG (b+m.mo) ms:=by
 cases m with
 | mix l=>exact absurd rfl h
 | _=>rfl
def jA:Nat→List Im→List Nat
 | _,[]=>[]
 | i,.mix _::ms=>i::jA (i+1) ms
 | i,.clip _ _ _ _ _ _::ms=>jA (i+1) ms
 | i,.nest _ _ _::ms=>jA (i+1) ms
 | i,.gap _::ms=>jA (i+1) ms
theorem jd {m:Im}(h:m.wd≠"mix")(i:Nat)(ms:List Im):jA i (m::ms)=jA (i+1) ms:=by
 cases m with
 | mix l=>exact absurd rfl h
 | _=>rfl
theorem zk:∀ (i:Nat) (b:Int) (ms:List Im),(jA i ms).length=(xG b ms).length
 | _,_,[]=>rfl
 | i,b,m::ms=>by
  by_cases h:m.wd="mix"
  · obtain⟨l,rfl⟩:=vB h
    rw [jA,xG,List.length_cons,List.length_cons,zk (i+1) b ms]
  · rw [jd h,xx h,zk (i+1) (b+m.mo) ms]
def j3:Int→Nat→List Im→Int→Option (Nat × Int)
 | _,_,[],_=>none
 | b,i,.mix l::ms,t=>if b - l.fdiv 2≤t∧t < b+(l - l.fdiv 2) then some (i,t - (b - l.fdiv 2)) else j3 b (i+1) ms t
 | b,i,.clip _ _ _ _ _ l::ms,t=>j3 (b+l) (i+1) ms t
 | b,i,.nest _ _ l::ms,t=>j3 (b+l) (i+1) ms t
 | b,i,.gap l::ms,t=>j3 (b+l) (i+1) ms t
theorem xh {m:Im}(h:m.wd≠"mix")(b:Int)(i:Nat)(ms:List Im)(t:Int):j3 b i (m::ms) t=j3 (b+m.mo) (i+1) ms t:=by
 cases m with
 | mix l=>exact absurd rfl h
 | _=>rfl
def qCt:List Nat→List (Int × Int × Int)→Int→Option (Nat × Int)
 | p::ps,(x,_,z)::ss,t=>if x≤t∧t < z then some (p,t - x) else qCt ps ss t
 | _,_,_=>none
theorem wA:∀ (b:Int) (i:Nat) (ms:List Im) (t:Int),qCt (jA i ms) (xG b ms) t=j3 b i ms t
 | _,_,[],_=>rfl
 | b,i,m::ms,t=>by
  by_cases h:m.wd="mix"
  · obtain⟨l,rfl⟩:=vB h
    rw [jA,xG,qCt,j3,wA b (i+1) ms t]
  · rw [jd h,xx h,xh h,wA _ (i+1) ms t]
theorem qBm:∀ {b:Int} {i:Nat} {ms:List Im} {t:Int} {k:Nat} {j:Int},j3 b i ms t=some (k,j)→∃ l,i≤k∧ms[k - i]? =some (.mix l)∧0≤j∧j < l
 | _,_,[],_,_,_,h=>by simp [j3] at h
 | b,i,m::ms,t,k,j,h=>by
  by_cases hm:m.wd="mix"
  · obtain⟨l,rfl⟩:=vB hm
    rw [j3] at h
    by_cases hc:b - l.fdiv 2≤t∧t < b+(l - l.fdiv 2)
    · rw [if_pos hc] at h
      cases h
      exact⟨l,Nat.le_refl _,by simp,by omega,by omega⟩
    · rw [if_neg hc] at h
      obtain⟨l',h1,h2,h3⟩:=qBm h
      have e:k - i=(k - (i+1))+1:=by omega
      exact⟨l',by omega,by rw [e,List.getElem?_cons_succ];exact h2,h3⟩
  · rw [xh hm] at h
    obtain⟨l',h1,h2,h3⟩:=qBm h
    have e:k - i=(k - (i+1))+1:=by omega
    exact⟨l',by omega,by rw [e,List.getElem?_cons_succ];exact h2,h3⟩
def SpAt (H:Hp):List (Int × Int × Int)→List V→Prop
 | [],[]=>True
 | (x,y,z)::ss,v::vs=>(∃ p:Addr,v= .ref p∧H p=some (.tup [.int x,.int y,.int z]))∧SpAt H ss vs
 | _,_=>False
theorem SpAt.len {H:Hp}:∀ {ss:List (Int × Int × Int)} {vs:List V},SpAt H ss vs→vs.length=ss.length
 | [],[],_=>rfl
 | (_,_,_)::_,_::_,h=>by rw [List.length_cons,List.length_cons,SpAt.len h.2]
 | [],_::_,h=>h.elim
 | (_,_,_)::_,[],h=>h.elim
theorem SpAt.ts {H H':Hp}(e:TS H H'):∀ {ss:List (Int × Int × Int)} {vs:List V},SpAt H ss vs→SpAt H' ss vs
 | [],[],_=>trivial
 | (_,_,_)::_,_::_,⟨⟨p,h1,h2⟩,h⟩=>⟨⟨p,h1,e _ _ h2⟩,SpAt.ts e h⟩
 | [],_::_,h=>h.elim
 | (_,_,_)::_,[],h=>h.elim
theorem SpAt.app {H:Hp}:∀ {ss:List (Int × Int × Int)} {vs:List V} {ss':List (Int × Int × Int)} {vs':List V},SpAt H ss vs→SpAt H ss' vs'→SpAt H (ss++ss') (vs++vs')
 | [],[],_,_,_,h'=>h'
 | (_,_,_)::_,_::_,_,_,h,h'=>⟨h.1,h.2.app h'⟩
 | [],_::_,_,_,h,_=>h.elim
 | (_,_,_)::_,[],_,_,h,_=>h.elim
theorem SpAt.one {H:Hp}{x y z:Int}{p:Addr}(h:H p=some (.tup [.int x,.int y,.int z])):SpAt H [(x,y,z)] [.ref p]:=⟨⟨p,rfl,h⟩,trivial⟩
theorem SpAt.get {H:Hp}:∀ {ss:List (Int × Int × Int)} {vs:List V} {i:Nat} {v:V},SpAt H ss vs→vs[i]? =some v→∃ (x y z:Int) (p:Addr),ss[i]? =some (x,y,z)∧v= .ref p∧H p=some (.tup [.int x,.int y,.int z])
 | [],[],_,_,_,h=>by simp at h
 | (x,y,z)::_,u::_,0,v,h,e=>by
  have e':u=v:=by simpa using e
  subst e'
  obtain⟨⟨p,h1,h2⟩,_⟩:=h
  exact⟨x,y,z,p,rfl,h1,h2⟩
 | (_,_,_)::ss,_::vs,i+1,v,h,e=>by
  obtain⟨x,y,z,p,h1,h2⟩:=SpAt.get (i:=i) h.2 (by simpa using e)
  exact⟨x,y,z,p,by simpa using h1,h2⟩
 | [],_::_,_,_,h,_=>h.elim
 | (_,_,_)::_,[],_,_,h,_=>h.elim
inductive wx (vs:List V)(H:Hp)(Q:VK)(_:XK):Prop
| mk (z:Addr) (ms:List Im) (_:vs=[.ref z]) (_:Tr H z ms) (_:ms.length≤300) (_:∀ (y:Addr) (us:List V) (H':Hp),Same H H'→H y=none→H' y=some (.lst us)→SpAt H' (xG 0 ms) us→Q (.ref y) H')
theorem qAa (T:Tx K mg a):FnOk P w K mg base CX0 2 a.A12 a.B12 ["track"] wx:=by
 refine T.D12.F.ok jb (fun vs H Q E h=>?_) (fun cdv A outer s H vs Q E hr h=>?_)
 · obtain⟨z,ms,rfl,_⟩:=h
   rfl
 refine qJ fun _ Y=>?_
 obtain⟨z,ms,rfl,⟨xs,hz,his⟩,hl,kk⟩:=h
 apply Y
 refine⟨_,(qB (qP 1 jb.nd (jO qC))
  (qB (qP 2 jb.nd qF)
  (qB (vA PassesOwn.never rfl (xD (pv 0)) (jE (i:=3) jb.nd rfl (Or.inl rfl)) (qB (jc (qY vI (qX (pv 3)) jF (qh _)) (qG (xA (wH F.plainAttrs_list F.slot_list_append F.type_list_append jp (pv 1) (qA (qd (qA (qL jQ (pv 2) (qI T.D10 (j4 T) hr rfl (qA (qX (pv 3)) qC))) (qA (pv 2) (qA (qL qg (pv 2) (qI T.D11 (xr T) hr rfl (qA (qX (pv 3)) qC))) qC)))) qC)))) qj)
  (qG (qP 2 jb.nd (qL qg (pv 2) (qI T.D6 (jk T) hr rfl (qA (pv 3) qC)))))))
  (qG (qU (pv 1)))))),?_⟩
 try dsimp only [xH,jD]
 refine⟨sL0,fun y hy=>?_⟩
 refine⟨_,rfl,z,rfl,⟨_,SqL.of ((qE hy _) _ _ hz)⟩,v8 (K:=K) (a:=z) (xs:=xs) (fun i σ H'=>∃ (b:Int) (as:List (Int × Int × Int)) (o:Option V) (us:List V),σ=[some (.ref z),some (.ref y),some (.int b),o]∧H' y=some (.lst us)∧SpAt H' as us∧as.length≤i∧as++xG b (ms.drop i)=xG 0 ms∧Same H H')
  ⟨0,[],none,[],rfl,qD,trivial,by simp,rfl,qE hy _⟩ ?_ ?_ ?_⟩
 · rintro i σ H' hi ⟨b,as,o,us,rfl,_,_,_,_,e⟩
   exact SqL.of (e _ _ hz)
 · rintro i x σ H' hx ⟨b,as,o,us,rfl,hv,hsp,hal,hap,e⟩
   refine qJ fun _ Y=>?_
   obtain⟨m,hm,hIx⟩:=his.get hx
   have hI:=hIx.ts (qV e)
   have hi:i < ms.length:=(glt hm)
   rw [xL hm] at hap
   obtain⟨zi,xi,rfl,hzi,h0,h1⟩:=hI.opn
   apply Y
   refine⟨_,rfl,zi,xi,_,_,rfl,rfl,SqT.of hzi,h0,rfl,_,rfl,xI (fun c=>?_) (fun c=>?_)⟩
   · obtain⟨l,rfl⟩:=vB (by simpa using c)
     refine qJ fun _ Y=>?_
     obtain⟨z2,e2,hz2⟩:=id hI
     cases e2
     apply Y
     rw [xG] at hap
     refine⟨_,rfl,.inl ⟨rfl,_,SqL.of hv⟩,_,rfl,ixO hz2 at1 ⟨_,rfl,_,_,rfl,rfl,_,rfl,_,rfl,ixO hz2 at1 ⟨_,rfl,_,_,rfl,rfl,sL3,fun g hg=>?_⟩⟩⟩
     have w1:=qE hg (.tup [.int (b - l.fdiv 2),.int b,.int (b+(l - l.fdiv 2))])
     refine⟨y,_,_,rfl,rfl,w1 _ _ hv,qf (by rw [hsp.len];omega),?_⟩
     have t2:TS (upd H' g (.tup [.int (b - l.fdiv 2),.int b,.int (b+(l - l.fdiv 2))])) (upd (upd H' g (.tup [.int (b - l.fdiv 2),.int b,.int (b+(l - l.fdiv 2))])) y (.lst (us++[.ref g]))):=zf (w1 _ _ hv)
     refine⟨_,rfl,_,rfl,_,.mix l,rfl,(hI.ts (qV w1)).ts t2,_,_,rfl,rfl,b,as++[(b - l.fdiv 2,b,b+(l - l.fdiv 2))],some (.ref zi),us++[.ref g],?_,qD,((hsp.ts (qV w1)).app (.one qD)).ts t2,by simp;omega,?_,jU (e.trans w1) hy⟩
     · show [some (V.ref z),some (V.ref y),some (V.int (b+0)),some (V.ref zi)]=_
       rw [Int.add_zero]
     · rw [← hap];simp
   · have hne:m.wd≠"mix":=by simpa using c
     rw [xx hne] at hap
     exact⟨_,rfl,_,rfl,_,m,rfl,hI,_,_,rfl,rfl,_,as,_,us,rfl,hv,hsp,by omega,hap,e⟩
 · rintro σ H' ⟨b,as,o,us,rfl,hv,hsp,hal,hap,e⟩
   rw [his.len,List.drop_length,xG,List.append_nil] at hap
   rw [hap] at hsp
   exact⟨_,rfl,kk y us H' e hy hv hsp⟩
inductive qDp (vs:List V)(H:Hp)(Q:VK)(_:XK):Prop
| mk (z:Addr) (ms:List Im) (t:Int) (_:vs=[.ref z,.int t]) (_:Tr H z ms) (_:ms.length≤300) (_:AtR H Q (j3 0 0 ms t))
theorem xt:∀ (i:Nat) (ms:List Im) (m:Im),jA i (ms++[m])=jA i ms++(if m.wd="mix" then [i+ms.length] else [])
 | i,[],m=>by
  by_cases h:m.wd="mix"
  · obtain⟨l,rfl⟩:=vB h
    rw [if_pos h];rfl
  · rw [if_neg h,List.nil_append,jd h];rfl
 | i,m'::ms,m=>by
  have ih:=xt (i+1) ms m
  have e:i+1+ms.length=i+(m'::ms).length:=by rw [List.length_cons];omega
  rw [e] at ih
  by_cases h:m'.wd="mix"
  · obtain⟨l,rfl⟩:=vB h
    rw [List.cons_append,jA,jA,ih];rfl
  · rw [List.cons_append,jd h,jd h,ih]
theorem qEc (T:Tx K mg a):FnOk P w K mg base CX0 4 a.A14 a.B14 ["track","moment"] qDp:=by
 refine T.D14.F.ok zL (fun vs H Q E h=>?_) (fun cdv A outer s H vs Q E hr h=>?_)
 · obtain⟨z,ms,t,rfl,_⟩:=h
   rfl
 refine qJ fun _ Y=>?_
 obtain⟨z,ms,t,rfl,⟨xs,hz,his⟩,hl,kk⟩:=h
 apply Y
 have hxl:=his.len
 refine⟨_,(qB (qFr (i:=2) [] [] zL.nd rfl rfl rfl (qD8 rfl T.b_enumerate (qA (pv 0) qC)) (fun _ _ _ _=>(qY vI (jC (wL (K:=K) rfl) (pv 1) qF (fun _ _=>rfl)) jF (qh _))) (fun _ _ _ _=>(pv 0)))
  (qB (vA PassesOwn.never rfl (qJ3 rfl T.b_zip (qA (pv 2) (qA (qI T.D12 (qAa T) hr rfl (qA (pv 0) qC)) qC))) (qBt rfl (jS (jE (i:=3) zL.nd rfl (Or.inl rfl)) (jS (jE (i:=4) zL.nd rfl (Or.inl rfl)) vj))) (qG (jc (PW.pt (z6 (qY qF9 (qX (pv 4)) (pv 1) (qh _)) (zd (qY vL (pv 1) (qX (pv 4)) (qh _))))) (qG (qU (qd (qA (pv 3) (qA (qL jQ (pv 1) (qX (pv 4))) qC))))) qj)))
  (qG (qU wo)))),?_⟩
 try dsimp only [xH,jD]
 refine⟨_,rfl,z,rfl,⟨_,SqL.of hz⟩,qC1 (K:=K) (a:=z) (xs:=xs) (fun i acc H'=>Same H H'∧acc=(jA 0 (ms.take i)).map (fun(n:Nat)=>V.int (n:Int))∧acc.length≤i) ⟨Same.refl _,rfl,by simp⟩ ?_ ?_ ?_⟩
 · rintro i acc H' hi ⟨e,rfl,hal⟩
   exact⟨SqL.of (e _ _ hz),qf (by omega)⟩
 · rintro i x acc H' p hi hx ⟨e,rfl,hal⟩ hp
   refine qJ fun _ Y=>?_
   obtain⟨m,hm,hIx⟩:=his.get hx
   have w1:=qE hp (.tup [.int (i:Int),x])
   have hI:=hIx.ts (qV (e.trans w1))
   obtain⟨zi,xi,rfl,hzi,h0,h1⟩:=hI.opn
   apply Y
   have htk:ms.take (i+1)=ms.take i++[m]:=by rw [List.take_add_one,hm];rfl
   have hlt:(ms.take i).length=i:=by rw [List.length_take];omega
   refine⟨_,rfl,zi,xi,_,_,rfl,rfl,SqT.of hzi,h0,rfl,_,rfl,xI (fun c=>?_) (fun c=>?_)⟩
   · have hw:m.wd="mix":=by simpa using c
     refine⟨_,rfl,Nxt.mk hi ⟨e.trans w1,?_,by simp at hal ⊢;omega⟩⟩
     rw [htk,xt,if_pos hw,hlt,List.map_append,Nat.zero_add];rfl
   · have hw:¬ m.wd="mix":=by simpa using c
     refine Nxt.mk hi ⟨e.trans w1,?_,by omega⟩
     rw [htk,xt,if_neg hw,List.append_nil]
 rintro acc H1 ⟨e1,rfl,hal⟩ pl hpl
 rw [hxl,List.take_length] at*
 have w2:=qE hpl (.lst ((jA 0 ms).map fun(n:Nat)=>V.int (n:Int)))
 have hP:(upd H1 pl (.lst ((jA 0 ms).map fun(n:Nat)=>V.int (n:Int)))) pl=some (.lst ((jA 0 ms).map fun(n:Nat)=>V.int (n:Int))):=qD
 have e2:=e1.trans w2
 generalize upd H1 pl (.lst ((jA 0 ms).map fun(n:Nat)=>V.int (n:Int)))=H2 at hP e2 ⊢
 have tr2:Tr H2 z ms:=⟨xs,e2 _ _ hz,his.ts (qV e2)⟩
 refine⟨_,rfl,_,rfl,z,ms,rfl,tr2,hl,fun sp us H3 e3 _ hsp hus=>?_⟩
 have hP3:=e3 _ _ hP
 have hul:=hus.len
 refine⟨pl,sp,rfl,⟨_,SqL.of hP3⟩,⟨_,SqL.of hsp⟩,qIe (K:=K) (a:=pl) (b:=sp) (xs:=(jA 0 ms).map fun(n:Nat)=>V.int (n:Int)) (ys:=us) (fun i σ H'=>∃ (o1 o2:Option V),σ=[some (.ref z),some (.int t),some (.ref pl),o1,o2]∧qCt ((jA 0 ms).drop i) ((xG 0 ms).drop i) t=j3 0 0 ms t∧Same H3 H') ?_ ⟨none,none,rfl,wA 0 0 ms t,Same.refl _⟩ ?_ ?_ ?_⟩
 · rw [List.length_map,hul,zk 0 0 ms]
 · rintro i σ H' hi ⟨o1,o2,rfl,_,e⟩
   exact⟨SqL.of (e _ _ hP3),SqL.of (e _ _ hsp)⟩
 · rintro i x y σ H' p hx hy ⟨o1,o2,rfl,hap,e⟩ hp
   refine qJ fun _ Y=>?_
   obtain⟨n,hn,rfl⟩:∃ n:Nat,(jA 0 ms)[i]? =some n∧x= .int (n:Int):=by
    rw [List.getElem?_map] at hx
    cases e:(jA 0 ms)[i]? with
    | none=>rw [e] at hx;cases hx
    | some m=>rw [e] at hx;exact⟨m,rfl,(Option.some.inj hx).symm⟩
   obtain⟨x0,y0,z0,q,hs,rfl,hq⟩:=hus.get hy
   apply Y
   have w4:=qE hp (.tup [.int (n:Int),.ref q])
   have e4:=e.trans w4
   have hq4:=e4 _ _ hq
   rw [xL hn,xL hs,qCt] at hap
   refine⟨p,_,rfl,SqT.of qD,rfl,_,_,rfl,_,_,rfl,rfl,?_⟩
   generalize upd H' p (.tup [.int (n:Int),.ref q])=H5 at e4 hq4 ⊢
   have a0:atI [V.int x0,.int y0,.int z0] 0=some (.int x0):=rfl
   have a2:atI [V.int x0,.int y0,.int z0] 2=some (.int z0):=rfl
   refine(ixO hq4 a0 ⟨_,rfl,_,_,rfl,rfl,_,rfl,?_⟩)
   refine xI (fun c1=>?_) (fun c1=>?_)
   · refine⟨_,rfl,ixO hq4 a2 ⟨_,_,rfl,rfl,_,rfl,?_⟩⟩
     refine xI (fun c2=>?_) (fun c2=>?_)
     · rw [if_pos ⟨by simpa using c1,by simpa using c2⟩] at hap
       rw [← hap] at kk
       refine⟨_,rfl,_,rfl,ixO hq4 a0 ⟨_,_,rfl,rfl,sL2,fun f hf=>?_⟩⟩
       exact kk f _ (((e2.trans e3).trans e4).trans (qE hf _)) qD
     · rw [if_neg (fun c=>c2 (by simpa using c.2))] at hap
       exact⟨_,_,rfl,hap,e4⟩
   · rw [if_neg (fun c=>c1 (by simpa using c.1))] at hap
     exact qCv ⟨_,_,rfl,hap,e4⟩
 · rintro σ H' ⟨o1,o2,rfl,hap,e⟩
   rw [List.length_map,List.drop_length] at hap
   have hn:qCt [] ((xG 0 ms).drop (jA 0 ms).length) t=none:=by
    generalize (xG 0 ms).drop (jA 0 ms).length=ss
    cases ss <;> rfl
   rw [hn] at hap
   rw [← hap] at kk
   exact kk H' ((e2.trans e3).trans e)
set_option genInjectivity true in
structure Te where
 n:Str
 pic:Int
 p:Int
 q:Int
def Te.d (t:Te):D:=.tup [.leaf (.str t.n),.leaf (.int t.pic),.tup [.leaf (.int t.p),.leaf (.int t.q)]]
def Im.g:Im→Prop
 | .clip _ p q r s l=>0 < q∧0 < s∧p.natAbs < 2 ^ 400∧q.natAbs < 2 ^ 400∧r.natAbs < 2 ^ 400∧s.natAbs < 2 ^ 400∧1≤l∧l < 2 ^ 400
 | .nest _ b l=>0≤b∧b < 2 ^ 60∧1≤l
 | .gap l=>1≤l
 | .mix l=>1≤l∧l < 2 ^ 60
theorem Im.g_mo {m:Im}(h:m.g):0≤m.mo:=by
 cases m with
 | clip n p q r s l=>have:=h.2.2.2.2.2.2.1;show 0≤l;omega
 | nest n b l=>have:=h.2.2;show 0≤l;omega
 | gap l=>have h:1≤l:=h;show 0≤l;omega
 | mix l=>exact Int.le_refl _
def qJz (ms:List Im):Prop:=∀ (i:Nat) (l:Int),ms[i]? =some (.mix l)→1≤i∧(∃ n p q r s k,ms[i - 1]? =some (.clip n p q r s k))∧∃ n p q r s k,ms[i+1]? =some (.clip n p q r s k)
def qFe (p q r s k:Int):Int:=(p*s+k*r*q).fdiv (q*s)
def vV (ms:List Im)(i:Nat)(j:Int):List Te:=
 match ms[i]?,ms[i - 1]?,ms[i+1]? with
 | some (.mix l),some (.clip n p q r s k),some (.clip n' p' q' r' s' _)=>[⟨n,qFe p q r s (k+(j - l.fdiv 2)),q9 (l - j) (l+1),qm (l - j) (l+1)⟩,⟨n',qFe p' q' r' s' (j - l.fdiv 2),q9 (j+1) (l+1),qm (j+1) (l+1)⟩]
 | _,_,_=>[]
def jG (f:Str→Int→List Te)(ms:List Im)(t:Int):List Te:=
 match j3 0 0 ms t with
 | some (i,j)=>vV ms i j
 | none=>match jN 0 0 ms t with
  | none=>[]
  | some (i,d)=>match ms[i]? with
   | some (.clip n p q r s _)=>[⟨n,qFe p q r s d,1,1⟩]
   | some (.nest nm b _)=>f nm (b+d)
   | _=>[]
def j9:List (List Te)→List Te
 | []=>[]
 | x::r=>if x.isEmpty then j9 r else x
abbrev Rms:=Str→Option (List (List Im))
def jx (rm:Rms):Nat→Str→Int→List Te
 | 0,_,_=>[]
 | n+1,nm,t=>j9 (((rm nm).getD []).map fun ms=>jG (jx rm n) ms t)
def RoomAt (H:Hp)(rz:Addr)(rm:Rms):Prop:=∃ (re td:Addr) (kvs:List (Key × V)),H rz=some (.tup [.ref re,.ref td])∧Rd H td (.dK kvs)∧∀ nm ts,rm nm=some ts→∃ v,jg kvs (Sum.inr nm)=some v∧TabAt H v ts
theorem RoomAt.same {H H':Hp}(e:Same H H'){rz:Addr}{rm:Rms}(h:RoomAt H rz rm):RoomAt H' rz rm:=
 let ⟨re,td,kvs,h1,h2,h3⟩:=h;⟨re,td,kvs,e _ _ h1,qDw e h2,fun nm ts q=>let ⟨v,a,b⟩:=h3 nm ts q;⟨v,a,b.same e⟩⟩
theorem qBv:∀ {b:Int} {i:Nat} {ms:List Im} {t:Int} {k:Nat} {d:Int},jN b i ms t=some (k,d)→(∀ m∈ms,m.g)→0≤b→0≤d∧d≤t
 | _,_,[],_,_,_,h,_,_=>by simp [jN] at h
 | b,i,m::ms,t,k,d,h,hg,hb=>by
  rw [jN] at h
  by_cases hc:b≤t∧t < b+m.mo
  · rw [if_pos hc] at h
    cases h
    omega
  · rw [if_neg hc] at h
    have:=Im.g_mo (hg m (by simp))
    exact qBv h (fun x hx=>hg x (by simp [hx])) (by omega)
theorem kX:∀ {b:Int} {i:Nat} {ms:List Im} {t:Int} {k:Nat} {d:Int},jN b i ms t=some (k,d)→i≤k∧∃ m,ms[k - i]? =some m
 | _,_,[],_,_,_,h=>by simp [jN] at h
 | b,i,m::ms,t,k,d,h=>by
  rw [jN] at h
  by_cases hc:b≤t∧t < b+m.mo
  · rw [if_pos hc] at h
    cases h
    exact⟨Nat.le_refl _,m,by simp⟩
  · rw [if_neg hc] at h
    obtain⟨h1,m',h2⟩:=kX h
    have e:k - i=(k - (i+1))+1:=by omega
    exact⟨by omega,m',by rw [e,List.getElem?_cons_succ];exact h2⟩
theorem kA {i:Int}(h:i.natAbs < 2 ^ 400):Sm2 i:=Nat.lt_of_lt_of_le h (Nat.pow_le_pow_right (by decide) (by decide))
theorem qEb (ms:List Im)(i:Nat)(j:Int):(vV ms i j).length≤2:=by
 unfold vV
 split <;> simp
theorem vQ {f:Str→Int→List Te}(hf:∀ nm t,(f nm t).length≤2)(ms:List Im)(t:Int):(jG f ms t).length≤2:=by
 unfold jG
 split
 · exact qEb _ _ _
 · split
   · simp
   · split
     · simp
     · exact hf _ _
     · simp
theorem wS:∀ {xs:List (List Te)},(∀ x∈xs,x.length≤2)→(j9 xs).length≤2
 | [],_=>by simp [j9]
 | x::xs,h=>by
  rw [j9]
  split
  · exact wS fun y hy=>h y (by simp [hy])
  · exact h x (by simp)
theorem zy (rm:Rms):∀ (n:Nat) (nm:Str) (t:Int),(jx rm n nm t).length≤2
 | 0,_,_=>by simp [jx]
 | n+1,nm,t=>by
  rw [jx]
  refine wS fun x hx=>?_
  obtain⟨ms,_,rfl⟩:=List.mem_map.mp hx
  exact vQ (zy rm n) ms t
abbrev Rls:=Str→Option Int
structure Rc (n:Str)(p q r s l:Int)(rl:Rls)(N:Int):Prop where
 g1:qLf 110 p q
 g2:qLf 110 r s
 bl:l.natAbs < 2 ^ 30
 l1:1≤l
 rn:rl n=some N
 bN:N.natAbs < 2 ^ 700
theorem Rc.bn {n:Str}{p q r s l N:Int}{rl:Rls}(h:Rc n p q r s l rl N):Bn 110 p q r s:=⟨h.g1.1,h.g2.1,h.g1.2.2.1,h.g1.2.2.2,h.g2.2.2.1,h.g2.2.2.2⟩
def tbF (ms:List Im)(k:Nat):Int:=if k=0 then 0 else match ms[k - 1]? with
 | some (.mix l)=>l - l.fdiv 2
 | _=>0
def teF (ms:List Im)(k:Nat):Int:=match ms[k+1]? with
 | some (.mix l)=>l.fdiv 2
 | _=>0
theorem qAq {ms:List Im}{k:Int}(h:zZ ms k="mix"):∃ l,0≤k∧ms[k.toNat]? =some (.mix l):=by
 unfold zZ at h
 by_cases h0:k < 0
 · rw [if_pos h0] at h
   exact absurd h (by decide+kernel)
 · rw [if_neg h0] at h
   cases hm:ms[k.toNat]? with
   | none=>rw [hm] at h;exact absurd h (by decide+kernel)
   | some m=>
    rw [hm] at h
    obtain⟨l,rfl⟩:=vB h
    exact⟨l,by omega,rfl⟩
inductive zg (vs:List V)(H:Hp)(Q:VK)(_:XK):Prop
| mk (z:Addr) (ms:List Im) (k:Nat) (_:vs=[.ref z,.int (k:Int)]) (_:Tr H z ms) (_:Q (.int (tbF ms k)) H)
theorem zz (T:Tx K mg a):FnOk P w K mg base CX0 2 a.A15 a.B15 ["track","place"] zg:=by
 refine T.D15.F.ok zx (fun vs H Q E h=>?_) (fun cdv A outer s H vs Q E hr h=>?_)
 · obtain⟨z,ms,k,rfl,_⟩:=h
   rfl
 refine qJ fun _ Y=>?_
 obtain⟨z,ms,k,rfl,tT,q⟩:=h
 apply Y
 refine⟨_,(qB (jc (qY qE5 (qI T.D9 (vO T) hr rfl (qA (pv 0) (qA (qL jQ (pv 1) qF) qC))) jF (qh _)) (qG (qU qF)) qj)
  (qG (qU (qI T.D11 (xr T) hr rfl (qA (qX (jC qi (pv 0) (qL jQ (pv 1) qF) (fun _ _=>rfl))) qC))))),?_⟩
 try dsimp only [xH,jD]
 refine⟨_,rfl,_,rfl,_,_,rfl,rfl,z,ms,_,rfl,tT,rfl,_,rfl,xI (fun c=>?_) (fun c=>?_)⟩
 · have hn:zZ ms ((k:Int) - 1)≠"mix":=by simpa using c
   have e:tbF ms k=0:=by
    unfold tbF
    by_cases k0:k=0
    · rw [if_pos k0]
    · rw [if_neg k0]
      split
      · next l hl=>exact absurd (kK hl (by omega)) hn
      · rfl
   rw [e] at q
   exact q
 · have hk:zZ ms ((k:Int) - 1)="mix":=by simpa using c
   refine qJ fun _ Y=>?_
   obtain⟨l,k1,hl⟩:=qAq hk
   have ek:((k:Int) - 1).toNat=k - 1:=by omega
   rw [ek] at hl
   have e:tbF ms k=l - l.fdiv 2:=by
    unfold tbF
    rw [if_neg (by omega),hl]
   rw [e] at q
   obtain⟨vs,hz,his⟩:=tT
   obtain⟨v,hv,hI⟩:=his.get' hl
   obtain⟨zi,rfl,hzi⟩:=hI
   apply Y
   have hat:atI vs ((k:Int) - 1)=some (.ref zi):=by
    have e:(k:Int) - 1=((k - 1:Nat):Int):=by omega
    rw [e];exact qy hv
   exact⟨_,rfl,_,rfl,_,_,rfl,rfl,z,_,_,_,rfl,rfl,SqL.of hz,hat,ixT (SqT.of hzi) at1 ⟨l,rfl,q⟩⟩
inductive ki (vs:List V)(H:Hp)(Q:VK)(_:XK):Prop
| mk (z:Addr) (ms:List Im) (k:Nat) (_:vs=[.ref z,.int (k:Int)]) (_:Tr H z ms) (_:Q (.int (teF ms k)) H)
theorem kM (T:Tx K mg a):FnOk P w K mg base CX0 2 a.A16 a.B16 ["track","place"] ki:=by
 refine T.D16.F.ok kT (fun vs H Q E h=>?_) (fun cdv A outer s H vs Q E hr h=>?_)
 · obtain⟨z,ms,k,rfl,_⟩:=h
   rfl
 refine qJ fun _ Y=>?_
 obtain⟨z,ms,k,rfl,tT,q⟩:=h
 apply Y
 refine⟨_,(qB (jc (qY qE5 (qI T.D9 (vO T) hr rfl (qA (pv 0) (qA (qL qg (pv 1) qF) qC))) jF (qh _)) (qG (qU qF)) qj)
  (qG (qU (qI T.D10 (j4 T) hr rfl (qA (qX (jC qi (pv 0) (qL qg (pv 1) qF) (fun _ _=>rfl))) qC))))),?_⟩
 try dsimp only [xH,jD]
 refine⟨_,rfl,_,rfl,_,_,rfl,rfl,z,ms,_,rfl,tT,rfl,_,rfl,xI (fun c=>?_) (fun c=>?_)⟩
 · have hn:zZ ms ((k:Int)+1)≠"mix":=by simpa using c
   have e:teF ms k=0:=by
    unfold teF
    split
    · next l hl=>exact absurd (kK hl (by omega)) hn
    · rfl
   rw [e] at q
   exact q
 · have hk:zZ ms ((k:Int)+1)="mix":=by simpa using c
   refine qJ fun _ Y=>?_
   obtain⟨l,k1,hl⟩:=qAq hk
   have ek:((k:Int)+1).toNat=k+1:=by omega
   rw [ek] at hl
   have e:teF ms k=l.fdiv 2:=by
    unfold teF
    rw [hl]
   rw [e] at q
   obtain⟨vs,hz,his⟩:=tT
   obtain⟨v,hv,hI⟩:=his.get' hl
   obtain⟨zi,rfl,hzi⟩:=hI
   apply Y
   have hat:atI vs ((k:Int)+1)=some (.ref zi):=by
    have e:(k:Int)+1=((k+1:Nat):Int):=by omega
    rw [e];exact qy hv
   exact⟨_,rfl,_,rfl,_,_,rfl,rfl,z,_,_,_,rfl,rfl,SqL.of hz,hat,ixT (SqT.of hzi) at1 ⟨l,rfl,q⟩⟩
def ql (ms:List Im):Int:=(ms.map Im.mo).sum
theorem zK (m:Im)(ms:List Im):ql (m::ms)=m.mo+ql ms:=by simp [ql]
theorem qFy:ql []=0:=rfl
def Nn (ms:List Im):Prop:=∀ m∈ms,0≤m.mo
theorem Nn.tail {m:Im}{ms:List Im}(h:Nn (m::ms)):Nn ms:=fun x hx=>h x (by simp [hx])
theorem Nn.len:∀ {ms:List Im},Nn ms→0≤ql ms
 | [],_=>Int.le_refl _
 | m::ms,h=>by
  have h1:=h m (by simp)
  have h2:=Nn.len h.tail
  rw [zK]
  omega
def Wf (m:Im):Prop:=match m with
 | .clip _ p q r s l=>0 < q∧0 < s∧Int.gcd p q=1∧1≤l
 | .nest _ _ l=>1≤l
 | .gap l=>1≤l
 | .mix l=>1≤l
theorem Wf.mo {m:Im}(h:Wf m):0≤m.mo:=by
 cases m with
 | clip n p q r s l=>have:1≤l:=h.2.2.2;show 0≤l;omega
 | nest n b l=>have h:1≤l:=h;show 0≤l;omega
 | gap l=>have h:1≤l:=h;show 0≤l;omega
 | mix l=>exact Int.le_refl _
theorem bs0 (ms:List Im):qN ms 0=0:=by unfold qN;rw [List.take_zero];rfl
theorem bsC (x:Im)(ms:List Im)(k:Nat):qN (x::ms) (k+1)=x.mo+qN ms k:=by
 unfold qN;rw [List.take_succ_cons,List.map_cons,List.sum_cons]
theorem bsS {ms:List Im}{i:Nat}{m:Im}(h:ms[i]? =some m):qN ms (i+1)=qN ms i+m.mo:=by
 unfold qN
 rw [List.take_add_one,h,List.map_append,List.sum_append]
 show _+(m.mo+0)=_
 omega
theorem bsM {ms:List Im}(h:Nn ms){i j:Nat}(hij:i≤j):qN ms i≤qN ms j:=by
 induction hij with
 | refl=>exact Int.le_refl _
 | @step j _ ih=>
  cases hm:ms[j]? with
  | none=>
   have hl:=List.getElem?_eq_none_iff.mp hm
   have e:qN ms (j+1)=qN ms j:=by
    unfold qN
    rw [List.take_of_length_le (by omega),List.take_of_length_le hl]
   show qN ms i≤qN ms (j+1)
   omega
  | some m=>
   have:=bsS hm
   have:=h m (List.mem_of_getElem? hm)
   show qN ms i≤qN ms (j+1)
   omega
theorem bsL (ms:List Im):qN ms ms.length=ql ms:=by
 unfold qN ql;rw [List.take_length]
theorem xk:∀ {ms:List Im} {b:Int} {i0 k:Nat} {t d:Int},jN b i0 ms t=some (k,d)→i0≤k∧∃ m,ms[k - i0]? =some m∧b+qN ms (k - i0)≤t∧t < b+qN ms (k - i0)+m.mo∧d=t - (b+qN ms (k - i0))
 | [],_,_,_,_,_,h=>by simp [jN] at h
 | m::ms,b,i0,k,t,d,h=>by
  rw [jN] at h
  by_cases hc:b≤t∧t < b+m.mo
  · rw [if_pos hc] at h
    cases h
    refine⟨Nat.le_refl _,m,by rw [Nat.sub_self];rfl,?_⟩
    rw [Nat.sub_self,bs0]
    omega
  · rw [if_neg hc] at h
    obtain⟨h1,x,h2,h3,h4,h5⟩:=xk h
    have e:k - i0=(k - (i0+1))+1:=by omega
    refine⟨by omega,x,by rw [e,List.getElem?_cons_succ];exact h2,?_⟩
    rw [e,bsC]
    omega
theorem wU:∀ {ms:List Im} {b:Int} {i0 k:Nat} {m:Im} {t:Int},Nn ms→ms[k]? =some m→b+qN ms k≤t→t < b+qN ms k+m.mo→jN b i0 ms t=some (i0+k,t - (b+qN ms k))
 | x::ms,b,i0,0,m,t,hp,hk,h1,h2=>by
  obtain rfl:x=m:=by simpa using hk
  rw [bs0] at h1 h2 ⊢
  rw [jN,if_pos ⟨by omega,by omega⟩,Nat.add_zero,Int.add_zero]
 | x::ms,b,i0,k+1,m,t,hp,hk,h1,h2=>by
  rw [bsC] at h1 h2 ⊢
  have n:=bsM hp.tail (Nat.zero_le k)
  rw [bs0] at n
  have ih:=wU (ms:=ms) (b:=b+x.mo) (i0:=i0+1) (k:=k) (m:=m) (t:=t) hp.tail (by simpa using hk) (by omega) (by omega)
  rw [jN,if_neg (by omega),ih]
  have e1:i0+1+k=i0+(k+1):=by omega
  have e2:t - (b+x.mo+qN ms k)=t - (b+(x.mo+qN ms k)):=by omega
  rw [e1,e2]
 | [],_,_,_,_,_,_,hk,_,_=>by simp at hk
theorem qDu:∀ {ms:List Im} {b:Int} {i0:Nat} {t:Int},Nn ms→jN b i0 ms t=none→b≤t→b+ql ms≤t
 | [],b,_,t,_,_,h=>by rw [qFy];omega
 | x::ms,b,i0,t,hp,h,hb=>by
  rw [jN] at h
  by_cases hc:b≤t∧t < b+x.mo
  · rw [if_pos hc] at h;cases h
  · rw [if_neg hc] at h
    have:=qDu hp.tail h (by omega)
    rw [zK];omega
theorem qE2 {ms:List Im}{t:Int}(hp:Nn ms)(h:ql ms≤t):jN 0 0 ms t=none:=by
 cases hi:jN 0 0 ms t with
 | none=>rfl
 | some r=>
  obtain⟨k,d⟩:=r
  obtain⟨_,m,h1,h2,h3,_⟩:=xk hi
  rw [Nat.sub_zero] at h1 h2 h3
  have hk:=(glt h1)
  have:=bsM hp (show k+1≤ms.length by omega)
  rw [bsS h1,bsL] at this
  omega
theorem qBq {ms:List Im}{k k':Nat}{m m':Im}{t:Int}(hp:Nn ms)(h:ms[k]? =some m)(h':ms[k']? =some m')(h1:qN ms k≤t)(h2:t < qN ms k+m.mo)(h1':qN ms k'≤t)(h2':t < qN ms k'+m'.mo):k=k':=by
 have a:=wU (b:=0) (i0:=0) (t:=t) hp h (by omega) (by omega)
 have b:=wU (b:=0) (i0:=0) (t:=t) hp h' (by omega) (by omega)
 rw [a] at b
 have:=(Prod.mk.inj (Option.some.inj b)).1
 omega
theorem ja:∀ {ms:List Im} {b:Int} {i0 k:Nat} {t j:Int},j3 b i0 ms t=some (k,j)→i0≤k∧∃ l,ms[k - i0]? =some (.mix l)∧b+qN ms (k - i0) - l.fdiv 2≤t∧t < b+qN ms (k - i0)+(l - l.fdiv 2)∧j=t - (b+qN ms (k - i0) - l.fdiv 2)
 | [],_,_,_,_,_,h=>by simp [j3] at h
 | m::ms,b,i0,k,t,j,h=>by
  have up:∀ {b':Int},b'=b+m.mo→j3 b' (i0+1) ms t=some (k,j)→i0≤k∧∃ l,(m::ms)[k - i0]? =some (.mix l)∧b+qN (m::ms) (k - i0) - l.fdiv 2≤t∧t < b+qN (m::ms) (k - i0)+(l - l.fdiv 2)∧j=t - (b+qN (m::ms) (k - i0) - l.fdiv 2):=fun {b'} hb h=>by
   obtain⟨h1,l,h2,h3⟩:=ja h
   have e:k - i0=(k - (i0+1))+1:=by omega
   refine⟨by omega,l,by rw [e,List.getElem?_cons_succ];exact h2,?_⟩
   rw [e,bsC]
   omega
  by_cases hm:m.wd="mix"
  · obtain⟨l,rfl⟩:=vB hm
    rw [j3] at h
    by_cases hc:b - l.fdiv 2≤t∧t < b+(l - l.fdiv 2)
    · rw [if_pos hc] at h
      cases h
      refine⟨Nat.le_refl _,l,by rw [Nat.sub_self];rfl,?_⟩
      rw [Nat.sub_self,bs0]
      omega
    · rw [if_neg hc] at h
      exact up (by show b=b+0;omega) h
  · rw [xh hm] at h
    exact up rfl h
theorem qAs:∀ {ms:List Im} {b:Int} {i0 k:Nat} {t l:Int},j3 b i0 ms t=none→ms[k]? =some (.mix l)→¬ (b+qN ms k - l.fdiv 2≤t∧t < b+qN ms k+(l - l.fdiv 2))
 | [],_,_,_,_,_,_,h=>by simp at h
 | m::ms,b,i0,k,t,l,h,hk=>by
  by_cases hm:m.wd="mix"
  · obtain⟨l',rfl⟩:=vB hm
    rw [j3] at h
    by_cases hc:b - l'.fdiv 2≤t∧t < b+(l' - l'.fdiv 2)
    · rw [if_pos hc] at h;cases h
    · rw [if_neg hc] at h
      cases k with
      | zero=>
       have e:l'=l:=by
        have:=Option.some.inj (show some (Im.mix l')=some (.mix l) from hk)
        cases this;rfl
       subst e
       rw [bs0]
       intro q
       exact hc ⟨by omega,by omega⟩
      | succ k=>
       have:=qAs h (show ms[k]? =some (.mix l) from hk)
       rw [bsC]
       have e0:(Im.mix l').mo=0:=rfl
       intro q
       exact this ⟨by omega,by omega⟩
  · rw [xh hm] at h
    cases k with
    | zero=>
     have:=Option.some.inj (show some m=some (.mix l) from hk)
     subst this
     exact absurd rfl hm
    | succ k=>
     have:=qAs h (show ms[k]? =some (.mix l) from hk)
     rw [bsC]
     intro q
     exact this ⟨by omega,by omega⟩
structure Geo (ms:List Im):Prop where
 wf:∀ m∈ms,Wf m
 mx:qJz ms
 fit:∀ i n p q r s k,ms[i]? =some (.clip n p q r s k)→tbF ms i+teF ms i≤k
theorem Geo.nn {ms:List Im}(h:Geo ms):Nn ms:=fun m hm=>(h.wf m hm).mo
theorem hlf {l:Int}(h:1≤l):0≤l.fdiv 2∧l.fdiv 2≤l:=by
 have:=jt (p:=l) (q:=2) (by decide)
 omega
theorem qGh {ms:List Im}(hw:∀ m∈ms,Wf m)(k:Nat):0≤tbF ms k:=by
 unfold tbF
 split
 · omega
 · split
   · rename_i l hl
     have:1≤l:=hw _ (List.mem_of_getElem? hl)
     have:=hlf this
     omega
   · omega
theorem qC9 {ms:List Im}(hw:∀ m∈ms,Wf m)(k:Nat):0≤teF ms k:=by
 unfold teF
 split
 · rename_i l hl
   have:1≤l:=hw _ (List.mem_of_getElem? hl)
   have:=hlf this
   omega
 · omega
theorem qFa {ms:List Im}{k:Nat}{l:Int}(h:ms[k]? =some (.mix l)):tbF ms (k+1)=l - l.fdiv 2:=by
 unfold tbF
 rw [if_neg (by omega),Nat.add_sub_cancel,h]
theorem qE1 {ms:List Im}{k:Nat}{l:Int}(h:ms[k+1]? =some (.mix l)):teF ms k=l.fdiv 2:=by
 unfold teF
 rw [h]
structure MxA (ms:List Im)(i:Nat)(l:Int)(k k':Int):Prop where
 l1:1≤l
 left:∃ n p q r s,ms[i]? =some (.clip n p q r s k)
 right:∃ n p q r s,ms[i+2]? =some (.clip n p q r s k')
 b1:qN ms (i+1)=qN ms i+k
 b2:qN ms (i+2)=qN ms i+k
 b3:qN ms (i+3)=qN ms i+k+k'
 f1:l.fdiv 2≤k
 f2:l - l.fdiv 2≤k'
theorem Geo.mix {ms:List Im}(h:Geo ms){i:Nat}{l:Int}(hi:ms[i]? =some (.mix l)):∃ j k k',i=j+1∧MxA ms j l k k':=by
 obtain⟨i1,⟨n,p,q,r,s,k,ha⟩,n',p',q',r',s',k',hb⟩:=h.mx i l hi
 obtain⟨j,rfl⟩:∃ j,i=j+1:=⟨i - 1,by omega⟩
 have ha:ms[j]? =some (.clip n p q r s k):=ha
 have hb:ms[j+2]? =some (.clip n' p' q' r' s' k'):=hb
 have e1:=bsS ha
 have e2:=bsS hi
 have e3:=bsS hb
 have m1:(Im.clip n p q r s k).mo=k:=rfl
 have m2:(Im.mix l).mo=0:=rfl
 have m3:(Im.clip n' p' q' r' s' k').mo=k':=rfl
 have c1:=h.fit j _ _ _ _ _ _ ha
 have c2:=h.fit (j+2) _ _ _ _ _ _ hb
 have t1:=qE1 hi
 have t2:=qFa hi
 have t3:=qGh h.wf j
 have t4:=qC9 h.wf (j+2)
 have q1:qN ms (j+2)=qN ms (j+1+1):=rfl
 have q2:qN ms (j+3)=qN ms (j+2+1):=rfl
 have q3:tbF ms (j+2)=tbF ms (j+1+1):=rfl
 exact⟨j,k,k',rfl,h.wf _ (List.mem_of_getElem? hi),⟨n,p,q,r,s,ha⟩,⟨n',p',q',r',s',hb⟩,by omega,by omega,by omega,by omega,by omega⟩
theorem Geo.side {ms:List Im}(h:Geo ms){i k:Nat}{l t:Int}{m:Im}(hi:ms[i]? =some (.mix l))(t1:qN ms i - l.fdiv 2≤t)(t2:t < qN ms i+(l - l.fdiv 2))(hk:ms[k]? =some m)(k1:qN ms k≤t)(k2:t < qN ms k+m.mo):(i=k+1∨k=i+1)∧m.wd="clip":=by
 obtain⟨j,c,c',rfl,M⟩:=h.mix hi
 obtain⟨n,p,q,r,s,ha⟩:=M.left
 obtain⟨n',p',q',r',s',hb⟩:=M.right
 have b1:=M.b1
 have b2:=M.b2
 have f1:=M.f1
 have f2:=M.f2
 by_cases ht:t < qN ms (j+1)
 · have e:=qBq h.nn hk ha k1 k2 (by omega) (by show t < qN ms j+c;omega)
   subst e
   rw [ha] at hk
   cases hk
   exact⟨.inl rfl,rfl⟩
 · have e:=qBq h.nn hk hb k1 k2 (by omega) (by show t < qN ms (j+2)+c';omega)
   subst e
   rw [hb] at hk
   cases hk
   exact⟨.inr rfl,rfl⟩
theorem Geo.lt {ms:List Im}(h:Geo ms){i:Nat}{l t:Int}(hi:ms[i]? =some (.mix l))(t1:qN ms i - l.fdiv 2≤t)(t2:t < qN ms i+(l - l.fdiv 2)):0≤t∧t < ql ms:=by
 obtain⟨j,c,c',rfl,M⟩:=h.mix hi
 obtain⟨n',p',q',r',s',hb⟩:=M.right
 have hl:=(glt hb)
 have b0:=bsM h.nn (Nat.zero_le j)
 have b4:=bsM h.nn (show j+3≤ms.length by omega)
 rw [bsL] at b4
 rw [bs0] at b0
 have b1:=M.b1
 have b3:=M.b3
 have f1:=M.f1
 have f2:=M.f2
 omega
theorem Geo.one {ms:List Im}(h:Geo ms){i i':Nat}{l l' t:Int}(hi:ms[i]? =some (.mix l))(t1:qN ms i - l.fdiv 2≤t)(t2:t < qN ms i+(l - l.fdiv 2))(hi':ms[i']? =some (.mix l'))(t1':qN ms i' - l'.fdiv 2≤t)(t2':t < qN ms i'+(l' - l'.fdiv 2)):i=i':=by
 have key:∀ {i i':Nat} {l l':Int},ms[i]? =some (.mix l)→t < qN ms i+(l - l.fdiv 2)→ms[i']? =some (.mix l')→qN ms i' - l'.fdiv 2≤t→¬ i < i':=fun {i i' l l'} hi t2 hi' t1' hlt=>by
  obtain⟨j,c,c',rfl,M⟩:=h.mix hi
  obtain⟨j',d,d',rfl,M'⟩:=h.mix hi'
  obtain⟨n',p',q',r',s',hb⟩:=M.right
  obtain⟨n2,p2,q2,r2,s2,ha⟩:=M'.left
  have b1:=M.b1
  have b2:=M.b2
  have b3:=M.b3
  have f2:=M.f2
  have c1:=M'.b1
  have g1:=M'.f1
  have ne:j'≠j+1:=fun e=>by
   subst e
   rw [hi] at ha
   cases ha
  by_cases e:j'=j+2
  · subst e
    rw [hb] at ha
    cases ha
    have hf:=h.fit (j+2) _ _ _ _ _ _ hb
    have x1:=qFa hi
    have x2:=qE1 hi'
    have q3:tbF ms (j+2)=tbF ms (j+1+1):=rfl
    omega
  · have:=bsM h.nn (show j+3≤j' by omega)
    omega
 have a:=key hi t2 hi' t1'
 have b:=key hi' t2' hi t1
 omega
theorem Geo.at {ms:List Im}(h:Geo ms){i:Nat}{l t:Int}(hi:ms[i]? =some (.mix l))(t1:qN ms i - l.fdiv 2≤t)(t2:t < qN ms i+(l - l.fdiv 2)):j3 0 0 ms t=some (i,t - (qN ms i - l.fdiv 2)):=by
 cases hm:j3 0 0 ms t with
 | none=>exact absurd ⟨by omega,by omega⟩ (qAs hm hi)
 | some r=>
  obtain⟨k,j⟩:=r
  obtain⟨_,l',h1,h2,h3,h4⟩:=ja hm
  rw [Nat.sub_zero] at h1 h2 h3 h4
  have e:=h.one hi t1 t2 h1 (by omega) (by omega)
  subst e
  rw [hi] at h1
  cases h1
  rw [h4]
  congr 2
  omega
structure Pt where
 n:Str
 p:Int
 q:Int
 r:Int
 s:Int
 a:Int
 b:Int
 c:Int
 d:Int
structure PtG (x:Pt):Prop where
 q0:0 < x.q
 s0:0 < x.s
 g1:Int.gcd x.p x.q=1
 b0:0 < x.b
 d0:0 < x.d
 g2:Int.gcd x.a x.b=1
def Pt.later (k:Int)(x:Pt):Pt:=⟨x.n,plP x.p x.q x.r x.s k,plQ x.p x.q x.r x.s k,x.r,x.s,plP x.a x.b x.c x.d k,plQ x.a x.b x.c x.d k,x.c,x.d⟩
def Pt.tell (x:Pt):Te:=⟨x.n,x.p.fdiv x.q,x.a,x.b⟩
theorem PtG.later {x:Pt}(h:PtG x)(k:Int):PtG (x.later k):=⟨zE h.q0 h.s0,h.s0,wn h.q0 h.s0,zE h.b0 h.d0,h.d0,wn h.b0 h.d0⟩
theorem PtG.add {x:Pt}(h:PtG x)(j k:Int):(x.later j).later k=x.later (j+k):=by
 obtain⟨e1,e2⟩:=zl (p:=x.p) (r:=x.r) (lo:=j) (k:=k) h.q0 h.s0
 obtain⟨e3,e4⟩:=zl (p:=x.a) (r:=x.c) (lo:=j) (k:=k) h.b0 h.d0
 unfold Pt.later
 dsimp only
 rw [e1,e2,e3,e4]
theorem PtG.zero {x:Pt}(h:PtG x):x.later 0=x:=by
 obtain⟨e1,e2⟩:=qBc (r:=x.r) (s:=x.s) h.q0 h.s0 h.g1
 obtain⟨e3,e4⟩:=qBc (r:=x.c) (s:=x.d) h.b0 h.d0 h.g2
 unfold Pt.later
 rw [e1,e2,e3,e4]
theorem qB3 {ps:List Pt}(h:∀ x∈ps,PtG x):ps.map (Pt.later 0)=ps:=by
 have:ps.map (Pt.later 0)=ps.map id:=List.map_congr_left fun x hx=>(h x hx).zero
 rw [this,List.map_id]
theorem qJh {ps:List Pt}(h:∀ x∈ps,PtG x)(k:Int):∀ x∈ps.map (Pt.later k),PtG x:=fun x hx=>by
 obtain⟨y,hy,rfl⟩:=List.mem_map.mp hx
 exact(h y hy).later k
structure Rn where
 b:Int
 e:Option Int
 ps:List Pt
def Rn.has (r:Rn)(t:Int):Prop:=r.b≤t∧∀ e,r.e=some e→t < e
def mxI (i j:Int):Int:=if j > i then j else i
def mnO:Option Int→Option Int→Option Int
 | none,y=>y
 | some x,none=>some x
 | some x,some y=>some (if y < x then y else x)
def Rn.within (r:Rn)(lo:Int)(hi:Option Int):Rn:=⟨mxI lo r.b,mnO r.e hi,r.ps.map (Pt.later (mxI lo r.b - r.b))⟩
theorem qJu {x y:Option Int}{t:Int}:(∀ e,mnO x y=some e→t < e)↔(∀ e,x=some e→t < e)∧∀ e,y=some e→t < e:=by
 cases x with
 | none=>exact⟨fun h=>⟨fun e q=>(by cases q),h⟩,fun h=>h.2⟩
 | some a=>
  cases y with
  | none=>exact⟨fun h=>⟨h,fun e q=>(by cases q)⟩,fun h=>h.1⟩
  | some b=>
   constructor
   · intro h
     have:=h _ rfl
     refine⟨fun e q=>?_,fun e q=>?_⟩ <;> cases q <;> split at this <;> omega
   · rintro ⟨h1,h2⟩ e q
     have a1:=h1 _ rfl
     have a2:=h2 _ rfl
     cases q
     split <;> omega
theorem qGr {i j t:Int}:mxI i j≤t↔i≤t∧j≤t:=by
 unfold mxI
 split <;> omega
theorem within_has {r:Rn}{lo t:Int}{hi:Option Int}:(r.within lo hi).has t↔r.has t∧lo≤t∧∀ e,hi=some e→t < e:=by
 unfold Rn.has Rn.within
 dsimp only
 rw [qGr,qJu]
 constructor
 · rintro ⟨⟨h1,h2⟩,h3,h4⟩
   exact⟨⟨h2,h3⟩,h1,h4⟩
 · rintro ⟨⟨h1,h2⟩,h3,h4⟩
   exact⟨⟨h3,h1⟩,h2,h4⟩
structure qBr (g:Int→Rn)(T:Int→List Te):Prop where
 has:∀ t,0≤t→(g t).has t
 b0:∀ t,0≤t→0≤(g t).b
 pg:∀ t,0≤t→∀ x∈(g t).ps,PtG x
 tell:∀ t,0≤t→(g t).ps.map (fun x=>(x.later (t - (g t).b)).tell)=T t
 same:∀ t t',0≤t→(g t).has t'→g t'=g t
def qC7 (ms:List Im)(i:Nat)(b0:Int):Rn:=match ms[i]?,ms[i - 1]?,ms[i+1]? with
 | some (.mix l),some (.clip n p q r s k),some (.clip n' p' q' r' s' _)=>
  ⟨b0,some (b0+l),[⟨n,plP p q r s (k+ -l.fdiv 2),plQ p q r s (k+ -l.fdiv 2),r,s,q9 (l - 0) (l+1),qm (l - 0) (l+1),q9 (-1) (l+1),qm (-1) (l+1)⟩,
    ⟨n',plP p' q' r' s' (-l.fdiv 2),plQ p' q' r' s' (-l.fdiv 2),r',s',q9 (0+1) (l+1),qm (0+1) (l+1),q9 1 (l+1),qm 1 (l+1)⟩]⟩
 | _,_,_=>⟨0,none,[]⟩
def zJ (ms:List Im)(i:Nat)(b0:Int):Rn:=match ms[i]? with
 | some (.clip n p q r s l)=>⟨b0+tbF ms i,some (b0+(l - teF ms i)),[⟨n,plP p q r s (tbF ms i),plQ p q r s (tbF ms i),r,s,1,1,0,1⟩]⟩
 | _=>⟨0,none,[]⟩
def xo (x:Rn)(b l b0:Int):Rn:=(⟨x.b+(b0 - b),x.e.map (fun e=>e+(b0 - b)),x.ps⟩:Rn).within b0 (some (b0+l))
def qKq (f:Str→Int→Rn)(ms:List Im)(i:Nat)(m:Im)(d b0:Int):Rn:=match m with
 | .clip .. =>zJ ms i b0
 | .nest nm b l=>xo (f nm (b+d)) b l b0
 | m=>⟨b0,some (b0+m.mo),[]⟩
def qO (f:Str→Int→Rn)(ms:List Im)(t:Int):Rn:=match j3 0 0 ms t with
 | some (i,j)=>qC7 ms i (t - j)
 | none=>match jN 0 0 ms t with
  | none=>⟨ql ms,none,[]⟩
  | some (i,d)=>match ms[i]? with
   | some m=>qKq f ms i m d (t - d)
   | none=>⟨0,none,[]⟩
def qLp (F:Str→Int→List Te)(m:Im)(d:Int):List Te:=match m with
 | .clip n p q r s _=>[⟨n,qFe p q r s d,1,1⟩]
 | .nest nm b _=>F nm (b+d)
 | _=>[]
theorem qFt {F:Str→Int→List Te}{ms:List Im}{t d:Int}{i:Nat}{m:Im}(hm:j3 0 0 ms t=none)(hit:jN 0 0 ms t=some (i,d))(hi:ms[i]? =some m):jG F ms t=qLp F m d:=by
 unfold jG
 rw [hm,hit]
 simp only [hi]
 cases m <;> rfl
theorem xR {f:Str→Int→Rn}{ms:List Im}{t d:Int}{i:Nat}{m:Im}(hm:j3 0 0 ms t=none)(hit:jN 0 0 ms t=some (i,d))(hi:ms[i]? =some m):qO f ms t=qKq f ms i m d (t - d):=by
 unfold qO
 rw [hm,hit]
 simp only [hi]
theorem qCa {a c d k:Int}(hd:0 < d):plP (q9 a d) (qm a d) (q9 c d) (qm c d) k=q9 (a+k*c) d∧plQ (q9 a d) (qm a d) (q9 c d) (qm c d) k=qm (a+k*c) d:=by
 have c1:=jq a d
 have c2:=jq c d
 have p1:=jH (t:=a) (Int.ne_of_gt hd)
 have p2:=jH (t:=c) (Int.ne_of_gt hd)
 show q9 (q9 a d*qm c d+k*q9 c d*qm a d) (qm a d*qm c d)=_∧qm (q9 a d*qm c d+k*q9 c d*qm a d) (qm a d*qm c d)=_
 generalize q9 a d=u at c1 ⊢
 generalize qm a d=v at c1 p1 ⊢
 generalize q9 c d=x at c2 ⊢
 generalize qm c d=y at c2 p2 ⊢
 refine qBo (Int.ne_of_gt (Int.mul_pos p1 p2)) (Int.ne_of_gt hd) ?_
 grind
theorem qHq (p q r s k:Int):(plP p q r s k).fdiv (plQ p q r s k)=qFe p q r s k∨¬ (0 < q∧0 < s):=by
 by_cases h:0 < q∧0 < s
 · left
   unfold qFe
   have c:=qBs p q r s k
   have hp:=zE (p:=p) (r:=r) (k:=k) h.1 h.2
   refine qC4 hp (Int.mul_pos h.1 h.2) ?_
   rw [c]
 · exact .inr h
theorem qE3 {p q r s k:Int}(hq:0 < q)(hs:0 < s):(plP p q r s k).fdiv (plQ p q r s k)=qFe p q r s k:=by
 rcases qHq p q r s k with h | h
 · exact h
 · exact absurd ⟨hq,hs⟩ h
theorem qGf (k:Int):plP 1 1 0 1 k=1∧plQ 1 1 0 1 k=1:=by
 show q9 (1*1+k*0*1) (1*1)=1∧qm (1*1+k*0*1) (1*1)=1
 have e:(1:Int)*1+k*0*1=1:=by omega
 rw [e]
 decide
theorem qEa {ms:List Im}(hG:Geo ms){k:Nat}{m:Im}{t:Int}(hk:ms[k]? =some m)(hm:m.wd≠"clip")(k1:qN ms k≤t)(k2:t < qN ms k+m.mo):j3 0 0 ms t=none:=by
 cases h:j3 0 0 ms t with
 | none=>rfl
 | some r=>
  obtain⟨i,j⟩:=r
  obtain⟨_,l,h1,h2,h3,_⟩:=ja h
  rw [Nat.sub_zero] at h1 h2 h3
  exact absurd (hG.side h1 (by omega) (by omega) hk k1 k2).2 hm
theorem qCk {ms:List Im}(hG:Geo ms){k:Nat}{n:Str}{p q r s l t:Int}(hk:ms[k]? =some (.clip n p q r s l))(k1:qN ms k≤t)(k2:t < qN ms k+l):j3 0 0 ms t=none↔qN ms k+tbF ms k≤t∧t < qN ms k+(l - teF ms k):=by
 have e1:=bsS hk
 have em:(Im.clip n p q r s l).mo=l:=rfl
 constructor
 · intro h
   constructor
   · unfold tbF
     split
     · omega
     · rename_i hk0
       obtain⟨j,rfl⟩:∃ j,k=j+1:=⟨k - 1,by omega⟩
       rw [Nat.add_sub_cancel]
       split
       · rename_i l' hl'
         have hno:=qAs h hl'
         have e2:=bsS hl'
         have e0:(Im.mix l').mo=0:=rfl
         have:=hlf (show 1≤l' from hG.wf _ (List.mem_of_getElem? hl'))
         by_cases hc:qN ms (j+1)+(l' - l'.fdiv 2)≤t
         · exact hc
         · exact absurd ⟨by omega,by omega⟩ hno
       · omega
   · unfold teF
     split
     · rename_i l' hl'
       have hno:=qAs h hl'
       have:=hlf (show 1≤l' from hG.wf _ (List.mem_of_getElem? hl'))
       by_cases hc:t < qN ms k+(l - l'.fdiv 2)
       · exact hc
       · exact absurd ⟨by omega,by omega⟩ hno
     · omega
 · rintro ⟨h1,h2⟩
   cases h:j3 0 0 ms t with
   | none=>rfl
   | some x=>
    obtain⟨i,j⟩:=x
    obtain⟨_,l',h3,h4,h5,_⟩:=ja h
    rw [Nat.sub_zero] at h3 h4 h5
    rcases (hG.side h3 (by omega) (by omega) hk k1 k2).1 with e | e
    · subst e
      rw [qE1 h3] at h2
      omega
    · subst e
      rw [qFa h3] at h1
      have e2:=bsS h3
      have e0:(Im.mix l').mo=0:=rfl
      omega
theorem qHv {f:Str→Int→Rn}{F:Str→Int→List Te}{ms:List Im}(hG:Geo ms)(hN:∀ nm b l,Im.nest nm b l∈ms→0≤b∧qBr (f nm) (F nm)):qBr (qO f ms) (jG F ms):=by
 have nn:∀ k,0≤qN ms k:=fun k=>by have:=bsM hG.nn (Nat.zero_le k);rw [bs0] at this;exact this
 have key:∀ t,0≤t→(qO f ms t).has t∧0≤(qO f ms t).b∧(∀ x∈(qO f ms t).ps,PtG x)∧(qO f ms t).ps.map (fun x=>(x.later (t - (qO f ms t).b)).tell)=jG F ms t∧∀ t',(qO f ms t).has t'→qO f ms t'=qO f ms t:=by
  intro t t0
  cases hm:j3 0 0 ms t with
  | some x=>
   obtain⟨i,j⟩:=x
   obtain⟨_,l,hi,h2,h3,h4⟩:=ja hm
   rw [Nat.sub_zero] at hi h2 h3 h4
   obtain⟨i1,⟨n,p,q,r,s,k,ha⟩,n',p',q',r',s',k',hb⟩:=hG.mx i l hi
   have wa:=hG.wf _ (List.mem_of_getElem? ha)
   have wb:=hG.wf _ (List.mem_of_getElem? hb)
   have l1:1≤l:=hG.wf _ (List.mem_of_getElem? hi)
   obtain⟨i2,kk,kk',ei,M⟩:=hG.mix hi
   have hb0:0≤qN ms i - l.fdiv 2:=by
    have:=M.b1
    have:=M.f1
    have:=nn i2
    rw [ei]
    omega
   have ej:t - j=qN ms i - l.fdiv 2:=by omega
   have eR:qO f ms t=qC7 ms i (qN ms i - l.fdiv 2):=by
    unfold qO
    rw [hm]
    dsimp only
    rw [ej]
   have eT:jG F ms t=vV ms i j:=by unfold jG;rw [hm]
   have eM:vV ms i j=[⟨n,qFe p q r s (k+(j - l.fdiv 2)),q9 (l - j) (l+1),qm (l - j) (l+1)⟩,⟨n',qFe p' q' r' s' (j - l.fdiv 2),q9 (j+1) (l+1),qm (j+1) (l+1)⟩]:=by
    unfold vV;rw [hi,ha,hb]
   have eX:qC7 ms i (qN ms i - l.fdiv 2)=⟨qN ms i - l.fdiv 2,some (qN ms i - l.fdiv 2+l),[⟨n,plP p q r s (k+ -l.fdiv 2),plQ p q r s (k+ -l.fdiv 2),r,s,q9 (l - 0) (l+1),qm (l - 0) (l+1),q9 (-1) (l+1),qm (-1) (l+1)⟩,
    ⟨n',plP p' q' r' s' (-l.fdiv 2),plQ p' q' r' s' (-l.fdiv 2),r',s',q9 (0+1) (l+1),qm (0+1) (l+1),q9 1 (l+1),qm 1 (l+1)⟩]⟩:=by
    unfold qC7;rw [hi,ha,hb]
   have hl1:(l+1:Int)≠0:=by omega
   rw [eR,eX,eT,eM]
   refine⟨⟨by show qN ms i - l.fdiv 2≤t;omega,fun e q=>by cases q;omega⟩,hb0,fun x hx=>?_,?_,fun t' ht'=>?_⟩
   · rcases List.mem_cons.mp hx with rfl | hx
     · exact⟨zE wa.1 wa.2.1,wa.2.1,wn wa.1 wa.2.1,jH hl1,jH hl1,xX hl1⟩
     · rw [List.mem_singleton] at hx
       subst hx
       exact⟨zE wb.1 wb.2.1,wb.2.1,wn wb.1 wb.2.1,jH hl1,jH hl1,xX hl1⟩
   · have ej':t - (qN ms i - l.fdiv 2)=j:=by omega
     show [Pt.tell (Pt.later (t - (qN ms i - l.fdiv 2)) _),Pt.tell (Pt.later (t - (qN ms i - l.fdiv 2)) _)]=_
     rw [ej']
     unfold Pt.later Pt.tell
     dsimp only
     obtain⟨a1,a2⟩:=zl (p:=p) (r:=r) (lo:=k+ -l.fdiv 2) (k:=j) wa.1 wa.2.1
     obtain⟨b1,b2⟩:=zl (p:=p') (r:=r') (lo:=-l.fdiv 2) (k:=j) wb.1 wb.2.1
     obtain⟨c1,c2⟩:=qCa (a:=l - 0) (c:=-1) (d:=l+1) (k:=j) (by omega)
     obtain⟨d1,d2⟩:=qCa (a:=0+1) (c:=1) (d:=l+1) (k:=j) (by omega)
     rw [a1,a2,b1,b2,c1,c2,d1,d2,qE3 wa.1 wa.2.1,qE3 wb.1 wb.2.1]
     have x1:k+ -l.fdiv 2+j=k+(j - l.fdiv 2):=by omega
     have x2:-l.fdiv 2+j=j - l.fdiv 2:=by omega
     have x3:l - 0+j* -1=l - j:=by omega
     have x4:0+1+j*1=j+1:=by omega
     rw [x1,x2,x3,x4]
   · obtain⟨g1,g2⟩:=ht'
     have g1:qN ms i - l.fdiv 2≤t':=g1
     have g2:=g2 _ rfl
     have hm':=hG.at hi g1 (by omega)
     have ej2:t' - (t' - (qN ms i - l.fdiv 2))=qN ms i - l.fdiv 2:=by omega
     unfold qO
     rw [hm']
     dsimp only
     rw [ej2,eX]
  | none=>
  cases hit:jN 0 0 ms t with
  | none=>
   have hl:=qDu hG.nn hit t0
   have eR:qO f ms t=⟨ql ms,none,[]⟩:=by unfold qO;rw [hm,hit]
   have eT:jG F ms t=[]:=by unfold jG;rw [hm,hit]
   rw [eR,eT]
   refine⟨⟨by show ql ms≤t;omega,fun e q=>by cases q⟩,Nn.len hG.nn,(fun x hx=>by cases hx),rfl,fun t' ht'=>?_⟩
   have hl':ql ms≤t':=ht'.1
   have m':j3 0 0 ms t'=none:=by
    cases h:j3 0 0 ms t' with
    | none=>rfl
    | some r=>
     obtain⟨i,j⟩:=r
     obtain⟨_,l,h1,h2,h3,_⟩:=ja h
     rw [Nat.sub_zero] at h1 h2 h3
     have:=(hG.lt h1 (t:=t') (by omega) (by omega)).2
     omega
   unfold qO
   rw [m',qE2 hG.nn hl']
  | some x=>
  obtain⟨i,d⟩:=x
  obtain⟨_,m,hi,h2,h3,h4⟩:=xk hit
  rw [Nat.sub_zero] at hi h2 h3 h4
  have ed:t - d=qN ms i:=by omega
  have eRn:=xR (f:=f) hm hit hi
  have eTn:=qFt (F:=F) hm hit hi
  rw [ed] at eRn
  have other:∀ t',qN ms i≤t'→t' < qN ms i+m.mo→j3 0 0 ms t'=none→qO f ms t'=qKq f ms i m (t' - qN ms i) (qN ms i):=fun t' a1 a2 a3=>by
   have it':=wU (b:=0) (i0:=0) hG.nn hi (show 0+qN ms i≤t' by omega) (by omega)
   rw [Nat.zero_add,Int.zero_add] at it'
   have e2:t' - (t' - qN ms i)=qN ms i:=by omega
   rw [xR a3 it' hi,e2]
  clear hit
  have wm:=hG.wf _ (List.mem_of_getElem? hi)
  cases m with
  | mix l=>
   have h3:t < 0+qN ms i+0:=h3
   omega
  | clip n p q r s l=>
   have h3:t < 0+qN ms i+l:=h3
   obtain⟨w1,w2⟩:=(qCk hG hi (by omega) (by omega)).mp hm
   have eX:zJ ms i (qN ms i)=⟨qN ms i+tbF ms i,some (qN ms i+(l - teF ms i)),[⟨n,plP p q r s (tbF ms i),plQ p q r s (tbF ms i),r,s,1,1,0,1⟩]⟩:=by unfold zJ;rw [hi]
   have eRn:qO f ms t=zJ ms i (qN ms i):=eRn
   have eTn:jG F ms t=[⟨n,qFe p q r s d,1,1⟩]:=eTn
   rw [eRn,eX,eTn]
   have tb0:=qGh hG.wf i
   have te0:=qC9 hG.wf i
   refine⟨⟨w1,fun e q=>by cases q;exact w2⟩,by show 0≤qN ms i+tbF ms i;have:=nn i;omega,fun x hx=>?_,?_,fun t' ht'=>?_⟩
   · rw [List.mem_singleton] at hx
     subst hx
     exact⟨zE wm.1 wm.2.1,wm.2.1,wn wm.1 wm.2.1,(by show (0:Int) < 1;decide),(by show (0:Int) < 1;decide),(by show Int.gcd 1 1=1;decide)⟩
   · show [Pt.tell (Pt.later (t - (qN ms i+tbF ms i)) _)]=_
     unfold Pt.later Pt.tell
     dsimp only
     obtain⟨a1,a2⟩:=zl (p:=p) (r:=r) (lo:=tbF ms i) (k:=t - (qN ms i+tbF ms i)) wm.1 wm.2.1
     obtain⟨b1,b2⟩:=qGf (t - (qN ms i+tbF ms i))
     rw [a1,a2,b1,b2,qE3 wm.1 wm.2.1]
     have x1:tbF ms i+(t - (qN ms i+tbF ms i))=d:=by omega
     rw [x1]
   · obtain⟨g1,g2⟩:=ht'
     have g1:qN ms i+tbF ms i≤t':=g1
     have g2:=g2 _ rfl
     have m':=(qCk hG hi (t:=t') (by omega) (by omega)).mpr ⟨g1,g2⟩
     rw [other t' (by omega) (by show t' < qN ms i+l;omega) m']
     show zJ ms i (qN ms i)=_
     exact eX
  | nest nm b l=>
   have h3:t < 0+qN ms i+l:=h3
   obtain⟨hb,hP⟩:=hN nm b l (List.mem_of_getElem? hi)
   have eRn:qO f ms t=xo (f nm (b+d)) b l (qN ms i):=eRn
   have eTn:jG F ms t=F nm (b+d):=eTn
   have t1:0≤b+d:=by omega
   have hx:=hP.has _ t1
   have hpg:=hP.pg _ t1
   have htl:=hP.tell _ t1
   have hsm:=fun t'=>hP.same (b+d) t' t1
   generalize hX:f nm (b+d)=x at eRn hx hpg htl hsm
   rw [eRn,eTn]
   have nm':(Im.nest nm b l).wd≠"clip":=by show ("nest":Str)≠"clip";decide+kernel
   have hasN:∀ t',(xo x b l (qN ms i)).has t'↔x.has (b+(t' - qN ms i))∧qN ms i≤t'∧t' < qN ms i+l:=fun t'=>by
    unfold xo
    rw [within_has]
    constructor
    · rintro ⟨⟨q1,q2⟩,q3,q4⟩
      have q1:x.b+(qN ms i - b)≤t':=q1
      refine⟨⟨by omega,fun e q=>?_⟩,q3,q4 _ rfl⟩
      have:=q2 (e+(qN ms i - b)) (by show x.e.map _=_;rw [q];rfl)
      omega
    · rintro ⟨⟨q1,q2⟩,q3,q4⟩
      refine⟨⟨by show x.b+(qN ms i - b)≤t';omega,fun e q=>?_⟩,q3,fun e q=>by cases q;exact q4⟩
      have q:x.e.map (fun e=>e+(qN ms i - b))=some e:=q
      cases hx':x.e with
      | none=>rw [hx'] at q;cases q
      | some e'=>
       rw [hx'] at q
       have:=q2 e' hx'
       have q:some (e'+(qN ms i - b))=some e:=q
       cases q
       omega
   have ed':b+(t - qN ms i)=b+d:=by omega
   refine⟨(hasN t).mpr ⟨by rw [ed'];exact hx,by omega,by omega⟩,?_,?_,?_,fun t' ht'=>?_⟩
   · show 0≤mxI (qN ms i) (x.b+(qN ms i - b))
     have:=nn i
     have:=(qGr (i:=qN ms i) (j:=x.b+(qN ms i - b)) (t:=mxI (qN ms i) (x.b+(qN ms i - b)))).mp (Int.le_refl _)
     omega
   · exact qJh hpg _
   · have eb:(xo x b l (qN ms i)).b=mxI (qN ms i) (x.b+(qN ms i - b)):=rfl
     have ep:(xo x b l (qN ms i)).ps=x.ps.map (Pt.later (mxI (qN ms i) (x.b+(qN ms i - b)) - (x.b+(qN ms i - b)))):=rfl
     rw [eb,ep,List.map_map,← htl]
     refine List.map_congr_left fun y hy=>?_
     show Pt.tell (Pt.later _ (Pt.later _ y))=_
     rw [(hpg y hy).add]
     congr 2
     omega
   · obtain⟨g1,g2,g3⟩:=(hasN t').mp ht'
     have m':=qEa hG hi nm' g2 g3
     rw [other t' g2 g3 m']
     show xo (f nm (b+(t' - qN ms i))) b l (qN ms i)=xo x b l (qN ms i)
     rw [hsm _ g1]
  | gap l=>
   have h3:t < 0+qN ms i+l:=h3
   have nm':(Im.gap l).wd≠"clip":=by show ("gap":Str)≠"clip";decide+kernel
   have eRn:qO f ms t=⟨qN ms i,some (qN ms i+(Im.gap l).mo),[]⟩:=eRn
   have eTn:jG F ms t=[]:=eTn
   have el:(Im.gap l).mo=l:=rfl
   rw [eRn,eTn]
   refine⟨⟨by show qN ms i≤t;omega,fun e q=>by cases q;omega⟩,nn i,(fun x hx=>by cases hx),rfl,fun t' ht'=>?_⟩
   have g1:qN ms i≤t':=ht'.1
   have g2:=ht'.2 _ rfl
   exact other t' g1 g2 (qEa hG hi nm' g1 g2)
 exact⟨fun t h=>(key t h).1,fun t h=>(key t h).2.1,fun t h=>(key t h).2.2.1,fun t h=>(key t h).2.2.2.1,fun t t' h hh=>(key t h).2.2.2.2 t' hh⟩
def zR:Rn:=⟨0,none,[]⟩
def wlk (f:Str→Int→Rn)(t:Int):Rn→List (List Im)→Rn
 | r,[]=>r
 | r,ms::jZ=>if ((qO f ms t).within r.b r.e).ps.isEmpty then wlk f t ((qO f ms t).within r.b r.e) jZ else (qO f ms t).within r.b r.e
theorem qEf (i j:Int):i≤mxI i j∧j≤mxI i j:=by
 unfold mxI
 split <;> omega
theorem qEy {f:Str→Int→Rn}{F:Str→Int→List Te}{ms:List Im}(hP:qBr (qO f ms) (jG F ms)){t lo:Int}(t0:0≤t)(hi:Option Int):((qO f ms t).within lo hi).ps.map (fun x=>(x.later (t - ((qO f ms t).within lo hi).b)).tell)=jG F ms t:=by
 have hpg:=hP.pg t t0
 rw [← hP.tell t t0]
 generalize qO f ms t=x at hpg ⊢
 have eb:(x.within lo hi).b=mxI lo x.b:=rfl
 have ep:(x.within lo hi).ps=x.ps.map (Pt.later (mxI lo x.b - x.b)):=rfl
 rw [eb,ep,List.map_map]
 refine List.map_congr_left fun y hy=>?_
 show Pt.tell (Pt.later _ (Pt.later _ y))=_
 rw [(hpg y hy).add]
 congr 2
 omega
structure WkP (r:Rn)(g:Int→Rn)(T:List Te)(t:Int):Prop where
 has:(g t).has t
 b0:0≤(g t).b
 pg:∀ x∈(g t).ps,PtG x
 tell:(g t).ps.map (fun x=>(x.later (t - (g t).b)).tell)=T
 sub:∀ t',(g t).has t'→r.has t'
 same:∀ t',(g t).has t'→g t'=g t
theorem qEl {f:Str→Int→Rn}{F:Str→Int→List Te}:∀ (ts:List (List Im)) (r:Rn) (t:Int),(∀ ms∈ts,qBr (qO f ms) (jG F ms))→0≤t→r.has t→0≤r.b→r.ps=[]→WkP r (fun t=>wlk f t r ts) (j9 (ts.map fun ms=>jG F ms t)) t
 | [],r,t,_,t0,h1,h2,h3=>by
  refine⟨h1,h2,?_,?_,fun _ h=>h,fun _ _=>rfl⟩
  · show ∀ x∈r.ps,PtG x
    rw [h3]
    intro x hx
    cases hx
  · show r.ps.map _=[]
    rw [h3]
    rfl
 | ms::jZ,r,t,hP,t0,h1,h2,h3=>by
  have P:=hP ms (List.mem_cons_self ..)
  have hx:=P.has t t0
  have hpg:=P.pg t t0
  have hsm:=fun t'=>P.same t t' t0
  have htl:=qEy (lo:=r.b) P t0 r.e
  have hw:((qO f ms t).within r.b r.e).has t:=within_has.mpr ⟨hx,h1.1,h1.2⟩
  have hb:0≤((qO f ms t).within r.b r.e).b:=by
   have:=(qEf r.b (qO f ms t).b).1
   show 0≤mxI r.b (qO f ms t).b
   omega
  have hg:∀ x∈((qO f ms t).within r.b r.e).ps,PtG x:=qJh hpg _
  have ew:∀ t',wlk f t' r (ms::jZ)=if ((qO f ms t').within r.b r.e).ps.isEmpty then wlk f t' ((qO f ms t').within r.b r.e) jZ else (qO f ms t').within r.b r.e:=fun _=>rfl
  have sm:∀ t',((qO f ms t).within r.b r.e).has t'→qO f ms t'=qO f ms t:=fun t' h=>hsm t' (within_has.mp h).1
  have hsub:∀ t',((qO f ms t).within r.b r.e).has t'→r.has t':=fun t' h=>(within_has.mp h).2
  rw [List.map_cons,j9]
  cases hps:((qO f ms t).within r.b r.e).ps.isEmpty with
  | true=>
   have he:((qO f ms t).within r.b r.e).ps=[]:=List.isEmpty_iff.mp hps
   have hT:(jG F ms t).isEmpty=true:=by rw [← htl,he];rfl
   rw [if_pos hT]
   have ih:=qEl jZ ((qO f ms t).within r.b r.e) t (fun m hm=>hP m (List.mem_cons_of_mem _ hm)) t0 hw hb he
   have e1:wlk f t r (ms::jZ)=wlk f t ((qO f ms t).within r.b r.e) jZ:=by rw [ew,if_pos hps]
   refine⟨?_,?_,?_,?_,fun t' h=>?_,fun t' h=>?_⟩
   · show (wlk f t r (ms::jZ)).has t
     rw [e1];exact ih.has
   · show 0≤(wlk f t r (ms::jZ)).b
     rw [e1];exact ih.b0
   · show ∀ x∈(wlk f t r (ms::jZ)).ps,PtG x
     rw [e1];exact ih.pg
   · show (wlk f t r (ms::jZ)).ps.map (fun x=>(x.later (t - (wlk f t r (ms::jZ)).b)).tell)=_
     rw [e1];exact ih.tell
   · have h:(wlk f t r (ms::jZ)).has t':=h
     rw [e1] at h
     exact hsub t' (ih.sub t' h)
   · have h:(wlk f t r (ms::jZ)).has t':=h
     show wlk f t' r (ms::jZ)=wlk f t r (ms::jZ)
     rw [e1] at h ⊢
     rw [ew,sm t' (ih.sub t' h),if_pos hps]
     exact ih.same t' h
  | false=>
   have hT:¬ (jG F ms t).isEmpty=true:=by
    rw [← htl,List.isEmpty_map,hps]
    decide
   rw [if_neg hT]
   have e1:wlk f t r (ms::jZ)=(qO f ms t).within r.b r.e:=by rw [ew,hps,if_neg (by decide)]
   refine⟨?_,?_,?_,?_,fun t' h=>?_,fun t' h=>?_⟩
   · show (wlk f t r (ms::jZ)).has t
     rw [e1];exact hw
   · show 0≤(wlk f t r (ms::jZ)).b
     rw [e1];exact hb
   · show ∀ x∈(wlk f t r (ms::jZ)).ps,PtG x
     rw [e1];exact hg
   · show (wlk f t r (ms::jZ)).ps.map (fun x=>(x.later (t - (wlk f t r (ms::jZ)).b)).tell)=_
     rw [e1];exact htl
   · have h:(wlk f t r (ms::jZ)).has t':=h
     rw [e1] at h
     exact hsub t' h
   · have h:(wlk f t r (ms::jZ)).has t':=h
     show wlk f t' r (ms::jZ)=wlk f t r (ms::jZ)
     rw [e1] at h ⊢
     rw [ew,sm t' h,hps,if_neg (by decide)]
def qW (rm:Rms):Nat→Str→Int→Rn
 | 0,_,_=>zR
 | n+1,nm,t=>wlk (qW rm n) t zR ((rm nm).getD [])
def qGv (rm:Rms):Nat→Str→Prop
 | 0,_=>False
 | n+1,nm=>∃ ts,rm nm=some ts∧∀ ms∈ts,Geo ms∧∀ nm' b l,Im.nest nm' b l∈ms→0≤b∧qGv rm n nm'
theorem qEm (rm:Rms):∀ (n:Nat) (nm:Str),qGv rm n nm→qBr (qW rm n nm) (jx rm n nm)
 | 0,_,h=>h.elim
 | n+1,nm,⟨ts,hts,h⟩=>by
  have ih:∀ ms∈ts,qBr (qO (qW rm n) ms) (jG (jx rm n) ms):=fun ms hm=>qHv (h ms hm).1 fun nm' b l hn=>⟨((h ms hm).2 nm' b l hn).1,qEm rm n nm' ((h ms hm).2 nm' b l hn).2⟩
  have e1:∀ t,qW rm (n+1) nm t=wlk (qW rm n) t zR ts:=fun t=>by rw [qW,hts];rfl
  have e2:∀ t,jx rm (n+1) nm t=j9 (ts.map fun ms=>jG (jx rm n) ms t):=fun t=>by rw [jx,hts];rfl
  have w:∀ t,0≤t→WkP zR (fun t=>wlk (qW rm n) t zR ts) (j9 (ts.map fun ms=>jG (jx rm n) ms t)) t:=fun t t0=>qEl ts zR t ih t0 ⟨t0,fun e q=>by cases q⟩ (by decide) rfl
  refine⟨fun t t0=>?_,fun t t0=>?_,fun t t0=>?_,fun t t0=>?_,fun t t' t0 h=>?_⟩
  · rw [e1];exact(w t t0).has
  · rw [e1];exact(w t t0).b0
  · rw [e1];exact(w t t0).pg
  · rw [e1,e2];exact(w t t0).tell
  · rw [e1] at h ⊢
    rw [e1]
    exact(w t t0).same t' h
theorem qFn {f f':Str→Int→Rn}{ms:List Im}(h:∀ nm b l,Im.nest nm b l∈ms→f nm=f' nm)(t:Int):qO f ms t=qO f' ms t:=by
 unfold qO
 split
 · rfl
 · split
   · rfl
   · split
     · rename_i m hm
       cases m with
       | nest nm b l=>
        show xo (f nm _) b l _=xo (f' nm _) b l _
        rw [h nm b l (List.mem_of_getElem? hm)]
       | clip=>rfl
       | gap=>rfl
       | mix=>rfl
     · rfl
theorem vR {f f':Str→Int→Rn}(t:Int):∀ {ts:List (List Im)} {r:Rn},(∀ ms∈ts,∀ nm b l,Im.nest nm b l∈ms→f nm=f' nm)→wlk f t r ts=wlk f' t r ts
 | [],_,_=>rfl
 | ms::jZ,r,h=>by
  rw [wlk,wlk,qFn (h ms (List.mem_cons_self ..)) t,vR t fun m hm=>h m (List.mem_cons_of_mem _ hm)]
theorem vp (rm:Rms):∀ (n:Nat) (nm:Str),qGv rm n nm→∀ m,n≤m→qW rm m nm=qW rm n nm
 | 0,_,h,_,_=>h.elim
 | n+1,nm,⟨ts,hts,h⟩,m,hm=>by
  obtain⟨k,rfl⟩:∃ k,m=k+1:=⟨m - 1,by omega⟩
  funext t
  rw [qW,qW,hts]
  refine vR t fun ms hms nm' b l hn=>?_
  exact vp rm n nm' ((h ms hms).2 nm' b l hn).2 k (by omega)
theorem qG4 (rm:Rms):∀ (n:Nat) (nm:Str),qGv rm n nm→∀ m,n≤m→qGv rm m nm
 | 0,_,h,_,_=>h.elim
 | n+1,nm,⟨ts,hts,h⟩,m,hm=>by
  obtain⟨k,rfl⟩:∃ k,m=k+1:=⟨m - 1,by omega⟩
  exact⟨ts,hts,fun ms hms=>⟨(h ms hms).1,fun nm' b l hn=>⟨((h ms hms).2 nm' b l hn).1,qG4 rm n nm' ((h ms hms).2 nm' b l hn).2 k (by omega)⟩⟩⟩
theorem qD0 {rm:Rms}{N n:Nat}{nm:Str}(h:qGv rm n nm)(hn:n≤N)(t:Int):qW rm N nm t=wlk (qW rm N) t zR ((rm nm).getD []):=by
 have e1:=vp rm n nm h N hn
 have e2:=vp rm n nm h (N+1) (by omega)
 rw [e1,← e2]
 rfl
def FB (W p q r s:Int):Prop:=∃ p0 q0 k:Int,0 < q0∧0 < s∧p0.natAbs < 2 ^ 110∧q0.natAbs < 2 ^ 110∧r.natAbs < 2 ^ 110∧s.natAbs < 2 ^ 110∧p=plP p0 q0 r s k∧q=plQ p0 q0 r s k∧-2 ^ 61≤k∧k+W≤2 ^ 62
theorem FB.later {W p q r s j:Int}(h:FB W p q r s)(hj:0≤j):FB (W - j) (plP p q r s j) (plQ p q r s j) r s:=by
 obtain⟨p0,q0,k,h1,h2,h3,h4,h5,h6,rfl,rfl,h7,h8⟩:=h
 obtain⟨e1,e2⟩:=zl (p:=p0) (r:=r) (lo:=k) (k:=j) h1 h2
 exact⟨p0,q0,k+j,h1,h2,h3,h4,h5,h6,e1,e2,by omega,by omega⟩
theorem FB.sub {W W' p q r s:Int}(h:FB W p q r s)(hw:W'≤W):FB W' p q r s:=by
 obtain⟨p0,q0,k,h1,h2,h3,h4,h5,h6,e1,e2,h7,h8⟩:=h
 exact⟨p0,q0,k,h1,h2,h3,h4,h5,h6,e1,e2,h7,by omega⟩
theorem FB.sm {W p q r s:Int}(h:FB W p q r s)(hw:0≤W):0 < q∧0 < s∧Sm2 p∧Sm2 q∧Sm2 r∧Sm2 s:=by
 obtain⟨p0,q0,k,h1,h2,h3,h4,h5,h6,rfl,rfl,h7,h8⟩:=h
 have up:∀ {x:Int} {n:Nat},n≤700→x.natAbs < 2 ^ n→Sm2 x:=fun hn h=>Nat.lt_of_lt_of_le h (Nat.pow_le_pow_right (by decide) hn)
 have a1:=jB h3 h6
 have hk:k.natAbs < 2 ^ 63:=by omega
 have a2:=jB (jB hk h5) h4
 have a3:(p0*s+k*r*q0).natAbs < 2 ^ 284:=by
  have:(2:Nat) ^ (110+110) < 2 ^ 283:=Nat.pow_lt_pow_right (by decide) (by decide)
  have:(2:Nat) ^ 284=2 ^ 283+2 ^ 283:=by decide
  have:(2:Nat) ^ (63+110+110)=2 ^ 283:=rfl
  omega
 exact⟨zE h1 h2,h2,up (n:=284) (by decide) (Nat.lt_of_le_of_lt (qEp h1 h2) a3),up (n:=220) (by decide) (Nat.lt_of_le_of_lt (qDz h1 h2) (jB h4 h6)),up (n:=110) (by decide) h5,up (n:=110) (by decide) h6⟩
theorem FB.one {W p q r s:Int}(hq:0 < q)(hs:0 < s)(g:Int.gcd p q=1)(h1:p.natAbs < 2 ^ 110)(h2:q.natAbs < 2 ^ 110)(h3:r.natAbs < 2 ^ 110)(h4:s.natAbs < 2 ^ 110)(hw:W≤2 ^ 62):FB W p q r s:=by
 obtain⟨e1,e2⟩:=qBc (r:=r) (s:=s) hq hs g
 exact⟨p,q,0,hq,hs,h1,h2,h3,h4,e1.symm,e2.symm,by omega,by omega⟩
def PB (W:Int)(x:Pt):Prop:=FB W x.p x.q x.r x.s∧FB W x.a x.b x.c x.d
def Rn.bd (r:Rn):Prop:=∀ x∈r.ps,∃ e,r.e=some e∧PB (e - r.b) x
theorem qCe {b:Int}{e:Option Int}:(⟨b,e,[]⟩:Rn).bd:=fun x hx=>by cases hx
theorem wk {r:Rn}(h:r.bd)(lo:Int)(hi:Option Int):(r.within lo hi).bd:=fun y hy=>by
 obtain⟨x,hx,rfl⟩:=List.mem_map.mp (show y∈r.ps.map (Pt.later (mxI lo r.b - r.b)) from hy)
 obtain⟨e,he,f1,f2⟩:=h x hx
 have hj:=(qEf lo r.b).2
 have eb:(r.within lo hi).b=mxI lo r.b:=rfl
 have ee:(r.within lo hi).e=mnO (some e) hi:=by show mnO r.e hi=_;rw [he]
 obtain⟨e',h1,h2⟩:∃ e',mnO (some e) hi=some e'∧e'≤e:=by
  cases hi with
  | none=>exact⟨e,rfl,Int.le_refl _⟩
  | some y=>
   refine⟨_,rfl,?_⟩
   split <;> omega
 refine⟨e',by rw [ee,h1],?_,?_⟩
 · exact(f1.later (j:=mxI lo r.b - r.b) (by omega)).sub (by rw [eb];omega)
 · exact(f2.later (j:=mxI lo r.b - r.b) (by omega)).sub (by rw [eb];omega)
def Im.s:Im→Prop
 | .clip _ p q r s l=>0 < q∧0 < s∧p.natAbs < 2 ^ 110∧q.natAbs < 2 ^ 110∧r.natAbs < 2 ^ 110∧s.natAbs < 2 ^ 110∧1≤l∧l < 2 ^ 60
 | .nest _ b l=>0≤b∧b < 2 ^ 60∧1≤l∧l < 2 ^ 60
 | .gap l=>1≤l∧l < 2 ^ 60
 | .mix l=>1≤l∧l < 2 ^ 60
theorem qHl {x:Rn}(h:x.bd)(b l b0:Int):(xo x b l b0).bd:=by
 refine wk (fun y hy=>?_) _ _
 obtain⟨e,he,f⟩:=h y hy
 refine⟨e+(b0 - b),by show x.e.map _=_;rw [he];rfl,?_⟩
 have:e+(b0 - b) - (x.b+(b0 - b))=e - x.b:=by omega
 show PB (e+(b0 - b) - (x.b+(b0 - b))) y
 rw [this]
 exact f
theorem qI4 {f:Str→Int→Rn}{ms:List Im}(hG:Geo ms)(hs:∀ m∈ms,m.s){t:Int}(t0:0≤t)(hN:∀ nm b l d,Im.nest nm b l∈ms→0≤d→(f nm (b+d)).bd):(qO f ms t).bd:=by
 cases hm:j3 0 0 ms t with
 | some x=>
  obtain⟨i,j⟩:=x
  obtain⟨_,l,hi,h2,h3,h4⟩:=ja hm
  rw [Nat.sub_zero] at hi h2 h3 h4
  obtain⟨i1,⟨n,p,q,r,s,k,ha⟩,n',p',q',r',s',k',hb⟩:=hG.mx i l hi
  have l1:1≤l∧l < 2 ^ 60:=hs _ (List.mem_of_getElem? hi)
  obtain⟨c1,c2,c3,c4,c5,c6,c7,c8⟩:=hs _ (List.mem_of_getElem? ha)
  obtain⟨d1,d2,d3,d4,d5,d6,d7,d8⟩:=hs _ (List.mem_of_getElem? hb)
  have hl:=hlf l1.1
  have eR:qO f ms t=qC7 ms i (t - j):=by
   unfold qO
   rw [hm]
  rw [eR]
  have hl1:(l+1:Int)≠0:=by omega
  have up:∀ {x:Int} {n:Nat},n≤110→x.natAbs < 2 ^ n→x.natAbs < 2 ^ 110:=fun hn h=>Nat.lt_of_lt_of_le h (Nat.pow_le_pow_right (by decide) hn)
  have lw:∀ x:Int,x.natAbs < 2 ^ 61→(q9 x (l+1)).natAbs < 2 ^ 110∧(qm x (l+1)).natAbs < 2 ^ 110:=fun x hx=>⟨up (n:=61) (by decide) (Nat.lt_of_le_of_lt (kH hl1) hx),up (n:=61) (by decide) (Nat.lt_of_le_of_lt (kF hl1) (by omega))⟩
  unfold qC7
  rw [hi,ha,hb]
  refine fun y hy=>⟨t - j+l,rfl,?_⟩
  have ew:t - j+l - (t - j)=l:=by omega
  show PB (t - j+l - (t - j)) y
  rw [ew]
  rcases List.mem_cons.mp hy with rfl | hy
  · exact⟨⟨p,q,k+ -l.fdiv 2,c1,c2,c3,c4,c5,c6,rfl,rfl,by omega,by omega⟩,FB.one (jH hl1) (jH hl1) (xX hl1) (lw _ (by omega)).1 (lw _ (by omega)).2 (lw _ (by omega)).1 (lw _ (by omega)).2 (by omega)⟩
  · rw [List.mem_singleton] at hy
    subst hy
    exact⟨⟨p',q',-l.fdiv 2,d1,d2,d3,d4,d5,d6,rfl,rfl,by omega,by omega⟩,FB.one (jH hl1) (jH hl1) (xX hl1) (lw _ (by omega)).1 (lw _ (by omega)).2 (lw _ (by omega)).1 (lw _ (by omega)).2 (by omega)⟩
 | none=>
 cases hit:jN 0 0 ms t with
 | none=>
  have eR:qO f ms t=⟨ql ms,none,[]⟩:=by unfold qO;rw [hm,hit]
  rw [eR]
  exact qCe
 | some x=>
  obtain⟨i,d⟩:=x
  obtain⟨_,m,hi,h2,h3,h4⟩:=xk hit
  rw [Nat.sub_zero] at hi h2 h3 h4
  rw [xR hm hit hi]
  have hsm:=hs _ (List.mem_of_getElem? hi)
  cases m with
  | clip n p q r s l=>
   obtain⟨c1,c2,c3,c4,c5,c6,c7,c8⟩:=hsm
   show (zJ ms i (t - d)).bd
   unfold zJ
   rw [hi]
   refine fun y hy=>⟨t - d+(l - teF ms i),rfl,?_⟩
   rw [List.mem_singleton] at hy
   subst hy
   have tb0:=qGh hG.wf i
   have te0:=qC9 hG.wf i
   have hf:=hG.fit i n p q r s l hi
   have ew:t - d+(l - teF ms i) - (t - d+tbF ms i)=l - teF ms i - tbF ms i:=by omega
   show PB (t - d+(l - teF ms i) - (t - d+tbF ms i)) _
   rw [ew]
   exact⟨⟨p,q,tbF ms i,c1,c2,c3,c4,c5,c6,rfl,rfl,by omega,by omega⟩,FB.one (p:=1) (q:=1) (r:=0) (s:=1) (by decide) (by decide) (by decide) (by decide) (by decide) (by decide) (by decide) (by omega)⟩
  | nest nm b l=>exact qHl (hN nm b l d (List.mem_of_getElem? hi) (by omega)) _ _ _
  | gap l=>exact qCe
  | mix l=>exact qCe
theorem qD4 {f:Str→Int→Rn}{t:Int}:∀ (ts:List (List Im)) (r:Rn),(∀ ms∈ts,(qO f ms t).bd)→r.bd→(wlk f t r ts).bd
 | [],_,_,h=>h
 | ms::jZ,r,h,hr=>by
  have h1:=wk (h ms (List.mem_cons_self ..)) r.b r.e
  rw [wlk]
  split
  · exact qD4 jZ _ (fun m hm=>h m (List.mem_cons_of_mem _ hm)) h1
  · exact h1
def SmL (rm:Rms):Nat→Str→Prop
 | 0,_=>False
 | n+1,nm=>∃ ts,rm nm=some ts∧ts.length≤300∧∀ ms∈ts,ms.length≤300∧Geo ms∧(∀ m∈ms,m.s)∧∀ nm' b l,Im.nest nm' b l∈ms→SmL rm n nm'
theorem SmL.geo (rm:Rms):∀ (n:Nat) (nm:Str),SmL rm n nm→qGv rm n nm
 | 0,_,h=>h
 | n+1,nm,⟨ts,hts,_,h⟩=>⟨ts,hts,fun ms hm=>⟨(h ms hm).2.1,fun nm' b l hn=>⟨((h ms hm).2.2.1 _ hn).1,SmL.geo rm n nm' ((h ms hm).2.2.2 nm' b l hn)⟩⟩⟩
theorem Im.s_g {m:Im}(h:m.s):m.g:=by
 have up:∀ {x:Int},x.natAbs < 2 ^ 110→x.natAbs < 2 ^ 400:=fun h=>Nat.lt_of_lt_of_le h (Nat.pow_le_pow_right (by decide) (by decide))
 cases m with
 | clip n p q r s l=>exact⟨h.1,h.2.1,up h.2.2.1,up h.2.2.2.1,up h.2.2.2.2.1,up h.2.2.2.2.2.1,h.2.2.2.2.2.2.1,by have:=h.2.2.2.2.2.2.2;omega⟩
 | nest n b l=>exact⟨h.1,h.2.1,h.2.2.1⟩
 | gap l=>exact h.1
 | mix l=>exact h
theorem qIv (rm:Rms):∀ (n:Nat) (nm:Str),SmL rm n nm→∀ t,0≤t→(qW rm n nm t).bd
 | 0,_,h,_,_=>h.elim
 | n+1,nm,⟨ts,hts,_,h⟩,t,t0=>by
  rw [qW,hts]
  refine qD4 ts _ (fun ms hm=>?_) qCe
  obtain⟨_,hG,hs,hN⟩:=h ms hm
  refine qI4 hG hs t0 fun nm' b l d hn hd=>qIv rm n nm' (hN nm' b l hn) _ ?_
  have:=(hs _ hn).1
  omega
theorem qGw {f:Str→Int→Rn}{ms:List Im}(hG:Geo ms){t:Int}(t0:0≤t)(h:t < ql ms):∃ e,(qO f ms t).e=some e∧e≤ql ms:=by
 cases hm:j3 0 0 ms t with
 | some x=>
  obtain⟨i,j⟩:=x
  obtain⟨_,l,hi,h2,h3,h4⟩:=ja hm
  rw [Nat.sub_zero] at hi h2 h3 h4
  obtain⟨i1,⟨n,p,q,r,s,k,ha⟩,n',p',q',r',s',k',hb⟩:=hG.mx i l hi
  have eR:qO f ms t=qC7 ms i (t - j):=by
   unfold qO
   rw [hm]
  rw [eR]
  unfold qC7
  rw [hi,ha,hb]
  refine⟨t - j+l,rfl,?_⟩
  have l1:1≤l:=hG.wf _ (List.mem_of_getElem? hi)
  have:=hlf l1
  have:=(hG.lt hi (t:=qN ms i+(l - l.fdiv 2) - 1) (by omega) (by omega)).2
  omega
 | none=>
 cases hit:jN 0 0 ms t with
 | none=>have:=qDu hG.nn hit t0;omega
 | some x=>
  obtain⟨i,d⟩:=x
  obtain⟨_,m,hi,h2,h3,h4⟩:=xk hit
  rw [Nat.sub_zero] at hi h2 h3 h4
  rw [xR hm hit hi]
  have hk:=(glt hi)
  have hb:=bsM hG.nn (show i+1≤ms.length by omega)
  rw [bsS hi,bsL] at hb
  cases m with
  | clip n p q r s l=>
   show ∃ e,(zJ ms i (t - d)).e=some e∧e≤ql ms
   unfold zJ
   rw [hi]
   have te0:=qC9 hG.wf i
   have hb:qN ms i+l≤ql ms:=hb
   exact⟨_,rfl,by omega⟩
  | nest nm b l=>
   have hb:qN ms i+l≤ql ms:=hb
   show ∃ e,mnO (Option.map _ (f nm (b+d)).e) (some (t - d+l))=some e∧e≤ql ms
   cases (f nm (b+d)).e with
   | none=>exact⟨_,rfl,by omega⟩
   | some y=>
    refine⟨_,rfl,?_⟩
    split <;> omega
  | gap l=>exact⟨_,rfl,by omega⟩
  | mix l=>exact⟨_,rfl,by omega⟩
theorem qE8 {f:Str→Int→Rn}{ms:List Im}(hG:Geo ms){t:Int}(h:ql ms≤t):qO f ms t=⟨ql ms,none,[]⟩:=by
 have m':j3 0 0 ms t=none:=by
  cases h':j3 0 0 ms t with
  | none=>rfl
  | some r=>
   obtain⟨i,j⟩:=r
   obtain⟨_,l,h1,h2,h3,_⟩:=ja h'
   rw [Nat.sub_zero] at h1 h2 h3
   have:=(hG.lt h1 (t:=t) (by omega) (by omega)).2
   omega
 unfold qO
 rw [m',qE2 hG.nn h]
theorem qBy {f:Str→Int→Rn}{t M:Int}(t0:0≤t):∀ (ts:List (List Im)) (r:Rn),(∀ ms∈ts,Geo ms∧ql ms≤M)→(∀ e,r.e=some e→e≤M)→(∀ e,(wlk f t r ts).e=some e→e≤M)∧((wlk f t r ts).e=none→r.e=none∧∀ ms∈ts,ql ms≤t)
 | [],r,_,h=>⟨h,fun h=>⟨h,fun m hm=>by cases hm⟩⟩
 | ms::jZ,r,h,hr=>by
  obtain⟨hG,hM⟩:=h ms (List.mem_cons_self ..)
  have he:∀ e,((qO f ms t).within r.b r.e).e=some e→e≤M:=fun e q=>by
   have q:mnO (qO f ms t).e r.e=some e:=q
   have key:∀ e,(qO f ms t).e=some e→e≤M:=fun e q=>by
    by_cases hl:t < ql ms
    · obtain⟨e',h1,h2⟩:=qGw (f:=f) hG t0 hl
      rw [h1] at q
      cases q
      omega
    · rw [qE8 hG (by omega)] at q
      cases q
   cases h1:(qO f ms t).e with
   | none=>rw [h1] at q;exact hr e q
   | some x=>
    have:=key x h1
    rw [h1] at q
    cases h2:r.e with
    | none=>rw [h2] at q;cases q;exact this
    | some y=>
     have:=hr y h2
     rw [h2] at q
     cases q
     split <;> omega
  have hn:((qO f ms t).within r.b r.e).e=none→r.e=none∧ql ms≤t:=fun q=>by
   have q:mnO (qO f ms t).e r.e=none:=q
   by_cases hl:t < ql ms
   · obtain⟨e',h1,h2⟩:=qGw (f:=f) hG t0 hl
     rw [h1] at q
     cases h3:r.e with
     | none=>rw [h3] at q;cases q
     | some y=>rw [h3] at q;cases q
   · rw [qE8 hG (by omega)] at q
     exact⟨q,by omega⟩
  rw [wlk]
  split
  · obtain⟨i1,i2⟩:=qBy (f:=f) t0 jZ ((qO f ms t).within r.b r.e) (fun m hm=>h m (List.mem_cons_of_mem _ hm)) he
    refine⟨i1,fun q=>?_⟩
    obtain⟨j1,j2⟩:=i2 q
    obtain⟨k1,k2⟩:=hn j1
    refine⟨k1,fun m hm=>?_⟩
    rcases List.mem_cons.mp hm with rfl | hm
    · exact k2
    · exact j2 m hm
  · rename_i hps
    refine⟨he,fun q=>?_⟩
    obtain⟨k1,k2⟩:=hn q
    refine absurd ?_ hps
    show ((qO f ms t).ps.map _).isEmpty=true
    rw [qE8 hG k2]
    rfl
theorem qEj {rm:Rms}{N n:Nat}{nm:Str}{ts:List (List Im)}{t M:Int}(h:qGv rm n nm)(hn:n≤N)(hts:rm nm=some ts)(t0:0≤t)(hM:∀ ms∈ts,ql ms≤M)(ht:∃ ms∈ts,t < ql ms):∃ e,(qW rm N nm t).e=some e∧e≤M:=by
 obtain⟨n,rfl⟩:∃ k,n=k+1:=by
  cases n with
  | zero=>exact h.elim
  | succ k=>exact⟨k,rfl⟩
 obtain⟨ts',hts',hg⟩:=id h
 rw [hts] at hts'
 cases hts'
 rw [qD0 h hn,hts]
 obtain⟨w1,w2⟩:=qBy (f:=qW rm N) t0 ts zR (fun ms hm=>⟨(hg ms hm).1,hM ms hm⟩) (fun e q=>by cases q)
 show ∃ e,(wlk (qW rm N) t zR ts).e=some e∧e≤M
 cases he:(wlk (qW rm N) t zR ts).e with
 | none=>
  obtain⟨ms,hm,hl⟩:=ht
  have:=(w2 he).2 ms hm
  omega
 | some e=>exact⟨e,rfl,w1 e he⟩
abbrev Pc:=Int × List Pt
def Chn (g:Int→Rn):Int→List Pc→Int→Prop
 | b,[],e=>b=e
 | b,x::r,e=>1≤x.1∧g b=⟨b,some (b+x.1),x.2⟩∧Chn g (b+x.1) r e
theorem zB {g:Int→Rn}:∀ {L:List Pc} {b e e':Int} {ps:List Pt},Chn g b L e→g e=⟨e,some e',ps⟩→e < e'→Chn g b (L++[(e' - e,ps)]) e'
 | [],b,e,e',ps,h,h1,h2=>by
  have h:b=e:=h
  subst h
  have e1:b+(e' - b)=e':=by omega
  refine⟨by show 1≤e' - b;omega,?_,?_⟩
  · show g b=⟨b,some (b+(e' - b)),ps⟩
    rw [e1];exact h1
  · show b+(e' - b)=e'
    exact e1
 | x::r,b,e,e',ps,⟨h3,h4,h5⟩,h1,h2=>⟨h3,h4,zB h5 h1 h2⟩
theorem xS {g:Int→Rn}:∀ {L:List Pc} {b e:Int},Chn g b L e→(L.map Prod.fst).sum=e - b∧(L.length:Int)≤e - b∧∀ x∈L,1≤x.1
 | [],b,e,h=>by
  have h:b=e:=h
  subst h
  refine⟨by rw [Int.sub_self];rfl,by rw [Int.sub_self];exact Int.le_refl 0,fun x hx=>by cases hx⟩
 | x::r,b,e,⟨h1,h2,h3⟩=>by
  obtain⟨a1,a2,a3⟩:=xS h3
  refine⟨?_,?_,?_⟩
  · rw [List.map_cons,List.sum_cons,a1];omega
  · rw [List.length_cons];omega
  · intro y hy
    rcases List.mem_cons.mp hy with rfl | hy
    · exact h1
    · exact a3 y hy
theorem qDc {g:Int→Rn}{T:Int→List Te}(hP:qBr g T){t e:Int}{r:Rn}(t0:0≤t)(h:g t=r)(he:r.e=some e):(g e).b=e∧t < e:=by
 subst h
 have h1:=hP.has t t0
 have te:=h1.2 e he
 have h2:=hP.has e (by omega)
 refine⟨?_,te⟩
 by_cases hb:(g e).b≤e - 1
 · have h3:(g e).has (e - 1):=⟨hb,fun e' q=>by have:=h2.2 e' q;omega⟩
   have h4:(g t).has (e - 1):=⟨by have:=h1.1;omega,fun e' q=>by rw [he] at q;cases q;omega⟩
   have e1:=hP.same e (e - 1) (by omega) h3
   have e2:=hP.same t (e - 1) t0 h4
   have e3:g e=g t:=by rw [← e1,e2]
   have:=h2.2 e (by rw [e3];exact he)
   omega
 · have:=h2.1
   omega
theorem qD3 {g:Int→Rn}{T:Int→List Te}(hP:qBr g T):(g 0).b=0:=by
 have h1:=(hP.has 0 (by decide)).1
 have h2:=hP.b0 0 (by decide)
 omega
def Tq (K:W.Frag)(H:Hp)(z:Addr)(xs:List V):Prop:=H z=some (.tup xs)∨SqT K (fun _=>none) z xs
theorem Tq.sq {H:Hp}{z:Addr}{xs:List V}(h:Tq K H z xs):SqT K H z xs:=by
 rcases h with h | ((h | ⟨_,h⟩) | h)
 · exact SqT.of h
 · cases h
 · cases h
 · exact .inr h
theorem jo {H H':Hp}(e:TS H H'){z:Addr}{xs:List V}(h:Tq K H z xs):Tq K H' z xs:=h.imp (e _ _) id
def IsPt (K:W.Frag)(H:Hp)(x:Pt)(v:V):Prop:=∃ z s1 s2 s3 s4:Addr,v= .ref z∧Tq K H z [.str x.n,.ref s1,.ref s2,.ref s3,.ref s4]∧Tq K H s1 [.int x.p,.int x.q]∧Tq K H s2 [.int x.r,.int x.s]∧Tq K H s3 [.int x.a,.int x.b]∧Tq K H s4 [.int x.c,.int x.d]
theorem IsPt.ts {H H':Hp}(e:TS H H'){x:Pt}{v:V}(h:IsPt K H x v):IsPt K H' x v:=
 let ⟨z,s1,s2,s3,s4,h0,h1,h2,h3,h4,h5⟩:=h;⟨z,s1,s2,s3,s4,h0,jo e h1,jo e h2,jo e h3,jo e h4,jo e h5⟩
def IsPts (K:W.Frag)(H:Hp):List Pt→List V→Prop
 | [],[]=>True
 | x::xs,v::vs=>IsPt K H x v∧IsPts K H xs vs
 | _,_=>False
theorem IsPts.ts {H H':Hp}(e:TS H H'):∀ {xs:List Pt} {vs:List V},IsPts K H xs vs→IsPts K H' xs vs
 | [],[],_=>trivial
 | _::_,_::_,h=>⟨h.1.ts e,IsPts.ts e h.2⟩
 | [],_::_,h=>h.elim
 | _::_,[],h=>h.elim
theorem IsPts.len {H:Hp}:∀ {xs:List Pt} {vs:List V},IsPts K H xs vs→vs.length=xs.length
 | [],[],_=>rfl
 | _::_,_::_,h=>by rw [List.length_cons,List.length_cons,IsPts.len h.2]
 | [],_::_,h=>h.elim
 | _::_,[],h=>h.elim
theorem IsPts.get {H:Hp}:∀ {xs:List Pt} {vs:List V} {i:Nat} {v:V},IsPts K H xs vs→vs[i]? =some v→∃ x,xs[i]? =some x∧IsPt K H x v
 | [],[],_,_,_,h=>by simp at h
 | x::_,u::_,0,v,h,e=>by
  have e':u=v:=by simpa using e
  subst e'
  exact⟨x,rfl,h.1⟩
 | _::_,_::_,i+1,v,h,e=>by
  obtain⟨x,h1,h2⟩:=IsPts.get (i:=i) h.2 (by simpa using e)
  exact⟨x,by simpa using h1,h2⟩
 | [],_::_,_,_,h,_=>h.elim
 | _::_,[],_,_,h,_=>h.elim
theorem IsPts.app {H:Hp}:∀ {xs:List Pt} {vs:List V} {x:Pt} {v:V},IsPts K H xs vs→IsPt K H x v→IsPts K H (xs++[x]) (vs++[v])
 | [],[],_,_,_,h=>⟨h,trivial⟩
 | _::_,_::_,_,_,h,h'=>⟨h.1,IsPts.app h.2 h'⟩
 | [],_::_,_,_,h,_=>h.elim
 | _::_,[],_,_,h,_=>h.elim
def eV:Option Int→V
 | none=>.non
 | some e=>.int e
def IsRn (K:W.Frag)(H:Hp)(r:Rn)(v:V):Prop:=∃ (z pz:Addr) (pvs:List V),v= .ref z∧Tq K H z [.int r.b,eV r.e,.ref pz]∧Tq K H pz pvs∧IsPts K H r.ps pvs
theorem IsRn.ts {H H':Hp}(e:TS H H'){r:Rn}{v:V}(h:IsRn K H r v):IsRn K H' r v:=
 let ⟨z,pz,pvs,h0,h1,h2,h3⟩:=h;⟨z,pz,pvs,h0,jo e h1,jo e h2,h3.ts e⟩
theorem qBj {x y z:V}:atI [x,y,z] 0=some x:=rfl
theorem vN {x y z:V}:atI [x,y,z] 1=some y:=rfl
theorem qEn {x y z:V}:atI [x,y,z] 2=some z:=rfl
inductive qGa (K:W.Frag)(vs:List V)(H:Hp)(Q:VK)(_:XK):Prop
| mk (x y:V) (p q r s k:Int) (_:vs=[x,y,.int k]) (_:Pr K H x p q) (_:Pr K H y r s) (_:0 < q) (_:0 < s) (_:Sm2 p) (_:Sm2 q) (_:Sm2 r) (_:Sm2 s) (_:Sm2 k) (_:∀ z H',Same H H'→H' z=some (.tup [.int (plP p q r s k),.int (plQ p q r s k)])→Q (.ref z) H')
theorem qB5 (T:Tx K mg a):FnOk P w K mg base CX0 4 a.A17 a.B17 ["first","step","k"] (qGa K):=by
 refine T.D17.F.ok qFi (fun vs H Q E h=>?_) (fun cdv A outer s H vs Q E hr h=>?_)
 · obtain⟨x,y,p,q,r,s,k,rfl,_⟩:=h
   rfl
 refine qJ fun _ Y=>?_
 obtain⟨x,y,p,q,r,s',k,rfl,h1,h2,hq,hs,bp,bq,br,bs,bk,kk⟩:=h
 apply Y
 refine⟨_,(qG (qU (qI T.D3 (ww T) hr rfl (qA (pv 0) (qA (qI T.D4 (kZ T) hr rfl (qA (qI T.D2 (jI T) hr rfl (qA (pv 2) (qA qF qC))) (qA (pv 1) qC))) qC))))),?_⟩
 try dsimp only [xH,jD]
 refine⟨_,rfl,_,rfl,k,1,rfl,by decide,Nat.lt_of_lt_of_le (m:=2 ^ 1) (by decide) (Nat.pow_le_pow_right (by decide) (by decide)),fun u hu=>?_⟩
 have s1:=qE hu (.tup [.int (q9 k 1),.int (qm k 1)])
 obtain⟨l1,l2⟩:=qBu (p:=k) (q:=1) (by decide) (Int.gcd_one_right ..)
 have one:Sm 1:=Nat.lt_of_lt_of_le (m:=2 ^ 1) (by decide) (Nat.pow_le_pow_right (by decide) (by decide))
 refine⟨_,rfl,_,_,k,1,r,s',rfl,⟨u,rfl,?_⟩,h2.same s1,by decide,by omega,bk.sm,one,br.sm,bs.sm,fun x' hx=>?_⟩
 · have e:SqT K (upd H u (.tup [.int (q9 k 1),.int (qm k 1)])) u [.int (q9 k 1),.int (qm k 1)]:=SqT.of qD
   rw [l1,l2] at e ⊢
   exact e
 have s2:=s1.trans (qE hx (.tup [.int (q9 (k*r) (1*s')),.int (qm (k*r) (1*s'))]))
 have b1:(1*s')≠0:=by omega
 have n0:=jH (t:=k*r) b1
 have bm:Sm (q9 (k*r) (1*s')):=by
  refine Nat.lt_of_le_of_lt (kH b1) (Nat.lt_of_lt_of_le (jB bk br) (Nat.pow_le_pow_right (by decide) (by decide)))
 have bn:Sm (qm (k*r) (1*s')):=by
  refine Nat.lt_of_le_of_lt (kF b1) ?_
  rw [Int.one_mul]
  exact bs.sm
 refine⟨_,_,p,q,_,_,rfl,h1.same s2,⟨x',rfl,SqT.of qD⟩,by omega,by omega,bp.sm,bq.sm,bm,bn,fun u hu=>?_⟩
 obtain⟨e1,e2⟩:=qBn (p:=p) (r:=r) (k:=k) hq hs
 refine kk u _ (s2.trans (qE hu _)) ?_
 rw [qD,e1,e2]
 rfl
def PtS (x:Pt):Prop:=0 < x.q∧0 < x.s∧Sm2 x.p∧Sm2 x.q∧Sm2 x.r∧Sm2 x.s∧0 < x.b∧0 < x.d∧Sm2 x.a∧Sm2 x.b∧Sm2 x.c∧Sm2 x.d
theorem PB.s {W:Int}{x:Pt}(h:PB W x)(hw:0≤W):PtS x:=by
 obtain⟨h1,h2⟩:=h
 obtain⟨a1,a2,a3,a4,a5,a6⟩:=h1.sm hw
 obtain⟨b1,b2,b3,b4,b5,b6⟩:=h2.sm hw
 exact⟨a1,a2,a3,a4,a5,a6,b1,b2,b3,b4,b5,b6⟩
inductive vM (K:W.Frag)(vs:List V)(H:Hp)(Q:VK)(_:XK):Prop
| mk (pz:Addr) (pvs:List V) (ps:List Pt) (k:Int) (_:vs=[.ref pz,.int k]) (_:Tq K H pz pvs) (_:IsPts K H ps pvs) (_:ps.length≤2) (_:Sm2 k) (_:(∀ x∈ps,PtS x)) (_:∀ (z:Addr) (us:List V) (H':Hp),Same H H'→H' z=some (.tup us)→IsPts K H' (ps.map (Pt.later k)) us→Q (.ref z) H')
theorem vD (T:Tx K mg a):FnOk P w K mg base CX0 5 a.A18 a.B18 ["parts","k"] (vM K):=by
 refine T.D18.F.ok vK (fun vs H Q E h=>?_) (fun cdv A outer s H vs Q E hr h=>?_)
 · obtain⟨pz,pvs,ps,k,rfl,_⟩:=h
   rfl
 refine qJ fun _ Y=>?_
 obtain⟨pz,pvs,ps,k,rfl,hpz,hps,hl,bk,hS,kk⟩:=h
 apply Y
 refine⟨_,(qG (qU (kY vy rfl T.b_tuple rfl (qA (qFx ["k"] [1] rfl (qG1 (pv 0)) (fun _ _ _ _=>(qd (qA (pv 0) (qA (qI T.D17 (qB5 T) hr rfl (qA (pv 1) (qA (pv 2) (qA (pv 5) qC)))) (qA (pv 2) (qA (qI T.D17 (qB5 T) hr rfl (qA (pv 3) (qA (pv 4) (qA (pv 5) qC)))) (qA (pv 4) qC)))))))) qC)))),?_⟩
 try dsimp only [xH,jD]
 have hpl:=hps.len
 refine⟨_,rfl,pz,rfl,⟨_,hpz.sq⟩,qEq (K:=K) (a:=pz) (xs:=pvs) (fun i acc H'=>Same H H'∧IsPts K H' ((ps.take i).map (Pt.later k)) acc∧acc.length=i) ⟨Same.refl _,trivial,rfl⟩ ?_ ?_ ?_⟩
 · rintro i acc H' hi ⟨e,hA,hal⟩
   exact⟨(jo (qV e) hpz).sq,qf (by omega)⟩
 · rintro i v acc H' hi hv ⟨e,hA,hal⟩
   refine qJ fun _ Y=>?_
   obtain⟨x,hx,z,s1,s2,s3,s4,rfl,h0,h1,h2,h3,h4⟩:=(hps.ts (qV e)).get hv
   obtain⟨a1,a2,a3,a4,a5,a6,b1,b2,b3,b4,b5,b6⟩:=hS x (List.mem_of_getElem? hx)
   apply Y
   refine⟨z,_,_,_,_,_,rfl,h0.sq,?_⟩
   refine⟨_,rfl,_,rfl,_,rfl,_,rfl,_,_,x.p,x.q,x.r,x.s,k,rfl,⟨s1,rfl,h1.sq⟩,⟨s2,rfl,h2.sq⟩,a1,a2,a3,a4,a5,a6,bk,fun u1 H1 e1 k1=>?_⟩
   refine⟨_,rfl,_,rfl,_,rfl,_,rfl,_,_,x.a,x.b,x.c,x.d,k,rfl,⟨s3,rfl,(jo (qV e1) h3).sq⟩,⟨s4,rfl,(jo (qV e1) h4).sq⟩,b1,b2,b3,b4,b5,b6,bk,fun u2 H2 e2 k2=>?_⟩
   refine⟨_,rfl,sL5,fun f hf=>?_⟩
   have w3:=qE hf (.tup [.str x.n,.ref u1,.ref s2,.ref u2,.ref s4])
   have e3:=(e1.trans e2).trans w3
   refine Nxt.mk hi ⟨e.trans e3,?_,by simp [hal]⟩
   have ht:ps.take (i+1)=ps.take i++[x]:=by rw [List.take_add_one,hx];rfl
   rw [ht,List.map_append]
   exact(hA.ts (qV e3)).app ⟨f,u1,s2,u2,s4,rfl,.inl qD,.inl ((e2.trans w3) _ _ k1),jo (qV e3) h2,.inl (w3 _ _ k2),jo (qV e3) h4⟩
 rintro acc H1 ⟨e,hA,hal⟩ l hl'
 have w1:=qE hl' (.lst acc)
 refine⟨l,acc,rfl,.inl ⟨SqL.of qD,fun t ht=>?_⟩⟩
 rw [hpl,List.take_length] at hA
 have w2:=qE ht (.tup acc)
 exact kk t acc _ ((e.trans w1).trans w2) qD (hA.ts (qV (w1.trans w2)))
theorem mn_of {x y:Option Int}:((([x,y]:List (Option Int)).filterMap id)=[]→mnO x y=none)∧∀ m∈(([x,y]:List (Option Int)).filterMap id),(∀ n∈(([x,y]:List (Option Int)).filterMap id),m≤n)→mnO x y=some m:=by
 cases x with
 | none=>
  cases y with
  | none=>exact⟨fun _=>rfl,fun m hm=>by simp at hm⟩
  | some y=>
   refine⟨fun h=>by simp at h,fun m hm _=>?_⟩
   have:m=y:=by simpa using hm
   subst this;rfl
 | some x=>
  cases y with
  | none=>
   refine⟨fun h=>by simp at h,fun m hm _=>?_⟩
   have:m=x:=by simpa using hm
   subst this;rfl
  | some y=>
   refine⟨fun h=>by simp at h,fun m hm hn=>?_⟩
   have h1:=hn x (by simp)
   have h2:=hn y (by simp)
   have:m=x∨m=y:=by simpa using hm
   show some (if y < x then y else x)=some m
   congr 1
   split <;> omega
inductive vn (K:W.Frag)(vs:List V)(H:Hp)(Q:VK)(_:XK):Prop
| mk (v:V) (r:Rn) (lo:Int) (hi:Option Int) (_:vs=[v,.int lo,eV hi]) (_:IsRn K H r v) (_:r.ps.length≤2) (_:(∀ x∈r.ps,PtS x)) (_:Sm2 (mxI lo r.b - r.b)) (_:∀ (v':V) (H':Hp),Same H H'→IsRn K H' (r.within lo hi) v'→Q v' H')
theorem zN (T:Tx K mg a):FnOk P w K mg base CX0 6 a.A19 a.B19 ["run","low","high"] (vn K):=by
 refine T.D19.F.ok xF (fun vs H Q E h=>?_) (fun cdv A outer s H vs Q E hr h=>?_)
 · obtain⟨v,r,lo,hi,rfl,_⟩:=h
   rfl
 refine qJ fun _ Y=>?_
 obtain⟨v,r,lo,hi,rfl,⟨z,pz,pvs,rfl,hz,hpz,hps⟩,hl,hS,bk,kk⟩:=h
 apply Y
 refine⟨_,(qB (qP 3 xF.nd (qQ (qDl rfl) rfl T.b_max rfl (qA (pv 1) (qA (qX (pv 0)) qC))))
  (qB (qFu (i:=4) [] [] xF.nd rfl rfl rfl (qG1 (qd (qA (qX (pv 0)) (qA (pv 2) qC)))) (fun _ _ _ _=>(wR (qBe (pv 0)))) (fun _ _ _ _=>(pv 0)))
  (qG (qU (qd (qA (pv 3) (qA (qHh rfl rfl T.b_min (qA (pv 4) qC) wo) (qA (qI T.D18 (vD T) hr rfl (qA (qX (pv 0)) (qA (qL jQ (pv 3) (qX (pv 0))) qC))) qC)))))))),?_⟩
 try dsimp only [xH,jD]
 refine⟨_,rfl,_,rfl,z,_,_,_,rfl,rfl,hz.sq,qBj,_,_,rfl,?_⟩
 refine⟨_,rfl,z,_,_,_,rfl,rfl,hz.sq,vN,_,rfl,sL2,fun tz htz=>?_⟩
 have w1:=qE htz (.tup [eV r.e,eV hi])
 have kt:upd H tz (.tup [eV r.e,eV hi]) tz=some (.tup [eV r.e,eV hi]):=qD
 generalize upd H tz (.tup [eV r.e,eV hi])=H1 at w1 kt ⊢
 refine⟨tz,rfl,⟨_,SqT.of kt⟩,qEd (K:=K) (a:=tz) (xs:=[eV r.e,eV hi]) (fun i acc H'=>H'=H1∧acc=(((([r.e,hi]:List (Option Int)).take i).filterMap id).map V.int)∧acc.length≤i) ⟨rfl,rfl,Nat.le_refl _⟩ ?_ ?_ ?_⟩
 · rintro i acc H' hi' ⟨rfl,rfl,hal⟩
   have hi':i≤2:=hi'
   exact⟨SqT.of kt,qf (by omega)⟩
 · rintro i x acc H' hi' hx ⟨rfl,rfl,hal⟩
   refine qJ fun _ Y=>?_
   obtain⟨o,ho,rfl⟩:∃ o,([r.e,hi]:List (Option Int))[i]? =some o∧x=eV o:=by
    have e:([eV r.e,eV hi]:List V)=([r.e,hi]:List (Option Int)).map eV:=rfl
    rw [e,List.getElem?_map] at hx
    cases hq:([r.e,hi]:List (Option Int))[i]? with
    | none=>rw [hq] at hx;cases hx
    | some o=>rw [hq] at hx;exact⟨o,rfl,(Option.some.inj hx).symm⟩
   apply Y
   have et:(([r.e,hi]:List (Option Int)).take (i+1))=([r.e,hi]:List (Option Int)).take i++[o]:=by rw [List.take_add_one,ho];rfl
   cases o with
   | none=>
    refine⟨_,rfl,_,rfl,qH9 rfl (Nxt.mk hi' ⟨rfl,?_,by omega⟩)⟩
    rw [et,List.filterMap_append]
    simp
   | some e=>
    refine⟨_,rfl,_,rfl,qHu (by intro z;cases z) ⟨_,rfl,Nxt.mk hi' ⟨rfl,?_,by simp at hal ⊢;omega⟩⟩⟩
    rw [et,List.filterMap_append,List.map_append]
    rfl
 rintro acc H2 ⟨rfl,rfl,hal⟩ l hl'
 have e2:(([r.e,hi]:List (Option Int)).take [eV r.e,eV hi].length)=[r.e,hi]:=rfl
 rw [e2] at hal ⊢
 have w2:=qE hl' (.lst ((([r.e,hi]:List (Option Int)).filterMap id).map V.int))
 have kl:upd H2 l (.lst ((([r.e,hi]:List (Option Int)).filterMap id).map V.int)) l=some (.lst ((([r.e,hi]:List (Option Int)).filterMap id).map V.int)):=qD
 generalize upd H2 l (.lst ((([r.e,hi]:List (Option Int)).filterMap id).map V.int))=H3 at w2 kl ⊢
 have w3:=w1.trans w2
 refine⟨_,rfl,_,rfl,l,_,rfl,SqL.of kl,eV (mnO r.e hi),(fun h=>by rw [mn_of.1 h];rfl),(fun m hm hn=>by rw [mn_of.2 m hm hn];rfl),?_⟩
 refine⟨_,rfl,z,_,_,_,rfl,rfl,(jo (qV w3) hz).sq,qEn,_,rfl,_,rfl,z,_,_,_,rfl,rfl,(jo (qV w3) hz).sq,qBj,_,_,rfl,rfl,?_⟩
 refine⟨pz,pvs,r.ps,_,rfl,jo (qV w3) hpz,hps.ts (qV w3),hl,bk,hS,fun u us H4 w4 ku hu=>?_⟩
 refine⟨sL3,fun f hf=>?_⟩
 have w5:=qE hf (.tup [.int (mxI lo r.b),eV (mnO r.e hi),.ref u])
 exact kk _ _ ((w3.trans w4).trans w5) ⟨f,u,us,rfl,.inl qD,.inl (w5 _ _ ku),hu.ts (qV w5)⟩
inductive wE (K:W.Frag)(vs:List V)(H:Hp)(Q:VK)(_:XK):Prop
| mk (z:Addr) (ms:List Im) (i:Nat) (b0 l:Int) (_:vs=[.ref z,.int (i:Int),.int b0]) (_:Tr H z ms) (_:qJz ms) (_:(∀ m∈ms,m.s)) (_:ms[i]? =some (.mix l)) (_:∀ (v:V) (H':Hp),Same H H'→IsRn K H' (qC7 ms i b0) v→Q v H')
theorem v9 (T:Tx K mg a):FnOk P w K mg base CX0 6 a.A20 a.B20 ["track","place","begin"] (wE K):=by
 refine T.D20.F.ok qp (fun vs H Q E h=>?_) (fun cdv A outer s H vs Q E hr h=>?_)
 · obtain⟨z,ms,i,b0,l,rfl,_⟩:=h
   rfl
 refine qJ fun _ Y=>?_
 obtain⟨z,ms,i,b0,l,rfl,⟨xs,hz,his⟩,hok,hs,hm,kk⟩:=h
 apply Y
 refine⟨_,(qB (qP 3 qp.nd (qX (jC qi (pv 0) (pv 1) (fun _ _=>rfl))))
  (qB (qP 4 qp.nd (jC qi (pv 0) (qL jQ (pv 1) qF) (fun _ _=>rfl)))
  (qB (qP 5 qp.nd (jC qi (pv 0) (qL qg (pv 1) qF) (fun _ _=>rfl)))
  (qB (qP 6 qp.nd (qI T.D13 (vd T) hr rfl (qA (pv 3) (qA qF qC))))
  (qB (qP 7 qp.nd (zo jy (qI T.D10 (j4 T) hr rfl (qA (pv 3) qC))))
  (qB (qP 8 qp.nd (qd (qA (qX (pv 4)) (qA (qI T.D5 (xw T) hr rfl (qA (pv 4) (qA (qL qg (qX (pv 4)) (pv 7)) qC))) (qA (qX (pv 4)) (qA (qX (pv 6)) (qA (qI T.D2 (jI T) hr rfl (qA (zo jy qF) (qA (qL qg (pv 3) qF) qC))) qC)))))))
  (qB (qP 9 qp.nd (qd (qA (qX (pv 5)) (qA (qI T.D5 (xw T) hr rfl (qA (pv 5) (qA (pv 7) qC))) (qA (qX (pv 5)) (qA (qX (pv 6)) (qA (qI T.D2 (jI T) hr rfl (qA qF (qA (qL qg (pv 3) qF) qC))) qC)))))))
  (qG (qU (qd (qA (pv 2) (qA (qL qg (pv 2) (pv 3)) (qA (qd (qA (pv 8) (qA (pv 9) qC))) qC))))))))))))),?_⟩
 try dsimp only [xH,jD]
 refine qJ fun _ Y=>?_
 obtain⟨i1,⟨n,p,q,r,s1,k,ha⟩,n',p',q',r',s2,k',hb⟩:=hok i l hm
 obtain⟨l1,l60⟩:=hs _ (List.mem_of_getElem? hm)
 have ga:=Im.s_g (hs _ (List.mem_of_getElem? ha))
 have gb:=Im.s_g (hs _ (List.mem_of_getElem? hb))
 have el:qC7 ms i b0=⟨b0,some (b0+l),[⟨n,plP p q r s1 (k+ -l.fdiv 2),plQ p q r s1 (k+ -l.fdiv 2),r,s1,q9 (l - 0) (l+1),qm (l - 0) (l+1),q9 (-1) (l+1),qm (-1) (l+1)⟩,
  ⟨n',plP p' q' r' s2 (-l.fdiv 2),plQ p' q' r' s2 (-l.fdiv 2),r',s2,q9 (0+1) (l+1),qm (0+1) (l+1),q9 1 (l+1),qm 1 (l+1)⟩]⟩:=by
  unfold qC7;rw [hm,ha,hb]
 rw [el] at kk
 obtain⟨vm,hvm,Im⟩:=his.get' hm
 obtain⟨va,hva,Ia⟩:=his.get' ha
 obtain⟨vb,hvb,Ib⟩:=his.get' hb
 obtain⟨zm,rfl,hzm⟩:=id Im
 apply Y
 have am:atI xs (i:Int)=some (.ref zm):=qy hvm
 have aa:atI xs ((i:Int) - 1)=some va:=by
  have e:(i:Int) - 1=((i - 1:Nat):Int):=by omega
  rw [e];exact qy hva
 have ab:atI xs ((i:Int)+1)=some vb:=by
  have e:(i:Int)+1=((i+1:Nat):Int):=by omega
  rw [e];exact qy hvb
 have hS:=SqL.of (K:=K) hz
 refine⟨_,rfl,_,rfl,z,_,_,_,rfl,rfl,hS,am,ixT (SqT.of hzm) at1 ?_⟩
 refine⟨_,rfl,_,rfl,_,_,rfl,rfl,z,_,_,_,rfl,rfl,hS,aa,?_⟩
 refine⟨_,rfl,_,rfl,_,_,rfl,rfl,z,_,_,_,rfl,rfl,hS,ab,?_⟩
 refine⟨_,rfl,l,0,rfl,by decide,by omega,l60,fun sh H1 w1 ⟨sx,sy,hsh,hsx,hsy⟩=>?_⟩
 refine⟨_,rfl,l,rfl,_,rfl,?_⟩
 have Ia1:=Ia.ts (qV w1)
 have Ib1:=Ib.ts (qV w1)
 refine qJ fun _ Y=>?_
 obtain⟨za,xa,ya,rfl,hza,hxa,hya⟩:=id Ia1
 obtain⟨zb,xb,yb,rfl,hzb,hxb,hyb⟩:=id Ib1
 obtain⟨q0,s0,bp,bq,br,bs,k0,k1⟩:=id ga
 obtain⟨q0',s0',bp',bq',br',bs',_,_⟩:=id gb
 apply Y
 have hf:l.fdiv 2≤l∧0≤l.fdiv 2:=by
  have:=jt (p:=l) (q:=2) (by decide)
  omega
 have bk1:Sm2 (k+ -l.fdiv 2):=by
  have e:(2:Int) ^ 400+2 ^ 61 < 2 ^ 401:=by decide
  have:(k+ -l.fdiv 2).natAbs < 2 ^ 401:=by omega
  exact Nat.lt_of_lt_of_le this (Nat.pow_le_pow_right (by decide) (by decide))
 have bk2:Sm2 (-l.fdiv 2):=by
  have:(-l.fdiv 2).natAbs < 2 ^ 61:=by omega
  exact Nat.lt_of_lt_of_le this (Nat.pow_le_pow_right (by decide) (by decide))
 refine(ixO hza qId ⟨_,rfl,ixO hza qJr ⟨_,rfl,_,_,rfl,rfl,?_⟩⟩)
 refine⟨_,n,p,q,r,s1,k,_,rfl,qH1 Ia1,q0,s0,kA bp,kA bq,kA br,kA bs,bk1,fun u1 H2 w2 ku1=>?_⟩
 refine(ixO (w2 _ _ hza) qF5 (ixO (w2 _ _ hsh) at0 ?_))
 refine⟨_,rfl,_,rfl,_,_,rfl,rfl,_,_,rfl,by omega,p60 (by omega) (by omega),fun u2 hu2=>?_⟩
 have w3:=qE hu2 (.tup [.int (q9 (-1) (l+1)),.int (qm (-1) (l+1))])
 refine⟨sL5,fun f1 hf1=>?_⟩
 have w4:=qE hf1 (.tup [.str n,.ref u1,.ref ya,.ref sx,.ref u2])
 have ku2:=w4 _ _ (show upd H2 u2 (.tup [.int (q9 (-1) (l+1)),.int (qm (-1) (l+1))]) u2=some _ from qD)
 have kf1:upd (upd H2 u2 (.tup [.int (q9 (-1) (l+1)),.int (qm (-1) (l+1))])) f1 (.tup [.str n,.ref u1,.ref ya,.ref sx,.ref u2]) f1=some _:=qD
 have w24:=(w2.trans w3).trans w4
 have ku1':=(w3.trans w4) _ _ ku1
 generalize upd (upd H2 u2 (.tup [.int (q9 (-1) (l+1)),.int (qm (-1) (l+1))])) f1 (.tup [.str n,.ref u1,.ref ya,.ref sx,.ref u2])=H4 at ku2 kf1 w24 ku1' ⊢
 refine(ixO (w24 _ _ hzb) qId ⟨_,rfl,_,rfl,?_⟩)
 refine⟨_,n',p',q',r',s2,k',_,rfl,qH1 (Ib1.ts (qV w24)),q0',s0',kA bp',kA bq',kA br',kA bs',bk2,fun u3 H5 w5 ku3=>?_⟩
 have w25:=w24.trans w5
 refine(ixO (w25 _ _ hzb) qF5 (ixO (w25 _ _ hsh) at1 ?_))
 refine⟨_,rfl,_,_,rfl,rfl,_,_,rfl,by omega,p60 (by omega) (by omega),fun u4 hu4=>?_⟩
 have w6:=qE hu4 (.tup [.int (q9 1 (l+1)),.int (qm 1 (l+1))])
 refine⟨sL5,fun f2 hf2=>?_⟩
 have w7:=qE hf2 (.tup [.str n',.ref u3,.ref yb,.ref sy,.ref u4])
 refine⟨_,rfl,_,rfl,_,rfl,_,_,rfl,rfl,_,rfl,_,rfl,sL2,fun pz hpz=>?_⟩
 have w8:=qE hpz (.tup [.ref f1,.ref f2])
 refine⟨sL3,fun rz hrz=>?_⟩
 have w9:=qE hrz (.tup [.int b0,.int (b0+l),.ref pz])
 have w59:=((w5.trans w6).trans w7).trans (w8.trans w9)
 have w29:=w24.trans w59
 refine kk _ _ (w1.trans w29) ⟨rz,pz,[.ref f1,.ref f2],rfl,.inl qD,.inl (w9 _ _ qD),?_,?_,trivial⟩
 · exact⟨f1,u1,ya,sx,u2,rfl,.inl (w59 _ _ kf1),.inl (w59 _ _ ku1'),.inl (w29 _ _ hya),.inl (w29 _ _ hsx),.inl (w59 _ _ ku2)⟩
 · have w79:=w7.trans (w8.trans w9)
   exact⟨f2,u3,yb,sy,u4,rfl,.inl ((w8.trans w9) _ _ qD),.inl ((w6.trans w79) _ _ ku3),.inl (w29 _ _ hyb),.inl (w29 _ _ hsy),.inl (w79 _ _ qD)⟩
inductive vC (K:W.Frag)(vs:List V)(H:Hp)(Q:VK)(_:XK):Prop
| mk (z:Addr) (ms:List Im) (i:Nat) (b0:Int) (n:Str) (p q r s l:Int) (_:vs=[.ref z,.int (i:Int),.int b0]) (_:Tr H z ms) (_:(∀ m∈ms,m.s)) (_:ms[i]? =some (.clip n p q r s l)) (_:Sm2 (tbF ms i)) (_:∀ (v:V) (H':Hp),Same H H'→IsRn K H' (zJ ms i b0) v→Q v H')
theorem vG (T:Tx K mg a):FnOk P w K mg base CX0 6 a.A21 a.B21 ["track","place","begin"] (vC K):=by
 refine T.D21.F.ok jY (fun vs H Q E h=>?_) (fun cdv A outer s H vs Q E hr h=>?_)
 · obtain⟨z,ms,i,b0,n,p,q,r,s,l,rfl,_⟩:=h
   rfl
 refine qJ fun _ Y=>?_
 obtain⟨z,ms,i,b0,n,p,q,r,s1,l,rfl,tT,hs,hm,bt,kk⟩:=h
 obtain⟨xs,hz,his⟩:=id tT
 apply Y
 refine⟨_,(qB (qP 3 jY.nd (jC qi (pv 0) (pv 1) (fun _ _=>rfl)))
  (qB (qP 4 jY.nd (qI T.D15 (zz T) hr rfl (qA (pv 0) (qA (pv 1) qC))))
  (qB (qP 5 jY.nd (qL jQ (qX (pv 3)) (qI T.D16 (kM T) hr rfl (qA (pv 0) (qA (pv 1) qC)))))
  (qG (qU (qd (qA (qL qg (pv 2) (pv 4)) (qA (qL qg (pv 2) (pv 5)) (qA (qd (qA (qd (qA (qX (pv 3)) (qA (qI T.D5 (xw T) hr rfl (qA (pv 3) (qA (pv 4) qC))) (qA (qX (pv 3)) (qA (j8 (v:=.ref a.n_WHOLE_SHARE) rfl T.g_WHOLE_SHARE rfl) (qA (j8 (v:=.ref a.n_NOUGHT) rfl T.g_NOUGHT rfl) qC)))))) qC)) qC))))))))),?_⟩
 try dsimp only [xH,jD]
 have gm:=Im.s_g (hs _ (List.mem_of_getElem? hm))
 refine qJ fun _ Y=>?_
 obtain⟨q0,s0,bp,bq,br,bs,k0,k1⟩:=id gm
 have el:zJ ms i b0=⟨b0+tbF ms i,some (b0+(l - teF ms i)),[⟨n,plP p q r s1 (tbF ms i),plQ p q r s1 (tbF ms i),r,s1,1,1,0,1⟩]⟩:=by unfold zJ;rw [hm]
 rw [el] at kk
 obtain⟨vm,hvm,Im⟩:=his.get' hm
 obtain⟨zm,xm,ym,rfl,hzm,hxm,hym⟩:=id Im
 apply Y
 refine⟨_,rfl,_,rfl,z,_,_,_,rfl,rfl,SqL.of hz,qy hvm,?_⟩
 refine⟨_,rfl,_,rfl,z,ms,i,rfl,tT,?_⟩
 refine(ixO hzm qJr ⟨_,rfl,_,rfl,z,ms,i,rfl,tT,_,_,rfl,rfl,?_⟩)
 refine⟨_,rfl,_,rfl,_,_,rfl,rfl,_,rfl,_,rfl,_,_,rfl,rfl,ixO hzm qId ⟨_,rfl,_,rfl,?_⟩⟩
 refine⟨_,n,p,q,r,s1,l,_,rfl,qH1 Im,q0,s0,kA bp,kA bq,kA br,kA bs,bt,fun u1 H2 w2 ku1=>?_⟩
 refine(ixO (w2 _ _ hzm) qF5 ⟨sL5,fun f1 hf1=>?_⟩)
 have w3:=qE hf1 (.tup [.str n,.ref u1,.ref ym,.ref a.n_WHOLE_SHARE,.ref a.n_NOUGHT])
 refine⟨sL1,fun pz hpz=>?_⟩
 have w4:=qE hpz (.tup [.ref f1])
 refine⟨sL3,fun rz hrz=>?_⟩
 have w5:=qE hrz (.tup [.int (b0+tbF ms i),.int (b0+(l - teF ms i)),.ref pz])
 have w35:=(w3.trans w4).trans w5
 refine kk _ _ (w2.trans w35) ⟨rz,pz,[.ref f1],rfl,.inl qD,.inl (w5 _ _ qD),⟨f1,u1,ym,_,_,rfl,.inl ((w4.trans w5) _ _ qD),.inl (w35 _ _ ku1),.inl ((w2.trans w35) _ _ hym),.inr (T.sq_WHOLE_SHARE _),.inr (T.sq_NOUGHT _)⟩,trivial⟩
def RnsAt (K:W.Frag)(H:Hp)(R:List Rn)(rs:List V):Prop:=rs.length=R.length∧∀ (i:Nat) (r:Rn),R[i]? =some r→∃ x,rs[i]? =some x∧IsRn K H r x
theorem RnsAt.get {H:Hp}{R:List Rn}{rs:List V}(h:RnsAt K H R rs){i:Nat}{x:V}(hx:rs[i]? =some x):∃ r,R[i]? =some r∧IsRn K H r x:=by
 have hi:=(glt hx)
 obtain⟨r,hr⟩:∃ r,R[i]? =some r:=⟨_,List.getElem?_eq_getElem (by have:=h.1;omega)⟩
 obtain⟨x',h1,h2⟩:=h.2 i _ hr
 rw [hx] at h1
 cases h1
 exact⟨_,hr,h2⟩
theorem RnsAt.ts {H H':Hp}{R:List Rn}{rs:List V}(e:TS H H')(h:RnsAt K H R rs):RnsAt K H' R rs:=⟨h.1,fun i r hr=>let ⟨x,h1,h2⟩:=h.2 i r hr;⟨x,h1,h2.ts e⟩⟩
inductive wj (K:W.Frag)(vs:List V)(H:Hp)(Q:VK)(_:XK):Prop
| mk (l:Addr) (rs:List V) (R:List Rn) (t:Int) (_:vs=[.ref l,.int t]) (_:H l=some (.lst rs)) (_:RnsAt K H R rs) (_:∀ p:Nat,p≤R.length→(∀ r,R[p]? =some r→∀ e,r.e=some e→t < e)→Q (.int (p:Int)) H)
theorem wp (T:Tx K mg a):FnOk P w K mg base CX0 1 a.A25 a.B25 ["runs","moment"] (wj K):=by
 refine T.D25.F.ok jP (fun vs H Q E h=>?_) (fun cdv A outer s H vs Q E hr h=>?_)
 · obtain⟨l,rs,R,t,rfl,_⟩:=h
   rfl
 refine qJ fun _ Y=>?_
 obtain⟨l,rs,R,t,rfl,hl,hR,kk⟩:=h
 apply Y
 refine⟨_,(qB (qP 2 jP.nd qF)
  (qB (qP 3 jP.nd (qQ qc rfl T.b_len rfl (qA (pv 0) qC)))
  (qB (xf PassesOwn.never (qY vL (pv 2) (pv 3) (qh _)) (qB (qP 4 jP.nd (qL q8 (qL qg (pv 2) (pv 3)) qF))
  (qG (jc (PW.pt (z6 (wR (qBe (qX (jC qi (pv 0) (pv 4) (fun _ _=>rfl))))) (zd (qY qF9 (qX (jC qi (pv 0) (pv 4) (fun _ _=>rfl))) (pv 1) (qh _))))) (qG (qP 2 jP.nd (qL qg (pv 4) qF))) (qG (qP 3 jP.nd (pv 4)))))))
  (qG (qU (pv 2)))))),?_⟩
 try dsimp only [xH,jD]
 have hlen:=hR.1
 refine⟨_,rfl,l,_,rfl,.inl (SqL.of hl),?_⟩
 refine xg (fun σ H'=>H'=H∧∃ (lo hi:Nat) (v:Option V),σ=[some (.ref l),some (.int t),some (.int (lo:Int)),some (.int (hi:Int)),v]∧lo≤hi∧hi≤R.length∧∀ r,R[hi]? =some r→∀ e,r.e=some e→t < e)
  (fun σ _=>match σ with | [_,_,some (.int x),some (.int y),_]=>(y - x).toNat | _=>0) ⟨rfl,0,R.length,none,by rw [hlen];rfl,Nat.zero_le _,Nat.le_refl _,fun r hr=>by rw [List.getElem?_eq_none (Nat.le_refl _)] at hr;cases hr⟩ ?_ ?_
 · rintro σ H1 ⟨rfl,lo,hi,v,rfl,h1,h2,h3⟩
   refine⟨_,rfl,_,rfl,_,_,rfl,rfl,_,rfl,xI (fun c=>?_) (fun c=>?_)⟩
   · have c:(lo:Int) < (hi:Int):=by simpa using c
     have em:((lo:Int)+(hi:Int)).fdiv 2=(((lo+hi) / 2:Nat):Int):=by
      have:=jt (p:=(lo:Int)+(hi:Int)) (q:=2) (by decide)
      omega
     refine⟨_,rfl,_,rfl,_,_,rfl,rfl,_,_,rfl,rfl,cdB (by decide) (by decide),?_⟩
     rw [em]
     generalize hmid:(lo+hi) / 2=mid
     refine qJ fun _ Y=>?_
     obtain⟨r,hr'⟩:∃ r,R[mid]? =some r:=⟨_,List.getElem?_eq_getElem (by omega)⟩
     obtain⟨x,hx,z,pz,pvs,rfl,hz,_,_⟩:=hR.2 mid r hr'
     apply Y
     have b1:(((mid:Nat):Int) - (lo:Int)).toNat < ((hi:Int) - (lo:Int)).toNat:=by omega
     have b2:((hi:Int) - (((mid:Nat):Int)+1)).toNat < ((hi:Int) - (lo:Int)).toNat:=by omega
     refine⟨_,rfl,_,rfl,l,_,_,_,rfl,rfl,SqL.of hl,qy hx,z,_,_,_,rfl,rfl,hz.sq,vN,_,rfl,?_⟩
     cases he:r.e with
     | none=>exact qH9 rfl ⟨_,rfl,⟨rfl,lo,mid,_,rfl,by omega,by omega,fun r2 h2' e q=>by rw [hr'] at h2';cases h2';rw [he] at q;cases q⟩,b1⟩
     | some e=>
      refine qHu (by intro z;cases z) ?_
      rw [he] at hz
      refine⟨_,rfl,_,rfl,l,_,_,_,rfl,rfl,SqL.of hl,qy hx,z,_,_,_,rfl,rfl,hz.sq,vN,_,rfl,_,_,rfl,rfl,_,rfl,xI (fun c2=>?_) (fun c2=>?_)⟩
      · exact⟨_,rfl,_,_,rfl,rfl,⟨rfl,mid+1,hi,_,rfl,by omega,h2,h3⟩,b2⟩
      · have c2:¬ e≤t:=by simpa using c2
        exact⟨_,rfl,⟨rfl,lo,mid,_,rfl,by omega,by omega,fun r2 h2' e' q=>by rw [hr'] at h2';cases h2';rw [he] at q;cases q;omega⟩,b1⟩
   · have c:¬ (lo:Int) < (hi:Int):=by simpa using c
     obtain rfl:lo=hi:=by omega
     exact⟨_,rfl,kk lo h2 h3⟩
 · rintro σ H1 Q1 Q2 hq h
   refine qJ fun _ Y=>?_
   obtain⟨x,hx,y,hy,i,j,h1,h2,b,hb,z⟩:=h
   apply Y
   exact⟨x,hx,y,hy,i,j,h1,h2,b,hb,hq _ _ z⟩
theorem qJs {r:Rn}{t:Int}(hb:r.bd)(hh:r.has t):∀ x∈r.ps,PtS x:=fun x hx=>by
 obtain⟨e,he,hp⟩:=hb x hx
 have h1:=hh.1
 have h2:=hh.2 e he
 exact hp.s (by omega)
structure Kf (S S':Addr→Prop)(H H':Hp):Prop where
 keep:∀ b u,¬ S b→H b=some u→H' b=some u
 grow:∀ b,S' b→S b∨H b=none
 tup:TS H H'
theorem Kf.of {S:Addr→Prop}{H H':Hp}(e:Same H H'):Kf S S H H':=⟨fun b u _ h=>e b u h,fun _ h=>.inl h,qV e⟩
theorem Kf.trans {S S' S'':Addr→Prop}{H H' H'':Hp}(h1:Kf S S' H H')(h2:Kf S' S'' H' H''):Kf S S'' H H'':=by
 refine⟨fun b u hb h=>?_,fun b hb=>?_,fun b xs h=>h2.tup _ _ (h1.tup _ _ h)⟩
 · refine h2.keep b u (fun z=>?_) (h1.keep b u hb h)
   rcases h1.grow b z with q | q
   · exact hb q
   · rw [h] at q;cases q
 · rcases h2.grow b hb with q | q
   · exact h1.grow b q
   · by_cases hs:S b
     · exact .inl hs
     · refine .inr ?_
       cases hq:H b with
       | none=>rfl
       | some u=>
        have:=h1.keep b u hs hq
        rw [q] at this
        cases this
structure Bs (H0:Hp)(S:Addr→Prop)(H:Hp):Prop where
 same:Same H0 H
 free:∀ b,S b→H0 b=none
theorem Bs.kf {H0:Hp}{S S':Addr→Prop}{H H':Hp}(h:Bs H0 S H)(k:Kf S S' H H'):Bs H0 S' H':=by
 refine⟨fun b u hb=>k.keep b u (fun z=>?_) (h.same b u hb),fun b hb=>?_⟩
 · have:=h.free b z
   rw [hb] at this
   cases this
 · rcases k.grow b hb with q | q
   · exact h.free b q
   · cases hq:H0 b with
     | none=>rfl
     | some u=>
      have:=h.same b u hq
      rw [q] at this
      cases this
structure KnE (K:W.Frag)(f:Str→Int→Rn)(c:Nat)(S:Addr→Prop)(H:Hp)(nm:Str)(l:Addr)(rs:List V)(R:List Rn):Prop where
 sl:S l
 hl:H l=some (.lst rs)
 len:rs.length≤c
 rn:RnsAt K H R rs
 ok:∀ r∈R,∃ t0,0≤t0∧r=f nm t0
structure KnOk (K:W.Frag)(f:Str→Int→Rn)(c:Nat)(S:Addr→Prop)(kd:Addr)(kvs:List (Key × V))(H:Hp):Prop where
 hd:H kd=some (.dK kvs)
 sd:S kd
 len:kvs.length≤c
 ent:∀ nm v,jg kvs (Sum.inr nm)=some v→∃ l rs R,v= .ref l∧KnE K f c S H nm l rs R
 inj:∀ nm nm' l,jg kvs (Sum.inr nm)=some (.ref l)→jg kvs (Sum.inr nm')=some (.ref l)→nm=nm'
theorem KnE.up {f:Str→Int→Rn}{c c':Nat}{S S':Addr→Prop}{H H':Hp}{nm:Str}{l:Addr}{rs:List V}{R:List Rn}(h:KnE K f c S H nm l rs R)(hc:c≤c')(hS:S l→S' l)(hl:H' l=some (.lst rs))(e:TS H H'):KnE K f c' S' H' nm l rs R:=⟨hS h.sl,hl,Nat.le_trans h.len hc,h.rn.ts e,h.ok⟩
theorem KnOk.up {f:Str→Int→Rn}{c c':Nat}{S:Addr→Prop}{kd:Addr}{kvs:List (Key × V)}{H:Hp}(h:KnOk K f c S kd kvs H)(hc:c≤c'):KnOk K f c' S kd kvs H:=⟨h.hd,h.sd,Nat.le_trans h.len hc,fun nm v q=>let ⟨l,rs,R,e,h'⟩:=h.ent nm v q;⟨l,rs,R,e,h'.up hc id h'.hl fun _ _ z=>z⟩,h.inj⟩
theorem KnOk.same {f:Str→Int→Rn}{c:Nat}{S:Addr→Prop}{kd:Addr}{kvs:List (Key × V)}{H H':Hp}(e:Same H H')(h:KnOk K f c S kd kvs H):KnOk K f c S kd kvs H':=⟨e _ _ h.hd,h.sd,h.len,fun nm v q=>let ⟨l,rs,R,e',h'⟩:=h.ent nm v q;⟨l,rs,R,e',h'.up (Nat.le_refl _) id (e _ _ h'.hl) (qV e)⟩,h.inj⟩
def KvE (kvs kvs':List (Key × V)):Prop:=∀ nm v,jg kvs (Sum.inr nm)=some v→jg kvs' (Sum.inr nm)=some v
theorem KnOk.put {f:Str→Int→Rn}{c:Nat}{S:Addr→Prop}{kd l:Addr}{kvs:List (Key × V)}{H:Hp}{nm:Str}(h:KnOk K f c S kd kvs H)(hl:H l=none)(hn:jg kvs (Sum.inr nm)=none):
 KnOk K f (c+1) (fun b=>S b∨b=l) kd (jl kvs (Sum.inr nm) (.ref l)) (upd (upd H l (.lst [])) kd (.dK (jl kvs (Sum.inr nm) (.ref l))))∧Kf S (fun b=>S b∨b=l) H (upd (upd H l (.lst [])) kd (.dK (jl kvs (Sum.inr nm) (.ref l))))∧KvE kvs (jl kvs (Sum.inr nm) (.ref l))∧jg (jl kvs (Sum.inr nm) (.ref l)) (Sum.inr nm)=some (.ref l):=by
 have nk:l≠kd:=fun e=>by rw [e,h.hd] at hl;cases hl
 have keep:∀ b u,b≠kd→H b=some u→upd (upd H l (.lst [])) kd (.dK (jl kvs (Sum.inr nm) (.ref l))) b=some u:=fun b u hb hu=>by
  have hbl:b≠l:=fun e=>by rw [e,hl] at hu;cases hu
  rw [qK hb,qK hbl]
  exact hu
 have ts:TS H (upd (upd H l (.lst [])) kd (.dK (jl kvs (Sum.inr nm) (.ref l)))):=fun b xs hb=>keep b _ (fun e=>by rw [e,h.hd] at hb;cases hb) hb
 have self:jg (jl kvs (Sum.inr nm) (.ref l)) (Sum.inr nm)=some (.ref l):=by rw [jm,if_pos rfl]
 have oth:∀ {m:Str},m≠nm→jg (jl kvs (Sum.inr nm) (.ref l)) (Sum.inr m)=jg kvs (Sum.inr m):=fun {m} hm=>by
  rw [jm,if_neg (fun e=>hm (Sum.inr.inj e))]
 have old:∀ m l',jg kvs (Sum.inr m)=some (.ref l')→l'≠l:=fun m l' q e=>by
  obtain⟨l2,rs,R,e2,h'⟩:=h.ent m _ q
  cases e2
  have:=h'.hl
  rw [e,hl] at this
  cases this
 refine⟨⟨qD,.inl h.sd,?_,fun m v q=>?_,fun m m' l' q q'=>?_⟩,⟨fun b u hb hu=>keep b u (fun e=>hb (e ▸ h.sd)) hu,fun b hb=>hb.imp id fun(e:b=l)=>by rw [e];exact hl,ts⟩,fun m v q=>?_,self⟩
 · have:=jW kvs (Sum.inr nm) (.ref l)
   have:=h.len
   omega
 · by_cases hm:m=nm
   · subst hm
     rw [self] at q
     cases q
     refine⟨l,[],[],rfl,.inr rfl,?_,Nat.zero_le _,⟨rfl,fun i r hr=>by simp at hr⟩,fun r hr=>by cases hr⟩
     rw [qK nk,qD]
   · rw [oth hm] at q
     obtain⟨l',rs,R,rfl,h'⟩:=h.ent m v q
     refine⟨l',rs,R,rfl,h'.up (Nat.le_succ _) .inl (keep _ _ (fun e=>?_) h'.hl) ts⟩
     have:=h'.hl
     rw [e,h.hd] at this
     cases this
 · by_cases hm:m=nm
   · by_cases hm':m'=nm
     · rw [hm,hm']
     · subst hm
       rw [self] at q
       cases q
       rw [oth hm'] at q'
       exact absurd rfl (old m' l q')
   · by_cases hm':m'=nm
     · subst hm'
       rw [self] at q'
       cases q'
       rw [oth hm] at q
       exact absurd rfl (old m l q)
     · rw [oth hm] at q
       rw [oth hm'] at q'
       exact h.inj m m' l' q q'
 · by_cases hm:m=nm
   · subst hm
     rw [hn] at q;cases q
   · rw [oth hm];exact q
theorem qIn {H:Hp}{R:List Rn}{rs:List V}{r:Rn}{v:V}(h:RnsAt K H R rs)(hv:IsRn K H r v)(i:Nat):RnsAt K H (R.take i++r::R.drop i) (rs.take i++v::rs.drop i):=by
 have hl:=h.1
 refine⟨by simp [hl],fun k x hx=>?_⟩
 by_cases h1:k < min i R.length
 · rw [List.getElem?_append_left (by rw [List.length_take];omega),List.getElem?_take_of_lt (by omega)] at hx ⊢
   exact h.2 k x hx
 · rw [List.getElem?_append_right (by rw [List.length_take];omega),List.length_take] at hx ⊢
   rw [hl]
   by_cases h2:k - min i R.length=0
   · rw [h2] at hx ⊢
     have:r=x:=by simpa using hx
     subst this
     exact⟨v,by simp,hv⟩
   · obtain⟨j,hj⟩:∃ j,k - min i R.length=j+1:=⟨k - min i R.length - 1,by omega⟩
     rw [hj,List.getElem?_cons_succ,List.getElem?_drop] at hx ⊢
     exact h.2 _ x hx
theorem KnOk.ins {f:Str→Int→Rn}{c:Nat}{S:Addr→Prop}{kd l:Addr}{kvs:List (Key × V)}{H:Hp}{nm:Str}{rs:List V}{R:List Rn}{v:V}{t:Int}(h:KnOk K f c S kd kvs H)(hv:jg kvs (Sum.inr nm)=some (.ref l))(hE:KnE K f c S H nm l rs R)(hr:IsRn K H (f nm t) v)(t0:0≤t)(i:Nat):
 KnOk K f (c+1) S kd kvs (upd H l (.lst (rs.take i++v::rs.drop i)))∧Kf S S H (upd H l (.lst (rs.take i++v::rs.drop i))):=by
 have nk:kd≠l:=fun e=>by have:=hE.hl;rw [← e,h.hd] at this;cases this
 have ts:TS H (upd H l (.lst (rs.take i++v::rs.drop i))):=fun b xs hb=>by
  rw [qK (fun e=>by rw [e,hE.hl] at hb;cases hb)]
  exact hb
 refine⟨⟨by rw [qK nk];exact h.hd,h.sd,Nat.le_succ_of_le h.len,fun m u q=>?_,h.inj⟩,⟨fun b u hb hu=>by rw [qK (fun e:b=l=>hb (by rw [e];exact hE.sl))];exact hu,fun b hb=>.inl hb,ts⟩⟩
 obtain⟨l',rs',R',rfl,h'⟩:=h.ent m u q
 by_cases hl:l'=l
 · subst hl
   have:=h.inj m nm l' q hv
   subst this
   refine⟨l',_,R.take i++f m t::R.drop i,rfl,hE.sl,qD,?_,(qIn hE.rn hr i).ts ts,fun r hr=>?_⟩
   · have:=hE.len
     simp only [List.length_append,List.length_take,List.length_cons,List.length_drop]
     omega
   · rcases List.mem_append.mp hr with z | z
     · exact hE.ok r (List.mem_of_mem_take z)
     · rcases List.mem_cons.mp z with z | z
       · exact⟨t,t0,z⟩
       · exact hE.ok r (List.mem_of_mem_drop z)
 · exact⟨l',rs',R',rfl,h'.up (Nat.le_succ _) id (by rw [qK hl];exact h'.hl) ts⟩
def Pt.tr (x:Pt):D:=.tup [.leaf (.str x.n),.tup [.leaf (.int x.p),.leaf (.int x.q)],.tup [.leaf (.int x.r),.leaf (.int x.s)],.tup [.leaf (.int x.a),.leaf (.int x.b)],.tup [.leaf (.int x.c),.leaf (.int x.d)]]
theorem IsPt.rep {H:Hp}{x:Pt}{v:V}(h:IsPt K H x v):Rep K H x.tr v:=by
 obtain⟨z,s1,s2,s3,s4,rfl,h0,h1,h2,h3,h4⟩:=h
 have two:∀ {s:Addr} {i j:Int},Tq K H s [.int i,.int j]→Rep K H (.tup [.leaf (.int i),.leaf (.int j)]) (.ref s):=fun {s i j} h=>by
  unfold Rep;exact⟨s,_,rfl,h.sq,kE (xs:=[.int i,.int j]) rfl⟩
 unfold Pt.tr Rep
 refine⟨z,_,rfl,h0.sq,?_⟩
 unfold Reps Reps Reps Reps Reps Reps
 refine⟨?_,two h1,two h2,two h3,two h4,trivial⟩
 unfold Rep;exact⟨rfl,rfl⟩
theorem IsPts.rep {H:Hp}:∀ {xs:List Pt} {vs:List V},IsPts K H xs vs→Reps K H (xs.map Pt.tr) vs
 | [],[],_=>by unfold List.map Reps;trivial
 | _::_,_::_,h=>by unfold List.map Reps;exact⟨h.1.rep,h.2.rep⟩
 | [],_::_,h=>h.elim
 | _::_,[],h=>h.elim
theorem qEv:∀ ts:List Pt,zO (ts.map Pt.tr)≤3
 | []=>by simp [zO]
 | m::ms=>by
  have h2:=qEv ms
  have h1:dep m.tr≤3:=by simp [Pt.tr,dep,zO]
  unfold List.map zO
  omega
theorem neP {H:Hp}{x y:Addr}{pvs:List V}{ps:List Pt}{Q:VK}(h1:Tq K H x pvs)(hp:IsPts K H ps pvs)(h2:H y=some (.tup []))(q:Q (.bl (!ps.isEmpty)) H):qLc K true (.ref x) (.ref y) H Q:=by
 refine⟨.tup (ps.map Pt.tr),.tup [],?_,?_,rfl,by have:=qEv ps;unfold dep;omega,?_⟩
 · unfold Rep
   exact⟨x,pvs,rfl,h1.sq,hp.rep⟩
 · unfold Rep
   exact⟨y,[],rfl,SqT.of h2,by unfold Reps;trivial⟩
 · have e:eqD (.tup (ps.map Pt.tr)) (.tup [])=ps.isEmpty:=by cases ps <;> simp [eqD,xn]
   rw [e]
   exact q
structure Kin (K:W.Frag)(rm:Rms)(N T n c:Nat)(H0:Hp)(S:Addr→Prop)(rz kd:Addr)(kvs:List (Key × V))(H:Hp):Prop where
 room:RoomAt H0 rz rm
 bs:Bs H0 S H
 kn:KnOk K (qW rm N) c S kd kvs H
 hn:n≤N
 trs:∀ nm ts,rm nm=some ts→ts.length≤T
structure Kout (K:W.Frag)(rm:Rms)(N c':Nat)(S:Addr→Prop)(kd:Addr)(kvs:List (Key × V))(H:Hp)(S':Addr→Prop)(kvs':List (Key × V))(H':Hp):Prop where
 kf:Kf S S' H H'
 kn:KnOk K (qW rm N) c' S' kd kvs' H'
 kv:KvE kvs kvs'
theorem Kin.out {rm:Rms}{N T n n' c c':Nat}{H0:Hp}{S S':Addr→Prop}{rz kd:Addr}{kvs kvs':List (Key × V)}{H H':Hp}(h:Kin K rm N T n c H0 S rz kd kvs H)(o:Kout K rm N c' S kd kvs H S' kvs' H')(hn:n'≤N):Kin K rm N T n' c' H0 S' rz kd kvs' H':=⟨h.room,h.bs.kf o.kf,o.kn,hn,h.trs⟩
theorem Kin.same {rm:Rms}{N T n c:Nat}{H0:Hp}{S:Addr→Prop}{rz kd:Addr}{kvs:List (Key × V)}{H H':Hp}(h:Kin K rm N T n c H0 S rz kd kvs H)(e:Same H H'):Kin K rm N T n c H0 S rz kd kvs H':=⟨h.room,h.bs.kf (.of e),h.kn.same e,h.hn,h.trs⟩
theorem Kout.trans {rm:Rms}{N c1 c2:Nat}{S S1 S2:Addr→Prop}{kd:Addr}{kvs kv1 kv2:List (Key × V)}{H H1 H2:Hp}(a1:Kout K rm N c1 S kd kvs H S1 kv1 H1)(a2:Kout K rm N c2 S1 kd kv1 H1 S2 kv2 H2):Kout K rm N c2 S kd kvs H S2 kv2 H2:=⟨a1.kf.trans a2.kf,a2.kn,fun nm v q=>a2.kv nm v (a1.kv nm v q)⟩
theorem Kout.of {rm:Rms}{N T n c:Nat}{H0:Hp}{S:Addr→Prop}{rz kd:Addr}{kvs:List (Key × V)}{H H':Hp}(h:Kin K rm N T n c H0 S rz kd kvs H)(e:Same H H'):Kout K rm N c S kd kvs H S kvs H':=⟨.of e,h.kn.same e,fun _ _ q=>q⟩
theorem Kout.up {rm:Rms}{N c c':Nat}{S S':Addr→Prop}{kd:Addr}{kvs kvs':List (Key × V)}{H H':Hp}(h:Kout K rm N c S kd kvs H S' kvs' H')(hc:c≤c'):Kout K rm N c' S kd kvs H S' kvs' H':=⟨h.kf,h.kn.up hc,h.kv⟩
theorem SmL.run {rm:Rms}{N n:Nat}{nm:Str}(h:SmL rm n nm)(hn:n≤N):qBr (qW rm N nm) (jx rm n nm)∧∀ t,0≤t→(qW rm N nm t).bd∧(qW rm N nm t).ps.length≤2:=by
 have g:=SmL.geo rm n nm h
 have P:=qEm rm n nm g
 rw [vp rm n nm g N hn]
 refine⟨P,fun t t0=>⟨qIv rm n nm h t t0,?_⟩⟩
 have e:=congrArg List.length (P.tell t t0)
 rw [List.length_map] at e
 rw [e]
 exact zy rm n nm t
inductive zQ (K:W.Frag)(N n:Nat)(vs:List V)(H:Hp)(Q:VK)(_:XK):Prop
| mk (rz kd:Addr) (nm:Str) (t:Int) (rm:Rms) (T c:Nat) (H0:Hp) (S:Addr→Prop) (kvs:List (Key × V)) (_:vs=[.ref rz,.str nm,.int t,.ref kd]) (_:Kin K rm N T n c H0 S rz kd kvs H) (_:SmL rm n nm) (_:0≤t) (_:t+n*2 ^ 61 < 2 ^ 400) (_:c+(T+2) ^ n≤8000000) (_:∀ (v:V) (H':Hp) (S':Addr→Prop) (kvs':List (Key × V)),Kout K rm N (c+(T+2) ^ n) S kd kvs H S' kvs' H'→IsRn K H' (qW rm N nm t) v→Q v H')
inductive xp (K:W.Frag)(N n:Nat)(vs:List V)(H:Hp)(Q:VK)(_:XK):Prop
| mk (rz kd:Addr) (nv:V) (nm:Str) (b l b0 d:Int) (rm:Rms) (T c:Nat) (H0:Hp) (S:Addr→Prop) (kvs:List (Key × V)) (_:vs=[.ref rz,nv,.int b0,.int d,.ref kd]) (_:IsI H0 (.nest nm b l) nv) (_:Kin K rm N T n c H0 S rz kd kvs H) (_:SmL rm n nm) (_:0≤b) (_:b < 2 ^ 60) (_:0≤d) (_:b+d+n*2 ^ 61 < 2 ^ 400) (_:c+(T+2) ^ n≤8000000) (_:∀ (v:V) (H':Hp) (S':Addr→Prop) (kvs':List (Key × V)),Kout K rm N (c+(T+2) ^ n) S kd kvs H S' kvs' H'→IsRn K H' (xo (qW rm N nm (b+d)) b l b0) v→Q v H')
theorem z9 (T:Tx K mg a)(N n:Nat)(IH:∀ {base:Heap},FnOk P w K mg base CX0 (4*n+6) a.A26 a.B26 ["room","name","moment","known"] (zQ K N n)):
 FnOk P w K mg base CX0 (4*n+7) a.A22 a.B22 ["room","nest","begin","how_far","known"] (xp K N n):=by
 refine T.D22.F.ok jX (fun vs H Q E h=>?_) (fun cdv A outer s H vs Q E hrn h=>?_)
 · obtain⟨rz,kd,nv,nm,b,l,b0,d,rm,T',c,H0,S,kvs,rfl,_⟩:=h
   rfl
 refine qJ fun _ Y=>?_
 obtain⟨rz,kd,nv,nm,b,l,b0,d,rm,T',c,H0,S,kvs,rfl,hI,hK,hL,hb,hb1,hd,ht,hc,kk⟩:=h
 apply Y
 have hr:=hrn.mono (show 6≤4*n+6 by omega)
 refine⟨_,(qB (qP 5 jX.nd (qI T.D26 IH hrn rfl (qA (pv 0) (qA (qX (pv 1)) (qA (qL qg (qX (pv 1)) (pv 3)) (qA (pv 4) qC)))) (Nat.le_refl _)))
  (qB (qP 6 jX.nd (qL jQ (pv 2) (qX (pv 1))))
  (qB (vz (qP 7 jX.nd (qB1 (wR (qGu (qX (pv 5)))) wo (qL qg (qX (pv 5)) (pv 6)))))
  (qG (qU (qI T.D19 (zN T) hr rfl (qA (qd (qA (qL qg (qX (pv 5)) (pv 6)) (qA (pv 7) (qA (qX (pv 5)) qC)))) (qA (pv 2) (qA (qL qg (pv 2) (qX (pv 1))) qC))))))))),?_⟩
 try dsimp only [xH,jD]
 refine qJ fun _ Y=>?_
 obtain⟨z2,rfl,hz0⟩:=id hI
 apply Y
 have hz2:=hK.bs.same _ _ hz0
 have a1:atI [V.str "nest",.str nm,.int b,.int l] 1=some (.str nm):=rfl
 have a2:atI [V.str "nest",.str nm,.int b,.int l] 2=some (.int b):=rfl
 have a3:atI [V.str "nest",.str nm,.int b,.int l] 3=some (.int l):=rfl
 refine⟨_,rfl,ixO hz2 a1 (ixO hz2 a2 ⟨_,rfl,_,_,rfl,rfl,_,rfl,?_⟩)⟩
 refine⟨rz,kd,nm,b+d,rm,T',c,H0,S,kvs,rfl,hK,hL,by omega,ht,hc,fun v H1 S1 kv1 o1 hv=>?_⟩
 refine qJ fun _ Y=>?_
 obtain⟨hP,hbd⟩:=hL.run hK.hn
 have t0:0≤b+d:=by omega
 obtain⟨bd1,pl1⟩:=hbd _ t0
 apply Y
 have hh:=hP.has _ t0
 have hb0:=hP.b0 _ t0
 have hPS:=qJs bd1 hh
 generalize qW rm N nm (b+d)=x at hv bd1 pl1 hh hb0 hPS kk
 refine qJ fun _ Y=>?_
 obtain⟨z,pz,pvs,rfl,hz,hpz,hps⟩:=hv
 apply Y
 have hz3:H1 z2=some (.tup [.str "nest",.str nm,.int b,.int l]):=o1.kf.tup _ _ hz2
 refine⟨_,rfl,ixO hz3 a2 ⟨_,_,rfl,rfl,?_⟩⟩
 refine⟨fun σ' H'=>H'=H1∧σ'=[some (.ref rz),some (.ref z2),some (.int b0),some (.int d),some (.ref kd),some (.ref z),some (.int (b0 - b)),some (eV (x.e.map fun e=>e+(b0 - b)))],?_,?_⟩
 · refine⟨_,rfl,z,_,_,_,rfl,rfl,hz.sq,vN,_,rfl,?_⟩
   cases he:x.e with
   | none=>exact qDi ⟨rfl,rfl⟩
   | some e=>
    rw [he] at hz
    exact qCv ⟨_,rfl,z,_,_,_,rfl,rfl,hz.sq,vN,_,rfl,_,_,rfl,rfl,rfl,rfl⟩
 rintro σ' H' ⟨rfl,rfl⟩
 refine⟨_,rfl,z,_,_,_,rfl,rfl,hz.sq,qBj,_,rfl,_,_,rfl,rfl,_,rfl,_,rfl,z,_,_,_,rfl,rfl,hz.sq,qEn,sL3,fun f hf=>?_⟩
 have w1:=qE hf (.tup [.int (x.b+(b0 - b)),eV (x.e.map fun e=>e+(b0 - b)),.ref pz])
 have hR:IsRn K (upd H' f (.tup [.int (x.b+(b0 - b)),eV (x.e.map fun e=>e+(b0 - b)),.ref pz])) ⟨x.b+(b0 - b),x.e.map fun e=>e+(b0 - b),x.ps⟩ (.ref f):=⟨f,pz,pvs,rfl,.inl qD,jo (qV w1) hpz,hps.ts (qV w1)⟩
 refine⟨_,rfl,_,rfl,ixO (w1 _ _ hz3) a3 ⟨_,_,rfl,rfl,?_⟩⟩
 have bm:Sm2 (mxI b0 (x.b+(b0 - b)) - (x.b+(b0 - b))):=by
  have:(mxI b0 (x.b+(b0 - b)) - (x.b+(b0 - b))).natAbs < 2 ^ 60:=by unfold mxI;split <;> omega
  exact Nat.lt_of_lt_of_le this (Nat.pow_le_pow_right (by decide) (by decide))
 refine⟨_,⟨x.b+(b0 - b),x.e.map fun e=>e+(b0 - b),x.ps⟩,b0,some (b0+l),rfl,hR,pl1,hPS,bm,fun v' H2 w2 hv'=>?_⟩
 exact kk v' H2 S1 kv1 (o1.trans (Kout.of (hK.out o1 hK.hn) (w1.trans w2))) hv'
inductive qAl (K:W.Frag)(N n:Nat)(vs:List V)(H:Hp)(Q:VK)(_:XK):Prop
| mk (rz kd z:Addr) (ms:List Im) (t:Int) (rm:Rms) (T c:Nat) (H0:Hp) (S:Addr→Prop) (kvs:List (Key × V)) (_:vs=[.ref rz,.ref z,.int t,.ref kd]) (_:Tr H0 z ms) (_:Kin K rm N T n c H0 S rz kd kvs H) (_:ms.length≤300) (_:Geo ms) (_:(∀ m∈ms,m.s)) (_:(∀ nm b l,Im.nest nm b l∈ms→SmL rm n nm)) (_:0≤t) (_:t+n*2 ^ 61+2 ^ 60 < 2 ^ 400) (_:c+(T+2) ^ n≤8000000) (_:∀ (v:V) (H':Hp) (S':Addr→Prop) (kvs':List (Key × V)),Kout K rm N (c+(T+2) ^ n) S kd kvs H S' kvs' H'→IsRn K H' (qO (qW rm N) ms t) v→Q v H')
theorem qA0 (T:Tx K mg a)(N n:Nat)(IH:∀ {base:Heap},FnOk P w K mg base CX0 (4*n+7) a.A22 a.B22 ["room","nest","begin","how_far","known"] (xp K N n)):
 FnOk P w K mg base CX0 (4*n+8) a.A23 a.B23 ["room","track","moment","known"] (qAl K N n):=by
 refine T.D23.F.ok xM (fun vs H Q E h=>?_) (fun cdv A outer s H vs Q E hrn h=>?_)
 · obtain⟨rz,kd,z,ms,t,rm,T',c,H0,S,kvs,rfl,_⟩:=h
   rfl
 refine qJ fun _ Y=>?_
 obtain⟨rz,kd,z,ms,t,rm,T',c,H0,S,kvs,rfl,tT0,hK,hml,hG,hs,hN,t0,t1,hc,kk⟩:=h
 apply Y
 have hr:=hrn.mono (show 7≤4*n+7 by omega)
 refine⟨_,(qB (qP 4 xM.nd (qI T.D14 (qEc T) hr rfl (qA (pv 1) (qA (pv 2) qC))))
  (qB (jc (wR (qBe (pv 4))) (qG (qU (qI T.D20 (v9 T) hr rfl (qA (pv 1) (qA (qX (pv 4)) (qA (qL jQ (pv 2) (qX (pv 4))) qC)))))) qj)
  (qB (qP 5 xM.nd (qI T.D8 (qC5 T) hr rfl (qA (pv 1) (qA (pv 2) qC))))
  (qB (jc (wR (qGu (pv 5))) (qG (qU (qd (qA (qI T.D7 (xQ T) hr rfl (qA (pv 1) qC)) (qA wo (qA (qd qC) qC)))))) qj)
  (qB (qP 6 xM.nd (jC qi (pv 1) (qX (pv 5)) (fun _ _=>rfl)))
  (qB (qP 7 xM.nd (qL jQ (pv 2) (qX (pv 5))))
  (qB (jc (qY vI (qX (pv 6)) jF (qh _)) (qG (qU (qI T.D21 (vG T) hr rfl (qA (pv 1) (qA (qX (pv 5)) (qA (pv 7) qC)))))) qj)
  (qB (jc (qY vI (qX (pv 6)) jF (qh _)) (qG (qU (qI T.D22 IH hrn rfl (qA (pv 0) (qA (pv 6) (qA (pv 7) (qA (qX (pv 5)) (qA (pv 3) qC))))) (Nat.le_refl _)))) qj)
  (qG (qU (qd (qA (pv 7) (qA (qL qg (pv 7) (qI T.D6 (jk T) hr rfl (qA (pv 6) qC))) (qA (qd qC) qC)))))))))))))),?_⟩
 try dsimp only [xH,jD]
 have tT:=tT0.same hK.bs.same
 refine qJ fun _ Y=>?_
 obtain⟨xs,hz,his⟩:=id tT
 apply Y
 have up:∀ {H':Hp},Same H H'→Kout K rm N (c+(T'+2) ^ n) S kd kvs H S kvs H':=fun {H'} e=>(Kout.of hK e).up (Nat.le_add_right _ _)
 refine⟨_,rfl,_,rfl,z,ms,t,rfl,tT,hml,?_⟩
 cases hmf:j3 0 0 ms t with
 | some x=>
  obtain⟨i,j⟩:=x
  intro p H1 e1 hp
  have et:qO (qW rm N) ms t=qC7 ms i (t - j):=by unfold qO;rw [hmf]
  rw [et] at kk
  refine qJ fun _ Y=>?_
  obtain⟨l,_,hm,j0,j1⟩:=qBm hmf
  apply Y
  rw [Nat.sub_zero] at hm
  refine⟨_,rfl,_,rfl,qHu (by intro z;cases z) ?_⟩
  refine⟨_,rfl,ixO hp at0 ⟨_,rfl,ixO hp at1 ⟨_,_,rfl,rfl,?_⟩⟩⟩
  exact⟨z,ms,i,t - j,l,rfl,tT.same e1,hG.mx,hs,hm,fun v H2 e2 hv=>kk v H2 S kvs (up (e1.trans e2)) hv⟩
 | none=>
  intro H1 e1
  refine⟨_,rfl,_,rfl,qH9 rfl ?_⟩
  refine⟨_,rfl,_,rfl,z,ms,t,rfl,tT.same e1,?_⟩
  cases hit:jN 0 0 ms t with
  | none=>
   intro H2 e2
   have e12:=e1.trans e2
   have et:qO (qW rm N) ms t=⟨ql ms,none,[]⟩:=by unfold qO;rw [hmf,hit]
   rw [et] at kk
   refine⟨_,rfl,_,rfl,xI (fun _=>?_) (fun c=>absurd (by simp) c)⟩
   refine⟨_,rfl,z,ms,rfl,tT.same e12,hml,fun H3 e3=>?_⟩
   refine⟨sL0,fun pz hpz=>⟨sL3,fun y hy=>?_⟩⟩
   have w4:=qE hpz (.tup [])
   have w5:=qE hy (.tup [.int (ms.map Im.mo).sum,.non,.ref pz])
   exact kk _ _ S kvs (up (((e12.trans e3).trans w4).trans w5)) ⟨y,pz,[],rfl,.inl qD,.inl (w5 _ _ qD),trivial⟩
  | some x=>
   obtain⟨i,d⟩:=x
   intro p H2 e2 hp
   refine qJ fun _ Y=>?_
   obtain⟨d0,d1⟩:=qBv hit (fun m hm=>Im.s_g (hs m hm)) (by decide)
   obtain⟨_,m,hm⟩:=kX hit
   rw [Nat.sub_zero] at hm
   obtain⟨v,hv,hI⟩:=his.get' hm
   apply Y
   have e12:=e1.trans e2
   have hI2:=hI.ts (qV e12)
   rw [xR hmf hit hm] at kk
   refine⟨_,rfl,_,rfl,xI (fun c=>absurd c (by simp)) (fun _=>?_)⟩
   refine⟨_,rfl,ixO hp at0 ⟨z,_,_,_,rfl,rfl,SqL.of (e12 _ _ hz),qy hv,?_⟩⟩
   have hsm:=hs m (List.mem_of_getElem? hm)
   refine⟨_,rfl,ixO hp at1 ⟨_,_,rfl,rfl,?_⟩⟩
   refine qJ fun _ Y=>?_
   obtain⟨zi,xi,rfl,hzi,h0,h1⟩:=hI2.opn
   apply Y
   refine⟨_,rfl,zi,xi,_,_,rfl,rfl,SqT.of hzi,h0,rfl,_,rfl,?_⟩
   cases m with
   | clip nm p' q r s1 l=>
    refine xI (fun _=>?_) (fun c=>absurd (by show decide (V.str "clip"=V.str "clip")=true;simp) c)
    have hf:=hG.fit i _ _ _ _ _ _ hm
    have tb0:=qGh hG.wf i
    have te0:=qC9 hG.wf i
    have bt:Sm2 (tbF ms i):=by
     have:=hsm.2.2.2.2.2.2.2
     have:(tbF ms i).natAbs < 2 ^ 60:=by omega
     exact Nat.lt_of_lt_of_le this (Nat.pow_le_pow_right (by decide) (by decide))
    refine⟨_,rfl,ixO hp at0 ⟨_,rfl,?_⟩⟩
    exact⟨z,ms,i,t - d,nm,p',q,r,s1,l,rfl,tT.same e12,hs,hm,bt,fun v H3 e3 hv=>kk v H3 S kvs (up (e12.trans e3)) hv⟩
   | nest nm b l=>
    refine xI (fun c=>absurd (show decide (V.str "nest"=V.str "clip")=true from c) (by rw [qLa];decide+kernel)) (fun _=>?_)
    refine⟨_,rfl,zi,xi,_,_,rfl,rfl,SqT.of hzi,h0,rfl,_,rfl,?_⟩
    refine xI (fun _=>?_) (fun c=>absurd (by show decide (V.str "nest"=V.str "nest")=true;simp) c)
    refine qJ fun _ Y=>?_
    obtain⟨b0,b1,l1,_⟩:=hsm
    obtain⟨xs0,hz0,his0⟩:=id tT0
    have exs:xs0=xs:=by
     have:=hK.bs.same _ _ hz0
     rw [hz] at this
     cases this;rfl
    subst exs
    obtain⟨v0,hv0,hI0⟩:=his0.get' hm
    rw [hv] at hv0
    cases hv0
    apply Y
    refine⟨_,rfl,_,rfl,_,rfl,ixO hp at1 ⟨_,rfl,?_⟩⟩
    refine⟨rz,kd,_,nm,b,l,t - d,d,rm,T',c,H0,S,kvs,rfl,hI0,hK.same e12,hN nm b l (List.mem_of_getElem? hm),b0,b1,d0,by omega,hc,fun v H3 S3 kv3 o3 hv=>?_⟩
    exact kk v H3 S3 kv3 ((Kout.of hK e12).trans o3) hv
   | gap l=>
    refine xI (fun c=>absurd (show decide (V.str "gap"=V.str "clip")=true from c) (by rw [qLa];decide+kernel)) (fun _=>?_)
    refine⟨_,rfl,zi,xi,_,_,rfl,rfl,SqT.of hzi,h0,rfl,_,rfl,?_⟩
    refine xI (fun c=>absurd (show decide (V.str "gap"=V.str "nest")=true from c) (by rw [qLa];decide+kernel)) (fun _=>?_)
    refine⟨_,rfl,_,rfl,_,rfl,_,_,rfl,hI2,_,_,rfl,rfl,sL0,fun pz hpz=>⟨sL3,fun y hy=>?_⟩⟩
    have w4:=qE hpz (.tup [])
    have w5:=qE hy (.tup [.int (t - d),.int (t - d+(Im.gap l).mo),.ref pz])
    exact kk _ _ S kvs (up ((e12.trans w4).trans w5)) ⟨y,pz,[],rfl,.inl qD,.inl (w5 _ _ qD),trivial⟩
   | mix l=>
    refine qJ fun _ Y=>?_
    obtain⟨_,m',hm',h2',h3',_⟩:=xk hit
    rw [Nat.sub_zero] at hm' h2' h3'
    rw [hm] at hm'
    cases hm'
    apply Y
    have h3':t < 0+qN ms i+0:=h3'
    omega
inductive wy (K:W.Frag)(N n:Nat)(vs:List V)(H:Hp)(Q:VK)(_:XK):Prop
| mk (rz kd:Addr) (nm:Str) (t:Int) (rm:Rms) (T c:Nat) (H0:Hp) (S:Addr→Prop) (kvs:List (Key × V)) (_:vs=[.ref rz,.str nm,.int t,.ref kd]) (_:Kin K rm N T (n+1) c H0 S rz kd kvs H) (_:SmL rm (n+1) nm) (_:0≤t) (_:t+n*2 ^ 61+2 ^ 60 < 2 ^ 400) (_:c+T*(T+2) ^ n≤8000000) (_:∀ (v:V) (H':Hp) (S':Addr→Prop) (kvs':List (Key × V)),Kout K rm N (c+T*(T+2) ^ n) S kd kvs H S' kvs' H'→IsRn K H' (qW rm N nm t) v→Q v H')
theorem qA4 (T:Tx K mg a)(N n:Nat)(IH:∀ {base:Heap},FnOk P w K mg base CX0 (4*n+8) a.A23 a.B23 ["room","track","moment","known"] (qAl K N n)):
 FnOk P w K mg base CX0 (4*n+9) a.A24 a.B24 ["room","name","moment","known"] (wy K N n):=by
 refine T.D24.F.ok zU (fun vs H Q E h=>?_) (fun cdv A outer s H vs Q E hrn h=>?_)
 · obtain⟨rz,kd,nm,t,rm,T',c,H0,S,kvs,rfl,_⟩:=h
   rfl
 refine qJ fun _ Y=>?_
 obtain⟨rz,kd,nm,t,rm,T',c,H0,S,kvs,rfl,hK,hL,t0,t1,hc,kk⟩:=h
 apply Y
 have hr:=hrn.mono (show 8≤4*n+8 by omega)
 have hu:=hrn.units
 have hu1:=qCq hr
 refine⟨_,(qB (qP 4 zU.nd (j8 (v:=.ref a.n_NOTHING) rfl T.g_NOTHING rfl))
  (qB (vA PassesOwn.never rfl (xD (qX (qAv hu1 (qX (pv 0)) (pv 1) (fun _ _=>rfl)))) (jE (i:=5) zU.nd rfl (Or.inl rfl)) (qB (qP 4 zU.nd (qI T.D19 (zN T) hr rfl (qA (qI T.D23 IH hrn rfl (qA (pv 0) (qA (pv 5) (qA (pv 2) (qA (pv 3) qC)))) (Nat.le_refl _)) (qA (qX (pv 4)) (qA (qX (pv 4)) qC)))))
  (qG (jc (qY (qJt hu) (qX (pv 4)) (qd qC) (qh _)) (qG qFg) qj))))
  (qG (qU (pv 4))))),?_⟩
 try dsimp only [xH,jD]
 refine qJ fun _ Y=>?_
 obtain⟨ts,hts,htl,hlv⟩:=id hL
 apply Y
 rw [qD0 (SmL.geo rm _ nm hL) hK.hn,hts] at kk
 replace kk:∀ (v:V) (H':Hp) (S':Addr→Prop) (kvs':List (Key × V)),Kout K rm N (c+T'*(T'+2) ^ n) S kd kvs H S' kvs' H'→IsRn K H' (wlk (qW rm N) t zR ts) v→Q v H':=kk
 refine qJ fun _ Y=>?_
 obtain⟨re,td,dvs,h1,h2,h3⟩:=hK.room
 obtain⟨v,hv,tt,tl,ti,zs,rfl,h4,h5,h6⟩:=h3 nm ts hts
 apply Y
 have sm:=hK.bs.same
 have hlen:=h6.len
 have hT:=hK.trs nm ts hts
 refine(ixO (sm _ _ h1) at1 ⟨_,rfl,td,_,rfl,.inl ⟨dvs,Sum.inr nm,qDw sm h2,rfl,hv.symm⟩,ixT (SqT.of (sm _ _ h4)) at0 ?_⟩)
 refine⟨tl,rfl,⟨_,SqL.of (sm _ _ h5)⟩,v8 (K:=K) (a:=tl) (xs:=zs) (fun i σ H'=>∃ (o1:Option V) (v:V) (r:Rn) (S':Addr→Prop) (kvs':List (Key × V)),σ=[some (.ref rz),some (.str nm),some (.int t),some (.ref kd),some v,o1]∧Kout K rm N (c+i*(T'+2) ^ n) S kd kvs H S' kvs' H'∧IsRn K H' r v∧wlk (qW rm N) t zR ts=wlk (qW rm N) t r (ts.drop i)∧r.has t∧0≤r.b∧r.ps=[]) ⟨none,_,zR,S,kvs,rfl,(Kout.of hK (Same.refl _)).up (Nat.le_add_right _ _),⟨_,_,[],rfl,.inr (T.sq_NOTHING _),.inr (T.sq_NOTHING_2 _),trivial⟩,rfl,⟨t0,fun e q=>by cases q⟩,by decide,rfl⟩ ?_ ?_ ?_⟩
 · rintro i σ H' hi ⟨o1,v,r,S',kvs',rfl,o,_⟩
   exact SqL.of ((hK.bs.kf o.kf).same _ _ h5)
 · rintro i x σ H' hx ⟨o1,v,r,S',kvs',rfl,o,hv',hw,hh,hb,hps⟩
   refine qJ fun _ Y=>?_
   obtain⟨ms,z,hms,rfl,hTr⟩:=h6.get hx
   obtain⟨m1,m2,m3,m4⟩:=hlv ms (List.mem_of_getElem? hms)
   apply Y
   have hi:=(glt hms)
   have hK':Kin K rm N T' n (c+i*(T'+2) ^ n) H0 S' rz kd kvs' H':=hK.out o (by have:=hK.hn;omega)
   have hcc:c+i*(T'+2) ^ n+(T'+2) ^ n≤8000000:=by
    have e:(i+1)*(T'+2) ^ n≤T'*(T'+2) ^ n:=Nat.mul_le_mul_right _ (by omega)
    rw [Nat.succ_mul] at e
    omega
   have hon:=qHv (f:=qW rm N) (F:=jx rm n) m2 fun nm' b l hn=>⟨(m3 _ hn).1,((m4 nm' b l hn).run (by have:=hK.hn;omega)).1⟩
   have hbd:=qI4 (f:=qW rm N) (t:=t) m2 m3 t0 fun nm' b l d hn hd=>(((m4 nm' b l hn).run (by have:=hK.hn;omega)).2 _ (by have:=(m3 _ hn).1;omega)).1
   have hpl:(qO (qW rm N) ms t).ps.length≤2:=by
    have e:=congrArg List.length (hon.tell t t0)
    rw [List.length_map] at e
    rw [e]
    exact vQ (zy rm n) ms t
   have hx1:=hon.has t t0
   have hx2:=hon.b0 t t0
   have hPS:=qJs hbd hx1
   have hw1:((qO (qW rm N) ms t).within r.b r.e).has t:=within_has.mpr ⟨hx1,hh.1,hh.2⟩
   have bm:Sm2 (mxI r.b (qO (qW rm N) ms t).b - (qO (qW rm N) ms t).b):=by
    have:(mxI r.b (qO (qW rm N) ms t).b - (qO (qW rm N) ms t).b).natAbs < 2 ^ 400:=by
     have h1:=hh.1
     have h2:(0:Int)≤n*2 ^ 61:=Int.mul_nonneg (by omega) (by decide)
     unfold mxI
     split <;> omega
    exact Nat.lt_of_lt_of_le this (Nat.pow_le_pow_right (by decide) (by decide))
   rw [xL hms,wlk] at hw
   refine⟨_,rfl,_,rfl,_,rfl,_,rfl,rz,kd,z,ms,t,rm,T',_,H0,S',kvs',rfl,hTr,hK',m1,m2,m3,m4,t0,t1,hcc,fun u H1 S1 kv1 o1' hu'=>?_⟩
   generalize qO (qW rm N) ms t=y at hw hon hbd hpl hx1 hx2 hPS hw1 bm hu'
   have hv1:=hv'.ts o1'.kf.tup
   refine qJ fun _ Y=>?_
   obtain⟨zr,pz,pvs,rfl,hzr,hpz,hpv⟩:=id hv1
   apply Y
   refine⟨_,rfl,zr,_,_,_,rfl,rfl,hzr.sq,qBj,_,rfl,zr,_,_,_,rfl,rfl,hzr.sq,vN,?_⟩
   refine⟨u,y,r.b,r.e,rfl,hu',hpl,hPS,bm,fun u2 H2 e2 hu2=>?_⟩
   refine qJ fun _ Y=>?_
   obtain⟨zr2,pz2,pvs2,rfl,hzr2,hpz2,hpv2⟩:=id hu2
   apply Y
   refine⟨_,rfl,zr2,_,_,_,rfl,rfl,hzr2.sq,qEn,sL0,fun en hen=>?_⟩
   have w3:=qE hen (.tup [])
   have oo:=(o.trans o1').trans (Kout.of (hK'.out o1' hK'.hn) (e2.trans w3))
   have hb1:0≤(y.within r.b r.e).b:=by
    have:=(qEf r.b y.b).1
    show 0≤mxI r.b y.b
    omega
   refine neP (jo (qV w3) hpz2) (hpv2.ts (qV w3)) qD ⟨_,rfl,?_⟩
   cases hq:(y.within r.b r.e).ps.isEmpty with
   | true=>
    rw [hq,if_pos rfl] at hw
    refine qCv ⟨_,_,y.within r.b r.e,S1,kv1,rfl,?_,hu2.ts (qV w3),hw,hw1,hb1,List.isEmpty_iff.mp hq⟩
    rw [Nat.succ_mul,← Nat.add_assoc]
    exact oo
   | false=>
    rw [hq,if_neg (by decide)] at hw
    rw [hw] at kk
    refine qDi ⟨_,rfl,kk _ _ S1 kv1 (oo.up ?_) (hu2.ts (qV w3))⟩
    have e:(i+1)*(T'+2) ^ n≤T'*(T'+2) ^ n:=Nat.mul_le_mul_right _ (by omega)
    rw [Nat.succ_mul] at e
    omega
 · rintro σ H' ⟨o1,v,r,S',kvs',rfl,o,hv',hw,_⟩
   rw [hlen,List.drop_length] at hw
   rw [hw] at kk
   refine⟨_,rfl,kk _ _ S' kvs' (o.up ?_) hv'⟩
   rw [hlen]
   exact Nat.add_le_add_left (Nat.mul_le_mul_right _ hT) _
theorem qA3 (T:Tx K mg a)(N:Nat):FnOk P w K mg base CX0 6 a.A26 a.B26 ["room","name","moment","known"] (zQ K N 0):=by
 refine T.D26.F.ok xO (fun vs H Q E h=>?_) (fun cdv A outer s H vs Q E hrn h=>?_)
 · obtain⟨_,_,_,_,_,_,_,_,_,_,_,_,h,_⟩:=h
   exact h.elim
 · obtain⟨_,_,_,_,_,_,_,_,_,_,_,_,h,_⟩:=h
   exact h.elim
theorem qA7 (T:Tx K mg a)(N n:Nat)(IH:∀ {base:Heap},FnOk P w K mg base CX0 (4*n+9) a.A24 a.B24 ["room","name","moment","known"] (wy K N n)):
 FnOk P w K mg base CX0 (4*n+10) a.A26 a.B26 ["room","name","moment","known"] (zQ K N (n+1)):=by
 refine T.D26.F.ok xO (fun vs H Q E h=>?_) (fun cdv A outer s H vs Q E hrn h=>?_)
 · obtain⟨rz,kd,nm,t,rm,T',c,H0,S,kvs,rfl,_⟩:=h
   rfl
 refine qJ fun _ Y=>?_
 obtain⟨rz,kd,nm,t,rm,T',c,H0,S,kvs,rfl,hK,hL,t0,t1,hc,kk⟩:=h
 apply Y
 have hr:=hrn.mono (show 9≤4*n+9 by omega)
 have hu1:=qCq hr
 refine⟨_,(qB (qP 4 xO.nd (qGg (pv 3) (pv 1) (jO qC) ⟨rfl,rfl,rfl,rfl⟩))
  (qB (qP 5 xO.nd (qI T.D25 (wp T) hr rfl (qA (pv 4) (qA (pv 2) qC))))
  (qB (jc (qGz (PW.pt (z6 (qY vL (pv 5) (qQ qc rfl T.b_len rfl (qA (pv 4) qC)) (qh _)) (zd (qY qF9 (qX (jC qi (pv 4) (pv 5) (fun _ _=>rfl))) (pv 2) (qh _)))))) (qG (qU (jC qi (pv 4) (pv 5) (fun _ _=>rfl)))) qj)
  (qB (qP 6 xO.nd (qI T.D24 IH hrn rfl (qA (pv 0) (qA (pv 1) (qA (pv 2) (qA (pv 3) qC)))) (Nat.le_refl _)))
  (qB (xA (wH F.plainAttrs_list F.slot_list_insert F.type_list_insert qCr (pv 4) (qA (pv 5) (qA (pv 6) qC))))
  (qG (qU (pv 6)))))))),?_⟩
 try dsimp only [xH,jD]
 have ep:(T'+2) ^ (n+1)=T'*(T'+2) ^ n+2*(T'+2) ^ n:=by rw [Nat.pow_succ,Nat.mul_comm,Nat.add_mul]
 have p1:1≤(T'+2) ^ n:=Nat.one_le_pow _ _ (by omega)
 rw [ep] at hc kk
 have hcG:c+1+T'*(T'+2) ^ n≤8000000:=by omega
 refine⟨_,rfl,kd,rfl,.inl ⟨_,.inl hK.kn.hd⟩,_,rfl,sL0,fun l0 hl0=>?_⟩
 have w0:=qE hl0 (.lst [])
 have hkl:=hK.kn.len
 refine qJ fun _ Y=>?_
 obtain⟨l,H4,S1,kv1,hcase,o1,hval⟩:∃ (l:Addr) (H4:Hp) (S1:Addr→Prop) (kv1:List (Key × V)),((jg kvs (Sum.inr nm)=some (.ref l)∧H4=upd H l0 (.lst []))∨(jg kvs (Sum.inr nm)=none∧V.ref l= .ref l0∧H4=upd (upd H l0 (.lst [])) kd (.dK (jl kvs (Sum.inr nm) (.ref l0)))))∧Kout K rm N (c+1) S kd kvs H S1 kv1 H4∧jg kv1 (Sum.inr nm)=some (.ref l):=by
  cases hv:jg kvs (Sum.inr nm) with
  | some v=>
   obtain⟨l,rs,R,rfl,hE⟩:=hK.kn.ent nm v hv
   exact⟨l,_,S,kvs,.inl ⟨rfl,rfl⟩,(Kout.of hK w0).up (Nat.le_succ _),hv⟩
  | none=>
   obtain⟨k1,k2,k3,k4⟩:=hK.kn.put hl0 hv
   exact⟨l0,_,_,_,.inr ⟨rfl,rfl,rfl⟩,⟨k2,k1,k3⟩,k4⟩
 apply Y
 refine⟨kvs,Sum.inr nm,w0 _ _ hK.kn.hd,rfl,Nat.le_trans (show kvs.length+1≤8000001 by omega) (by decide),.ref l,H4,hcase,?_⟩
 clear hcase
 refine qJ fun _ Y=>?_
 obtain⟨l',rs,R,e',hE⟩:=o1.kn.ent nm _ hval
 cases e'
 apply Y
 have hlen:=hE.rn.1
 have hrl:=hE.len
 refine⟨_,rfl,_,rfl,l,rs,R,t,rfl,hE.hl,hE.rn,fun p hp hpe=>?_⟩
 refine⟨fun b H'=>H'=H4∧(b=true→∃ r x,R[p]? =some r∧rs[p]? =some x∧r.b≤t),?_,?_⟩
 · refine⟨_,rfl,_,rfl,l,_,rfl,.inl (SqL.of hE.hl),_,_,rfl,rfl,_,rfl,xI (fun c1=>?_) (fun c1=>?_)⟩
   · have c1:(p:Int) < ((rs.length:Nat):Int):=by simpa using c1
     refine qJ fun _ Y=>?_
     obtain⟨r,hr'⟩:∃ r,R[p]? =some r:=⟨_,List.getElem?_eq_getElem (by omega)⟩
     obtain⟨x,hx,z,pz,pvs,rfl,hz,_,_⟩:=hE.rn.2 p r hr'
     apply Y
     refine⟨_,rfl,_,rfl,l,_,_,_,rfl,rfl,SqL.of hE.hl,qy hx,z,_,_,_,rfl,rfl,hz.sq,qBj,_,rfl,_,_,rfl,rfl,_,rfl,rfl,fun c2=>?_⟩
     exact⟨r,_,hr',hx,by simpa using c2⟩
   · exact⟨rfl,fun z=>by cases z⟩
 rintro b H' ⟨rfl,hb⟩
 obtain⟨hP,_⟩:=hL.run hK.hn
 refine xI (fun c1=>?_) (fun c1=>?_)
 · obtain⟨r,x,hr',hx,hrb⟩:=hb c1
   refine qJ fun _ Y=>?_
   obtain⟨r',h1,h2⟩:=hE.rn.get hx
   rw [hr'] at h1
   cases h1
   obtain⟨t0',h3,h4⟩:=hE.ok r (List.mem_of_getElem? hr')
   apply Y
   have hh:(qW rm N nm t0').has t:=by
    rw [← h4]
    exact⟨hrb,hpe r hr'⟩
   have e2:=hP.same t0' t h3 hh
   rw [← h4] at e2
   refine⟨_,rfl,_,rfl,l,_,_,_,rfl,rfl,SqL.of hE.hl,qy hx,kk _ _ S1 kv1 (o1.up (by omega)) ?_⟩
   rw [e2]
   exact h2
 · have ht2:t+n*2 ^ 61+2 ^ 60 < 2 ^ 400:=by
    have e1:((n+1:Nat):Int)=(n:Int)+1:=by omega
    rw [e1,Int.add_mul] at t1
    omega
   refine⟨_,rfl,_,rfl,_,rfl,_,rfl,rz,kd,nm,t,rm,T',c+1,H0,S1,kv1,rfl,hK.out o1 hK.hn,hL,t0,ht2,hcG,fun v H5 S5 kv5 o5 hv5=>?_⟩
   have hval5:=o5.kv _ _ hval
   refine qJ fun _ Y=>?_
   obtain⟨l',rs5,R5,e',hE5⟩:=o5.kn.ent nm _ hval5
   cases e'
   have hl5:=hE5.len
   obtain⟨k1,k2⟩:=o5.kn.ins hval5 hE5 hv5 t0 p
   apply Y
   refine⟨_,rfl,.inl ⟨rfl,_,SqL.of hE5.hl⟩,_,rfl,_,rfl,l,rs5,p,_,v,rfl,rfl,rfl,hE5.hl,by omega,Nat.le_trans (show rs5.length+1≤8000001 by omega) (by decide),?_⟩
   exact⟨_,rfl,kk _ _ S5 kv5 (((o1.trans o5).trans ⟨k2,k1,fun _ _ q=>q⟩).up (by omega)) (hv5.ts k2.tup)⟩
theorem qBg (T:Tx K mg a)(N:Nat):∀ (n:Nat),(∀ {base:Heap},FnOk P w K mg base CX0 (4*n+6) a.A26 a.B26 ["room","name","moment","known"] (zQ K N n))
 | 0=>qA3 T N
 | n+1=>qA7 T N n (qA4 T N n (qA0 T N n (z9 T N n (qBg T N n))))
def IsPc (K:W.Frag)(H:Hp)(x:Pc)(v:V):Prop:=∃ (z pz:Addr) (pvs:List V),v= .ref z∧Tq K H z [.int x.1,.ref pz]∧Tq K H pz pvs∧IsPts K H x.2 pvs
theorem IsPc.ts {H H':Hp}(e:TS H H'){x:Pc}{v:V}(h:IsPc K H x v):IsPc K H' x v:=
 let ⟨z,pz,pvs,h0,h1,h2,h3⟩:=h;⟨z,pz,pvs,h0,jo e h1,jo e h2,h3.ts e⟩
def IsPcs (K:W.Frag)(H:Hp):List Pc→List V→Prop
 | [],[]=>True
 | x::xs,v::vs=>IsPc K H x v∧IsPcs K H xs vs
 | _,_=>False
theorem IsPcs.ts {H H':Hp}(e:TS H H'):∀ {xs:List Pc} {vs:List V},IsPcs K H xs vs→IsPcs K H' xs vs
 | [],[],_=>trivial
 | _::_,_::_,h=>⟨h.1.ts e,IsPcs.ts e h.2⟩
 | [],_::_,h=>h.elim
 | _::_,[],h=>h.elim
theorem IsPcs.len {H:Hp}:∀ {xs:List Pc} {vs:List V},IsPcs K H xs vs→vs.length=xs.length
 | [],[],_=>rfl
 | _::_,_::_,h=>by rw [List.length_cons,List.length_cons,IsPcs.len h.2]
 | [],_::_,h=>h.elim
 | _::_,[],h=>h.elim
theorem IsPcs.get {H:Hp}:∀ {xs:List Pc} {vs:List V} {i:Nat} {v:V},IsPcs K H xs vs→vs[i]? =some v→∃ x,xs[i]? =some x∧IsPc K H x v
 | [],[],_,_,_,h=>by simp at h
 | x::_,u::_,0,v,h,e=>by
  have e':u=v:=by simpa using e
  subst e'
  exact⟨x,rfl,h.1⟩
 | _::_,_::_,i+1,v,h,e=>by
  obtain⟨x,h1,h2⟩:=IsPcs.get (i:=i) h.2 (by simpa using e)
  exact⟨x,by simpa using h1,h2⟩
 | [],_::_,_,_,h,_=>h.elim
 | _::_,[],_,_,h,_=>h.elim
theorem IsPcs.app {H:Hp}:∀ {xs:List Pc} {vs:List V} {x:Pc} {v:V},IsPcs K H xs vs→IsPc K H x v→IsPcs K H (xs++[x]) (vs++[v])
 | [],[],_,_,_,h=>⟨h,trivial⟩
 | _::_,_::_,_,_,h,h'=>⟨h.1,IsPcs.app h.2 h'⟩
 | [],_::_,_,_,h,_=>h.elim
 | _::_,[],_,_,h,_=>h.elim
theorem KnOk.upd {f:Str→Int→Rn}{c:Nat}{S:Addr→Prop}{kd pl:Addr}{kvs:List (Key × V)}{H:Hp}{us us':List V}(h:KnOk K f c S kd kvs H)(nS:¬ S pl)(hp:H pl=some (.lst us)):KnOk K f c S kd kvs (upd H pl (.lst us')):=by
 have ne:∀ {b},S b→b≠pl:=fun hb e=>nS (e ▸ hb)
 refine⟨by rw [qK (ne h.sd)];exact h.hd,h.sd,h.len,fun nm v q=>?_,h.inj⟩
 obtain⟨l,rs,R,e,h'⟩:=h.ent nm v q
 exact⟨l,rs,R,e,h'.up (Nat.le_refl _) id (by rw [qK (ne h'.sl)];exact h'.hl) (zf hp)⟩
def Lg (ts:List (List Im))(M:Int):Prop:=(∃ ms∈ts,ql ms=M)∧∀ ms∈ts,ql ms≤M
inductive qAm (K:W.Frag)(n:Nat)(vs:List V)(H:Hp)(Q:VK)(_:XK):Prop
| mk (rz:Addr) (nm:Str) (rm:Rms) (T:Nat) (ts:List (List Im)) (M:Int) (_:vs=[.ref rz,.str nm]) (_:RoomAt H rz rm) (_:SmL rm n nm) (_:rm nm=some ts) (_:(∀ nm ts,rm nm=some ts→ts.length≤T)) (_:Lg ts M) (_:M < 2 ^ 62) (_:n≤100) (_:400*(T+2) ^ n≤8000000) (_:(∀ L e,Chn (qW rm n nm) 0 L e→e < M→L.length < 400)) (_:∀ (pl:Addr) (L:List Pc) (us:List V) (H':Hp),Same H H'→H pl=none→H' pl=some (.lst us)→IsPcs K H' L us→Chn (qW rm n nm) 0 L M→Q (.ref pl) H')
set_option maxHeartbeats 8000000 in
theorem wu (T:Tx K mg a)(n:Nat):FnOk P w K mg base CX0 (4*n+7) a.A27 a.B27 ["room","name"] (qAm K n):=by
 refine T.D27.F.ok qZ (fun vs H Q E h=>?_) (fun cdv A outer s H vs Q E hrn h=>?_)
 · obtain⟨rz,nm,rm,T',ts,M,rfl,_⟩:=h
   rfl
 refine qJ fun _ Y=>?_
 obtain⟨rz,nm,rm,T',ts,M,rfl,hR,hL,hts,hT,hM,hM1,hn1,hG,hfew,kk⟩:=h
 apply Y
 have hr:=hrn.mono (show 6≤4*n+6 by omega)
 have hu1:=qCq hr
 refine⟨_,(qB (qP 2 qZ.nd (qQ (qAb rfl) rfl T.b_max rfl (qA (x8 [] [] rfl (xD (qX (qAv hu1 (qX (pv 0)) (pv 1) (fun _ _=>rfl)))) (fun _ _ _ _=>(qI T.D7 (xQ T) hr rfl (qA (pv 0) qC)))) qC)))
  (qB (qP 3 qZ.nd qCj)
  (qB (qP 4 qZ.nd (jO qC))
  (qB (qP 5 qZ.nd qF)
  (qB (xf PassesOwn.never (qY vL (pv 5) (pv 2) (qh _)) (qB (jc (qY vI (qQ qc rfl T.b_len rfl (qA (pv 4) qC)) (j8 (v:=.int 400) rfl T.g_MOST_PIECES ⟨_,rfl⟩) (qh _)) kh qj)
  (qB (qP 6 qZ.nd (qI T.D26 (qBg T n n) hrn rfl (qA (pv 0) (qA (pv 1) (qA (pv 5) (qA (pv 3) qC)))) (Nat.le_refl _)))
  (qB (xA (wH F.plainAttrs_list F.slot_list_append F.type_list_append jp (pv 4) (qA (qd (qA (qL jQ (qX (pv 6)) (qX (pv 6))) (qA (qX (pv 6)) qC))) qC)))
  (qG (qP 5 qZ.nd (qX (pv 6))))))))
  (qG (qU (pv 4)))))))),?_⟩
 try dsimp only [xH,jD]
 refine qJ fun _ Y=>?_
 obtain⟨re,td,dvs,h1,h2,h3⟩:=id hR
 obtain⟨v,hv,tt,tl,ti,zs,rfl,h4,h5,h6⟩:=h3 nm ts hts
 apply Y
 have hlen:=h6.len
 have htl:ts.length≤300∧∀ ms∈ts,ms.length≤300∧0≤ql ms:=by
  cases n with
  | zero=>exact hL.elim
  | succ n=>
   obtain⟨ts',e,h,h'⟩:=hL
   rw [hts] at e
   cases e
   exact⟨h,fun ms hm=>⟨(h' ms hm).1,Nn.len (h' ms hm).2.1.nn⟩⟩
 refine(ixO h1 at1 ⟨_,rfl,td,_,rfl,.inl ⟨dvs,Sum.inr nm,h2,rfl,hv.symm⟩,ixT (SqT.of h4) at0 ?_⟩)
 refine⟨tl,rfl,⟨_,SqL.of h5⟩,jz (K:=K) (a:=tl) (xs:=zs) (fun i acc H'=>Same H H'∧acc=((ts.take i).map ql).map V.int∧acc.length=i) ⟨Same.refl _,rfl,rfl⟩ ?_ ?_ ?_⟩
 · rintro i acc H' hi ⟨e,_,hal⟩
   exact⟨SqL.of (e _ _ h5),qf (by omega)⟩
 · rintro i x acc H' hi hx ⟨e,rfl,hal⟩
   refine qJ fun _ Y=>?_
   obtain⟨ms,z,hms,rfl,hTr⟩:=h6.get hx
   apply Y
   refine⟨_,rfl,z,ms,rfl,hTr.same e,(htl.2 ms (List.mem_of_getElem? hms)).1,fun H1 e1=>Nxt.mk hi ⟨e.trans e1,?_,by simp at hal ⊢;omega⟩⟩
   rw [List.take_add_one,hms]
   simp [ql]
 rintro acc H1 ⟨e1,rfl,hal⟩ ml hml
 rw [hlen,List.take_length]
 rw [hlen,List.take_length] at hal
 have w1:=qE hml (.lst ((ts.map ql).map V.int))
 refine⟨ml,ts.map ql,rfl,SqL.of qD,?_,fun m hm hmax=>?_⟩
 · obtain⟨⟨ms,h,_⟩,_⟩:=hM
   intro e
   rw [List.map_eq_nil_iff] at e
   rw [e] at h
   cases h
 obtain rfl:m=M:=by
  refine qJ fun _ Y=>?_
  obtain⟨⟨ms,h,h'⟩,h''⟩:=hM
  obtain⟨ms2,h8,h9⟩:=List.mem_map.mp hm
  apply Y
  have q1:=hmax M (List.mem_map.mpr ⟨ms,h,h'⟩)
  have q2:=h'' ms2 h8
  omega
 have e2:=e1.trans w1
 generalize upd H1 ml (.lst ((ts.map ql).map V.int))=H2 at e2 ⊢
 intro kd hkd
 have w3:=qE hkd (.dK [])
 have kkd:upd H2 kd (.dK []) kd=some (.dK []):=qD
 generalize upd H2 kd (.dK [])=H3 at w3 kkd ⊢
 refine⟨sL0,fun pl hpl=>?_⟩
 have w4:=qE hpl (.lst [])
 have kpl:upd H3 pl (.lst []) pl=some (.lst []):=qD
 have kkd4:=w4 _ _ kkd
 generalize upd H3 pl (.lst [])=H4 at w4 kpl kkd4 ⊢
 have nkd:H kd=none:=e2.free hkd
 have npl:H pl=none:=(e2.trans w3).free hpl
 have nk:pl≠kd:=fun e=>by rw [e,kkd] at hpl;cases hpl
 obtain⟨hP,hbd⟩:=hL.run (Nat.le_refl n)
 have e4:=(e2.trans w3).trans w4
 have kn0:KnOk K (qW rm n) 0 (fun b=>b=kd) kd [] H4:=⟨kkd4,rfl,Nat.le_refl _,(fun nm v q=>by cases q),(fun nm nm' l q=>by cases q)⟩
 refine xg (fun σ H'=>∃ (m':Int) (o:Option V) (L:List Pc) (us:List V) (S':Addr→Prop) (kvs':List (Key × V)),σ=[some (.ref rz),some (.str nm),some (.int m),some (.ref kd),some (.ref pl),some (.int m'),o]∧0≤m'∧m'≤m∧H' pl=some (.lst us)∧¬ S' pl∧IsPcs K H' L us∧Chn (qW rm n nm) 0 L m'∧(qW rm n nm m').b=m'∧Bs H S' H'∧KnOk K (qW rm n) (L.length*(T'+2) ^ n) S' kd kvs' H')
  (fun σ _=>match σ with | [_,_,_,_,_,some (.int x),_]=>(m - x).toNat | _=>0) ⟨0,none,[],[],_,[],rfl,by decide,?_,kpl,nk,trivial,rfl,qD3 hP,⟨e4,fun b hb=>by rw [show b=kd from hb];exact nkd⟩,by rw [List.length_nil,Nat.zero_mul];exact kn0⟩ ?_ ?_
 · obtain⟨⟨ms,h,h'⟩,_⟩:=hM
   have:=(htl.2 ms h).2
   omega
 · rintro σ H' ⟨m',o,L,us,S',kvs',rfl,m0,mm,hpl',nS,hpc,hch,hb,hbs,hkn⟩
   refine⟨_,rfl,_,rfl,_,_,rfl,rfl,_,rfl,xI (fun c=>?_) (fun c=>?_)⟩
   · have c:m' < m:=by simpa using c
     have hf:=hfew L m' hch c
     have hul:=hpc.len
     refine⟨_,rfl,pl,_,rfl,.inl (SqL.of hpl'),rfl,_,rfl,xI (fun c2=>?_) (fun _=>?_)⟩
     · have c2:((us.length:Nat):Int)=400:=by simpa using c2
       omega
     have hcc:L.length*(T'+2) ^ n+(T'+2) ^ n≤8000000:=by
      have:(L.length+1)*(T'+2) ^ n≤400*(T'+2) ^ n:=Nat.mul_le_mul_right _ (by omega)
      rw [Nat.succ_mul] at this
      omega
     have hmb:m'+n*2 ^ 61 < 2 ^ 400:=by
      have a1:(n:Int)*2 ^ 61≤100*2 ^ 61:=Int.mul_le_mul_of_nonneg_right (by omega) (by decide)
      have a2:(2:Int) ^ 62+100*2 ^ 61 < 2 ^ 400:=by decide+kernel
      omega
     refine⟨_,rfl,_,rfl,_,rfl,_,rfl,rz,kd,nm,m',rm,T',_,H,S',kvs',rfl,⟨hR,hbs,hkn,Nat.le_refl n,hT⟩,hL,m0,hmb,hcc,fun v H5 S5 kv5 o5 hv5=>?_⟩
     refine qJ fun _ Y=>?_
     obtain⟨e,he,hem⟩:=qEj (SmL.geo rm n nm hL) (Nat.le_refl n) hts m0 hM.2 (by obtain⟨⟨ms,h,h'⟩,_⟩:=hM;exact⟨ms,h,by omega⟩)
     obtain⟨hb5,hlt⟩:=qDc hP m0 rfl he
     obtain⟨ps,hps⟩:∃ ps,qW rm n nm m'=⟨m',some e,ps⟩:=by
      generalize qW rm n nm m'=r at hb he
      obtain⟨b,e',ps⟩:=r
      have hb:b=m':=hb
      have he:e'=some e:=he
      subst hb he
      exact⟨ps,rfl⟩
     rw [hps] at hv5
     obtain⟨z,pz,pvs,rfl,hz,hpz,hpv⟩:=hv5
     apply Y
     have hpl5:=o5.kf.keep pl _ nS hpl'
     have nS5:¬ S5 pl:=fun q=>by
      rcases o5.kf.grow pl q with q | q
      · exact nS q
      · rw [hpl'] at q;cases q
     refine⟨_,rfl,.inl ⟨rfl,_,SqL.of hpl5⟩,_,rfl,z,_,_,_,rfl,rfl,hz.sq,vN,_,rfl,z,_,_,_,rfl,rfl,hz.sq,qBj,_,_,rfl,rfl,_,rfl,z,_,_,_,rfl,rfl,hz.sq,qEn,sL2,fun g hg=>?_⟩
     have w6:=qE hg (.tup [.int (e - m'),.ref pz])
     have kg:upd H5 g (.tup [.int (e - m'),.ref pz]) g=some (.tup [.int (e - m'),.ref pz]):=qD
     have hpl6:=w6 _ _ hpl5
     generalize upd H5 g (.tup [.int (e - m'),.ref pz])=H6 at w6 kg hpl6 ⊢
     refine⟨pl,_,_,rfl,rfl,hpl6,qf (by omega),?_⟩
     have t7:TS H6 (upd H6 pl (.lst (us++[.ref g]))):=zf hpl6
     have ts57:TS H5 (upd H6 pl (.lst (us++[.ref g]))):=fun b xs h=>t7 _ _ (w6 _ _ h)
     refine⟨_,rfl,z,_,_,_,rfl,rfl,(jo ts57 hz).sq,vN,⟨e,_,L++[(e - m',ps)],us++[.ref g],S5,kv5,rfl,by omega,hem,qD,nS5,?_,zB hch hps hlt,hb5,?_,?_⟩,?_⟩
     · exact(hpc.ts fun b xs h=>ts57 _ _ (o5.kf.tup _ _ h)).app ⟨g,pz,pvs,rfl,.inl (t7 _ _ kg),jo ts57 hpz,hpv.ts ts57⟩
     · have b5:=hbs.kf o5.kf
       refine⟨fun b u h=>?_,b5.free⟩
       rw [qK (qM h npl)]
       exact w6 _ _ (b5.same _ _ h)
     · rw [List.length_append,List.length_singleton,Nat.succ_mul]
       exact(o5.kn.same w6).upd nS5 hpl6
     · show (m - e).toNat < (m - m').toNat
       omega
   · have c:¬ m' < m:=by simpa using c
     obtain rfl:m'=m:=by omega
     exact⟨_,rfl,kk pl L us H' hbs.same npl hpl' hpc hch⟩
 · rintro σ H1 Q1 Q2 hq h
   refine qJ fun _ Y=>?_
   obtain⟨x,hx,y,hy,i,j,h1,h2,b,hb,z⟩:=h
   apply Y
   exact⟨x,hx,y,hy,i,j,h1,h2,b,hb,hq _ _ z⟩
theorem wC {g:Int→Rn}:∀ {L Lf:List Pc} {b e M:Int},Chn g b L e→Chn g b Lf M→e≤M→∃ r,Lf=L++r∧Chn g e r M
 | [],Lf,b,e,M,h,h',_=>by
  have h:b=e:=h
  subst h
  exact⟨Lf,rfl,h'⟩
 | x::L,[],b,e,M,⟨h1,h2,h3⟩,h',he=>by
  have h':b=M:=h'
  have:=(xS h3).2.1
  omega
 | x::L,y::Lf,b,e,M,⟨h1,h2,h3⟩,⟨k1,k2,k3⟩,he=>by
  rw [h2] at k2
  have e1:b+x.1=b+y.1:=Option.some.inj (congrArg Rn.e k2)
  have e2:x.2=y.2:=congrArg Rn.ps k2
  have exy:x=y:=Prod.ext (by omega) e2
  subst exy
  obtain⟨r,q1,q2⟩:=wC h3 k3 he
  exact⟨r,by rw [q1];rfl,q2⟩
inductive zP (K:W.Frag)(n:Nat)(N:Addr)(vs:List V)(H:Hp)(Q:VK)(E:XK):Prop
| mk (rz:Addr) (nm:Str) (rm:Rms) (T:Nat) (ts:List (List Im)) (M:Int) (Lf:List Pc) (_:vs=[.ref rz,.str nm]) (_:RoomAt H rz rm) (_:SmL rm n nm) (_:rm nm=some ts) (_:(∀ nm ts,rm nm=some ts→ts.length≤T)) (_:Lg ts M) (_:M < 2 ^ 62) (_:n≤100) (_:400*(T+2) ^ n≤8000000) (_:Chn (qW rm n nm) 0 Lf M) (_:(Lf.length≤400→∀ (pl:Addr) (us:List V) (H':Hp),Same H H'→H pl=none→H' pl=some (.lst us)→IsPcs K H' Lf us→Q (.ref pl) H')) (_:(400 < Lf.length→∀ H',Same H H'→E (.ref N) none H'))
set_option maxHeartbeats 8000000 in
theorem vg (T:Tx K mg a)(n:Nat):FnOk P w K mg base (CXR P w) (4*n+7) a.A27 a.B27 ["room","name"] (zP K n a.k_TooMuch):=by
 refine okX T.D27.F qZ (fun vs H Q E h=>?_) (fun cdv A outer s H vs Q E hrn h=>?_)
 · obtain⟨rz,nm,rm,T',ts,M,Lf,rfl,_⟩:=h
   rfl
 refine qJ fun _ Y=>?_
 obtain⟨rz,nm,rm,T',ts,M,Lf,rfl,hR,hL,hts,hT,hM,hM1,hn1,hG,hLf,kk,kx⟩:=h
 apply Y
 have hr:=hrn.mono (show 6≤4*n+6 by omega)
 have hu1:=qCq hr
 refine⟨_,(qB (qP 2 qZ.nd (qQ (qAb rfl) rfl T.b_max rfl (qA (x8 [] [] rfl (xD (qX (qAv hu1 (qX (pv 0)) (pv 1) (fun _ _=>rfl)))) (fun _ _ _ _=>(qI T.D7 (xQ T) hr rfl (qA (pv 0) qC)))) qC)))
  (qB (qP 3 qZ.nd qCj)
  (qB (qP 4 qZ.nd (jO qC))
  (qB (qP 5 qZ.nd qF)
  (qB (xf (qK8 rfl rfl rfl rfl) (qY vL (pv 5) (pv 2) (qh _)) (qB (jc (qY vI (qQ qc rfl T.b_len rfl (qA (pv 4) qC)) (j8 (v:=.int 400) rfl T.g_MOST_PIECES ⟨_,rfl⟩) (qh _)) (qG (qGj rfl rfl T.c_TooMuch T.x_TooMuch (qA jF qC))) qj)
  (qB (qP 6 qZ.nd (qI T.D26 (qBg T n n) hrn rfl (qA (pv 0) (qA (pv 1) (qA (pv 5) (qA (pv 3) qC)))) (Nat.le_refl _)))
  (qB (xA (wH F.plainAttrs_list F.slot_list_append F.type_list_append jp (pv 4) (qA (qd (qA (qL jQ (qX (pv 6)) (qX (pv 6))) (qA (qX (pv 6)) qC))) qC)))
  (qG (qP 5 qZ.nd (qX (pv 6))))))))
  (qG (qU (pv 4)))))))),?_⟩
 try dsimp only [xH,jD]
 refine qJ fun _ Y=>?_
 obtain⟨re,td,dvs,h1,h2,h3⟩:=id hR
 obtain⟨v,hv,tt,tl,ti,zs,rfl,h4,h5,h6⟩:=h3 nm ts hts
 apply Y
 have hlen:=h6.len
 have htl:ts.length≤300∧∀ ms∈ts,ms.length≤300∧0≤ql ms:=by
  cases n with
  | zero=>exact hL.elim
  | succ n=>
   obtain⟨ts',e,h,h'⟩:=hL
   rw [hts] at e
   cases e
   exact⟨h,fun ms hm=>⟨(h' ms hm).1,Nn.len (h' ms hm).2.1.nn⟩⟩
 refine(ixO h1 at1 ⟨_,rfl,td,_,rfl,.inl ⟨dvs,Sum.inr nm,h2,rfl,hv.symm⟩,ixT (SqT.of h4) at0 ?_⟩)
 refine⟨tl,rfl,⟨_,SqL.of h5⟩,jz (K:=K) (a:=tl) (xs:=zs) (fun i acc H'=>Same H H'∧acc=((ts.take i).map ql).map V.int∧acc.length=i) ⟨Same.refl _,rfl,rfl⟩ ?_ ?_ ?_⟩
 · rintro i acc H' hi ⟨e,_,hal⟩
   exact⟨SqL.of (e _ _ h5),qf (by omega)⟩
 · rintro i x acc H' hi hx ⟨e,rfl,hal⟩
   refine qJ fun _ Y=>?_
   obtain⟨ms,z,hms,rfl,hTr⟩:=h6.get hx
   apply Y
   refine⟨_,rfl,z,ms,rfl,hTr.same e,(htl.2 ms (List.mem_of_getElem? hms)).1,fun H1 e1=>Nxt.mk hi ⟨e.trans e1,?_,by simp at hal ⊢;omega⟩⟩
   rw [List.take_add_one,hms]
   simp [ql]
 rintro acc H1 ⟨e1,rfl,hal⟩ ml hml
 rw [hlen,List.take_length]
 rw [hlen,List.take_length] at hal
 have w1:=qE hml (.lst ((ts.map ql).map V.int))
 refine⟨ml,ts.map ql,rfl,SqL.of qD,?_,fun m hm hmax=>?_⟩
 · obtain⟨⟨ms,h,_⟩,_⟩:=hM
   intro e
   rw [List.map_eq_nil_iff] at e
   rw [e] at h
   cases h
 obtain rfl:m=M:=by
  refine qJ fun _ Y=>?_
  obtain⟨⟨ms,h,h'⟩,h''⟩:=hM
  obtain⟨ms2,h8,h9⟩:=List.mem_map.mp hm
  apply Y
  have q1:=hmax M (List.mem_map.mpr ⟨ms,h,h'⟩)
  have q2:=h'' ms2 h8
  omega
 have e2:=e1.trans w1
 generalize upd H1 ml (.lst ((ts.map ql).map V.int))=H2 at e2 ⊢
 intro kd hkd
 have w3:=qE hkd (.dK [])
 have kkd:upd H2 kd (.dK []) kd=some (.dK []):=qD
 generalize upd H2 kd (.dK [])=H3 at w3 kkd ⊢
 refine⟨sL0,fun pl hpl=>?_⟩
 have w4:=qE hpl (.lst [])
 have kpl:upd H3 pl (.lst []) pl=some (.lst []):=qD
 have kkd4:=w4 _ _ kkd
 generalize upd H3 pl (.lst [])=H4 at w4 kpl kkd4 ⊢
 have nkd:H kd=none:=e2.free hkd
 have npl:H pl=none:=(e2.trans w3).free hpl
 have nk:pl≠kd:=fun e=>by rw [e,kkd] at hpl;cases hpl
 obtain⟨hP,hbd⟩:=hL.run (Nat.le_refl n)
 have e4:=(e2.trans w3).trans w4
 have kn0:KnOk K (qW rm n) 0 (fun b=>b=kd) kd [] H4:=⟨kkd4,rfl,Nat.le_refl _,(fun nm v q=>by cases q),(fun nm nm' l q=>by cases q)⟩
 refine xg (fun σ H'=>∃ (m':Int) (o:Option V) (L:List Pc) (us:List V) (S':Addr→Prop) (kvs':List (Key × V)),σ=[some (.ref rz),some (.str nm),some (.int m),some (.ref kd),some (.ref pl),some (.int m'),o]∧0≤m'∧m'≤m∧H' pl=some (.lst us)∧¬ S' pl∧IsPcs K H' L us∧Chn (qW rm n nm) 0 L m'∧(qW rm n nm m').b=m'∧Bs H S' H'∧KnOk K (qW rm n) (L.length*(T'+2) ^ n) S' kd kvs' H'∧L.length≤400)
  (fun σ _=>match σ with | [_,_,_,_,_,some (.int x),_]=>(m - x).toNat | _=>0) ⟨0,none,[],[],_,[],rfl,by decide,?_,kpl,nk,trivial,rfl,qD3 hP,⟨e4,fun b hb=>by rw [show b=kd from hb];exact nkd⟩,by rw [List.length_nil,Nat.zero_mul];exact kn0,Nat.zero_le _⟩ ?_ ?_
 · obtain⟨⟨ms,h,h'⟩,_⟩:=hM
   have:=(htl.2 ms h).2
   omega
 · rintro σ H' ⟨m',o,L,us,S',kvs',rfl,m0,mm,hpl',nS,hpc,hch,hb,hbs,hkn,hL4⟩
   refine⟨_,rfl,_,rfl,_,_,rfl,rfl,_,rfl,xI (fun c=>?_) (fun c=>?_)⟩
   · have c:m' < m:=by simpa using c
     have hul:=hpc.len
     have hmore:L.length < Lf.length:=by
      obtain⟨r,q1,q2⟩:=wC hch hLf mm
      rw [q1,List.length_append]
      cases r with
      | nil=>
       have q2:m'=m:=q2
       omega
      | cons x r=>rw [List.length_cons];omega
     refine⟨_,rfl,pl,_,rfl,.inl (SqL.of hpl'),rfl,_,rfl,xI (fun c2=>?_) (fun c2=>?_)⟩
     · have c2:((us.length:Nat):Int)=400:=by simpa using c2
       exact⟨sL1,kx (by omega) H' hbs.same⟩
     have hf:L.length < 400:=by
      have c2:¬ ((us.length:Nat):Int)=400:=by simpa using c2
      omega
     have hcc:L.length*(T'+2) ^ n+(T'+2) ^ n≤8000000:=by
      have:(L.length+1)*(T'+2) ^ n≤400*(T'+2) ^ n:=Nat.mul_le_mul_right _ (by omega)
      rw [Nat.succ_mul] at this
      omega
     have hmb:m'+n*2 ^ 61 < 2 ^ 400:=by
      have a1:(n:Int)*2 ^ 61≤100*2 ^ 61:=Int.mul_le_mul_of_nonneg_right (by omega) (by decide)
      have a2:(2:Int) ^ 62+100*2 ^ 61 < 2 ^ 400:=by decide+kernel
      omega
     refine⟨_,rfl,_,rfl,_,rfl,_,rfl,rz,kd,nm,m',rm,T',_,H,S',kvs',rfl,⟨hR,hbs,hkn,Nat.le_refl n,hT⟩,hL,m0,hmb,hcc,fun v H5 S5 kv5 o5 hv5=>?_⟩
     refine qJ fun _ Y=>?_
     obtain⟨e,he,hem⟩:=qEj (SmL.geo rm n nm hL) (Nat.le_refl n) hts m0 hM.2 (by obtain⟨⟨ms,h,h'⟩,_⟩:=hM;exact⟨ms,h,by omega⟩)
     obtain⟨hb5,hlt⟩:=qDc hP m0 rfl he
     obtain⟨ps,hps⟩:∃ ps,qW rm n nm m'=⟨m',some e,ps⟩:=by
      generalize qW rm n nm m'=r at hb he
      obtain⟨b,e',ps⟩:=r
      have hb:b=m':=hb
      have he:e'=some e:=he
      subst hb he
      exact⟨ps,rfl⟩
     rw [hps] at hv5
     obtain⟨z,pz,pvs,rfl,hz,hpz,hpv⟩:=hv5
     apply Y
     have hpl5:=o5.kf.keep pl _ nS hpl'
     have nS5:¬ S5 pl:=fun q=>by
      rcases o5.kf.grow pl q with q | q
      · exact nS q
      · rw [hpl'] at q;cases q
     refine⟨_,rfl,.inl ⟨rfl,_,SqL.of hpl5⟩,_,rfl,z,_,_,_,rfl,rfl,hz.sq,vN,_,rfl,z,_,_,_,rfl,rfl,hz.sq,qBj,_,_,rfl,rfl,_,rfl,z,_,_,_,rfl,rfl,hz.sq,qEn,sL2,fun g hg=>?_⟩
     have w6:=qE hg (.tup [.int (e - m'),.ref pz])
     have kg:upd H5 g (.tup [.int (e - m'),.ref pz]) g=some (.tup [.int (e - m'),.ref pz]):=qD
     have hpl6:=w6 _ _ hpl5
     generalize upd H5 g (.tup [.int (e - m'),.ref pz])=H6 at w6 kg hpl6 ⊢
     refine⟨pl,_,_,rfl,rfl,hpl6,qf (by omega),?_⟩
     have t7:TS H6 (upd H6 pl (.lst (us++[.ref g]))):=zf hpl6
     have ts57:TS H5 (upd H6 pl (.lst (us++[.ref g]))):=fun b xs h=>t7 _ _ (w6 _ _ h)
     refine⟨_,rfl,z,_,_,_,rfl,rfl,(jo ts57 hz).sq,vN,⟨e,_,L++[(e - m',ps)],us++[.ref g],S5,kv5,rfl,by omega,hem,qD,nS5,?_,zB hch hps hlt,hb5,?_,?_⟩,?_⟩
     · exact(hpc.ts fun b xs h=>ts57 _ _ (o5.kf.tup _ _ h)).app ⟨g,pz,pvs,rfl,.inl (t7 _ _ kg),jo ts57 hpz,hpv.ts ts57⟩
     · have b5:=hbs.kf o5.kf
       refine⟨fun b u h=>?_,b5.free⟩
       rw [qK (qM h npl)]
       exact w6 _ _ (b5.same _ _ h)
     · rw [List.length_append,List.length_singleton,Nat.succ_mul]
       exact⟨(o5.kn.same w6).upd nS5 hpl6,hf⟩
     · show (m - e).toNat < (m - m').toNat
       omega
   · have c:¬ m' < m:=by simpa using c
     obtain rfl:m'=m:=by omega
     refine qJ fun _ Y=>?_
     obtain⟨r,q1,q2⟩:=wC hch hLf (Int.le_refl _)
     have hr0:r=[]:=by
      have:=(xS q2).2.1
      cases r with
      | nil=>rfl
      | cons x r=>rw [List.length_cons] at this;omega
     rw [hr0,List.append_nil] at q1
     subst q1
     apply Y
     exact⟨_,rfl,kk hL4 pl us H' hbs.same npl hpl' hpc⟩
 · rintro σ H1 Q1 Q2 hq h
   refine qJ fun _ Y=>?_
   obtain⟨x,hx,y,hy,i,j,h1,h2,b,hb,z⟩:=h
   apply Y
   exact⟨x,hx,y,hy,i,j,h1,h2,b,hb,hq _ _ z⟩
theorem kW (T:Tx K mg a):FnOk P w K mg base (CXR P w) 31 a.A27 a.B27 ["room","name"] (zP K 6 a.k_TooMuch):=vg T 6
theorem qD1 {g:Int→Rn}:∀ {L L':List Pc} {b e e':Int},Chn g b L e→Chn g e L' e'→Chn g b (L++L') e'
 | [],_,b,e,_,h,h'=>by
  have h:b=e:=h
  subst h
  exact h'
 | _::_,_,_,_,_,⟨h1,h2,h3⟩,h'=>⟨h1,h2,qD1 h3 h'⟩
def Pln (ms:List Im):Prop:=∀ m∈ms,Wf m∧m.wd≠"mix"
theorem Pln.no {ms:List Im}(h:Pln ms){i:Nat}{l:Int}:ms[i]?≠some (.mix l):=fun e=>(h _ (List.mem_of_getElem? e)).2 rfl
theorem Pln.tb {ms:List Im}(h:Pln ms)(i:Nat):tbF ms i=0:=by
 unfold tbF
 split
 · rfl
 · split
   · rename_i l hl;exact absurd hl h.no
   · rfl
theorem Pln.te {ms:List Im}(h:Pln ms)(i:Nat):teF ms i=0:=by
 unfold teF
 split
 · rename_i l hl;exact absurd hl h.no
 · rfl
theorem Pln.geo {ms:List Im}(h:Pln ms):Geo ms:=by
 refine⟨fun m hm=>(h m hm).1,fun i l e=>absurd e h.no,fun i n p q r s k e=>?_⟩
 rw [h.tb,h.te]
 have:=(h _ (List.mem_of_getElem? e)).1.2.2.2
 omega
theorem Pln.mix {ms:List Im}(h:Pln ms)(t:Int):j3 0 0 ms t=none:=by
 cases hm:j3 0 0 ms t with
 | none=>rfl
 | some x=>
  obtain⟨i,j⟩:=x
  obtain⟨_,l,hi,_⟩:=ja hm
  exact absurd hi h.no
theorem Pln.item {ms:List Im}(h:Pln ms){i:Nat}{m:Im}{t:Int}(hi:ms[i]? =some m)(h1:qN ms i≤t)(h2:t < qN ms i+m.mo):jN 0 0 ms t=some (i,t - qN ms i):=by
 have:=wU (b:=0) (i0:=0) h.geo.nn hi (show 0+qN ms i≤t by omega) (by omega)
 rw [Nat.zero_add,Int.zero_add] at this
 exact this
theorem qCz {x:Rn}(hb:0≤x.b)(hp:∀ y∈x.ps,PtG y):x.within 0 none=x:=by
 obtain⟨b,e,ps⟩:=x
 have hb:0≤b:=hb
 have e1:mxI 0 b=b:=by unfold mxI;split <;> omega
 have e2:mnO e none=e:=by cases e <;> rfl
 show (⟨mxI 0 b,mnO e none,ps.map (Pt.later (mxI 0 b - b))⟩:Rn)=_
 rw [e1,e2,Int.sub_self,qB3 hp]
theorem qLr {rm:Rms}{N:Nat}{nm:Str}{ms:List Im}(hL:SmL rm N nm)(hm:rm nm=some [ms]):qBr (qO (qW rm N) ms) (jG (jx rm N) ms):=by
 cases N with
 | zero=>exact hL.elim
 | succ n=>
  obtain⟨ts,h1,_,h3⟩:=hL
  rw [hm] at h1
  cases h1
  obtain⟨_,q1,q2,q3⟩:=h3 ms (by simp)
  refine qHv q1 fun nm' b l q=>⟨(q2 _ q).1,?_⟩
  exact qEm rm (n+1) nm' (qG4 rm n nm' (SmL.geo rm n nm' (q3 nm' b l q)) (n+1) (Nat.le_succ n))
theorem qBd {rm:Rms}{N:Nat}{nm:Str}{ms:List Im}(hL:SmL rm N nm)(hm:rm nm=some [ms]){t:Int}(t0:0≤t):qW rm N nm t=qO (qW rm N) ms t:=by
 have hg:=SmL.geo rm N nm hL
 have hr:=qD0 hg (Nat.le_refl N) t
 rw [hm] at hr
 have hP:=qLr hL hm
 have hb:=hP.b0 t t0
 have hp:=hP.pg t t0
 have hw:wlk (qW rm N) t zR [ms]=(qO (qW rm N) ms t).within 0 none:=by
  show (if _ then _ else _)=_
  split <;> rfl
 have hr:qW rm N nm t=wlk (qW rm N) t zR [ms]:=hr
 rw [hr,hw]
 exact qCz hb hp
theorem qB2 {x:Rn}{b0 len:Int}{e:Int}(hb:0≤x.b)(he:x.e=some e)(hl:e≤len)(hp:∀ y∈x.ps,PtG y):xo x 0 len b0=⟨x.b+b0,some (e+b0),x.ps⟩:=by
 obtain⟨b,e',ps⟩:=x
 have he:e'=some e:=he
 subst he
 have hb:0≤b:=hb
 have e0:b0 - 0=b0:=by omega
 have e1:mxI b0 (b+b0)=b+b0:=by unfold mxI;split <;> omega
 have e2:mnO (some (e+b0)) (some (b0+len))=some (e+b0):=by
  show some (if _ then _ else _)=_
  split
  · have:b0+len=e+b0:=by omega
    rw [this]
  · rfl
 show (⟨mxI b0 (b+(b0 - 0)),mnO (some (e+(b0 - 0))) (some (b0+len)),ps.map (Pt.later (mxI b0 (b+(b0 - 0)) - (b+(b0 - 0))))⟩:Rn)=_
 rw [e0,e1,e2,Int.sub_self,qB3 hp]
theorem qBf {α:Type}{c:Nat}{x:α}{i:Nat}(h:i < c):(List.replicate c x)[i]? =some x:=by
 rw [List.getElem?_replicate,if_pos h]
theorem qDa (c:Nat)(nm:Str)(len:Int):∀ i:Nat,i≤c→qN (List.replicate c (Im.nest nm 0 len)) i=i*len
 | 0,_=>by rw [bs0];show (0:Int)=0*len;rw [Int.zero_mul]
 | i+1,h=>by
  rw [bsS (qBf (show i < c by omega)),qDa c nm len i (by omega)]
  show (i:Int)*len+len=((i+1:Nat):Int)*len
  rw [show ((i+1:Nat):Int)=(i:Int)+1 by omega,Int.add_mul,Int.one_mul]
theorem qDm {c:Nat}{nm:Str}{len:Int}(h:1≤len):Pln (List.replicate c (Im.nest nm 0 len)):=fun m hm=>by
 rw [List.mem_replicate] at hm
 rw [hm.2]
 exact⟨h,by show ("nest":Str)≠"mix";decide+kernel⟩
theorem qHe (c:Nat)(nm:Str)(len:Int):ql (List.replicate c (Im.nest nm 0 len))=c*len:=by
 have:=qDa c nm len c (Nat.le_refl c)
 rw [← bsL,List.length_replicate]
 exact this
theorem qDx {f:Str→Int→Rn}{c j:Nat}{nm:Str}{len t:Int}(hj:j < c)(h1:1≤len)(t0:0≤t)(t1:t < len):qO f (List.replicate c (Im.nest nm 0 len)) (t+j*len)=xo (f nm t) 0 len (j*len):=by
 have hb:=qDa c nm len j (by omega)
 have hp:=qDm (c:=c) (nm:=nm) h1
 have ht:=hp.item (t:=t+j*len) (qBf hj) (by rw [hb];omega) (by rw [hb];show t+j*len < j*len+len;omega)
 rw [xR (hp.mix _) ht (qBf hj),hb]
 have e1:t+(j:Int)*len - (j:Int)*len=t:=by omega
 have e2:t+(j:Int)*len - t=(j:Int)*len:=by omega
 rw [e1,e2]
 show xo (f nm (0+t)) 0 len _=_
 rw [Int.zero_add]
theorem qDr {f:Str→Int→Rn}{g':Int→Rn}{T:Int→List Te}{c j:Nat}{nm:Str}{len:Int}(hP:qBr (f nm) T)(hj:j < c)(h1:1≤len)(hg:∀ t,0≤t→g' t=qO f (List.replicate c (Im.nest nm 0 len)) t):
 ∀ {L:List Pc} {b:Int},0≤b→Chn (f nm) b L len→Chn g' (b+j*len) L (len+j*len)
 | [],b,_,h=>by
  have h:b=len:=h
  show b+j*len=len+j*len
  omega
 | x::L,b,b0,⟨q1,q2,q3⟩=>by
  have hs:=(xS q3).2.1
  have hjl:0≤(j:Int)*len:=Int.mul_nonneg (by omega) (by omega)
  have hpg:=hP.pg b b0
  refine⟨q1,?_,?_⟩
  · rw [hg _ (by omega),qDx hj h1 b0 (by omega)]
    rw [q2] at hpg ⊢
    rw [qB2 (e:=b+x.1) b0 rfl (by omega) hpg]
    show (⟨b+j*len,some (b+x.1+j*len),x.2⟩:Rn)=⟨b+j*len,some (b+j*len+x.1),x.2⟩
    have:b+x.1+(j:Int)*len=b+j*len+x.1:=by omega
    rw [this]
  · have ih:=qDr hP hj h1 hg (by omega) q3
    have:b+x.1+(j:Int)*len=b+j*len+x.1:=by omega
    rw [this] at ih
    exact ih
theorem qEi {f:Str→Int→Rn}{g':Int→Rn}{T:Int→List Te}{c:Nat}{nm:Str}{len:Int}{L:List Pc}(hP:qBr (f nm) T)(h1:1≤len)(hg:∀ t,0≤t→g' t=qO f (List.replicate c (Im.nest nm 0 len)) t)(hL:Chn (f nm) 0 L len):
 ∀ j:Nat,j≤c→∃ L',Chn g' 0 L' (j*len)∧L'.length=j*L.length
 | 0,_=>⟨[],by show (0:Int)=0*len;rw [Int.zero_mul],by simp⟩
 | j+1,h=>by
  obtain⟨L',q1,q2⟩:=qEi hP h1 hg hL j (by omega)
  have:=qDr hP (show j < c by omega) h1 hg (Int.le_refl 0) hL
  rw [Int.zero_add] at this
  have e:len+(j:Int)*len=((j+1:Nat):Int)*len:=by
   rw [show ((j+1:Nat):Int)=(j:Int)+1 by omega,Int.add_mul,Int.one_mul];omega
  rw [e] at this
  exact⟨L'++L,qD1 q1 this,by rw [List.length_append,q2,Nat.succ_mul]⟩
theorem qG6 {f:Str→Int→Rn}{ms:List Im}(h:Pln ms)(hn:∀ m∈ms,m.wd≠"nest"){i:Nat}{m:Im}{t:Int}(hi:ms[i]? =some m)(h1:qN ms i≤t)(h2:t < qN ms i+m.mo):∃ ps,qO f ms t=⟨qN ms i,some (qN ms i+m.mo),ps⟩:=by
 have e:=xR (f:=f) (h.mix t) (h.item hi h1 h2) hi
 have e2:t - (t - qN ms i)=qN ms i:=by omega
 rw [e2] at e
 have hmm:=List.mem_of_getElem? hi
 cases m with
 | mix l=>exact absurd rfl (h _ hmm).2
 | nest nm b l=>exact absurd rfl (hn _ hmm)
 | gap l=>exact⟨[],e⟩
 | clip n p q r s l=>
  have e:qO f ms t=zJ ms i (qN ms i):=e
  unfold zJ at e
  rw [hi,h.tb,h.te] at e
  dsimp only at e
  rw [Int.add_zero,Int.sub_zero] at e
  exact⟨_,e⟩
theorem Pln.mo {ms:List Im}(h:Pln ms){m:Im}(hm:m∈ms):1≤m.mo:=by
 obtain⟨h1,h2⟩:=h m hm
 cases m with
 | mix l=>exact absurd rfl h2
 | nest nm b l=>exact h1
 | gap l=>exact h1
 | clip n p q r s l=>exact h1.2.2.2
theorem qGq {f:Str→Int→Rn}{g:Int→Rn}{ms:List Im}(h:Pln ms)(hn:∀ m∈ms,m.wd≠"nest")(hg:∀ t,0≤t→g t=qO f ms t):∀ k:Nat,k≤ms.length→∃ L,Chn g 0 L (qN ms k)∧L.length=k
 | 0,_=>⟨[],(bs0 ms).symm,rfl⟩
 | k+1,hk=>by
  obtain⟨L,q1,q2⟩:=qGq h hn hg k (by omega)
  obtain⟨m,hm⟩:∃ m,ms[k]? =some m:=⟨_,List.getElem?_eq_getElem (by omega)⟩
  have hmo:=h.mo (List.mem_of_getElem? hm)
  have hb:0≤qN ms k:=by have:=bsM h.geo.nn (Nat.zero_le k);rw [bs0] at this;exact this
  obtain⟨ps,hr⟩:=qG6 (f:=f) h hn hm (Int.le_refl _) (by omega)
  have e:=bsS hm
  refine⟨L++[(qN ms (k+1) - qN ms k,ps)],zB q1 ?_ (by omega),by rw [List.length_append,q2];rfl⟩
  rw [hg _ hb,hr,e]
def Per (ms:List Im)(g:Int→Rn)(len:Int):Prop:=∃ c:Nat,len=c*ql ms∧∀ (q:Nat) (r:Int) (i:Nat) (m:Im),ms[i]? =some m→qN ms i≤r→r < qN ms i+m.mo→q < c→(g (r+q*ql ms)).b=qN ms i+q*ql ms∧(g (r+q*ql ms)).e=some (qN ms i+m.mo+q*ql ms)
theorem qHs {ms:List Im}(h:Nn ms){i:Nat}{m:Im}(hi:ms[i]? =some m):0≤qN ms i∧qN ms i+m.mo≤ql ms:=by
 have h1:=bsM h (Nat.zero_le i)
 rw [bs0] at h1
 have hk:=(glt hi)
 have h2:=bsM h (show i+1≤ms.length by omega)
 rw [bsS hi,bsL] at h2
 exact⟨h1,h2⟩
theorem qJi {f:Str→Int→Rn}{g':Int→Rn}{T:Int→List Te}{ms:List Im}{C:Nat}{nm:Str}{len:Int}(hn:Nn ms)(hP:qBr (f nm) T)(h1:1≤len)(hg:∀ t,0≤t→g' t=qO f (List.replicate C (Im.nest nm 0 len)) t)(h:Per ms (f nm) len):Per ms g' (C*len):=by
 obtain⟨c,hc,hp⟩:=h
 refine⟨C*c,by rw [hc,Int.natCast_mul,Int.mul_assoc],fun q r i m hi r1 r2 hq=>?_⟩
 obtain⟨i1,i2⟩:=qHs hn hi
 have hL0:=Nn.len hn
 have hc0:0 < c:=by
  cases c with
  | zero=>rw [Nat.mul_zero] at hq;omega
  | succ c=>omega
 have hq2:q % c < c:=Nat.mod_lt _ hc0
 have hj:q / c < C:=by
  rw [Nat.div_lt_iff_lt_mul hc0];exact hq
 have hqe:q=(q / c)*c+q % c:=by have:=Nat.div_add_mod q c;rw [Nat.mul_comm] at this;omega
 generalize q / c=j at hj hqe
 generalize q % c=q' at hq2 hqe
 obtain⟨b1,b2⟩:=hp q' r i m hi r1 r2 hq2
 have hqq:0≤(q':Int)*ql ms:=Int.mul_nonneg (by omega) hL0
 have hle:((q':Int)+1)*ql ms≤c*ql ms:=Int.mul_le_mul_of_nonneg_right (by omega) hL0
 rw [Int.add_mul,Int.one_mul,← hc] at hle
 have et:r+(q:Int)*ql ms=(r+q'*ql ms)+j*len:=by
  rw [hqe,hc,Int.natCast_add,Int.natCast_mul,Int.add_mul,Int.mul_assoc];omega
 have es:(q:Int)*ql ms=q'*ql ms+j*len:=by omega
 have hjl:0≤(j:Int)*len:=Int.mul_nonneg (by omega) (by omega)
 have hpg:=hP.pg (r+q'*ql ms) (by omega)
 rw [es,← Int.add_assoc,hg _ (by omega),qDx hj h1 (by omega) (by omega),qB2 (e:=qN ms i+m.mo+q'*ql ms) (by rw [b1];omega) b2 (by omega) hpg]
 refine⟨?_,?_⟩
 · show (f nm (r+q'*ql ms)).b+j*len=_
   rw [b1];omega
 · show some (qN ms i+m.mo+q'*ql ms+j*len)=_
   congr 1
   omega
inductive Tower (rm:Rms)(ms:List Im):Nat→Str→Int→Nat→Prop
 | base {nm:Str} (h:rm nm=some [ms]):Tower rm ms 0 nm (ql ms) ms.length
 | up {k:Nat} {nm nm':Str} {len:Int} {cnt c:Nat} (h:Tower rm ms k nm len cnt) (h':rm nm'=some [List.replicate c (Im.nest nm 0 len)]) (c1:1≤c) (c2:c≤300) (l1:len < 2 ^ 60):Tower rm ms (k+1) nm' (c*len) (c*cnt)
theorem Tower.ext {rm rm':Rms}{ms:List Im}(h:∀ x ts,rm x=some ts→rm' x=some ts):∀ {k:Nat} {nm:Str} {len:Int} {cnt:Nat},Tower rm ms k nm len cnt→Tower rm' ms k nm len cnt
 | _,_,_,_,.base q=>.base (h _ _ q)
 | _,_,_,_,.up q q' c1 c2 l1=>.up (q.ext h) (h _ _ q') c1 c2 l1
structure Fst (ms:List Im):Prop where
 pl:Pln ms
 nn:∀ m∈ms,m.wd≠"nest"
 s:∀ m∈ms,m.s
 len:ms.length≤300
 ne:ms≠[]
theorem Fst.len1 {ms:List Im}(h:Fst ms):1≤ql ms:=by
 cases ms with
 | nil=>exact absurd rfl h.ne
 | cons m r=>
  have h1:=h.pl.mo (List.mem_cons_self ..)
  have h2:=Nn.len (h.pl.geo.nn.tail)
  rw [zK]
  omega
theorem Tower.len1 {rm:Rms}{ms:List Im}(hF:Fst ms):∀ {k:Nat} {nm:Str} {len:Int} {cnt:Nat},Tower rm ms k nm len cnt→1≤len
 | _,_,_,_,.base q=>hF.len1
 | _,_,_,_,.up (c:=c) (len:=len) q q' c1 c2 l1=>by
  have:=q.len1 hF
  have:=Int.mul_le_mul_of_nonneg_right (show (1:Int)≤(c:Int) by omega) (show 0≤len by omega)
  omega
theorem Tower.sm {rm:Rms}{ms:List Im}(hF:Fst ms):∀ {k:Nat} {nm:Str} {len:Int} {cnt:Nat},Tower rm ms k nm len cnt→SmL rm (k+1) nm
 | _,nm,_,_,.base q=>⟨[ms],q,by show 1≤300;decide,fun x hx=>by
  rw [List.mem_singleton] at hx
  subst hx
  exact⟨hF.len,hF.pl.geo,hF.s,fun nm' b l q=>absurd rfl (hF.nn _ q)⟩⟩
 | _,nm,_,_,.up (c:=c) (len:=len) (nm:=nm0) q q' c1 c2 l1=>⟨_,q',by show 1≤300;decide,fun x hx=>by
  rw [List.mem_singleton] at hx
  subst hx
  have l0:=q.len1 hF
  refine⟨by rw [List.length_replicate];exact c2,(qDm l0).geo,fun m hm=>?_,fun nm' b l hm=>?_⟩
  · rw [List.mem_replicate] at hm
    rw [hm.2]
    exact⟨Int.le_refl 0,by decide,l0,l1⟩
  · rw [List.mem_replicate] at hm
    cases hm.2
    exact q.sm hF⟩
theorem SmL.up {rm:Rms}:∀ (n:Nat) (nm:Str),SmL rm n nm→∀ m,n≤m→SmL rm m nm
 | 0,_,q,_,_=>q.elim
 | n+1,nm,⟨ts,h1,h2,h3⟩,m,hm=>by
  obtain⟨k,rfl⟩:∃ k,m=k+1:=⟨m - 1,by omega⟩
  exact⟨ts,h1,h2,fun ms hms=>let ⟨a,b,c,d⟩:=h3 ms hms;⟨a,b,c,fun nm' b' l' q=>SmL.up n nm' (d nm' b' l' q) k (by omega)⟩⟩
theorem vx {rm:Rms}{ms:List Im}{N:Nat}(hF:Fst ms):∀ {k:Nat} {nm:Str} {len:Int} {cnt:Nat},Tower rm ms k nm len cnt→k+1≤N→(∃ L,Chn (qW rm N nm) 0 L len∧L.length=cnt)∧Per ms (qW rm N nm) len
 | _,nm,_,_,.base q,hN=>by
  have hL:=SmL.up _ nm ((Tower.base q).sm hF) N hN
  have hg:∀ t,0≤t→qW rm N nm t=qO (qW rm N) ms t:=fun t t0=>qBd hL q t0
  refine⟨?_,1,by rw [show ((1:Nat):Int)=1 from rfl,Int.one_mul],fun q' r i m hi r1 r2 hq=>?_⟩
  · have:=qGq hF.pl hF.nn hg ms.length (Nat.le_refl _)
    rw [bsL] at this
    exact this
  · obtain rfl:q'=0:=by omega
    have e0:((0:Nat):Int)*ql ms=0:=by rw [show ((0:Nat):Int)=0 from rfl,Int.zero_mul]
    obtain⟨i1,_⟩:=qHs hF.pl.geo.nn hi
    obtain⟨ps,hr⟩:=qG6 (f:=qW rm N) hF.pl hF.nn hi r1 r2
    rw [e0,Int.add_zero,Int.add_zero,Int.add_zero,hg r (by omega),hr]
    exact⟨rfl,rfl⟩
 | _,nm,_,_,.up (k:=k) (c:=c) (len:=len) (nm:=nm0) (cnt:=cnt) q q' c1 c2 l1,hN=>by
  obtain⟨⟨L,h1,h2⟩,h3⟩:=vx (N:=N) hF q (by omega)
  have hL:=SmL.up _ nm ((Tower.up q q' c1 c2 l1).sm hF) N hN
  have hL0:=SmL.up _ nm0 (q.sm hF) N (by omega)
  have hP:=qEm rm N nm0 (SmL.geo rm N nm0 hL0)
  have hg:∀ t,0≤t→qW rm N nm t=qO (qW rm N) (List.replicate c (Im.nest nm0 0 len)) t:=fun t t0=>qBd hL q' t0
  have l0:=q.len1 hF
  refine⟨?_,qJi hF.pl.geo.nn hP l0 hg h3⟩
  obtain⟨L',a1,a2⟩:=qEi hP l0 hg h1 c (Nat.le_refl c)
  exact⟨L',a1,by rw [a2,h2]⟩
inductive qAf (K:W.Frag)(vs:List V)(H:Hp)(Q:VK)(_:XK):Prop
| mk (rz:Addr) (nm:Str) (rm:Rms) (ts:List (List Im)) (M:Int) (Lf:List Pc) (_:vs=[.ref rz,.str nm]) (_:RoomAt H rz rm) (_:SmL rm 6 nm) (_:rm nm=some ts) (_:(∀ nm ts,rm nm=some ts→ts.length≤1)) (_:Lg ts M) (_:M < 2 ^ 62) (_:Chn (qW rm 6 nm) 0 Lf M) (_:∀ H',Same H H'→Q (.int (if Lf.length≤400 then (Lf.length:Int) else 401)) H')
set_option maxHeartbeats 8000000 in
theorem z7 (T:Tx K mg a):FnOk P w K mg base CX0 32 a.A30 a.B30 ["_law_room","_law_name"] (qAf K):=by
 refine T.D30.F.ok je (fun vs H Q E h=>?_) (fun cdv A outer s H vs Q E hr h=>?_)
 · obtain⟨rz,nm,rm,ts,M,Lf,rfl,_⟩:=h
   rfl
 refine qJ fun _ Y=>?_
 obtain⟨rz,nm,rm,ts,M,Lf,rfl,hR,hL,hts,hT,hM,hM1,hLf,kk⟩:=h
 have hu:=hr.units
 obtain⟨Exn,hEx⟩:∃ Exn:Value→Option Addr→Hp→Prop,Exn=fun B od H'=>Same H H'∧B= .ref a.k_TooMuch∧od=none∧400 < Lf.length:=⟨_,rfl⟩
 apply Y
 refine⟨_,(qB (qP 2 je.nd (jO qC))
  (qB (vz (qIy (Exn) (.some (i:=3) rfl rfl) je.nd rfl T.c_CutError (fun _=>(qG (qP 2 je.nd (qIl T.D27 (kW T) hr rfl (qA (pv 0) (qA (pv 1) qC)))))) (fun _ _=>(qB (qP 4 je.nd (qIw (qQ (jR (K:=K) rfl) rfl T.b_isinstance rfl (qA (pv 3) (qA (j8 (v:=.ref a.k_NoRoom) rfl T.c_NoRoom rfl) qC))) (qIw (qQ (jR (K:=K) rfl) rfl T.b_isinstance rfl (qA (pv 3) (qA (j8 (v:=.ref a.k_NoPlace) rfl T.c_NoPlace rfl) qC))) (qGy (qQ (jR (K:=K) rfl) rfl T.b_isinstance rfl (qA (pv 3) (qA (j8 (v:=.ref a.k_Short) rfl T.c_Short rfl) qC)))))))
  (qB (jc (PW.pt (z6 (vU (qQ (jR (K:=K) rfl) rfl T.b_isinstance rfl (qA (pv 3) (qA (j8 (v:=.ref a.k_TooMuch) rfl T.c_TooMuch rfl) qC)))) (z6 (vU (qQ (jR (K:=K) rfl) rfl T.b_isinstance rfl (qA (pv 3) (qA (qHi rfl T.b_ValueError rfl) qC)))) (zd (qCf (vU (pv 4))))))) (qG (qU qF)) qj)
  (qG (qU (zo jy qF))))))))
  (qG (qU (qQ qc rfl T.b_len rfl (qA (pv 2) qC)))))),?_⟩
 try dsimp only [xH,jD]
 subst hEx
 refine⟨sL0,fun kz hkz=>?_⟩
 have w1:=qE hkz (.lst [])
 generalize upd H kz (.lst [])=H1 at w1 ⊢
 refine⟨fun σ H'=>∃ (o1 o2 o4 o5:Option V) (fl:Addr) (us:List V),σ=[o1,o2,some (.ref fl),o4,o5]∧Same H H'∧H' fl=some (.lst us)∧us.length=Lf.length∧Lf.length≤400,?_,?_⟩
 · refine⟨?_,?_⟩
   · refine⟨_,rfl,_,rfl,rz,nm,rm,1,ts,M,Lf,rfl,hR.same w1,hL,hts,hT,hM,hM1,by decide,by decide,hLf,fun h4 pl us H' e' hpl0 hpl hpc=>?_,fun h4 H' e'=>?_⟩
     · exact⟨_,_,_,_,pl,us,rfl,w1.trans e',hpl,hpc.len,h4⟩
     · exact⟨w1.trans e',rfl,rfl,h4⟩
   · rintro ea ⟨B1,B2⟩ σ' H' ⟨sH,e1,e2,h4⟩ hn hl'
     refine qJ fun _ Y=>?_
     obtain⟨o1,o2,o3,o4,o5,rfl⟩:∃ o1 o2 o3 o4 o5,σ'=[o1,o2,o3,o4,o5]:=by
      match σ',hl' with
      | [o1,o2,o3,o4,o5],_=>exact⟨o1,o2,o3,o4,o5,rfl⟩
     apply Y
     dsimp only at e1 e2
     subst e1 e2
     have w2:=qE hn (vH ea (.ref a.k_TooMuch,none))
     have hea:(upd H' ea (vH ea (.ref a.k_TooMuch,none))) ea=some (vH ea (.ref a.k_TooMuch,none)):=qD
     have e2:=sH.trans w2
     refine⟨T.x1,?_⟩
     show _
     generalize upd H' ea (vH ea (.ref a.k_TooMuch,none))=H2 at hea e2 ⊢
     have hk:=kk H2 e2
     rw [if_neg (by omega)] at hk
     refine⟨_,rfl,ea,_,_,_,false,rfl,hea,.inl rfl,T.e_TooMuch,.inr ⟨_,rfl,T.p1⟩,_,rfl,qCv ?_⟩
     refine⟨_,rfl,ea,_,_,_,false,rfl,hea,.inl rfl,T.e_TooMuch,.inr ⟨_,rfl,T.p2⟩,_,rfl,qCv ?_⟩
     refine⟨_,rfl,ea,_,_,_,false,rfl,hea,.inl rfl,T.e_TooMuch,.inr ⟨_,rfl,T.p3⟩,?_⟩
     refine⟨_,rfl,ea,_,_,_,true,rfl,hea,.inl rfl,T.e_TooMuch,.inr ⟨_,rfl,T.p4⟩,_,rfl,qDi ?_⟩
     refine⟨_,rfl,ea,_,_,_,true,rfl,hea,.inl rfl,T.e_TooMuch,.inl ⟨_,rfl,T.p5⟩,_,rfl,qDi ?_⟩
     exact⟨_,rfl,_,rfl,qDi hk⟩
 rintro σ H' ⟨o1,o2,o4,o5,fl,us,rfl,e',hfl,hul,h4⟩
 have hk:=kk H' e'
 rw [if_pos h4,← hul] at hk
 exact⟨_,rfl,fl,_,rfl,.inl (SqL.of hfl),hk⟩
def qJ1 (ms:List Im)(start many:Int)(g:Int→Rn):Prop:=∀ (q i:Nat) (m:Im) (w u:Int),ms[i]? =some m→0≤w→w < m.mo→0≤u→u < many→start+u=qN ms i+w+q*ql ms→(w=0∨u=0)→∃ ps,g u=⟨u,some (if many < u - w+m.mo then many else u - w+m.mo),ps⟩
theorem qH0 {rm:Rms}{ms:List Im}{N k:Nat}{nm fn:Str}{len start many:Int}{cnt:Nat}(hF:Fst ms)(hT:Tower rm ms k nm len cnt)(hk:k+2≤N)(hf:rm fn=some [[.nest nm start many]])(s0:0≤start)(m1:1≤many)(hm:start+many≤len)(sb:len < 2 ^ 60):SmL rm N fn∧qJ1 ms start many (qW rm N fn):=by
 have hL0:=SmL.up _ nm (hT.sm hF) (k+1) (Nat.le_refl _)
 have hpl:Pln [Im.nest nm start many]:=fun m hm=>by
  rw [List.mem_singleton] at hm
  subst hm
  exact⟨m1,by show ("nest":Str)≠"mix";decide+kernel⟩
 have hLf:SmL rm (k+2) fn:=⟨_,hf,by show 1≤300;decide,fun x hx=>by
  rw [List.mem_singleton] at hx
  subst hx
  refine⟨by show 1≤300;decide,hpl.geo,fun m hm=>?_,fun nm' b l hm=>?_⟩
  · rw [List.mem_singleton] at hm
    subst hm
    exact⟨s0,by omega,m1,by omega⟩
  · rw [List.mem_singleton] at hm
    cases hm
    exact hL0⟩
 have hL:=SmL.up _ fn hLf N hk
 refine⟨hL,fun q i m w u hi w0 w1 u0 u1 he hwu=>?_⟩
 obtain⟨_,c,hc,hp⟩:=vx (N:=N) hF hT (by omega)
 obtain⟨i1,i2⟩:=qHs hF.pl.geo.nn hi
 have hL1:=hF.len1
 have hq:q < c:=by
  by_cases h:q < c
  · exact h
  · have:=Int.mul_le_mul_of_nonneg_right (show (c:Int)≤(q:Int) by omega) (show 0≤ql ms by omega)
    omega
 obtain⟨b1,b2⟩:=hp q (qN ms i+w) i m hi (by omega) (by omega) hq
 have hqq:0≤(q:Int)*ql ms:=Int.mul_nonneg (by omega) (by omega)
 have hbs:qN [Im.nest nm start many] 0=0:=bs0 _
 have ht:=hpl.item (t:=u) (i:=0) rfl (by rw [hbs];exact u0) (by rw [hbs];show u < 0+many;omega)
 rw [qBd hL hf u0,xR (hpl.mix u) ht rfl,hbs]
 have e1:u - 0=u:=by omega
 have e2:u - (u - 0)=0:=by omega
 rw [e2,e1]
 show ∃ ps,xo (qW rm N nm (start+u)) start many 0=_
 rw [he]
 generalize hx:qW rm N nm (qN ms i+w+q*ql ms)=x at b1 b2
 obtain⟨b,e,ps⟩:=x
 have b1:b=qN ms i+q*ql ms:=b1
 have b2:e=some (qN ms i+m.mo+q*ql ms):=b2
 subst b2
 have f1:mxI 0 (b+(0 - start))=u:=by unfold mxI;split <;> omega
 refine⟨ps.map (Pt.later (mxI 0 (b+(0 - start)) - (b+(0 - start)))),?_⟩
 show (⟨mxI 0 (b+(0 - start)),some (if 0+many < qN ms i+m.mo+q*ql ms+(0 - start) then 0+many else qN ms i+m.mo+q*ql ms+(0 - start)),ps.map (Pt.later (mxI 0 (b+(0 - start)) - (b+(0 - start))))⟩:Rn)=_
 have f2:qN ms i+m.mo+q*ql ms+(0 - start)=u - w+m.mo:=by omega
 rw [f1,f2,Int.zero_add]
inductive wG (vs:List V)(H:Hp)(Q:VK)(_:XK):Prop
| mk (n:Int) (_:vs=[.int n]) (_:∀ (c:Nat) (H':Hp),Same H H'→1≤c→c≤60→Q (.int (c:Int)) H')
theorem j5 (T:Tx K mg a):FnOk P w K mg base CX0 1 a.A31 a.B31 ["_law_number"] wG:=by
 refine T.D31.F.ok zF (fun vs H Q E h=>?_) (fun cdv A outer s H vs Q E hr h=>?_)
 · obtain⟨n,rfl,_⟩:=h
   rfl
 refine qJ fun _ Y=>?_
 obtain⟨n,rfl,kk⟩:=h
 apply Y
 refine⟨_,(qB (qP 1 zF.nd (jO (qA (qL qg qF (qL qx (qL q8 (pv 0) qF) qF)) (qA (qL qg qF (qL qx (qL q8 (pv 0) qF) qF)) (qA (qL qg qF (qL qx (qL q8 (pv 0) qF) qF)) (qA qF (qA qF (qA qF (qA qF qC)))))))))
  (qG (qU (qQ (zY rfl) rfl T.b_min rfl (qA (jC qi (pv 1) (qL qx (pv 0) qF) (fun _ _=>rfl)) (qA qF qC)))))),?_⟩
 try dsimp only [xH,jD]
 have f3:=fm (n.fdiv 7) (show (0:Int) < 3 by decide)
 have f20:=fm (n.fdiv 7) (show (0:Int) < 20 by decide)
 have f60:=fm (n.fdiv 7) (show (0:Int) < 60 by decide)
 have f7:=fm n (show (0:Int) < 7 by decide)
 refine⟨_,rfl,_,_,rfl,rfl,cdB (by decide) (by decide),_,_,rfl,rfl,nz,_,_,rfl,rfl,_,rfl,_,_,rfl,rfl,cdB (by decide) (by decide),_,_,rfl,rfl,nz,_,_,rfl,rfl,_,rfl,_,_,rfl,rfl,cdB (by decide) (by decide),_,_,rfl,rfl,nz,_,_,rfl,rfl,(by show 7≤sizeLine;decide),fun la hla=>?_⟩
 have wa:=qE hla (.lst [.int (1+(n.fdiv 7).fmod 3),.int (1+(n.fdiv 7).fmod 20),.int (1+(n.fdiv 7).fmod 60),.int 2,.int 1,.int 60,.int 400])
 have ka:upd H la (.lst [.int (1+(n.fdiv 7).fmod 3),.int (1+(n.fdiv 7).fmod 20),.int (1+(n.fdiv 7).fmod 60),.int 2,.int 1,.int 60,.int 400]) la=some (.lst [.int (1+(n.fdiv 7).fmod 3),.int (1+(n.fdiv 7).fmod 20),.int (1+(n.fdiv 7).fmod 60),.int 2,.int 1,.int 60,.int 400]):=qD
 refine qJ fun _ Y=>?_
 obtain⟨c,hc,c1⟩:∃ c:Int,atI [V.int (1+(n.fdiv 7).fmod 3),.int (1+(n.fdiv 7).fmod 20),.int (1+(n.fdiv 7).fmod 60),.int 2,.int 1,.int 60,.int 400] (n.fmod 7)=some (.int c)∧1≤c:=by
  have:n.fmod 7=0∨n.fmod 7=1∨n.fmod 7=2∨n.fmod 7=3∨n.fmod 7=4∨n.fmod 7=5∨n.fmod 7=6:=by omega
  rcases this with e | e | e | e | e | e | e <;> rw [e]
  · exact⟨_,rfl,by omega⟩
  · exact⟨_,rfl,by omega⟩
  · exact⟨_,rfl,by omega⟩
  · exact⟨_,rfl,by decide⟩
  · exact⟨_,rfl,by decide⟩
  · exact⟨_,rfl,by decide⟩
  · exact⟨_,rfl,by decide⟩
 apply Y
 generalize upd H la (.lst [.int (1+(n.fdiv 7).fmod 3),.int (1+(n.fdiv 7).fmod 20),.int (1+(n.fdiv 7).fmod 60),.int 2,.int 1,.int 60,.int 400])=Ha at wa ka ⊢
 have hm:1≤(if (60:Int) < c then (60:Int) else c)∧(if (60:Int) < c then (60:Int) else c)≤60:=by split <;> omega
 refine⟨_,rfl,_,rfl,_,_,rfl,rfl,nz,la,_,_,_,rfl,rfl,SqL.of ka,hc,_,_,rfl,?_⟩
 have:=kk (if (60:Int) < c then (60:Int) else c).toNat Ha wa (by omega) (by omega)
 rw [Int.toNat_of_nonneg (by omega)] at this
 exact this
theorem IsIs.take {H:Hp}:∀ {ms:List Im} {vs:List V} {i:Nat},IsIs H ms vs→IsIs H (ms.take i) (vs.take i)
 | [],[],_,_=>by simp [IsIs]
 | _::_,_::_,0,_=>trivial
 | _::_,_::_,_+1,h=>⟨h.1,h.2.take⟩
 | [],_::_,_,h=>h.elim
 | _::_,[],_,h=>h.elim
theorem IsIs.drop {H:Hp}:∀ {ms:List Im} {vs:List V} {i:Nat},IsIs H ms vs→IsIs H (ms.drop i) (vs.drop i)
 | [],[],_,_=>by simp [IsIs]
 | _::_,_::_,0,h=>h
 | _::_,_::_,_+1,h=>h.2.drop (i:=_)
 | [],_::_,_,h=>h.elim
 | _::_,[],_,h=>h.elim
def OkI (m:Im):Prop:=(∃ p r l,m= .clip "reel" p 1 r 1 l∧0≤p∧p < 90∧0≤r∧r≤1∧1≤l∧l≤3)∨∃ l,m= .gap l∧1≤l∧l≤4
structure OkF (m:Im):Prop where
 wf:Wf m
 nx:m.wd≠"mix"
 nn:m.wd≠"nest"
 s:m.s
 mo:1≤m.mo∧m.mo≤4
 ml:m.l=m.mo
theorem OkI.f {m:Im}(h:OkI m):OkF m:=by
 rcases h with ⟨p,r,l,rfl,p0,p1,r0,r1,l1,l3⟩ | ⟨l,rfl,l1,l4⟩
 · have hp:p.natAbs < 2 ^ 110:=Nat.lt_of_lt_of_le (show p.natAbs < 2 ^ 7 by omega) (Nat.pow_le_pow_right (by decide) (by decide))
   have hr:r.natAbs < 2 ^ 110:=Nat.lt_of_lt_of_le (show r.natAbs < 2 ^ 7 by omega) (Nat.pow_le_pow_right (by decide) (by decide))
   refine⟨⟨by decide,by decide,by simp,l1⟩,by show ("clip":Str)≠"mix";decide+kernel,by show ("clip":Str)≠"nest";decide+kernel,⟨by decide,by decide,hp,by decide,hr,by decide,l1,by omega⟩,⟨l1,by show l≤4;omega⟩,rfl⟩
 · exact⟨l1,by show ("gap":Str)≠"mix";decide+kernel,by show ("gap":Str)≠"nest";decide+kernel,⟨l1,by omega⟩,⟨l1,l4⟩,rfl⟩
theorem qDj {ms:List Im}(h:∀ m∈ms,OkI m)(hl:ms.length≤300)(hn:ms≠[]):Fst ms:=⟨fun m hm=>⟨(h m hm).f.wf,(h m hm).f.nx⟩,fun m hm=>(h m hm).f.nn,fun m hm=>(h m hm).f.s,hl,hn⟩
theorem qEu:∀ {ms:List Im},(∀ m∈ms,OkI m)→ql ms≤4*ms.length
 | [],_=>Int.le_refl _
 | m::ms,h=>by
  have h1:=(h m (List.mem_cons_self ..)).f.mo.2
  have h2:=qEu fun x hx=>h x (List.mem_cons_of_mem _ hx)
  rw [zK,List.length_cons]
  omega
inductive wP (vs:List V)(H:Hp)(Q:VK)(_:XK):Prop
| mk (c:Int) (sv:Nat) (_:vs=[.int c,.int (sv:Int)]) (_:1≤sv) (_:sv≤60) (_:∀ (z:Addr) (ms:List Im) (H':Hp),Same H H'→H z=none→Tr H' z ms→(∀ m∈ms,OkI m)→ms≠[]→ms.length≤60→Q (.ref z) H')
set_option maxHeartbeats 8000000 in
theorem vw (T:Tx K mg a):FnOk P w K mg base CX0 2 a.A32 a.B32 ["_law_cell","_law_several"] wP:=by
 refine T.D32.F.ok jJ (fun vs H Q E h=>?_) (fun cdv A outer s H vs Q E hr h=>?_)
 · obtain⟨c,sv,rfl,_⟩:=h
   rfl
 refine qJ fun _ Y=>?_
 obtain⟨c,sv,rfl,s1,s60,kk⟩:=h
 apply Y
 refine⟨_,(qB (qP 2 jJ.nd (qI T.D29 (qt T) hr rfl (qA (pv 0) (qA qF qC))))
  (qB (qP 3 jJ.nd (jO qC))
  (qB (vA PassesOwn.never rfl (kS rfl T.b_range (qA (pv 1) qC)) (jE (i:=4) jJ.nd rfl (Or.inl rfl)) (qB (qP 5 jJ.nd (qI T.D29 (qt T) hr rfl (qA (pv 0) (qA (qL qg qF (pv 4)) qC))))
  (qB (qP 6 jJ.nd (jC qi (jO (qA (qd (qA qF (qA qF qC))) (qA (qd (qA qF (qA qF qC))) qC))) (qL qx (qL q8 (pv 2) qF) qF) (fun _ _=>rfl)))
  (qG (xA (wH F.plainAttrs_list F.slot_list_append F.type_list_append jp (pv 3) (qA (qd (qA jF (qA jF (qA (qd (qA (qL qx (pv 5) qF) (qA qF qC))) (qA (pv 6) (qA (qL qg qF (qL qx (qL q8 (pv 5) qF) qF)) qC)))))) qC)))))))
  (qB (jc (qGz (PW.pt (z6 (qY vI (qL qx (qL q8 (pv 2) qF) qF) qF (qh _)) (z6 (qY qF3 (qQ qc rfl T.b_len rfl (qA (pv 3) qC)) qF (qh _)) (zd (qY vL (qQ qc rfl T.b_len rfl (qA (pv 3) qC)) qF (qh _))))))) (qG (xA (wH F.plainAttrs_list F.slot_list_insert F.type_list_insert qDd (pv 3) (qA qF (qA (qd (qA jF (qA (qL qg qF (qL qx (qL q8 (pv 2) qF) qF)) qC))) qC))))) qj)
  (qG (qU (pv 3))))))),?_⟩
 try dsimp only [xH,jD]
 refine⟨_,rfl,_,_,rfl,by decide,by decide,fun num n0 n1=>?_⟩
 refine⟨sL0,fun y hy=>?_⟩
 have w0:=qE hy (.lst [])
 have ky:upd H y (.lst []) y=some (.lst []):=qD
 generalize upd H y (.lst [])=H0 at w0 ky ⊢
 have two:(2:Nat)≤sizeLine:=by decide
 refine⟨_,rfl,_,rfl,by omega,by omega,qAo (n:=sv) (fun i σ H'=>∃ (o1 o2 o3:Option V) (ms:List Im) (us:List V),σ=[some (.int c),some (.int (sv:Int)),some (.int num),some (.ref y),o1,o2,o3]∧Same H H'∧H' y=some (.lst us)∧IsIs H' ms us∧ms.length=i∧∀ m∈ms,OkI m) ⟨none,none,none,[],[],rfl,w0,ky,trivial,rfl,(fun m hm=>by cases hm)⟩ ?_ ?_⟩
 · rintro i σ H1 hi ⟨o1,o2,o3,ms,us,rfl,sb,hyl,his,hml,hok⟩
   have hul:=his.len
   refine⟨_,rfl,_,rfl,_,_,rfl,rfl,_,_,rfl,by omega,by omega,fun more m0 m1=>?_⟩
   refine⟨two,fun t1 g1=>?_⟩
   have u1:=qE g1 (.tup [.int 1,.int 1])
   have x1:upd H1 t1 (.tup [.int 1,.int 1]) t1=some (.tup [.int 1,.int 1]):=qD
   generalize upd H1 t1 (.tup [.int 1,.int 1])=G1 at u1 x1 ⊢
   refine⟨two,fun t2 g2=>?_⟩
   have u2:=qE g2 (.tup [.int 0,.int 1])
   have x2:upd G1 t2 (.tup [.int 0,.int 1]) t2=some (.tup [.int 0,.int 1]):=qD
   generalize upd G1 t2 (.tup [.int 0,.int 1])=G2 at u2 x2 ⊢
   refine⟨two,fun la hla=>?_⟩
   have u3:=qE hla (.lst [.ref t1,.ref t2])
   have x3:upd G2 la (.lst [.ref t1,.ref t2]) la=some (.lst [.ref t1,.ref t2]):=qD
   generalize upd G2 la (.lst [.ref t1,.ref t2])=G3 at u3 x3 ⊢
   have u13:=(u1.trans u2).trans u3
   refine qJ fun _ Y=>?_
   obtain⟨ts,hat,r,r0,r1,hts⟩:∃ ts,atI [V.ref t1,.ref t2] ((num.fdiv 600).fmod 2)=some (.ref ts)∧∃ r:Int,0≤r∧r≤1∧G3 ts=some (.tup [.int r,.int 1]):=by
    have f:=fm (num.fdiv 600) (show (0:Int) < 2 by decide)
    have:(num.fdiv 600).fmod 2=0∨(num.fdiv 600).fmod 2=1:=by omega
    rcases this with e | e <;> rw [e]
    · exact⟨t1,rfl,1,by decide,by decide,u3 _ _ (u2 _ _ x1)⟩
    · exact⟨t2,rfl,0,by decide,by decide,u3 _ _ x2⟩
   apply Y
   refine⟨_,rfl,_,_,rfl,rfl,cdB (by decide) (by decide),_,_,rfl,rfl,nz,la,_,_,_,rfl,rfl,SqL.of x3,hat,?_⟩
   have hyl3:=u13 _ _ hyl
   have f90:=fm more (show (0:Int) < 90 by decide)
   have f3:=fm (more.fdiv 90) (show (0:Int) < 3 by decide)
   refine⟨_,rfl,.inl ⟨rfl,_,SqL.of hyl3⟩,_,rfl,_,_,rfl,rfl,nz,two,fun t5 g5=>?_⟩
   have u5:=qE g5 (.tup [.int (more.fmod 90),.int 1])
   have x5:upd G3 t5 (.tup [.int (more.fmod 90),.int 1]) t5=some (.tup [.int (more.fmod 90),.int 1]):=qD
   generalize upd G3 t5 (.tup [.int (more.fmod 90),.int 1])=G5 at u5 x5 ⊢
   refine⟨_,rfl,_,rfl,_,_,rfl,rfl,cdB (by decide) (by decide),_,_,rfl,rfl,nz,_,_,rfl,rfl,sL5,fun t6 g6=>?_⟩
   have u6:=qE g6 (.tup [.str "clip",.str "reel",.ref t5,.ref ts,.int (1+(more.fdiv 90).fmod 3)])
   have x6:upd G5 t6 (.tup [.str "clip",.str "reel",.ref t5,.ref ts,.int (1+(more.fdiv 90).fmod 3)]) t6=some (.tup [.str "clip",.str "reel",.ref t5,.ref ts,.int (1+(more.fdiv 90).fmod 3)]):=qD
   generalize upd G5 t6 (.tup [.str "clip",.str "reel",.ref t5,.ref ts,.int (1+(more.fdiv 90).fmod 3)])=G6 at u6 x6 ⊢
   have u16:=(u13.trans u5).trans u6
   have hyl6:=u16 _ _ hyl
   have hI:IsI G6 (.clip "reel" (more.fmod 90) 1 r 1 (1+(more.fdiv 90).fmod 3)) (.ref t6):=⟨t6,t5,ts,rfl,x6,u6 _ _ x5,u6 _ _ (u5 _ _ hts)⟩
   refine⟨y,_,_,rfl,rfl,hyl6,qf (by omega),_,_,_,ms++[.clip "reel" (more.fmod 90) 1 r 1 (1+(more.fdiv 90).fmod 3)],us++[.ref t6],rfl,jU (sb.trans u16) hy,qD,((his.ts (qV u16)).app (.one hI)).ts (zf hyl6),by rw [List.length_append,hml];rfl,fun m hm=>?_⟩
   rcases List.mem_append.mp hm with hm | hm
   · exact hok m hm
   · rw [List.mem_singleton] at hm
     exact .inl ⟨_,r,_,hm,by omega,by omega,r0,r1,by omega,by omega⟩
 rintro σ H1 ⟨o1,o2,o3,ms,us,rfl,sb,hyl,his,hml,hok⟩
 have hul:=his.len
 refine⟨fun b' H'=>H'=H1∧(b'=true→1 < sv∧sv < 60),?_,?_⟩
 · refine⟨_,rfl,_,_,rfl,rfl,cdB (by decide) (by decide),_,_,rfl,rfl,nz,rfl,_,rfl,xI (fun _=>?_) (fun _=>⟨rfl,(fun h=>by cases h)⟩)⟩
   refine⟨_,rfl,y,_,rfl,.inl (SqL.of hyl),_,_,rfl,rfl,_,rfl,xI (fun c1=>?_) (fun _=>⟨rfl,(fun h=>by cases h)⟩)⟩
   have c1:(1:Int) < ((us.length:Nat):Int):=by simpa using c1
   refine⟨_,rfl,y,_,rfl,.inl (SqL.of hyl),_,_,rfl,rfl,_,rfl,rfl,fun c2=>?_⟩
   have c2:((us.length:Nat):Int) < 60:=by simpa using c2
   omega
 rintro b' H2 ⟨rfl,hb⟩
 have hne:ms≠[]:=by intro e;rw [e] at hml;simp at hml;omega
 cases b' with
 | false=>exact qCv ⟨_,rfl,kk y ms H2 sb hy ⟨us,hyl,his⟩ hok hne (by omega)⟩
 | true=>
  obtain⟨b1,b2⟩:=hb rfl
  have f4:=fm (num.fdiv 3600) (show (0:Int) < 4 by decide)
  refine qDi ⟨_,rfl,.inl ⟨rfl,_,SqL.of hyl⟩,_,rfl,_,_,rfl,rfl,cdB (by decide) (by decide),_,_,rfl,rfl,nz,_,_,rfl,rfl,two,fun g hg=>?_⟩
  have w6:=qE hg (.tup [.str "gap",.int (1+(num.fdiv 3600).fmod 4)])
  have kg:upd H2 g (.tup [.str "gap",.int (1+(num.fdiv 3600).fmod 4)]) g=some (.tup [.str "gap",.int (1+(num.fdiv 3600).fmod 4)]):=qD
  generalize upd H2 g (.tup [.str "gap",.int (1+(num.fdiv 3600).fmod 4)])=H6 at w6 kg ⊢
  have hyl6:=w6 _ _ hyl
  refine⟨y,us,1,_,_,rfl,rfl,rfl,hyl6,by omega,by omega,_,rfl,?_⟩
  have his6:=his.ts (qV w6)
  have hI:IsI H6 (.gap (1+(num.fdiv 3600).fmod 4)) (.ref g):=isG kg
  have hisN:IsIs H6 (ms.take 1++([.gap (1+(num.fdiv 3600).fmod 4)]++ms.drop 1)) (us.take 1++([.ref g]++us.drop 1)):=(his6.take).app ((IsIs.one hI).app his6.drop)
  refine kk y (ms.take 1++([.gap (1+(num.fdiv 3600).fmod 4)]++ms.drop 1)) _ (jU (sb.trans w6) hy) hy ⟨_,qD,hisN.ts (zf hyl6)⟩ (fun m hm=>?_) ?_ ?_
  · rcases List.mem_append.mp hm with hm | hm
    · exact hok m (List.mem_of_mem_take hm)
    · rcases List.mem_append.mp hm with hm | hm
      · rw [List.mem_singleton] at hm
        exact .inr ⟨_,hm,by omega,by omega⟩
      · exact hok m (List.mem_of_mem_drop hm)
  · intro e
    have:=congrArg List.length e
    rw [List.length_append,List.length_append,List.length_singleton,List.length_nil] at this
    omega
  · rw [List.length_append,List.length_append,List.length_singleton,List.length_take,List.length_drop]
    omega
inductive zt (vs:List V)(H:Hp)(Q:VK)(_:XK):Prop
| mk (z:Addr) (ms:List Im) (start many:Int) (g:Int→Rn) (_:vs=[.ref z,.int start,.int many]) (_:Tr H z ms) (_:(∀ m∈ms,OkI m)) (_:ms≠[]) (_:ms.length≤60) (_:0≤start) (_:1≤many) (_:qJ1 ms start many g) (_:∀ (L:List Pc) (H':Hp),Same H H'→Chn g 0 L many→Q (.int (L.length:Int)) H')
set_option maxHeartbeats 8000000 in
theorem ze (T:Tx K mg a):FnOk P w K mg base CX0 1 a.A33 a.B33 ["_law_track","_law_start","_law_many"] zt:=by
 refine T.D33.F.ok qR (fun vs H Q E h=>?_) (fun cdv A outer s H vs Q E hr h=>?_)
 · obtain⟨z,ms,start,many,g,rfl,_⟩:=h
   rfl
 refine qJ fun _ Y=>?_
 obtain⟨z,ms,start,many,g,rfl,⟨xs,hz,his⟩,hok,hne,hml,s0,m1,hFm,kk⟩:=h
 apply Y
 have hF:=qDj hok (by omega) hne
 have hL1:=hF.len1
 have hxl:=his.len
 have hpos:0 < ms.length:=List.length_pos_iff.mpr hne
 refine⟨_,(qB (qP 3 qR.nd (qL qx (pv 1) (qQ (zT rfl) rfl T.b_sum rfl (qA (x8 [] [] rfl (xD (pv 0)) (fun _ _ _ _=>(jC (wL (K:=K) rfl) (pv 0) (zo jy qF) (fun _ _=>rfl)))) qC))))
  (qB (qP 4 qR.nd qF)
  (qB (xf PassesOwn.never (qY qJ4 (pv 3) (jC vP (jC qi (pv 0) (pv 4) (fun _ _=>rfl)) (zo jy qF) (fun _ _=>rfl)) (qh _)) (qB (qP 3 qR.nd (qL jQ (pv 3) (jC vP (jC qi (pv 0) (pv 4) (fun _ _=>rfl)) (zo jy qF) (fun _ _=>rfl))))
  (qG (qP 4 qR.nd (qL qg (pv 4) qF)))))
  (qB (qP 5 qR.nd qF)
  (qB (qP 6 qR.nd (pv 2))
  (qB (xf PassesOwn.never (qY qF3 (pv 6) qF (qh _)) (qB (qP 5 qR.nd (qL qg (pv 5) qF))
  (qB (qP 6 qR.nd (qL qg (qL jQ (pv 6) (jC vP (jC qi (pv 0) (pv 4) (fun _ _=>rfl)) (zo jy qF) (fun _ _=>rfl))) (pv 3)))
  (qB (qP 3 qR.nd qF)
  (qG (qP 4 qR.nd (qL qx (qL qg (pv 4) qF) (qQ qc rfl T.b_len rfl (qA (pv 0) qC)))))))))
  (qG (qU (pv 5))))))))),?_⟩
 try dsimp only [xH,jD]
 refine⟨_,rfl,_,rfl,z,rfl,⟨_,SqL.of hz⟩,jz (K:=K) (a:=z) (xs:=xs) (fun i acc H'=>H'=H∧acc=((ms.take i).map Im.mo).map V.int∧acc.length=i) ⟨rfl,rfl,rfl⟩ ?_ ?_ ?_⟩
 · rintro i acc H' hi ⟨rfl,_,hal⟩
   exact⟨SqL.of hz,qf (by omega)⟩
 · rintro i x acc H' hi hx ⟨rfl,rfl,hal⟩
   refine qJ fun _ Y=>?_
   obtain⟨m,hm,hI⟩:=his.get hx
   obtain⟨zi,xi,rfl,hzi,h0,hl1⟩:=hI.opn
   apply Y
   refine⟨_,rfl,_,rfl,zi,xi,_,_,rfl,rfl,SqT.of hzi,hl1,Nxt.mk hi ⟨rfl,?_,by simp at hal ⊢;omega⟩⟩
   rw [List.take_add_one,hm,(hok m (List.mem_of_getElem? hm)).f.ml]
   simp
 rintro acc H' ⟨rfl,rfl,hal⟩ sl hsl
 rw [hxl,List.take_length]
 have w1:=qE hsl (.lst ((ms.map Im.mo).map V.int))
 have ks:upd H' sl (.lst ((ms.map Im.mo).map V.int)) sl=some (.lst ((ms.map Im.mo).map V.int)):=qD
 generalize upd H' sl (.lst ((ms.map Im.mo).map V.int))=H1 at w1 ks ⊢
 have hz1:=w1 _ _ hz
 have his1:=his.ts (qV w1)
 have eL:(ms.map Im.mo).sum=ql ms:=rfl
 refine⟨sl,ms.map Im.mo,rfl,SqL.of ks,?_⟩
 rw [eL]
 have fr:=fm start (show (0:Int) < ql ms by omega)
 refine⟨_,_,rfl,rfl,(by omega),?_⟩
 have item:∀ i:Nat,i < ms.length→∃ (m:Im) (zi:Addr) (xi:List V),ms[i]? =some m∧xs[i]? =some (.ref zi)∧H1 zi=some (.tup xi)∧atI xi (-1)=some (.int m.mo)∧1≤m.mo:=fun i hi=>by
  obtain⟨m,hm⟩:∃ m,ms[i]? =some m:=⟨_,List.getElem?_eq_getElem hi⟩
  obtain⟨v,hv,hI⟩:=his1.get' hm
  obtain⟨zi,xi,rfl,hzi,h0,hl1⟩:=hI.opn
  have f:=(hok m (List.mem_of_getElem? hm)).f
  rw [f.ml] at hl1
  exact⟨m,zi,xi,hm,hv,hzi,hl1,f.mo.1⟩
 refine xg (fun σ H'=>∃ (w:Int) (i:Nat),σ=[some (.ref z),some (.int start),some (.int many),some (.int w),some (.int (i:Int)),none,none]∧H'=H1∧0≤w∧qN ms i+w=start.fmod (ql ms)∧i < ms.length)
  (fun σ _=>match σ with | [_,_,_,some (.int x),_,_,_]=>x.toNat | _=>0) ⟨_,0,rfl,rfl,fr.1,by rw [bs0];omega,hpos⟩ ?_ ?_
 · rintro σ H2 ⟨w,i,rfl,rfl,w0,hw,hi⟩
   refine qJ fun _ Y=>?_
   obtain⟨m,zi,xi,hm,hv,hzi,hlst,mo1⟩:=item i hi
   apply Y
   refine⟨_,rfl,_,rfl,_,rfl,z,_,_,_,rfl,rfl,SqL.of hz1,qy hv,_,rfl,zi,_,_,_,rfl,rfl,SqT.of hzi,hlst,_,_,rfl,rfl,_,rfl,xI (fun c=>?_) (fun c=>?_)⟩
   · have c:m.mo≤w:=by simpa using c
     have hb:=bsS hm
     have hi1:i+1 < ms.length:=by
      by_cases h:i+1 < ms.length
      · exact h
      · have:i+1=ms.length:=by omega
        rw [this,bsL] at hb
        omega
     refine⟨_,rfl,_,rfl,_,rfl,z,_,_,_,rfl,rfl,SqL.of hz1,qy hv,_,rfl,zi,_,_,_,rfl,rfl,SqT.of hzi,hlst,_,_,rfl,rfl,_,rfl,_,_,rfl,rfl,⟨w - m.mo,i+1,rfl,rfl,by omega,by omega,hi1⟩,?_⟩
     show (w - m.mo).toNat < w.toNat
     omega
   · have c:¬ m.mo≤w:=by simpa using c
     have hq0:0≤start.fdiv (ql ms):=Int.fdiv_nonneg s0 (by omega)
     have hsq:start=qN ms i+w+((start.fdiv (ql ms)).toNat:Int)*ql ms:=by
      rw [Int.toNat_of_nonneg hq0,hw]
      have:=Int.fmod_def start (ql ms)
      rw [Int.mul_comm] at this
      omega
     refine⟨_,rfl,xg (fun σ H'=>∃ (lf w:Int) (i:Nat) (L:List Pc),σ=[some (.ref z),some (.int start),some (.int many),some (.int w),some (.int (i:Int)),some (.int (L.length:Int)),some (.int lf)]∧H'=H2∧i < ms.length∧((0 < lf∧lf≤many∧Chn g 0 L (many - lf)∧(∃ q:Nat,start+(many - lf)=qN ms i+w+q*ql ms)∧0≤w∧(w=0∨many - lf=0)∧∀ m,ms[i]? =some m→w < m.mo)∨(lf≤0∧Chn g 0 L many)))
      (fun σ _=>match σ with | [_,_,_,_,_,_,some (.int x)]=>x.toNat | _=>0) ⟨many,w,i,[],rfl,rfl,hi,.inl ⟨by omega,Int.le_refl _,by show (0:Int)=many - many;omega,⟨_,by rw [Int.sub_self,Int.add_zero];exact hsq⟩,w0,.inr (Int.sub_self _),fun m' hm'=>by rw [hm] at hm';cases hm';omega⟩⟩ ?_ ?_⟩
     · rintro σ H3 ⟨lf,w,i,L,rfl,rfl,hi,hor⟩
       refine⟨_,rfl,_,_,rfl,rfl,_,rfl,xI (fun c=>?_) (fun c=>?_)⟩
       · have c:0 < lf:=by simpa using c
         refine qJ fun _ Y=>?_
         obtain⟨l2,hch,⟨q,hq⟩,w0,hwu,hwm⟩:lf≤many∧Chn g 0 L (many - lf)∧(∃ q:Nat,start+(many - lf)=qN ms i+w+q*ql ms)∧0≤w∧(w=0∨many - lf=0)∧∀ m,ms[i]? =some m→w < m.mo:=by
          rcases hor with h | ⟨h,_⟩
          · exact h.2
          · omega
         obtain⟨m,zi,xi,hm,hv,hzi,hlst,mo1⟩:=item i hi
         have hwm:=hwm m hm
         obtain⟨ps,hps⟩:=hFm q i m w (many - lf) hm w0 hwm (by omega) (by omega) hq hwu
         apply Y
         have hb:=bsS hm
         refine⟨_,rfl,_,_,rfl,rfl,_,rfl,_,rfl,_,rfl,z,_,_,_,rfl,rfl,SqL.of hz1,qy hv,_,rfl,zi,_,_,_,rfl,rfl,SqT.of hzi,hlst,_,_,rfl,rfl,_,rfl,_,_,rfl,rfl,_,rfl,_,_,rfl,rfl,_,rfl,z,_,rfl,.inl (SqL.of hz1),_,_,rfl,rfl,(by omega),?_,?_⟩
         · have hnew:∃ i':Nat,((i:Int)+1).fmod ((xs.length:Nat):Int)=(i':Int)∧i' < ms.length∧∃ q':Nat,qN ms i+m.mo+q*ql ms=qN ms i'+0+q'*ql ms:=by
            by_cases hl:i+1 < ms.length
            · refine⟨i+1,?_,hl,q,by omega⟩
              rw [Int.fmod_eq_emod_of_nonneg _ (by omega),Int.emod_eq_of_lt (by omega) (by omega)]
              omega
            · have e:i+1=ms.length:=by omega
              refine⟨0,?_,hpos,q+1,?_⟩
              · have:(i:Int)+1=((xs.length:Nat):Int):=by omega
                rw [this,Int.fmod_self]
                rfl
              · rw [e,bsL] at hb
                rw [bs0,Int.natCast_add,Int.add_mul,show ((1:Nat):Int)=1 from rfl,Int.one_mul]
                omega
           refine qJ fun _ Y=>?_
           obtain⟨i',hi',hil,q',hq'⟩:=hnew
           apply Y
           have hsn:∀ e',(if many < many - lf - w+m.mo then many else many - lf - w+m.mo)=e'→many - lf < e'→Chn g 0 (L++[(e' - (many - lf),ps)]) e':=fun e' he hlt=>zB hch (by rw [hps,he]) hlt
           by_cases hpos':0 < lf - m.mo+w
           · refine⟨lf - m.mo+w,0,i',L++[(many - (lf - m.mo+w) - (many - lf),ps)],?_,rfl,hil,.inl ⟨hpos',by omega,hsn _ (by rw [if_neg (by omega)];omega) (by omega),⟨q',by omega⟩,Int.le_refl 0,.inl rfl,fun m' hm'=>by have:=(hok m' (List.mem_of_getElem? hm')).f.mo.1;omega⟩⟩
             rw [hi',List.length_append,Int.natCast_add]
             rfl
           · refine⟨lf - m.mo+w,0,i',L++[(many - (many - lf),ps)],?_,rfl,hil,.inr ⟨by omega,hsn _ (by split <;> omega) (by omega)⟩⟩
             rw [hi',List.length_append,Int.natCast_add]
             rfl
         · show (lf - m.mo+w).toNat < lf.toNat
           omega
       · have c:¬ 0 < lf:=by simpa using c
         rcases hor with ⟨h,_⟩ | ⟨_,hch⟩
         · exact absurd h c
         · exact⟨_,rfl,kk L _ w1 hch⟩
     · rintro σ H1 Q1 Q2 hq h
       refine qJ fun _ Y=>?_
       obtain⟨x,hx,i,j,h1,h2,b,hb,z⟩:=h
       apply Y
       exact⟨x,hx,i,j,h1,h2,b,hb,hq _ _ z⟩
 · rintro σ H1 Q1 Q2 hq h
   refine qJ fun _ Y=>?_
   obtain⟨x1,y1,x2,y2,x3,y3,a1,a2,a3,a4,a5,a6,a7,a8,x4,y4,b1,b2,b3,b4,b5,b6,b7,b8,i,j,h1,h2,b,hb,z⟩:=h
   apply Y
   exact⟨x1,y1,x2,y2,x3,y3,a1,a2,a3,a4,a5,a6,a7,a8,x4,y4,b1,b2,b3,b4,b5,b6,b7,b8,i,j,h1,h2,b,hb,hq _ _ z⟩
theorem qGs {g:Int→Rn}{T:Int→List Te}(hP:qBr g T){M:Int}(hend:∀ t,0≤t→t < M→∃ e,(g t).e=some e∧e≤M):∀ (n:Nat) (b:Int),(M - b).toNat≤n→0≤b→b≤M→(g b).b=b→∃ L,Chn g b L M
 | 0,b,hn,b0,bM,_=>⟨[],by show b=M;omega⟩
 | n+1,b,hn,b0,bM,hb=>by
  by_cases h:b < M
  · obtain⟨e,he,heM⟩:=hend b b0 h
    obtain⟨hb',hlt⟩:=qDc hP b0 rfl he
    obtain⟨L,hL⟩:=qGs hP hend n e (by omega) (by omega) heM hb'
    refine⟨(e - b,(g b).ps)::L,by show 1≤e - b;omega,?_,?_⟩
    · generalize g b=r at hb he
      obtain⟨b',e',ps⟩:=r
      have hb:b'=b:=hb
      have he:e'=some e:=he
      subst hb he
      show (⟨b',some e,ps⟩:Rn)=⟨b',some (b'+(e - b')),ps⟩
      have:b'+(e - b')=e:=by omega
      rw [this]
    · show Chn g (b+(e - b)) L M
      have:b+(e - b)=e:=by omega
      rw [this];exact hL
  · exact⟨[],by show b=M;omega⟩
theorem qHt {g:Int→Rn}{L Lf:List Pc}{M:Int}(h:Chn g 0 L M)(h':Chn g 0 Lf M):L=Lf:=by
 obtain⟨r,q1,q2⟩:=wC h h' (Int.le_refl _)
 cases r with
 | nil=>rw [q1,List.append_nil]
 | cons x r=>
  have:=(xS q2).2.1
  rw [List.length_cons] at this
  omega
theorem Tower.tab {rm:Rms}{ms:List Im}:∀ {k:Nat} {nm:Str} {len:Int} {cnt:Nat},Tower rm ms k nm len cnt→∃ x,rm nm=some [x]∧ql x=len
 | _,_,_,_,.base q=>⟨ms,q,rfl⟩
 | _,_,_,_,.up (c:=c) (len:=len) (nm:=nm0) q q' c1 c2 l1=>⟨_,q',qHe c nm0 len⟩
theorem qG7 {x:List Im}{M:Int}(h:ql x=M):Lg [x] M:=⟨⟨x,by simp,h⟩,fun y hy=>by
 rw [List.mem_singleton] at hy
 rw [hy,h];exact Int.le_refl _⟩
def TbH (H:Hp)(dvs:List (Key × V))(rm:Rms):Prop:=∀ nm ts,rm nm=some ts→nm≠"film"∧ts.length≤1∧∃ v,jg dvs (Sum.inr nm)=some v∧TabAt H v ts
structure Tws (rm:Rms)(ms:List Im)(nms:List Str)(lens:List Int)(cnts:List Nat):Prop where
 l1:lens.length=nms.length
 l2:cnts.length=nms.length
 tw:∀ (j:Nat) nm len cnt,nms[j]? =some nm→lens[j]? =some len→cnts[j]? =some cnt→Tower rm ms j nm len cnt∧len≤240*60 ^ j
theorem Tws.at' {rm:Rms}{ms:List Im}{nms:List Str}{lens:List Int}{cnts:List Nat}(h:Tws rm ms nms lens cnts){j:Nat}(hj:j < nms.length):∃ nm len cnt,nms[j]? =some nm∧lens[j]? =some len∧cnts[j]? =some cnt∧Tower rm ms j nm len cnt∧len≤240*60 ^ j:=by
 obtain⟨nm,h1⟩:∃ nm,nms[j]? =some nm:=⟨_,List.getElem?_eq_getElem hj⟩
 obtain⟨len,h2⟩:∃ len,lens[j]? =some len:=⟨_,List.getElem?_eq_getElem (by rw [h.l1];exact hj)⟩
 obtain⟨cnt,h3⟩:∃ cnt,cnts[j]? =some cnt:=⟨_,List.getElem?_eq_getElem (by rw [h.l2];exact hj)⟩
 exact⟨nm,len,cnt,h1,h2,h3,h.tw j nm len cnt h1 h2 h3⟩
theorem qHk {j:Nat}(h:j≤5):(240:Int)*60 ^ j≤2 ^ 40:=by
 have:j=0∨j=1∨j=2∨j=3∨j=4∨j=5:=by omega
 rcases this with rfl | rfl | rfl | rfl | rfl | rfl <;> decide
inductive zH (K:W.Frag)(vs:List V)(H:Hp)(Q:VK)(_:XK):Prop
| mk (zs td nl ll tz:Addr) (ns:List Int) (dvs:List (Key × V)) (rm:Rms) (ms:List Im) (nms:List Str) (lens:List Int) (cnts:List Nat) (_:vs=[.ref zs,.ref td,.ref nl,.ref ll,.ref tz]) (_:SqL K H zs (ns.map V.int)) (_:ns.length≤63) (_:H td=some (.dK dvs)) (_:dvs.length≤100) (_:H nl=some (.lst (nms.map V.str))) (_:H ll=some (.lst (lens.map V.int))) (_:Tr H tz ms) (_:(∀ m∈ms,OkI m)) (_:ms≠[]) (_:ms.length≤60) (_:Tws rm ms nms lens cnts) (_:1≤nms.length) (_:nms.length≤6) (_:TbH H dvs rm) (_:∀ H',Same H H'→Q (.bl true) H')
set_option maxHeartbeats 8000000 in
theorem zG (T:Tx K mg a):FnOk P w K mg base CX0 33 a.A34 a.B34 ["_law_script","_law_tables","_law_names","_law_lengths_of","_law_track"] (zH K):=by
 refine T.D34.F.ok qv (fun vs H Q E h=>?_) (fun cdv A outer s H vs Q E hr h=>?_)
 · obtain⟨zs,td,nl,ll,tz,ns,dvs,rm,ms,nms,lens,cnts,rfl,_⟩:=h
   rfl
 refine qJ fun _ Y=>?_
 obtain⟨zs,td,nl,ll,tz,ns,dvs,rm,ms,nms,lens,cnts,rfl,hS,hlen,htd,hdl,hnl,hll,hTr,hok,hne,hml,hTw,n1,n6,hTb,kk⟩:=h
 apply Y
 have hu:=hr.units
 have hu1:=qCq hr
 have hr31:=hr.mono (show 4*6+7≤32 by decide)
 have hF:=qDj hok (by omega) hne
 refine⟨_,(qB (qP 5 qv.nd (qQ (zY rfl) rfl T.b_min rfl (qA (qL jQ (qQ qc rfl T.b_len rfl (qA (pv 2) qC)) qF) (qA qF qC))))
  (qB (qP 6 qv.nd (qL qx (qL jr (qI T.D29 (qt T) hr rfl (qA (qI T.D28 (qk T) hr rfl (qA (pv 0) (qA qF qC))) (qA qF qC))) (qI T.D29 (qt T) hr rfl (qA (qI T.D28 (qk T) hr rfl (qA (pv 0) (qA qF qC))) (qA qF qC)))) (jC qi (pv 3) (pv 5) (fun _ _=>rfl))))
  (qB (qP 7 qv.nd (qQ (zY rfl) rfl T.b_min rfl (qA (qL qg qF (qL qx (qI T.D29 (qt T) hr rfl (qA (qI T.D28 (qk T) hr rfl (qA (pv 0) (qA qF qC))) (qA qF qC))) qF)) (qA (qL jQ (jC qi (pv 3) (pv 5) (fun _ _=>rfl)) (pv 6)) qC))))
  (qB (qP 8 qv.nd (qd (qA (wD (kG jF qF wI) rfl rfl (by simp) (by decide)) (qA (kY kU rfl T.b_dict rfl (qA (pv 1) qC)) qC))))
  (qB (qDf hu1 (qX (pv 8)) jF (qd (qA (jO (qA (jO (qA (qd (qA jF (qA (jC qi (pv 2) (pv 5) (fun _ _=>rfl)) (qA (pv 6) (qA (pv 7) qC))))) qC)) qC)) (qA (jO qC) qC))) rfl)
  (qB (jc (qY qE5 (qI T.D30 (z7 T) hr rfl (qA (pv 8) (qA jF qC))) (qI T.D33 (ze T) hr rfl (qA (pv 4) (qA (pv 6) (qA (pv 7) qC)))) (qh _)) (qG (qU qH7)) qj)
  (qG (qU (qEz vI (qQ (zT rfl) rfl T.b_sum rfl (qA (x8 [] [] rfl (xD (qI T.D27 (wu T 6) hr31 rfl (qA (pv 8) (qA jF qC)) (Nat.le_refl _))) (fun _ _ _ _=>(jC (wL (K:=K) rfl) (pv 0) qF (fun _ _=>rfl)))) qC)) (pv 7) (qh _)))))))))),?_⟩
 try dsimp only [xH,jD]
 refine⟨_,rfl,nl,_,rfl,.inl (SqL.of hnl),_,_,rfl,rfl,_,_,rfl,?_⟩
 refine qJ fun _ Y=>?_
 obtain⟨k,hk,hkl,hk4⟩:∃ k:Nat,(if (4:Int) < (((nms.map V.str).length:Nat):Int) - 1 then (4:Int) else (((nms.map V.str).length:Nat):Int) - 1)=(k:Int)∧k < nms.length∧k≤4:=by
  rw [List.length_map]
  by_cases h:(4:Int) < ((nms.length:Nat):Int) - 1
  · exact⟨4,by rw [if_pos h];rfl,by omega,by omega⟩
  · exact⟨nms.length - 1,by rw [if_neg h];omega,by omega,by omega⟩
 apply Y
 rw [hk]
 refine qJ fun _ Y=>?_
 obtain⟨nm,len,cnt,hnm,hle,hcn,hTk,hlb⟩:=hTw.at' hkl
 apply Y
 have hl1:=hTk.len1 hF
 have hl40:len≤2 ^ 40:=Int.le_trans hlb (qHk (by omega))
 have atn:atI (nms.map V.str) (k:Int)=some (.str nm):=qy (by rw [List.getElem?_map,hnm];rfl)
 have atl:atI (lens.map V.int) (k:Int)=some (.int len):=qy (by rw [List.getElem?_map,hle];rfl)
 refine⟨_,rfl,zs,ns,4,rfl,hS,hlen,by decide,fun c4=>⟨_,_,rfl,by decide,by decide,fun x1 x10 x11=>?_⟩⟩
 refine⟨_,rfl,zs,ns,4,rfl,hS,hlen,by decide,fun c4'=>⟨_,_,rfl,by decide,by decide,fun x2 x20 x21=>?_⟩⟩
 refine⟨_,_,rfl,rfl,cmR (by omega) (by omega),_,rfl,_,rfl,ll,_,_,_,rfl,rfl,SqL.of hll,atl,_,_,rfl,rfl,(by omega),?_⟩
 have fs:=fm (x1*x2) (show (0:Int) < len by omega)
 generalize (x1*x2).fmod len=start at fs ⊢
 refine⟨_,rfl,zs,ns,5,rfl,hS,hlen,by decide,fun c5=>⟨_,_,rfl,by decide,by decide,fun x3 x30 x31=>⟨_,_,rfl,rfl,nz,_,_,rfl,rfl,?_⟩⟩⟩
 have f40:=fm x3 (show (0:Int) < 40 by decide)
 refine⟨_,rfl,_,rfl,ll,_,_,_,rfl,rfl,SqL.of hll,atl,_,rfl,_,_,rfl,rfl,_,_,rfl,?_⟩
 refine qJ fun _ Y=>?_
 obtain⟨many,hmany,m1,m40,mle⟩:∃ many:Int,(if len - start < 1+x3.fmod 40 then len - start else 1+x3.fmod 40)=many∧1≤many∧many≤40∧start+many≤len:=by
  by_cases h:len - start < 1+x3.fmod 40
  · exact⟨_,if_pos h,by omega,by omega,by omega⟩
  · exact⟨_,if_neg h,by omega,by omega,by omega⟩
 apply Y
 rw [hmany]
 refine fun d1 hd1=>?_
 refine⟨qD,[((Sum.inr ("reel":Str):Key),V.int 100)],rfl,(by show 1≤15;decide),?_⟩
 have em:z8 [] [((Sum.inr ("reel":Str):Key),V.int 100)]=[((Sum.inr ("reel":Str):Key),V.int 100)]:=by rfl
 rw [em,qA9]
 have w1:=qE hd1 (.dK [((Sum.inr ("reel":Str):Key),V.int 100)])
 generalize upd H d1 (.dK [((Sum.inr ("reel":Str):Key),V.int 100)])=H1 at w1 ⊢
 refine⟨_,rfl,td,_,rfl,w1 _ _ htd,fun d2 hd2=>?_⟩
 have w2:=qE hd2 (.dK dvs)
 have k2:upd H1 d2 (.dK dvs) d2=some (.dK dvs):=qD
 generalize upd H1 d2 (.dK dvs)=H2 at w2 k2 ⊢
 have two:(2:Nat)≤sizeLine:=by decide
 have one:(1:Nat)≤sizeLine:=by decide
 refine⟨two,fun rz hrz=>?_⟩
 have w3:=qE hrz (.tup [.ref d1,.ref d2])
 have k3:upd H2 rz (.tup [.ref d1,.ref d2]) rz=some (.tup [.ref d1,.ref d2]):=qD
 generalize upd H2 rz (.tup [.ref d1,.ref d2])=H3 at w3 k3 ⊢
 have e3:=(w1.trans w2).trans w3
 have hd20:H d2=none:=w1.free hd2
 refine⟨_,rfl,_,rfl,nl,_,_,_,rfl,rfl,SqL.of (e3 _ _ hnl),atn,_,rfl,_,rfl,sL4,fun g hg=>?_⟩
 have w4:=qE hg (.tup [.str "nest",.str nm,.int start,.int many])
 have k4:upd H3 g (.tup [.str "nest",.str nm,.int start,.int many]) g=some (.tup [.str "nest",.str nm,.int start,.int many]):=qD
 generalize upd H3 g (.tup [.str "nest",.str nm,.int start,.int many])=H4 at w4 k4 ⊢
 refine⟨one,fun l1 hl1'=>?_⟩
 have w5:=qE hl1' (.lst [.ref g])
 have k5:upd H4 l1 (.lst [.ref g]) l1=some (.lst [.ref g]):=qD
 generalize upd H4 l1 (.lst [.ref g])=H5 at w5 k5 ⊢
 refine⟨one,fun l2 hl2'=>?_⟩
 have w6:=qE hl2' (.lst [.ref l1])
 have k6:upd H5 l2 (.lst [.ref l1]) l2=some (.lst [.ref l1]):=qD
 generalize upd H5 l2 (.lst [.ref l1])=H6 at w6 k6 ⊢
 refine⟨sL0,fun ti hti=>?_⟩
 have w7:=qE hti (.lst [])
 generalize upd H6 ti (.lst [])=H7 at w7 ⊢
 refine⟨two,fun tt htt=>?_⟩
 have w8:=qE htt (.tup [.ref l2,.ref ti])
 have k8:upd H7 tt (.tup [.ref l2,.ref ti]) tt=some (.tup [.ref l2,.ref ti]):=qD
 generalize upd H7 tt (.tup [.ref l2,.ref ti])=H8 at w8 k8 ⊢
 have w38:=(((w4.trans w5).trans w6).trans w7).trans w8
 have kd8:=w38 _ _ (w3 _ _ k2)
 refine(ixO (w38 _ _ k3) at1 ⟨d2,_,rfl,DPut.k (k:=Sum.inr "film") kd8 (qf (by omega)),?_⟩)
 have e9:Same H (upd H8 d2 (.dK (jl dvs (Sum.inr "film") (.ref tt)))):=jU (e3.trans w38) hd20
 have kd9:upd H8 d2 (.dK (jl dvs (Sum.inr "film") (.ref tt))) d2=some (.dK (jl dvs (Sum.inr "film") (.ref tt))):=qD
 have up9:∀ b u,b≠d2→H8 b=some u→upd H8 d2 (.dK (jl dvs (Sum.inr "film") (.ref tt))) b=some u:=fun b u n h=>by rw [qK n];exact h
 generalize upd H8 d2 (.dK (jl dvs (Sum.inr "film") (.ref tt)))=H9 at e9 kd9 up9 ⊢
 have nd:∀ {b:Addr} {u:HO},(∀ kv,u≠ .dK kv)→H8 b=some u→b≠d2:=fun {b u} hu h q=>by
  rw [q,kd8] at h
  exact hu _ (Option.some.inj h).symm
 have gtup:∀ {b:Addr} {vs:List V},H8 b=some (.tup vs)→H9 b=some (.tup vs):=fun h=>up9 _ _ (nd (fun kv q=>by cases q) h) h
 have glst:∀ {b:Addr} {vs:List V},H8 b=some (.lst vs)→H9 b=some (.lst vs):=fun h=>up9 _ _ (nd (fun kv q=>by cases q) h) h
 have hrm:∀ x ts,rm x=some ts→(fun x=>if x=("film":Str) then some [[Im.nest nm start many]] else rm x) x=some ts:=fun x ts q=>by
  dsimp only
  rw [if_neg (hTb x ts q).1];exact q
 have hfm:(fun x=>if x=("film":Str) then some [[Im.nest nm start many]] else rm x) "film"=some [[Im.nest nm start many]]:=if_pos rfl
 have hT1:∀ x ts,(fun x=>if x=("film":Str) then some [[Im.nest nm start many]] else rm x) x=some ts→ts.length≤1:=fun x ts q=>by
  have q:(if x=("film":Str) then some [[Im.nest nm start many]] else rm x)=some ts:=q
  by_cases hx:x="film"
  · rw [if_pos hx] at q;cases q;exact Nat.le_refl _
  · rw [if_neg hx] at q;exact(hTb x ts q).2.1
 have hTab:TabAt H9 (.ref tt) [[Im.nest nm start many]]:=⟨tt,l2,ti,[.ref l1],rfl,gtup k8,glst (((w7.trans w8)) _ _ k6),⟨l1,rfl,[.ref g],glst (((w6.trans w7).trans w8) _ _ k5),⟨g,rfl,gtup ((((w5.trans w6).trans w7).trans w8) _ _ k4)⟩,trivial⟩,trivial⟩
 have hR:RoomAt H9 rz (fun x=>if x=("film":Str) then some [[Im.nest nm start many]] else rm x):=⟨d1,d2,_,gtup (w38 _ _ k3),.inl kd9,fun x ts q=>by
  have q:(if x=("film":Str) then some [[Im.nest nm start many]] else rm x)=some ts:=q
  by_cases hx:x="film"
  · rw [if_pos hx] at q
    cases q
    subst hx
    exact⟨_,by rw [jm,if_pos rfl],hTab⟩
  · rw [if_neg hx] at q
    obtain⟨_,_,v,c,d⟩:=hTb x ts q
    exact⟨v,by rw [jm,if_neg (fun e=>hx (Sum.inr.inj e))];exact c,d.same e9⟩⟩
 generalize (fun x=>if x=("film":Str) then some [[Im.nest nm start many]] else rm x)=rm' at hrm hfm hT1 hR
 refine qJ fun _ Y=>?_
 obtain⟨hLf,hFm⟩:=qH0 (N:=6) hF (hTk.ext hrm) (by omega) hfm fs.1 m1 mle (by omega)
 have hlm:ql [Im.nest nm start many]=many:=by show many+0=many;omega
 have hLg:=qG7 hlm
 have hP:=qEm rm' 6 "film" (SmL.geo rm' 6 "film" hLf)
 obtain⟨Lf,hch⟩:=qGs hP (M:=many) (fun t t0 t1=>qEj (SmL.geo rm' 6 "film" hLf) (Nat.le_refl 6) hfm t0 hLg.2 ⟨[Im.nest nm start many],by simp,by rw [hlm];exact t1⟩) _ 0 (Nat.le_refl _) (Int.le_refl 0) (by omega) (qD3 hP)
 apply Y
 have hLl:=(xS hch).2.1
 refine⟨_,rfl,rz,"film",rm',_,many,Lf,rfl,hR,hLf,hfm,hT1,hLg,by omega,hch,fun H10 e10=>?_⟩
 rw [if_pos (by omega)]
 refine⟨_,rfl,_,rfl,_,rfl,tz,ms,start,many,qW rm' 6 "film",rfl,hTr.same (e9.trans e10),hok,hne,hml,fs.1,m1,hFm,fun L H11 e11 hL=>?_⟩
 rw [qHt hL hch]
 refine⟨rfl,_,rfl,xI (fun c=>absurd c (by simp)) (fun _=>?_)⟩
 have e911:=e10.trans e11
 refine⟨_,rfl,rz,"film",rm',1,_,many,rfl,hR.same e911,hLf,hfm,hT1,hLg,by omega,by decide,by decide,fun L' e' hc he=>?_,fun pl L' us H12 e12 hpl0 hpl hpc hch'=>?_⟩
 · have:=(xS hc).2.1
   omega
 have hul:=hpc.len
 have hsum:=xS hch'
 refine⟨pl,rfl,⟨_,SqL.of hpl⟩,jz (K:=K) (a:=pl) (xs:=us) (fun i acc H'=>H'=H12∧acc=((L'.take i).map Prod.fst).map V.int∧acc.length=i) ⟨rfl,rfl,rfl⟩ ?_ ?_ ?_⟩
 · rintro i acc H' hi ⟨rfl,_,hal⟩
   exact⟨SqL.of hpl,qf (by omega)⟩
 · rintro i x acc H' hi hx ⟨rfl,rfl,hal⟩
   refine qJ fun _ Y=>?_
   obtain⟨pc,hpx,z,pz,pvs,rfl,hz,_,_⟩:=hpc.get hx
   apply Y
   refine⟨_,rfl,z,_,_,_,rfl,rfl,hz.sq,at0,Nxt.mk hi ⟨rfl,?_,by simp at hal ⊢;omega⟩⟩
   rw [List.take_add_one,hpx]
   simp
 rintro acc H13 ⟨rfl,rfl,hal⟩ sl hsl
 rw [hul,List.take_length]
 have w14:=qE hsl (.lst ((L'.map Prod.fst).map V.int))
 refine⟨sl,L'.map Prod.fst,rfl,SqL.of qD,_,rfl,rfl,?_⟩
 have hk:=kk _ (((e9.trans e911).trans e12).trans w14)
 have:decide (V.int (L'.map Prod.fst).sum=V.int many)=true:=decide_eq_true (by rw [hsum.1,Int.sub_zero])
 rw [this]
 exact hk
def Mk (X:Addr→Prop) [DecidablePred X] (H:Hp):Hp:=fun b=>if X b then none else H b
theorem wB {X:Addr→Prop} [DecidablePred X] {H:Hp}{b:Addr}(h:¬ X b):Mk X H b=H b:=if_neg h
theorem qDe {X:Addr→Prop} [DecidablePred X] {H:Hp}{b:Addr}{u:HO}(h:Mk X H b=some u):¬ X b∧H b=some u:=by
 unfold Mk at h
 split at h
 · cases h
 · rename_i q;exact⟨q,h⟩
theorem kI {X:Addr→Prop} [DecidablePred X] {H H':Hp}(h:∀ b u,¬ X b→H b=some u→H' b=some u):Same (Mk X H) (Mk X H'):=fun b u q=>by
 obtain⟨q1,q2⟩:=qDe q
 rw [wB q1]
 exact h b u q1 q2
theorem qJc {X:Addr→Prop} [DecidablePred X] {H:Hp}:Same (Mk X H) H:=fun _ _ q=>(qDe q).2
def N6b:List Str:=["aa","b","ca","daa","eaaa","faaaa"]
structure TbK (H:Hp)(dvs:List (Key × V))(rm:Rms)(k:Nat):Prop where
 all:∀ p∈dvs,jg dvs p.1=some p.2∧∃ ts,TabF H p.2 ts []
 dom:∀ (nm:Str) v,jg dvs (Sum.inr nm)=some v→nm∈N6b.take k
 rmt:∀ nm ts,rm nm=some ts→ts.length≤1∧∃ v,jg dvs (Sum.inr nm)=some v∧TabF H v ts []
theorem TbK.same {H H':Hp}{dvs:List (Key × V)}{rm:Rms}{k:Nat}(e:Same H H')(h:TbK H dvs rm k):TbK H' dvs rm k:=
 ⟨fun p hp=>let ⟨a,ts,b⟩:=h.all p hp;⟨a,ts,b.same e⟩,h.dom,fun nm ts q=>let ⟨a,v,b,c⟩:=h.rmt nm ts q;⟨a,v,b,c.same e⟩⟩
theorem TbK.tbh {H:Hp}{dvs:List (Key × V)}{rm:Rms}{k:Nat}(h:TbK H dvs rm k):TbH H dvs rm:=fun nm ts q=>by
 obtain⟨a,v,b,c⟩:=h.rmt nm ts q
 refine⟨fun e=>?_,a,v,b,c.tab⟩
 have hd:=List.mem_of_mem_take (h.dom nm v b)
 rw [e] at hd
 exact absurd hd (by decide+kernel)
theorem TbK.put {H:Hp}{dvs:List (Key × V)}{rm:Rms}{k:Nat}{nm:Str}{x:List Im}{v:V}(h:TbK H dvs rm k)(hk:N6b[k]? =some nm)(hv:TabF H v [x] []):TbK H (jl dvs (Sum.inr nm) v) (fun y=>if y=nm then some [x] else rm y) (k+1)∧∀ y ts,rm y=some ts→(fun y=>if y=nm then some [x] else rm y) y=some ts:=by
 have htk:N6b.take (k+1)=N6b.take k++[nm]:=by rw [List.take_add_one,hk];rfl
 have hnot:nm ∉ N6b.take k:=fun q=>by
  have hnd:N6b.Nodup:=by decide+kernel
  have:=(List.nodup_append.mp (htk ▸ hnd.sublist (List.take_sublist (k+1) N6b))).2.2
  exact this nm q nm (by simp) rfl
 have hno:jg dvs (Sum.inr nm:Key)=none:=by
  cases hq:jg dvs (Sum.inr nm:Key) with
  | none=>rfl
  | some v=>exact absurd (h.dom nm v hq) hnot
 have hne:∀ {y ts},rm y=some ts→y≠nm:=fun {y ts} q e=>by
  obtain⟨_,v,b,_⟩:=h.rmt y ts q
  rw [e,hno] at b
  cases b
 refine⟨⟨fun p hp=>?_,fun y w q=>?_,fun y ts q=>?_⟩,fun y ts q=>?_⟩
 · rw [qFq _ hno] at hp
   rcases List.mem_append.mp hp with hp | hp
   · obtain⟨a,ts,b⟩:=h.all p hp
     refine⟨?_,ts,b⟩
     rw [jm,if_neg (fun e=>by rw [e,hno] at a;cases a)]
     exact a
   · rw [List.mem_singleton] at hp
     subst hp
     exact⟨by rw [jm,if_pos rfl],_,hv⟩
 · rw [jm] at q
   rw [htk]
   by_cases hy:(Sum.inr y:Key)=Sum.inr nm
   · have:y=nm:=Sum.inr.inj hy
     rw [this];simp
   · rw [if_neg hy] at q
     exact List.mem_append_left _ (h.dom y w q)
 · have q:(if y=nm then some [x] else rm y)=some ts:=q
   by_cases hy:y=nm
   · rw [if_pos hy] at q
     cases q
     subst hy
     exact⟨Nat.le_refl _,v,by rw [jm,if_pos rfl],hv⟩
   · rw [if_neg hy] at q
     obtain⟨a,w,b,c⟩:=h.rmt y ts q
     exact⟨a,w,by rw [jm,if_neg (fun e=>hy (Sum.inr.inj e))];exact b,c⟩
 · dsimp only
   rw [if_neg (hne q)];exact q
theorem Tws.one {rm:Rms}{ms:List Im}(h:rm "aa"=some [ms])(hl:ql ms≤240):Tws rm ms ["aa"] [ql ms] [ms.length]:=by
 refine⟨rfl,rfl,fun j nm len cnt h1 h2 h3=>?_⟩
 cases j with
 | zero=>
  cases h1;cases h2;cases h3
  exact⟨.base h,by show ql ms≤240*1;omega⟩
 | succ j=>simp at h1
theorem zI {α:Type}{xs:List α}{x y:α}{j:Nat}(h:(xs++[x])[j]? =some y):xs[j]? =some y∨(j=xs.length∧y=x):=by
 by_cases hl:j < xs.length
 · rw [List.getElem?_append_left hl] at h
   exact .inl h
 · rw [List.getElem?_append_right (by omega)] at h
   have:j - xs.length=0:=by
    have:=(glt h)
    rw [List.length_singleton] at this
    omega
   rw [this] at h
   cases h
   exact .inr ⟨by omega,rfl⟩
theorem Tws.snoc {rm rm':Rms}{ms:List Im}{nms:List Str}{lens:List Int}{cnts:List Nat}{k:Nat}{nm nm':Str}{len:Int}{cnt c:Nat}(h:Tws rm ms nms lens cnts)(hk:nms.length=k+1)(hk5:k < 5)(h1:nms[k]? =some nm)(h2:lens[k]? =some len)(h3:cnts[k]? =some cnt)(hF:Fst ms)(c1:1≤c)(c2:c≤60)(he:∀ y ts,rm y=some ts→rm' y=some ts)(hn:rm' nm'=some [List.replicate c (Im.nest nm 0 len)]):Tws rm' ms (nms++[nm']) (lens++[len*(c:Int)]) (cnts++[cnt*c]):=by
 have q1:=h.l1
 have q2:=h.l2
 refine⟨by rw [List.length_append,List.length_append,q1];rfl,by rw [List.length_append,List.length_append,q2];rfl,fun j n l ct a1 a2 a3=>?_⟩
 obtain⟨hT,hb⟩:=h.tw k nm len cnt h1 h2 h3
 rcases zI a1 with b1 | ⟨e1,rfl⟩
 · have hj:=(glt b1)
   rcases zI a2 with b2 | ⟨e2,_⟩
   · rcases zI a3 with b3 | ⟨e3,_⟩
     · obtain⟨t1,t2⟩:=h.tw j n l ct b1 b2 b3
       exact⟨t1.ext he,t2⟩
     · omega
   · omega
 · rcases zI a2 with b2 | ⟨_,rfl⟩
   · have:=(glt b2)
     omega
   rcases zI a3 with b3 | ⟨_,rfl⟩
   · have:=(glt b3)
     omega
   have l0:=hT.len1 hF
   have hl40:len≤2 ^ 40:=Int.le_trans hb (qHk (by omega))
   obtain rfl:j=k+1:=by omega
   refine⟨?_,?_⟩
   · have:=Tower.up (hT.ext he) hn c1 (by omega) (by omega)
     rw [Int.mul_comm,Nat.mul_comm cnt]
     exact this
   · have x1:len*(c:Int)≤len*60:=Int.mul_le_mul_of_nonneg_left (by omega) (by omega)
     have x2:len*60≤240*60 ^ k*60:=Int.mul_le_mul_of_nonneg_right hb (by decide)
     have x3:(240:Int)*60 ^ k*60=240*60 ^ (k+1):=by rw [Int.pow_succ,Int.mul_assoc]
     omega
theorem qJp {k:Nat}(h:k < 5):∃ (nm:Str) (c:Nat),N6b[k+1]? =some nm∧atI (Str.ofString "bcdef").cps.toList (k:Int)=some c∧(⟨#[c]⟩:Str)++Txt.slice "aaaaa" none (some (k:Int))=nm:=by
 have:k=0∨k=1∨k=2∨k=3∨k=4:=by omega
 rcases this with rfl | rfl | rfl | rfl | rfl
 · exact⟨"b",98,rfl,by decide+kernel,by decide+kernel⟩
 · exact⟨"ca",99,rfl,by decide+kernel,by decide+kernel⟩
 · exact⟨"daa",100,rfl,by decide+kernel,by decide+kernel⟩
 · exact⟨"eaaa",101,rfl,by decide+kernel,by decide+kernel⟩
 · exact⟨"faaaa",102,rfl,by decide+kernel,by decide+kernel⟩
def X4 (a b c d:Addr):Addr→Prop:=fun x=>x=a∨x=b∨x=c∨x=d
instance {a b c d:Addr}:DecidablePred (X4 a b c d):=fun x=>by unfold X4;exact inferInstance
set_option maxHeartbeats 8000000 in
theorem qIt (T:Tx K mg a):FnOk P w K mg base CX0 34 a.A35 a.B35 ["_law_script"] (qGk K):=by
 refine T.D35.F.ok jf (fun vs H Q E h=>?_) (fun cdv A outer s H vs Q E hr h=>?_)
 · obtain⟨a,ns,rfl,_⟩:=h
   rfl
 refine qJ fun _ Y=>?_
 obtain⟨zs,ns,rfl,hS,hlen,kk⟩:=h
 apply Y
 have hu:=hr.units
 have hu1:=qCq hr
 refine⟨_,(qB (qP 1 jf.nd (qI T.D29 (qt T) hr rfl (qA (qI T.D28 (qk T) hr rfl (qA (pv 0) (qA qF qC))) (qA qF qC))))
  (qB (qP 2 jf.nd (jC qi (jO (qA (qd (qA qF (qA qF qC))) (qA (qd (qA qF (qA qF qC))) (qA (qd (qA qF (qA qF qC))) (qA (qd (qA qF (qA qF qC))) (qA (qd (qA qF (qA qF qC))) (qA (qd (qA qF (qA qF qC))) qC))))))) (qL qx (qL q8 (pv 1) qF) qF) (fun _ _=>rfl)))
  (qB (vz (jc (qY qF3 (qL qx (pv 1) qF) qF (qh _)) (qG (qP 2 jf.nd (qd (qA (qI T.D31 (j5 T) hr rfl (qA (qL q8 (pv 1) qF) qC)) (qA (qI T.D31 (j5 T) hr rfl (qA (qI T.D29 (qt T) hr rfl (qA (pv 1) (qA qF qC))) qC)) qC))))) qj))
  (qB (qP 3 jf.nd (qI T.D32 (vw T) hr rfl (qA (qI T.D28 (qk T) hr rfl (qA (pv 0) (qA qF qC))) (qA (qX (pv 2)) qC))))
  (qB (qP 4 jf.nd (wD (kG jF (qd (qA (jO (qA (pv 3) qC)) (qA (jO qC) qC))) wI) rfl rfl (by simp) (by decide)))
  (qB (qDq (i:=5) jf.nd rfl (Or.inr rfl) (jO (qA jF qC)))
  (qB (qP 6 jf.nd (qQ qc rfl T.b_len rfl (qA (pv 3) qC)))
  (qB (qDq (i:=7) jf.nd rfl (Or.inr rfl) (jO (qA (qQ (zT rfl) rfl T.b_sum rfl (qA (x8 [] [] rfl (xD (pv 3)) (fun _ _ _ _=>(jC (wL (K:=K) rfl) (pv 0) (zo jy qF) (fun _ _=>rfl)))) qC)) qC)))
  (qB (qP 8 jf.nd (jO (qA (pv 6) qC)))
  (qB (vA PassesOwn.never rfl (kS rfl T.b_range (qA (qL qx (qI T.D28 (qk T) hr rfl (qA (pv 0) (qA qF qC))) qF) qC)) (jE (i:=9) jf.nd rfl (Or.inl rfl)) (qB (qP 10 jf.nd (qX (pv 2)))
  (qB (vz (jc (qY qF3 (pv 9) qF (qh _)) (qG (qP 10 jf.nd (qI T.D31 (j5 T) hr rfl (qA (qI T.D29 (qt T) hr rfl (qA (qI T.D28 (qk T) hr rfl (qA (pv 0) (qA qF qC))) (qA (pv 9) qC))) qC)))) qj))
  (qB (qP 11 jf.nd (qL qCy (jC qJv jF (pv 9) (fun _ _=>rfl)) (qF8 qI6 jF qHc (qIm (pv 9)))))
  (qB (qDf hu1 (pv 4) (pv 11) (qd (qA (jO (qA (x8 ["_law_names","_law_lengths_of"] [5,7] rfl (kS rfl T.b_range (qA (pv 10) qC)) (fun _ _ _ _=>(qd (qA jF (qA (jC (qCd (K:=K) rfl) (pv 1) (zo jy qF) (fun _ _=>rfl)) (qA qF (qA (jC (qCd (K:=K) rfl) (pv 2) (zo jy qF) (fun _ _=>rfl)) qC))))))) qC)) (qA (jO qC) qC))) rfl)
  (qB (qP 6 jf.nd (qL jr (pv 6) (pv 10)))
  (qB (xA (wH F.plainAttrs_list F.slot_list_append F.type_list_append jp (pv 7) (qA (qL jr (jC qi (pv 7) (zo jy qF) (fun _ _=>rfl)) (pv 10)) qC)))
  (qB (xA (wH F.plainAttrs_list F.slot_list_append F.type_list_append jp (pv 8) (qA (pv 6) qC)))
  (qG (xA (wH F.plainAttrs_list F.slot_list_append F.type_list_append jp (pv 5) (qA (pv 11) qC))))))))))))
  (qB (qP 12 jf.nd (qd (qA (wD (kG jF qF wI) rfl rfl (by simp) (by decide)) (qA (kY kU rfl T.b_dict rfl (qA (pv 4) qC)) qC))))
  (qB (vA PassesOwn.never rfl (xD (jO (qA (qL jQ (qQ qc rfl T.b_len rfl (qA (pv 5) qC)) qF) (qA (qL qx (qI T.D28 (qk T) hr rfl (qA (pv 0) (qA qF qC))) (qQ qc rfl T.b_len rfl (qA (pv 5) qC))) qC)))) (jE (i:=9) jf.nd rfl (Or.inl rfl)) (qG (jc (qY qE5 (qI T.D30 (z7 T) hr rfl (qA (pv 12) (qA (jC qi (pv 5) (pv 9) (fun _ _=>rfl)) qC))) (qQ (zY rfl) rfl T.b_min rfl (qA (jC qi (pv 8) (pv 9) (fun _ _=>rfl)) (qA qF qC))) (qh _)) (qG (qU qH7)) qj)))
  (qB (jc (qCf (vU (qI T.D34 (zG T) hr rfl (qA (pv 0) (qA (pv 4) (qA (pv 5) (qA (pv 7) (qA (pv 3) qC)))))))) (qG (qU qH7)) qj)
  (qG (qU (qEz (qD7 hu) (pv 12) (qd (qA (wD (kG jF qF wI) rfl rfl (by simp) (by decide)) (qA (pv 4) qC))) (qh _))))))))))))))))),?_⟩
 try dsimp only [xH,jD]
 refine⟨_,rfl,zs,ns,1,rfl,hS,hlen,by decide,fun c1=>⟨_,_,rfl,by decide,by decide,fun num n0 n1=>?_⟩⟩
 have two:(2:Nat)≤sizeLine:=by decide
 have one:(1:Nat)≤sizeLine:=by decide
 refine⟨two,fun t1 g1=>?_⟩
 have u1:=qE g1 (.tup [.int 20,.int 20])
 have x1:upd H t1 (.tup [.int 20,.int 20]) t1=some (.tup [.int 20,.int 20]):=qD
 generalize upd H t1 (.tup [.int 20,.int 20])=G1 at u1 x1 ⊢
 refine⟨two,fun t2 g2=>?_⟩
 have u2:=qE g2 (.tup [.int 13,.int 31])
 have x2:upd G1 t2 (.tup [.int 13,.int 31]) t2=some (.tup [.int 13,.int 31]):=qD
 generalize upd G1 t2 (.tup [.int 13,.int 31])=G2 at u2 x2 ⊢
 refine⟨two,fun t3 g3=>?_⟩
 have u3:=qE g3 (.tup [.int 31,.int 13])
 have x3:upd G2 t3 (.tup [.int 31,.int 13]) t3=some (.tup [.int 31,.int 13]):=qD
 generalize upd G2 t3 (.tup [.int 31,.int 13])=G3 at u3 x3 ⊢
 refine⟨two,fun t4 g4=>?_⟩
 have u4:=qE g4 (.tup [.int 8,.int 50])
 have x4:upd G3 t4 (.tup [.int 8,.int 50]) t4=some (.tup [.int 8,.int 50]):=qD
 generalize upd G3 t4 (.tup [.int 8,.int 50])=G4 at u4 x4 ⊢
 refine⟨two,fun t5 g5=>?_⟩
 have u5:=qE g5 (.tup [.int 57,.int 7])
 have x5:upd G4 t5 (.tup [.int 57,.int 7]) t5=some (.tup [.int 57,.int 7]):=qD
 generalize upd G4 t5 (.tup [.int 57,.int 7])=G5 at u5 x5 ⊢
 refine⟨two,fun t6 g6=>?_⟩
 have u6:=qE g6 (.tup [.int 25,.int 16])
 have x6:upd G5 t6 (.tup [.int 25,.int 16]) t6=some (.tup [.int 25,.int 16]):=qD
 generalize upd G5 t6 (.tup [.int 25,.int 16])=G6 at u6 x6 ⊢
 refine⟨(by show 6≤sizeLine;decide),fun la hla=>?_⟩
 have u7:=qE hla (.lst [.ref t1,.ref t2,.ref t3,.ref t4,.ref t5,.ref t6])
 have x7:upd G6 la (.lst [.ref t1,.ref t2,.ref t3,.ref t4,.ref t5,.ref t6]) la=some (.lst [.ref t1,.ref t2,.ref t3,.ref t4,.ref t5,.ref t6]):=qD
 generalize upd G6 la (.lst [.ref t1,.ref t2,.ref t3,.ref t4,.ref t5,.ref t6])=G7 at u7 x7 ⊢
 have u17:=(((((u1.trans u2).trans u3).trans u4).trans u5).trans u6).trans u7
 refine qJ fun _ Y=>?_
 obtain⟨tw,hat,a0,a1,a01,a02,a11,a12,htw⟩:∃ tw,atI [V.ref t1,.ref t2,.ref t3,.ref t4,.ref t5,.ref t6] ((num.fdiv 3).fmod 6)=some (.ref tw)∧∃ a0 a1:Nat,1≤a0∧a0≤60∧1≤a1∧a1≤60∧G7 tw=some (.tup [.int (a0:Int),.int (a1:Int)]):=by
  have f:=fm (num.fdiv 3) (show (0:Int) < 6 by decide)
  have:(num.fdiv 3).fmod 6=0∨(num.fdiv 3).fmod 6=1∨(num.fdiv 3).fmod 6=2∨(num.fdiv 3).fmod 6=3∨(num.fdiv 3).fmod 6=4∨(num.fdiv 3).fmod 6=5:=by omega
  rcases this with e | e | e | e | e | e <;> rw [e]
  · exact⟨t1,rfl,20,20,by decide,by decide,by decide,by decide,u7 _ _ (u6 _ _ (u5 _ _ (u4 _ _ (u3 _ _ (u2 _ _ (x1))))))⟩
  · exact⟨t2,rfl,13,31,by decide,by decide,by decide,by decide,u7 _ _ (u6 _ _ (u5 _ _ (u4 _ _ (u3 _ _ (x2)))))⟩
  · exact⟨t3,rfl,31,13,by decide,by decide,by decide,by decide,u7 _ _ (u6 _ _ (u5 _ _ (u4 _ _ (x3))))⟩
  · exact⟨t4,rfl,8,50,by decide,by decide,by decide,by decide,u7 _ _ (u6 _ _ (u5 _ _ (x4)))⟩
  · exact⟨t5,rfl,57,7,by decide,by decide,by decide,by decide,u7 _ _ (u6 _ _ (x5))⟩
  · exact⟨t6,rfl,25,16,by decide,by decide,by decide,by decide,u7 _ _ (x6)⟩
 apply Y
 refine⟨_,rfl,_,_,rfl,rfl,cdB (by decide) (by decide),_,_,rfl,rfl,nz,la,_,_,_,rfl,rfl,SqL.of x7,hat,?_⟩
 clear x1 x2 x3 x4 x5 x6 x7 u1 u2 u3 u4 u5 u6 u7 g1 g2 g3 g4 g5 g6 hla hat
 refine⟨fun σ' H'=>∃ (tw:Addr) (a0 a1:Nat),σ'=[some (.ref zs),some (.int num),some (.ref tw),none,none,none,none,none,none,none,none,none,none]∧Same H H'∧1≤a0∧a0≤60∧1≤a1∧a1≤60∧H' tw=some (.tup [.int (a0:Int),.int (a1:Int)]),?_,?_⟩
 · refine⟨_,rfl,_,_,rfl,rfl,nz,_,_,rfl,rfl,_,rfl,xI (fun _=>?_) (fun _=>⟨tw,a0,a1,rfl,u17,a01,a02,a11,a12,htw⟩)⟩
   refine⟨_,rfl,_,_,rfl,rfl,cdB (by decide) (by decide),_,rfl,fun d0 H1 e1 d01 d02=>?_⟩
   refine⟨_,rfl,_,_,rfl,by decide,by decide,fun x _ _=>⟨_,rfl,fun d1 H2 e2 d11 d12=>⟨two,fun t ht=>?_⟩⟩⟩
   exact⟨t,d0,d1,rfl,((u17.trans e1).trans e2).trans (qE ht _),d01,d02,d11,d12,qD⟩
 clear htw u17 a01 a02 a11 a12
 rintro σ' H1 ⟨tw,a0,a1,rfl,e1,a01,a02,a11,a12,htw⟩
 refine⟨_,rfl,zs,ns,0,rfl,e1.seq hS,hlen,by decide,fun c0=>(ixO htw at0 ⟨c0,a0,rfl,a01,a02,fun z ms H2 e2 hz0 hTr hok hne h60=>?_⟩)⟩
 have hF:=qDj hok (by omega) hne
 have htw2:=e2 _ _ htw
 have e12:=e1.trans e2
 refine qJ fun _ Y=>?_
 obtain⟨xs,hz,his⟩:=id hTr
 apply Y
 have hxl:=his.len
 have hlen4:=qEu hok
 refine fun td htd=>?_
 have w3:=qE htd (.dK [])
 have k3:upd H2 td (.dK []) td=some (.dK []):=qD
 generalize hG3:upd H2 td (.dK [])=H3 at w3 k3 ⊢
 refine⟨_,rfl,one,fun l1 hl1=>?_⟩
 have w4:=qE hl1 (.lst [.ref z])
 have k4:upd H3 l1 (.lst [.ref z]) l1=some (.lst [.ref z]):=qD
 generalize upd H3 l1 (.lst [.ref z])=H4 at w4 k4 ⊢
 refine⟨sL0,fun l2 hl2=>?_⟩
 have w5:=qE hl2 (.lst [])
 have k5:upd H4 l2 (.lst []) l2=some (.lst []):=qD
 generalize upd H4 l2 (.lst [])=H5 at w5 k5 ⊢
 refine⟨two,fun tt htt=>?_⟩
 have w6:=qE htt (.tup [.ref l1,.ref l2])
 have k6:upd H5 tt (.tup [.ref l1,.ref l2]) tt=some (.tup [.ref l1,.ref l2]):=qD
 generalize upd H5 tt (.tup [.ref l1,.ref l2])=H6 at w6 k6 ⊢
 have w36:=(w4.trans w5).trans w6
 refine⟨w36 _ _ k3,[((Sum.inr ("aa":Str):Key),V.ref tt)],rfl,(by show 1≤15;decide),?_⟩
 have em:z8 [] [((Sum.inr ("aa":Str):Key),V.ref tt)]=[((Sum.inr ("aa":Str):Key),V.ref tt)]:=by rfl
 rw [em]
 have w26:Same H2 (upd H6 td (.dK [((Sum.inr ("aa":Str):Key),V.ref tt)])):=jU (w3.trans w36) htd
 have k7:upd H6 td (.dK [((Sum.inr ("aa":Str):Key),V.ref tt)]) td=some (.dK [((Sum.inr ("aa":Str):Key),V.ref tt)]):=qD
 have n1:l1≠td:=(qM k3 hl1).symm
 have n2:l2≠td:=(qM (w4 _ _ k3) hl2).symm
 have n3:tt≠td:=(qM ((w4.trans w5) _ _ k3) htt).symm
 have k71:upd H6 td (.dK [((Sum.inr ("aa":Str):Key),V.ref tt)]) l1=some (.lst [.ref z]):=by rw [qK n1];exact(w5.trans w6) _ _ k4
 have k72:upd H6 td (.dK [((Sum.inr ("aa":Str):Key),V.ref tt)]) l2=some (.lst []):=by rw [qK n2];exact w6 _ _ k5
 have k73:upd H6 td (.dK [((Sum.inr ("aa":Str):Key),V.ref tt)]) tt=some (.tup [.ref l1,.ref l2]):=by rw [qK n3];exact k6
 generalize upd H6 td (.dK [((Sum.inr ("aa":Str):Key),V.ref tt)])=H7 at w26 k7 k71 k72 k73 ⊢
 clear hG3
 refine⟨one,fun nl hnl=>?_⟩
 have w8:=qE hnl (.lst [.str "aa"])
 have k8:upd H7 nl (.lst [.str "aa"]) nl=some (.lst [.str "aa"]):=qD
 generalize upd H7 nl (.lst [.str "aa"])=H8 at w8 k8 ⊢
 have hz8:=w8 _ _ (w26 _ _ hz)
 have his8:=his.ts (qV (w26.trans w8))
 refine⟨_,rfl,z,_,rfl,.inl (SqL.of hz8),?_⟩
 refine⟨_,rfl,z,rfl,⟨_,SqL.of hz8⟩,jz (K:=K) (a:=z) (xs:=xs) (fun i acc H'=>H'=H8∧acc=((ms.take i).map Im.mo).map V.int∧acc.length=i) ⟨rfl,rfl,rfl⟩ ?_ ?_ ?_⟩
 · rintro i acc H' hi ⟨rfl,_,hal⟩
   exact⟨SqL.of hz8,qf (by omega)⟩
 · rintro i x acc H' hi hx ⟨rfl,rfl,hal⟩
   refine qJ fun _ Y=>?_
   obtain⟨m,hm,hI⟩:=his8.get hx
   obtain⟨zi,xi,rfl,hzi,h0,hl1⟩:=hI.opn
   apply Y
   refine⟨_,rfl,_,rfl,zi,xi,_,_,rfl,rfl,SqT.of hzi,hl1,Nxt.mk hi ⟨rfl,?_,by simp at hal ⊢;omega⟩⟩
   rw [List.take_add_one,hm,(hok m (List.mem_of_getElem? hm)).f.ml]
   simp
 rintro acc H9 ⟨rfl,rfl,hal⟩ sl hsl
 rw [hxl,List.take_length]
 have w10:=qE hsl (.lst ((ms.map Im.mo).map V.int))
 have k10:upd H9 sl (.lst ((ms.map Im.mo).map V.int)) sl=some (.lst ((ms.map Im.mo).map V.int)):=qD
 generalize upd H9 sl (.lst ((ms.map Im.mo).map V.int))=H10 at w10 k10 ⊢
 refine⟨sl,ms.map Im.mo,rfl,SqL.of k10,?_⟩
 have eL:(ms.map Im.mo).sum=ql ms:=rfl
 rw [eL]
 refine⟨one,fun ll hll=>?_⟩
 have w11:=qE hll (.lst [.int (ql ms)])
 have k11:upd H10 ll (.lst [.int (ql ms)]) ll=some (.lst [.int (ql ms)]):=qD
 generalize upd H10 ll (.lst [.int (ql ms)])=H11 at w11 k11 ⊢
 refine⟨_,rfl,one,fun nu hnu=>?_⟩
 have w12:=qE hnu (.lst [.int (ms.length:Int)])
 have k12:upd H11 nu (.lst [.int (ms.length:Int)]) nu=some (.lst [.int (ms.length:Int)]):=qD
 generalize upd H11 nu (.lst [.int (ms.length:Int)])=H12 at w12 k12 ⊢
 have w7c:=((w8.trans w10).trans w11).trans w12
 have e2c:=w26.trans w7c
 have htd12:=w7c _ _ k7
 have hnl12:=(((w10.trans w11).trans w12)) _ _ k8
 have hll12:=w12 _ _ k11
 have f1:H2 td=none:=htd
 have f2:H2 nl=none:=w26.free hnl
 have f3:H2 ll=none:=(w26.trans (w8.trans w10)).free hll
 have f4:H2 nu=none:=(w26.trans ((w8.trans w10).trans w11)).free hnu
 have d12:nl≠td:=(qM k7 hnl).symm
 have d13:ll≠td:=(qM ((w8.trans w10) _ _ k7) hll).symm
 have d14:nu≠td:=(qM (((w8.trans w10).trans w11) _ _ k7) hnu).symm
 have d23:ll≠nl:=(qM (w10 _ _ k8) hll).symm
 have d24:nu≠nl:=(qM ((w10.trans w11) _ _ k8) hnu).symm
 have d34:nu≠ll:=(qM k11 hnu).symm
 have dvz:∀ {H':Hp} {dvs:List (Key × V)},H' td=some (.dK dvs)→∀ {u1 u2 u3:List V},H' nl=some (.lst u1)→H' ll=some (.lst u2)→H' nu=some (.lst u3)→TS H' (Mk (X4 td nl ll nu) H'):=fun {H' dvs} h1 {u1 u2 u3} h2 h3 h4 c ys hc=>by
  rw [wB]
  · exact hc
  · rintro (e | e | e | e)
    · rw [e,h1] at hc;cases hc
    · rw [e,h2] at hc;cases hc
    · rw [e,h3] at hc;cases hc
    · rw [e,h4] at hc;cases hc
 have hsb:∀ {Ha Hb:Hp},Same Ha Hb→Same (Mk (X4 td nl ll nu) Ha) (Mk (X4 td nl ll nu) Hb):=fun h=>kI fun b u _ hb=>h b u hb
 have hzX:¬ X4 td nl ll nu z:=by
  rintro (e | e | e | e)
  · rw [e,f1] at hz;cases hz
  · rw [e,f2] at hz;cases hz
  · rw [e,f3] at hz;cases hz
  · rw [e,f4] at hz;cases hz
 have old:∀ {b:Addr} {u:HO},H7 b=some u→b≠td→¬ X4 td nl ll nu b:=fun {b u} hb nb=>by
  rintro (e | e | e | e)
  · exact nb e
  · rw [e,hnl] at hb;cases hb
  · have:=(w8.trans w10) _ _ hb;rw [e,hll] at this;cases this
  · have:=((w8.trans w10).trans w11) _ _ hb;rw [e,hnu] at this;cases this
 have hTr12:Tr (Mk (X4 td nl ll nu) H12) z ms:=⟨xs,by rw [wB hzX];exact e2c _ _ hz,(his.ts (qV e2c)).ts (dvz htd12 hnl12 hll12 k12)⟩
 have hTab0:TabF (Mk (X4 td nl ll nu) H12) (.ref tt) [ms] []:=⟨tt,l1,l2,[.ref z],rfl,by rw [wB (old k73 n3)];exact w7c _ _ k73,by rw [wB (old k71 n1)];exact w7c _ _ k71,⟨⟨z,rfl,hTr12⟩,trivial⟩,by rw [wB (old k72 n2)];exact w7c _ _ k72⟩
 have hTb0:TbK (Mk (X4 td nl ll nu) H12) [((Sum.inr ("aa":Str):Key),V.ref tt)] (fun y=>if y=("aa":Str) then some [ms] else none) 1:=by
  have h0:TbK (Mk (X4 td nl ll nu) H12) [] (fun _=>none) 0:=⟨(fun p hp=>by cases hp),(fun nm v q=>by cases q),(fun nm ts q=>by cases q)⟩
  exact(h0.put (k:=0) (nm:="aa") rfl hTab0).1
 have hTw0:Tws (fun y=>if y=("aa":Str) then some [ms] else none) ms ["aa"] [ql ms] [ms.length]:=Tws.one (if_pos rfl) (by omega)
 refine⟨_,rfl,zs,ns,1,rfl,(e12.trans e2c).seq hS,hlen,by decide,fun c2=>⟨_,_,rfl,rfl,nz,?_⟩⟩
 have fc2:=fm c2 (show (0:Int) < 6 by decide)
 refine⟨_,rfl,by omega,by omega,qAo (n:=(c2.fmod 6).toNat) (fun i σ H'=>∃ (o1 o2 o3:Option V) (dvs:List (Key × V)) (rm:Rms) (lens:List Int) (cnts:List Nat) (pc:Nat),σ=[some (.ref zs),some (.int num),some (.ref tw),some (.ref z),some (.ref td),some (.ref nl),some (.int (pc:Int)),some (.ref ll),some (.ref nu),o1,o2,o3,none]∧Same H2 H'∧H' td=some (.dK dvs)∧dvs.length≤i+1∧H' nl=some (.lst ((N6b.take (i+1)).map V.str))∧H' ll=some (.lst (lens.map V.int))∧H' nu=some (.lst (cnts.map fun n:Nat=>V.int (n:Int)))∧cnts[i]? =some pc∧Tws rm ms (N6b.take (i+1)) lens cnts∧TbK (Mk (X4 td nl ll nu) H') dvs rm (i+1))
  ⟨none,none,none,_,_,[ql ms],[ms.length],ms.length,rfl,e2c,htd12,Nat.le_refl _,hnl12,hll12,k12,rfl,hTw0,hTb0⟩ ?_ ?_⟩
 · rintro i σ Ha hi ⟨o1,o2,o3,dvs,rm,lens,cnts,pc,rfl,ea,htda,hdl,hnla,hlla,hnua,hpc,hTw,hTb⟩
   refine qJ fun _ Y=>?_
   obtain⟨nm',ch,hN,hch,hnm'⟩:=qJp (k:=i) (by omega)
   apply Y
   have e0i:(0:Int)+(i:Int)=(i:Int):=by omega
   have htwa:=ea _ _ htw2
   refine(ixO htwa at1 ?_)
   refine⟨fun σ' H'=>∃ sv:Nat,σ'=[some (.ref zs),some (.int num),some (.ref tw),some (.ref z),some (.ref td),some (.ref nl),some (.int (pc:Int)),some (.ref ll),some (.ref nu),some (.int (0+(i:Int))),some (.int (sv:Int)),o3,none]∧Same Ha H'∧1≤sv∧sv≤60,?_,?_⟩
   · refine⟨_,rfl,_,_,rfl,rfl,_,rfl,xI (fun _=>?_) (fun _=>⟨a1,rfl,Same.refl _,a11,a12⟩)⟩
     exact⟨_,rfl,zs,ns,2,rfl,(e12.trans ea).seq hS,hlen,by decide,fun c3=>⟨_,rfl,_,_,rfl,by omega,by omega,fun x _ _=>⟨_,rfl,fun d H' e' d1 d2=>⟨d,rfl,e',d1,d2⟩⟩⟩⟩
   rintro σ' Hb ⟨sv,rfl,eab,v1,v60⟩
   have htdb:=eab _ _ htda
   have hnlb:=eab _ _ hnla
   have hllb:=eab _ _ hlla
   have hnub:=eab _ _ hnua
   have hT6:(N6b.take (i+1)).length=i+1:=by rw [List.length_take];have:N6b.length=6:=rfl;omega
   refine qJ fun _ Y=>?_
   obtain⟨nm,len,cnt,hnm,hle,hcn,hTk,hlb⟩:=hTw.at' (j:=i) (by omega)
   rw [hpc] at hcn
   cases hcn
   apply Y
   have l1e:=hTw.l1
   have l2e:=hTw.l2
   have lastN:atI ((N6b.take (i+1)).map V.str) (-1)=some (.str nm):=qB9 (by rw [List.length_map,hT6,Nat.add_sub_cancel,List.getElem?_map,hnm];rfl)
   have lastL:atI (lens.map V.int) (-1)=some (.int len):=qB9 (by rw [List.length_map,l1e,hT6,Nat.add_sub_cancel,List.getElem?_map,hle];rfl)
   refine⟨_,rfl,_,_,ch,rfl,rfl,(by show (5:Nat)≤sizeLine;decide),by rw [e0i];exact hch,_,rfl,_,rfl,_,rfl,(by show (5:Nat)≤sizeLine;decide),_,_,rfl,rfl,?_,?_⟩
   · have h1:=Txt.slice_le (Str.ofString "aaaaa") none (some (0+(i:Int)))
     have h2:(Str.ofString "aaaaa").length=5:=by decide+kernel
     have h3:6≤sizeLine:=by decide
     show 1+_≤_
     omega
   rw [show (⟨#[ch]⟩:Str)++Txt.slice "aaaaa" none (some (0+(i:Int)))=nm' from by rw [e0i];exact hnm']
   refine⟨_,rfl,_,rfl,by omega,by omega,qCp (n:=sv) (fun j acc H'=>IsIs H' (List.replicate j (Im.nest nm 0 len)) acc∧acc.length=j∧Same Hb H') ⟨trivial,rfl,Same.refl _⟩ ?_ ?_ ?_⟩
   · rintro j acc H' hj ⟨_,hal,_⟩
     exact qf (by omega)
   · rintro j acc H' hj ⟨h1,hal,e'⟩
     refine⟨_,rfl,_,rfl,nl,_,_,_,rfl,rfl,SqL.of (e' _ _ hnlb),lastN,_,rfl,_,rfl,ll,_,_,_,rfl,rfl,SqL.of (e' _ _ hllb),lastL,sL4,fun g hg=>Nxt.mk hj ⟨?_,by simp [hal],e'.trans (qE hg _)⟩⟩
     rw [List.replicate_succ']
     exact(h1.ts (qV (qE hg _))).app (.one (isN qD))
   rintro acc Hc ⟨hIs,hal,ebc⟩ tl htl
   have wc:=qE htl (.lst acc)
   have kc:upd Hc tl (.lst acc) tl=some (.lst acc):=qD
   generalize upd Hc tl (.lst acc)=Hd at wc kc ⊢
   refine⟨one,fun t2 ht2=>?_⟩
   have wd:=qE ht2 (.lst [.ref tl])
   have kd:upd Hd t2 (.lst [.ref tl]) t2=some (.lst [.ref tl]):=qD
   generalize upd Hd t2 (.lst [.ref tl])=He at wd kd ⊢
   refine⟨sL0,fun ti hti=>?_⟩
   have we:=qE hti (.lst [])
   have ke:upd He ti (.lst []) ti=some (.lst []):=qD
   generalize upd He ti (.lst [])=Hf at we ke ⊢
   refine⟨two,fun tt' htt'=>?_⟩
   have wf:=qE htt' (.tup [.ref t2,.ref ti])
   have kf:upd Hf tt' (.tup [.ref t2,.ref ti]) tt'=some (.tup [.ref t2,.ref ti]):=qD
   generalize upd Hf tt' (.tup [.ref t2,.ref ti])=Hg at wf kf ⊢
   have wcg:=((wc.trans wd).trans we).trans wf
   have ebg:=ebc.trans wcg
   have htdg:=ebg _ _ htdb
   have hnlg:=ebg _ _ hnlb
   have hllg:=ebg _ _ hllb
   have hnug:=ebg _ _ hnub
   have new:∀ {Hx:Hp} {b:Addr},Same Hb Hx→Hx b=none→¬ X4 td nl ll nu b:=fun {Hx b} ex hb=>by
    rintro (e | e | e | e)
    · rw [e,ex _ _ htdb] at hb;cases hb
    · rw [e,ex _ _ hnlb] at hb;cases hb
    · rw [e,ex _ _ hllb] at hb;cases hb
    · rw [e,ex _ _ hnub] at hb;cases hb
   have tsg:=dvz htdg hnlg hllg hnug
   have hTab:TabF (Mk (X4 td nl ll nu) Hg) (.ref tt') [List.replicate sv (Im.nest nm 0 len)] []:=⟨tt',t2,ti,[.ref tl],rfl,tsg _ _ kf,by rw [wB (new (ebc.trans wc) ht2)];exact(we.trans wf) _ _ kd,⟨⟨tl,rfl,acc,by rw [wB (new ebc htl)];exact((wd.trans we).trans wf) _ _ kc,(hIs.ts (qV wcg)).ts tsg⟩,trivial⟩,by rw [wB (new ((ebc.trans wc).trans wd) hti)];exact wf _ _ ke⟩
   have eag:=eab.trans ebg
   obtain⟨hTb2,hext⟩:=(hTb.same (hsb eag)).put hN hTab
   have hTw2:=hTw.snoc (k:=i) hT6 (by omega) hnm hle hpc hF v1 v60 hext (if_pos rfl)
   have htk2:N6b.take (i+1+1)=N6b.take (i+1)++[nm']:=by rw [List.take_add_one,hN];rfl
   refine⟨_,rfl,_,rfl,td,_,rfl,DPut.k (k:=Sum.inr nm') htdg (qf (by omega)),?_⟩
   have eh:Same H2 (upd Hg td (.dK (jl dvs (Sum.inr nm') (.ref tt')))):=jU (ea.trans eag) f1
   have kh0:upd Hg td (.dK (jl dvs (Sum.inr nm') (.ref tt'))) td=some (.dK (jl dvs (Sum.inr nm') (.ref tt'))):=qD
   have kh1:upd Hg td (.dK (jl dvs (Sum.inr nm') (.ref tt'))) nl=some (.lst ((N6b.take (i+1)).map V.str)):=by rw [qK d12];exact hnlg
   have kh2:upd Hg td (.dK (jl dvs (Sum.inr nm') (.ref tt'))) ll=some (.lst (lens.map V.int)):=by rw [qK d13];exact hllg
   have kh3:upd Hg td (.dK (jl dvs (Sum.inr nm') (.ref tt'))) nu=some (.lst (cnts.map fun n:Nat=>V.int (n:Int))):=by rw [qK d14];exact hnug
   have mh:Same (Mk (X4 td nl ll nu) Hg) (Mk (X4 td nl ll nu) (upd Hg td (.dK (jl dvs (Sum.inr nm') (.ref tt'))))):=kI fun b u nb hb=>by rw [qK fun e=>nb (.inl e)];exact hb
   generalize upd Hg td (.dK (jl dvs (Sum.inr nm') (.ref tt')))=Hh at eh kh0 kh1 kh2 kh3 mh ⊢
   refine⟨_,rfl,_,rfl,_,_,rfl,rfl,cmR (by omega) (by omega),?_⟩
   refine⟨_,rfl,.inl ⟨rfl,_,SqL.of kh2⟩,_,rfl,_,rfl,ll,_,_,_,rfl,rfl,SqL.of kh2,lastL,_,rfl,_,_,rfl,rfl,cmR (by omega) (by omega),ll,_,_,rfl,rfl,kh2,qf (by rw [List.length_map];omega),?_⟩
   have ei:Same H2 (upd Hh ll (.lst (lens.map V.int++[.int (len*(sv:Int))]))):=jU eh f3
   have ki0:upd Hh ll (.lst (lens.map V.int++[.int (len*(sv:Int))])) td=some (.dK (jl dvs (Sum.inr nm') (.ref tt'))):=by rw [qK d13.symm];exact kh0
   have ki1:upd Hh ll (.lst (lens.map V.int++[.int (len*(sv:Int))])) nl=some (.lst ((N6b.take (i+1)).map V.str)):=by rw [qK d23.symm];exact kh1
   have ki2:upd Hh ll (.lst (lens.map V.int++[.int (len*(sv:Int))])) ll=some (.lst ((lens++[len*(sv:Int)]).map V.int)):=by rw [qD,List.map_append];rfl
   have ki3:upd Hh ll (.lst (lens.map V.int++[.int (len*(sv:Int))])) nu=some (.lst (cnts.map fun n:Nat=>V.int (n:Int))):=by rw [qK d34];exact kh3
   have mi:Same (Mk (X4 td nl ll nu) Hh) (Mk (X4 td nl ll nu) (upd Hh ll (.lst (lens.map V.int++[.int (len*(sv:Int))])))):=kI fun b u nb hb=>by rw [qK fun e=>nb (.inr (.inr (.inl e)))];exact hb
   generalize upd Hh ll (.lst (lens.map V.int++[.int (len*(sv:Int))]))=Hi at ei ki0 ki1 ki2 ki3 mi ⊢
   refine⟨_,rfl,.inl ⟨rfl,_,SqL.of ki3⟩,_,rfl,nu,_,_,rfl,rfl,ki3,qf (by rw [List.length_map];omega),?_⟩
   have epc:V.int ((pc:Int)*(sv:Int))=V.int ((pc*sv:Nat):Int):=by rw [Int.natCast_mul]
   rw [epc]
   have ej:Same H2 (upd Hi nu (.lst ((cnts.map fun n:Nat=>V.int (n:Int))++[.int ((pc*sv:Nat):Int)]))):=jU ei f4
   have kj0:upd Hi nu (.lst ((cnts.map fun n:Nat=>V.int (n:Int))++[.int ((pc*sv:Nat):Int)])) td=some (.dK (jl dvs (Sum.inr nm') (.ref tt'))):=by rw [qK d14.symm];exact ki0
   have kj1:upd Hi nu (.lst ((cnts.map fun n:Nat=>V.int (n:Int))++[.int ((pc*sv:Nat):Int)])) nl=some (.lst ((N6b.take (i+1)).map V.str)):=by rw [qK d24.symm];exact ki1
   have kj2:upd Hi nu (.lst ((cnts.map fun n:Nat=>V.int (n:Int))++[.int ((pc*sv:Nat):Int)])) ll=some (.lst ((lens++[len*(sv:Int)]).map V.int)):=by rw [qK d34.symm];exact ki2
   have kj3:upd Hi nu (.lst ((cnts.map fun n:Nat=>V.int (n:Int))++[.int ((pc*sv:Nat):Int)])) nu=some (.lst ((cnts++[pc*sv]).map fun n:Nat=>V.int (n:Int))):=by rw [qD,List.map_append];rfl
   have mj:Same (Mk (X4 td nl ll nu) Hi) (Mk (X4 td nl ll nu) (upd Hi nu (.lst ((cnts.map fun n:Nat=>V.int (n:Int))++[.int ((pc*sv:Nat):Int)])))):=kI fun b u nb hb=>by rw [qK fun e=>nb (.inr (.inr (.inr e)))];exact hb
   generalize upd Hi nu (.lst ((cnts.map fun n:Nat=>V.int (n:Int))++[.int ((pc*sv:Nat):Int)]))=Hj at ej kj0 kj1 kj2 kj3 mj ⊢
   refine⟨_,rfl,.inl ⟨rfl,_,SqL.of kj1⟩,_,rfl,nl,_,_,rfl,rfl,kj1,qf (by rw [List.length_map];omega),?_⟩
   refine⟨_,_,_,jl dvs (Sum.inr nm') (.ref tt'),_,lens++[len*(sv:Int)],cnts++[pc*sv],pc*sv,rfl,jU ej f2,by rw [qK d12.symm];exact kj0,?_,?_,by rw [qK d23];exact kj2,by rw [qK d24];exact kj3,?_,?_,(((hTb2.same mh).same mi).same mj).same (kI fun b u nb hb=>by rw [qK fun e=>nb (.inr (.inl e))];exact hb)⟩
   · have:=jW dvs (Sum.inr nm') (.ref tt');omega
   · rw [qD,htk2,List.map_append];rfl
   · rw [List.getElem?_append_right (by omega),l2e,hT6,Nat.sub_self];rfl
   · rw [htk2];exact hTw2
 rintro σ Ha ⟨o1,o2,o3,dvs,rm,lens,cnts,pc,rfl,ea,htda,hdl,hnla,hlla,hnua,hpc,hTw,hTb⟩
 have hn5:(c2.fmod 6).toNat≤5:=by omega
 generalize (c2.fmod 6).toNat=n at*
 have hT6:(N6b.take (n+1)).length=n+1:=by rw [List.length_take];have:N6b.length=6:=rfl;omega
 generalize N6b.take (n+1)=nms at*
 have hTbA:=hTb.same qJc
 refine fun d1 hd1=>?_
 refine⟨qD,[((Sum.inr ("reel":Str):Key),V.int 100)],rfl,(by show 1≤15;decide),?_⟩
 have er:z8 [] [((Sum.inr ("reel":Str):Key),V.int 100)]=[((Sum.inr ("reel":Str):Key),V.int 100)]:=by rfl
 rw [er,qA9]
 have v1:=qE hd1 (.dK [((Sum.inr ("reel":Str):Key),V.int 100)])
 have kd1:upd Ha d1 (.dK [((Sum.inr ("reel":Str):Key),V.int 100)]) d1=some (.dK [((Sum.inr ("reel":Str):Key),V.int 100)]):=qD
 generalize upd Ha d1 (.dK [((Sum.inr ("reel":Str):Key),V.int 100)])=Hb at v1 kd1 ⊢
 refine⟨_,rfl,td,_,rfl,v1 _ _ htda,fun d2 hd2=>?_⟩
 have v2:=qE hd2 (.dK dvs)
 have kd2:upd Hb d2 (.dK dvs) d2=some (.dK dvs):=qD
 generalize upd Hb d2 (.dK dvs)=Hc at v2 kd2 ⊢
 refine⟨two,fun rz hrz=>?_⟩
 have v3:=qE hrz (.tup [.ref d1,.ref d2])
 have krz:upd Hc rz (.tup [.ref d1,.ref d2]) rz=some (.tup [.ref d1,.ref d2]):=qD
 generalize upd Hc rz (.tup [.ref d1,.ref d2])=Hd at v3 krz ⊢
 have ead:=(v1.trans v2).trans v3
 have kd1d:=(v2.trans v3) _ _ kd1
 have kd2d:=v3 _ _ kd2
 have hTbD:=hTbA.same ead
 have hR:RoomAt Hd rz rm:=⟨d1,d2,dvs,krz,.inl kd2d,fun nm ts q=>let ⟨_,v,b,c⟩:=hTbD.rmt nm ts q;⟨v,b,c.tab⟩⟩
 have hnld:=ead _ _ hnla
 have hlld:=ead _ _ hlla
 have hnud:=ead _ _ hnua
 have htdd:=ead _ _ htda
 have e2d:=ea.trans ead
 have hlN:(nms.map V.str).length=n+1:=by rw [List.length_map];exact hT6
 refine⟨_,rfl,nl,_,rfl,.inl (SqL.of hnld),_,_,rfl,rfl,?_⟩
 refine⟨_,rfl,zs,ns,3,rfl,(e12.trans e2d).seq hS,hlen,by decide,fun c3=>⟨_,rfl,nl,_,rfl,.inl (SqL.of hnld),_,_,rfl,rfl,(by rw [hlN];omega),two,fun lk hlk=>?_⟩⟩
 rw [hlN]
 have fc3:=fm c3 (show (0:Int) < ((n+1:Nat):Int) by omega)
 have v4:=qE hlk (.lst [.int (((n+1:Nat):Int) - 1),.int (c3.fmod ((n+1:Nat):Int))])
 have klk:upd Hd lk (.lst [.int (((n+1:Nat):Int) - 1),.int (c3.fmod ((n+1:Nat):Int))]) lk=some (.lst [.int (((n+1:Nat):Int) - 1),.int (c3.fmod ((n+1:Nat):Int))]):=qD
 generalize upd Hd lk (.lst [.int (((n+1:Nat):Int) - 1),.int (c3.fmod ((n+1:Nat):Int))])=He at v4 klk ⊢
 refine⟨lk,rfl,⟨_,SqL.of klk⟩,v8 (K:=K) (a:=lk) (xs:=[.int (((n+1:Nat):Int) - 1),.int (c3.fmod ((n+1:Nat):Int))]) (fun i σ H'=>∃ (o1 o2 o3:Option V),σ=[some (.ref zs),some (.int num),some (.ref tw),some (.ref z),some (.ref td),some (.ref nl),some (.int (pc:Int)),some (.ref ll),some (.ref nu),o1,o2,o3,some (.ref rz)]∧Same He H') ⟨_,_,_,rfl,Same.refl _⟩ ?_ ?_ ?_⟩
 · rintro i σ H' hi ⟨_,_,_,rfl,e⟩
   exact SqL.of (e _ _ klk)
 · rintro i x σ H' hx ⟨o1',o2',o3',rfl,e⟩
   refine qJ fun _ Y=>?_
   obtain⟨j,rfl,hj⟩:∃ j:Nat,x= .int (j:Int)∧j < nms.length:=by
    have hm:=List.mem_of_getElem? hx
    rcases List.mem_cons.mp hm with rfl | hm
    · exact⟨n,by congr 1;omega,by omega⟩
    · rw [List.mem_singleton] at hm
      exact⟨(c3.fmod ((n+1:Nat):Int)).toNat,by rw [hm];congr 1;omega,by omega⟩
   have e':=v4.trans e
   obtain⟨nm,len,cnt,hnm,hle,hcn,hTk,hlb⟩:=hTw.at' hj
   have atn:atI (nms.map V.str) (j:Int)=some (.str nm):=qy (by rw [List.getElem?_map,hnm];rfl)
   have atc:atI (cnts.map fun n:Nat=>V.int (n:Int)) (j:Int)=some (.int (cnt:Int)):=qy (by rw [List.getElem?_map,hcn];rfl)
   have hl40:len≤2 ^ 40:=Int.le_trans hlb (qHk (by omega))
   obtain⟨⟨L,hL,hLc⟩,_⟩:=vx (N:=6) hF hTk (by omega)
   obtain⟨y,hy,hyl⟩:=hTk.tab
   apply Y
   refine⟨_,rfl,_,rfl,_,rfl,nl,_,_,_,rfl,rfl,SqL.of (e' _ _ hnld),atn,rz,nm,rm,[y],len,L,rfl,hR.same e',SmL.up _ nm (hTk.sm hF) 6 (by omega),hy,fun nm' ts' q=>(hTbD.rmt nm' ts' q).1,qG7 hyl,by omega,hL,fun H'' e''=>?_⟩
   refine⟨_,rfl,_,rfl,nu,_,_,_,rfl,rfl,SqL.of (e'' _ _ (e' _ _ hnud)),atc,_,_,rfl,rfl,_,rfl,xI (fun c=>?_) (fun _=>⟨_,_,_,rfl,e.trans e''⟩)⟩
   exfalso
   rw [hLc] at c
   have:(if cnt≤400 then (cnt:Int) else 401)=(if (401:Int) < (cnt:Int) then (401:Int) else (cnt:Int)):=by
    by_cases h:cnt≤400
    · rw [if_pos h,if_neg (by omega)]
    · rw [if_neg h]
      by_cases h':(401:Int) < (cnt:Int)
      · rw [if_pos h']
      · rw [if_neg h'];omega
   rw [this] at c
   simp at c
 · rintro σ H' ⟨o1',o2',o3',rfl,e⟩
   have e':=v4.trans e
   have hTbE:=hTbD.same e'
   refine⟨_,rfl,_,rfl,_,rfl,_,rfl,_,rfl,zs,td,nl,ll,z,ns,dvs,rm,ms,nms,lens,cnts,rfl,(e12.trans (e2d.trans e')).seq hS,hlen,e' _ _ htdd,by omega,e' _ _ hnld,e' _ _ hlld,hTr.same (e2d.trans e'),hok,hne,h60,hTw,by omega,by omega,hTbE.tbh,fun H'' e''=>?_⟩
   have e2:=e'.trans e''
   refine⟨_,rfl,qCv ?_⟩
   refine⟨_,rfl,fun d3 hd3=>?_⟩
   refine⟨qD,[((Sum.inr ("reel":Str):Key),V.int 100)],rfl,(by show 1≤15;decide),?_⟩
   rw [er,qA9]
   have v5:=qE hd3 (.dK [((Sum.inr ("reel":Str):Key),V.int 100)])
   have kd3:upd H'' d3 (.dK [((Sum.inr ("reel":Str):Key),V.int 100)]) d3=some (.dK [((Sum.inr ("reel":Str):Key),V.int 100)]):=qD
   generalize upd H'' d3 (.dK [((Sum.inr ("reel":Str):Key),V.int 100)])=Hf at v5 kd3 ⊢
   refine⟨_,rfl,two,fun r2 hr2=>?_⟩
   have v6:=qE hr2 (.tup [.ref d3,.ref td])
   have kr2:upd Hf r2 (.tup [.ref d3,.ref td]) r2=some (.tup [.ref d3,.ref td]):=qD
   generalize upd Hf r2 (.tup [.ref d3,.ref td])=Hg at v6 kr2 ⊢
   have e3:=(e2.trans v5).trans v6
   have hTbG:=hTbD.same e3
   refine⟨rz,r2,d1,d3,d2,td,rfl,rfl,SqT.of (e3 _ _ krz),SqT.of kr2,⟨_,_,.inl (e3 _ _ kd1d),.inl (v6 _ _ kd3),rfl,fun p hp=>?_⟩,⟨_,_,.inl (e3 _ _ kd2d),.inl (e3 _ _ htdd),rfl,fun p hp=>?_⟩,kk _⟩
   · rw [List.mem_singleton] at hp
     subst hp
     exact⟨.int 100,.leaf (.int 100),jM (p:=((Sum.inr ("reel":Str):Key),V.int 100)) rfl,by unfold Rep;exact⟨rfl,rfl⟩,by unfold Rep;exact⟨rfl,rfl⟩,by simp [eqD,eqV],by simp [dep]⟩
   · obtain⟨q1,ts,q2⟩:=hTbG.all p hp
     obtain⟨s1,s2⟩:=qGc ts []
     exact⟨p.2,qGo ts [],q1,q2.rep,q2.rep,s1,s2⟩
end
structure DF (K:W.Frag)(x:Str)(st:Stmt)(f:Addr)(fd:FuncData):Prop where
 n:W.nsIn K mainGlobals x=some (some (.ref f))
 F:Fun K x x st f fd
theorem df_mk {K:W.Frag}{x:Str}{st:Stmt}{f:Addr}{oc:Value}{od an:Option Addr}{osl:Array (Option Value)}{kV doc pm cdv ct:Value}(n:W.nsIn K mainGlobals x=some (some (.ref f)))(l:K.lookup f=some ⟨oc,od,.func (W.fnOf x x (xJ st) (ju st) (qH st) .none kV doc pm an cdv ct),osl⟩)(c:W.codeIn K cdv x=true)(k:W.keepIn K (.ref f)=true):DF K x st f (W.fnOf x x (xJ st) (ju st) (qH st) .none kV doc pm an cdv ct):=⟨n,qG0 l c k⟩
def GL (K:W.Frag)(x:Str)(v:Option Value):Prop:=W.nsIn K mainGlobals x=some v
theorem gl_mk {K:W.Frag}{x:Str}{v:Option Value}(h:W.nsIn K mainGlobals x=some v):GL K x v:=h
theorem dG {K:W.Frag}{x:Str}{st:Stmt}{f:Addr}{fd:FuncData}{h:Heap}{mg:Str→Option Value}{ps:List Str}(X:K.In h)(G:h.Ns mainGlobals mg)(d:DF K x st f fd)
 (b:∀ (kV doc pm:Value) (an:Option Addr) (cdv ct:Value) (us:List Value),us.length=ps.length→bindArgs (W.fnOf x x (xJ st) (ju st) (qH st) .none kV doc pm an cdv ct) ⟨us,[]⟩=pure (ps.zip us):=by
   first | exact(fun _ _ _ _ _ _ us hl=>match us,hl with | [_],_=>rfl) | exact(fun _ _ _ _ _ _ us hl=>match us,hl with | [_,_],_=>rfl) | exact(fun _ _ _ _ _ _ us hl=>match us,hl with | [_,_,_],_=>rfl) | exact(fun _ _ _ _ _ _ us hl=>match us,hl with | [_,_,_,_],_=>rfl) | exact(fun _ _ _ _ _ _ us hl=>match us,hl with | [_,_,_,_,_],_=>rfl)):L3.Def K mg x st ps f fd:=⟨d.F,d.F.binds b,W.mg_of X G d.n⟩
theorem all_mk {l:W.OpenLaw}{w:World}{K:W.Frag}{h:Heap}{mg:Str→Option Value}{fa f0 f1 f2 f3 f4 f5 f6 f7 f8 f9 f10 f11 f12 f13 f14 f15 f16 f17 f18 f19 f20 f21 f22 f23 f24 f25 f26 f27 f28 f29 f30 f31 f32 f33 f34 f35 C0 C1 C2 C3 C4 C5 nNOUGHT nWHOLE_SHARE nNOTHING nNOTHING_2 fmShort:Addr}{g0 g1 g2 g3 g4 g5 g6 g7 g8 g9 g10 g11 g12 g13 g14 g15 g16 g17 g18 g19 g20 g21 g22 g23 g24 g25 g26 g27 g28 g29 g30 g31 g32 g33 g34 g35:FuncData}(X:K.In h)(G:h.Ns mainGlobals mg)(hfa:mg "law"=some (.ref fa))
 {odNOUGHT odWHOLE_SHARE odNOTHING odNOTHING_2 odmShort anmShort:Option Addr} {slNOUGHT slWHOLE_SHARE slNOTHING slNOTHING_2 slmShort:Array (Option Value)} {ocmShort kVmShort dcmShort pmmShort cdmShort ctmShort:Value} {tNOUGHT_0 tNOUGHT_1 tWHOLE_SHARE_0 tWHOLE_SHARE_1 tMOST_PIECES tNOTHING_0:Tok} {nnNOUGHT nnWHOLE_SHARE nnNOTHING nnNOTHING_2:Nat}
 (h0:DF K "is_whole" zn f0 g0)
 (h1:DF K "common_divisor" ji f1 g1)
 (h2:DF K "fraction" zv f2 g2)
 (h3:DF K "sum_of" vY f3 g3)
 (h4:DF K "times_of" zh f4 g4)
 (h5:DF K "place_at" zq f5 g5)
 (h6:DF K "moments_of" xK f6 g6)
 (h7:DF K "length_of" zA f7 g7)
 (h8:DF K "item_at" kN f8 g8)
 (h9:DF K "kind_at" kP f9 g9)
 (h10:DF K "part_ahead" xT f10 g10)
 (h11:DF K "part_behind" j7 f11 g11)
 (h12:DF K "mix_spans" xu f12 g12)
 (h13:DF K "mix_shares" xZ f13 g13)
 (h14:DF K "mix_at" wF f14 g14)
 (h15:DF K "taken_at_begin" jj f15 g15)
 (h16:DF K "taken_at_end" jv f16 g16)
 (h17:DF K "after" qAu f17 g17)
 (h18:DF K "parts_later" xC f18 g18)
 (h19:DF K "run_within" xW f19 g19)
 (h20:DF K "run_of_mix" xU f20 g20)
 (h21:DF K "run_of_clip" j6 f21 g21)
 (h22:DF K "run_of_nest" xB f22 g22)
 (h23:DF K "run_on" vo f23 g23)
 (h24:DF K "walked" vi f24 g24)
 (h25:DF K "place_for" xv f25 g25)
 (h26:DF K "run_at" ve f26 g26)
 (h27:DF K "laid_flat" xy f27 g27)
 (h28:DF K "_law_cell_at" jw f28 g28)
 (h29:DF K "_law_mixed" xY f29 g29)
 (h30:DF K "_law_told" xz f30 g30)
 (h31:DF K "_law_count" xc f31 g31)
 (h32:DF K "_law_first" xN f32 g32)
 (h33:DF K "_law_pieces_in" jh f33 g33)
 (h34:DF K "_law_film_right" jV f34 g34)
 (h35:DF K "law" qHb f35 g35)
 (xg0:GL K "CutError" (some (.ref C0)))
 (xg1:GL K "NoNumber" (some (.ref C1)))
 (xg2:GL K "NoPlace" (some (.ref C2)))
 (xg3:GL K "NoRoom" (some (.ref C3)))
 (xg4:GL K "TooMuch" (some (.ref C4)))
 (xg5:GL K "Short" (some (.ref C5)))
 (x_TooMuch:L3.OwnX K C4)
 (e_TooMuch:L3.ExcK K C4)
 (x1:W.exmOne K (.ref C4) (.ref C0)=some true)
 (p1:W.kitOne K (.ref C4) (.ref C3)=some false)
 (p2:W.kitOne K (.ref C4) (.ref C2)=some false)
 (p3:W.kitOne K (.ref C4) (.ref C5)=some false)
 (p4:W.kitOne K (.ref C4) (.ref C4)=some true)
 (p5:W.kitOne K (.ref C4) (.type "ValueError")=some true)
 (xz0:GL K "isinstance" none)
 (xz1:GL K "int" none)
 (xz2:GL K "bool" none)
 (xz3:GL K "abs" none)
 (xz4:GL K "sum" none)
 (xz5:GL K "enumerate" none)
 (xz6:GL K "len" none)
 (xz7:GL K "zip" none)
 (xz8:GL K "tuple" none)
 (xz9:GL K "max" none)
 (xz10:GL K "min" none)
 (xz11:GL K "ValueError" none)
 (xz12:GL K "range" none)
 (xz13:GL K "dict" none)
 (xcNOUGHT:GL K "NOUGHT" (some (.ref nNOUGHT))) (xlNOUGHT:K.lookup nNOUGHT=some ⟨.type "tuple",odNOUGHT,.seq #[.int 0 tNOUGHT_0,.int 1 tNOUGHT_1] nnNOUGHT,slNOUGHT⟩)
 (xcWHOLE_SHARE:GL K "WHOLE_SHARE" (some (.ref nWHOLE_SHARE))) (xlWHOLE_SHARE:K.lookup nWHOLE_SHARE=some ⟨.type "tuple",odWHOLE_SHARE,.seq #[.int 1 tWHOLE_SHARE_0,.int 1 tWHOLE_SHARE_1] nnWHOLE_SHARE,slWHOLE_SHARE⟩)
 (xcMOST_PIECES:GL K "MOST_PIECES" (some (.int 400 tMOST_PIECES)))
 (xcNOTHING:GL K "NOTHING" (some (.ref nNOTHING))) (xlNOTHING:K.lookup nNOTHING=some ⟨.type "tuple",odNOTHING,.seq #[.int 0 tNOTHING_0,.none,.ref nNOTHING_2] nnNOTHING,slNOTHING⟩)
 (xeNOTHING_2:K.lookup nNOTHING_2=some ⟨.type "tuple",odNOTHING_2,.seq #[] nnNOTHING_2,slNOTHING_2⟩)
 (iaShort:W.findIn K (.ref C5) "__init__"=some (some (.ref fmShort))) (ilShort:K.lookup fmShort=some ⟨ocmShort,odmShort,.func (W.fnOf "__init__" "Short.__init__" (xJ zM) (ju zM) (qH zM) .none kVmShort dcmShort pmmShort anmShort cdmShort ctmShort),slmShort⟩) (icShort:W.codeIn K cdmShort "Short.__init__"=true) (ikShort:W.keepIn K (.ref fmShort)=true) (ifShort:W.isFn K (.ref fmShort)=true)
 (ivShort:L3.exOver K C5 C0=true) (ihShort:W.hasDictIn K C5=true) (isShort:W.findIn K (.ref C5) "__setattr__"=some (some (.builtin "object.__setattr__"))) (ixShort:L3.excInitIn K C5 fmShort=true) (itShort:W.takerIn K C5 "most"=some none)
 :∃ fd:FuncData,(∀ (s:Shared) (v:Value),BindsTo s fd ⟨[v],[]⟩ [("_law_script",v)])∧∀ base:Heap,K.In base→base.Ns mainGlobals mg→FnOk l.prog w K mg base CX0 34 fa fd ["_law_script"] (qGk K):=by
 have e:=hfa.symm.trans (W.mg_of X G h35.n)
 obtain rfl:f35=fa:=by cases e;rfl
 obtain⟨_,_,_,_,_,_,_,_,_,rfl,_,_⟩:=h35.F.ex
 have FmShort:=qG0 (st:=zM) ilShort icShort ikShort
 have bmShort:=FmShort.binds (ps:=["self","most"]) fun _ _ _ _ _ _ us hl=>match us,hl with | [_,_],_=>rfl
 have T:Tx K mg ⟨f0,_,f1,_,f2,_,f3,_,f4,_,f5,_,f6,_,f7,_,f8,_,f9,_,f10,_,f11,_,f12,_,f13,_,f14,_,f15,_,f16,_,f17,_,f18,_,f19,_,f20,_,f21,_,f22,_,f23,_,f24,_,f25,_,f26,_,f27,_,f28,_,f29,_,f30,_,f31,_,f32,_,f33,_,f34,_,f35,_,C0,C1,C2,C3,C4,C5,nNOUGHT,nWHOLE_SHARE,tMOST_PIECES,nNOTHING,nNOTHING_2,fmShort,_⟩:=⟨dG X G h0,dG X G h1,dG X G h2,dG X G h3,dG X G h4,dG X G h5,dG X G h6,dG X G h7,dG X G h8,dG X G h9,dG X G h10,dG X G h11,dG X G h12,dG X G h13,dG X G h14,dG X G h15,dG X G h16,dG X G h17,dG X G h18,dG X G h19,dG X G h20,dG X G h21,dG X G h22,dG X G h23,dG X G h24,dG X G h25,dG X G h26,dG X G h27,dG X G h28,dG X G h29,dG X G h30,dG X G h31,dG X G h32,dG X G h33,dG X G h34,dG X G h35,W.mg_of X G xg0,W.mg_of X G xg1,W.mg_of X G xg2,W.mg_of X G xg3,W.mg_of X G xg4,W.mg_of X G xg5,W.mg_none_of X G xz0,W.mg_none_of X G xz1,W.mg_none_of X G xz2,W.mg_none_of X G xz3,W.mg_none_of X G xz4,W.mg_none_of X G xz5,W.mg_none_of X G xz6,W.mg_none_of X G xz7,W.mg_none_of X G xz8,W.mg_none_of X G xz9,W.mg_none_of X G xz10,W.mg_none_of X G xz11,W.mg_none_of X G xz12,W.mg_none_of X G xz13,W.mg_of X G xcNOUGHT,fun H=>.inr ⟨_,_,_,xlNOUGHT,rfl,rfl,by show 2≤sizeLine;decide,.cons ⟨_,rfl⟩ (.cons ⟨_,rfl⟩ (.nil))⟩,W.mg_of X G xcWHOLE_SHARE,fun H=>.inr ⟨_,_,_,xlWHOLE_SHARE,rfl,rfl,by show 2≤sizeLine;decide,.cons ⟨_,rfl⟩ (.cons ⟨_,rfl⟩ (.nil))⟩,W.mg_of X G xcMOST_PIECES,W.mg_of X G xcNOTHING,fun H=>.inr ⟨_,_,_,xlNOTHING,rfl,rfl,by show 3≤sizeLine;decide,.cons ⟨_,rfl⟩ (.cons rfl (.cons rfl (.nil)))⟩,fun H=>.inr ⟨_,_,_,xeNOTHING_2,rfl,rfl,by show 0≤sizeLine;decide,.nil⟩,x_TooMuch,e_TooMuch,x1,p1,p2,p3,p4,p5,FmShort,bmShort,⟨ivShort,ihShort,isShort,ixShort,ifShort⟩,itShort⟩
 exact⟨_,fun s v=>.of_eq rfl,fun base _ _=>qIt T⟩
theorem walk {l:W.OpenLaw}{q:Program}{loose:List Str}{XP:(Str→Option Value)→Heap→Prop}{YP:World→Heap→Prop}{d:DefRec}{K:Params→W.Frag}(hn:l.most=some 63)(hdf:d.params.defaults=[])
 (hY:∀ (w:World) (h:Heap),YP w h→(K w.params).In h)
 (F:∀ (w:World) (mg:Str→Option Value) (fa:Addr) (h:Heap),(K w.params).In h→h.Ns mainGlobals mg→mg d.name=some (.ref fa)→
   ∃ fd:FuncData,(∀ (s:Shared) (u:Value),BindsTo s fd ⟨[u],[]⟩ [("_law_script",u)])∧∀ base:Heap,(K w.params).In base→base.Ns mainGlobals mg→FnOk l.prog w (K w.params) mg base CX0 34 fa fd ["_law_script"] (qGk (K w.params))):
 W.WalkO q loose XP YP l.row.toRowW d [] (fun f vs=>PySem.call f vs):=
 L2.walk_of (n:=63) (k:=34) (x:="_law_script") (CX:=fun _=>CX0) (sp:=fun w=>qGk (K w.params)) hn (by decide) hdf ⟨rfl,by decide,by decide⟩ hY F (fun _ _ a ns hl _ hS=>⟨a,ns,rfl,hS,hl,fun _=>rfl⟩) fun _ _ _ _ _ z=>z
end Lw
namespace PySem.W.Fast
def tw375791954965893920 := ()
def tw9258345685663088897 := ()
def tw6413200117940483683 := ()
def tw5088212627991275876 := ()
def tw17095314540076060006 := ()
def tw8528569094305653639 := ()
def tw11840971646899827081 := ()
def tw5579210153141261387 := ()
def tw15193617143197652556 := ()
def tw7111050381184108690 := ()
def tw15809802369009447027 := ()
def tw10762591334082162611 := ()
def tw2364670844604104632 := ()
def tw7703649178659152953 := ()
def tw17575392951417219257 := ()
def tw4337987910394538393 := ()
def tw13812866080704138682 := ()
def tw7366121793441710522 := ()
def tw14244768543899137914 := ()
def tw15777992111448072443 := ()
def tw4336195184525523515 := ()
def tw10176284395083030109 := ()
def tw3306421843734398238 := ()
def tw17351873610939433091 := ()
def tw6033726279760423230 := ()
def tw8809843829218991019 := ()
def tw3887009718015198028 := ()
def tw2142497996761117632 := ()
def tw1472713016361529832 := ()
def tw42942936305791162 := ()
def tw7562855846894936958 := ()
def tw9210302009757671086 := ()
def tw10538301055692416726 := ()
def tw3413147698284703804 := ()
def tw4104663368963893778 := ()
def tw15307305355435858235 := ()
def tw9068554410563600727 := ()
def tw6765442113558312566 := ()
def tw6329913458009004450 := ()
def tw17753367552872860279 := ()
def tw13706541289329806772 := ()
def tw7550154095801635855 := ()
def tw5071209610601928672 := ()
def tw14197258594745795240 := ()
def tw10860322903908495671 := ()
def tw13522658057362614197 := ()
def tw2999531730130028330 := ()
def tw6834873826283199360 := ()
def tw9682122983276689383 := ()
def tw18125519460707457147 := ()
def tw12571603033343300083 := ()
def tw11118490823740989628 := ()
def tw6335657166016072372 := ()
def tw11923593551084692421 := ()
def tw37606924645909471 := ()
def tw9679705092850583172 := ()
def tw13319147452814954550 := ()
def tw14203939179117819564 := ()
def tw14798104620843526789 := ()
def tw756788022497238089 := ()
def tw3616931132607540063 := ()
def tw2378827552639170950 := ()
def tw12115832966239507682 := ()
def tw2829377042244423134 := ()
def tw12471056947830565080 := ()
def tw16248122557703173366 := ()
def tw569969633926264071 := ()
def tw13914688893263632064 := ()
def tw15316066355591843662 := ()
def tw9586994808349443049 := ()
def tw13196163223230940123 := ()
def tw9485597229899976091 := ()
def tw16152836129945580800 := ()
def tw7177500197831938289 := ()
def tw6652128981512736517 := ()
def tw13013355808290022061 := ()
def tw18303134560693072019 := ()
def tw15674654452250926425 := ()
def tw17523663516225960000 := ()
def tw918610296011515327 := ()
def tw9038453083551945754 := ()
def tw9689662299402551415 := ()
def tw2909752104271619537 := ()
def tw16846322402581032544 := ()
def tw17917618938238915950 := ()
def tw16234547638115468592 := ()
def tw9094196640608565718 := ()
def tw9822346887598626598 := ()
def tw8960177446739523472 := ()
def tw9453229429669363343 := ()
def tw13209376260729019540 := ()
def tw11926280045792175671 := ()
def tw406661483876418619 := ()
def tw18248065766252450191 := ()
def tw10885468352715349783 := ()
def tw10194338418925001770 := ()
def tw6418408878556554612 := ()
def tw15006114147049097221 := ()
def tw16747740398695245049 := ()
def tw4370841217590313690 := ()
def tw12516700524926788584 := ()
def tw4421542458854134036 := ()
def tw5388016383393534181 := ()
def tw10306572469210072229 := ()
def tw7858321977378417711 := ()
def tw6470469163865202964 := ()
def tw973419844441888218 := ()
def tw5784095858640576546 := ()
def tw14577461493322144484 := ()
def tw4664345453922080647 := ()
def tw11317780995742744004 := ()
def tw16690403556561357806 := ()
def tw573296315336868742 := ()
def tw529766465371309887 := ()
def tw16324367641737295871 := ()
def tw6719247854854641393 := ()
def tw8169402122660407775 := ()
def tw2144610731078448010 := ()
def tw508777276807550255 := ()
def tw1214708654966770684 := ()
def tw13367224270311517992 := ()
def tw6808023944970088474 := ()
def tw3172135446532067275 := ()
def tw6518186920600078273 := ()
def tw1679796375051690711 := ()
def tw2335792501638477489 := ()
def tw6523049906964634064 := ()
def tw7471145729185984932 := ()
def tw7836455609668570062 := ()
def tw7430896868608496867 := ()
def tw8765932562366647104 := ()
def tw7945491916674862278 := ()
def tw7842270683260555827 := ()
def tw15987749432461596787 := ()
def tw13072266462650674699 := ()
def tw16208506168311151345 := ()
def tw12451667744678714688 := ()
def tw10680852689427565617 := ()
def tw5048785302527299876 := ()
def tw13937362033994944125 := ()
def tw17838439319880587839 := ()
def tw200372581460857460 := ()
def tw15187968978222801192 := ()
def tw1954167848283584613 := ()
end PySem.W.Fast
open PySem PySem.W PyProof.Rows
set_option maxRecDepth 100000 in
set_option maxHeartbeats 0 in
theorem PySem.Challenge.cw_reelcut_k64_too_many_pieces_holds : PySem.Challenge.rw_reelcut_k64_too_many_pieces.Holds := by
 w_on;o_law;k_head;(case hw=>w_witness2)
 k_fill
 refine Lw.walk (l:=PySem.Challenge.rw_reelcut_k64_too_many_pieces) rfl rfl (fun w h Y=>PySem.W.kIn_of Y) ?F
 case F=>
  intro w mg fa h KX G hmg
  refine' Lw.all_mk KX G hmg (Lw.df_mk ?a0 ?l0 ?c0 ?k0) (Lw.df_mk ?a1 ?l1 ?c1 ?k1) (Lw.df_mk ?a2 ?l2 ?c2 ?k2) (Lw.df_mk ?a3 ?l3 ?c3 ?k3) (Lw.df_mk ?a4 ?l4 ?c4 ?k4) (Lw.df_mk ?a5 ?l5 ?c5 ?k5) (Lw.df_mk ?a6 ?l6 ?c6 ?k6) (Lw.df_mk ?a7 ?l7 ?c7 ?k7) (Lw.df_mk ?a8 ?l8 ?c8 ?k8) (Lw.df_mk ?a9 ?l9 ?c9 ?k9) (Lw.df_mk ?a10 ?l10 ?c10 ?k10) (Lw.df_mk ?a11 ?l11 ?c11 ?k11) (Lw.df_mk ?a12 ?l12 ?c12 ?k12) (Lw.df_mk ?a13 ?l13 ?c13 ?k13) (Lw.df_mk ?a14 ?l14 ?c14 ?k14) (Lw.df_mk ?a15 ?l15 ?c15 ?k15) (Lw.df_mk ?a16 ?l16 ?c16 ?k16) (Lw.df_mk ?a17 ?l17 ?c17 ?k17) (Lw.df_mk ?a18 ?l18 ?c18 ?k18) (Lw.df_mk ?a19 ?l19 ?c19 ?k19) (Lw.df_mk ?a20 ?l20 ?c20 ?k20) (Lw.df_mk ?a21 ?l21 ?c21 ?k21) (Lw.df_mk ?a22 ?l22 ?c22 ?k22) (Lw.df_mk ?a23 ?l23 ?c23 ?k23) (Lw.df_mk ?a24 ?l24 ?c24 ?k24) (Lw.df_mk ?a25 ?l25 ?c25 ?k25) (Lw.df_mk ?a26 ?l26 ?c26 ?k26) (Lw.df_mk ?a27 ?l27 ?c27 ?k27) (Lw.df_mk ?a28 ?l28 ?c28 ?k28) (Lw.df_mk ?a29 ?l29 ?c29 ?k29) (Lw.df_mk ?a30 ?l30 ?c30 ?k30) (Lw.df_mk ?a31 ?l31 ?c31 ?k31) (Lw.df_mk ?a32 ?l32 ?c32 ?k32) (Lw.df_mk ?a33 ?l33 ?c33 ?k33) (Lw.df_mk ?a34 ?l34 ?c34 ?k34) (Lw.df_mk ?a35 ?l35 ?c35 ?k35) (Lw.gl_mk ?xg0) (Lw.gl_mk ?xg1) (Lw.gl_mk ?xg2) (Lw.gl_mk ?xg3) (Lw.gl_mk ?xg4) (Lw.gl_mk ?xg5) ?x_TooMuch ?e_TooMuch ?x1 ?p1 ?p2 ?p3 ?p4 ?p5 (Lw.gl_mk ?xz0) (Lw.gl_mk ?xz1) (Lw.gl_mk ?xz2) (Lw.gl_mk ?xz3) (Lw.gl_mk ?xz4) (Lw.gl_mk ?xz5) (Lw.gl_mk ?xz6) (Lw.gl_mk ?xz7) (Lw.gl_mk ?xz8) (Lw.gl_mk ?xz9) (Lw.gl_mk ?xz10) (Lw.gl_mk ?xz11) (Lw.gl_mk ?xz12) (Lw.gl_mk ?xz13) (Lw.gl_mk ?xcNOUGHT) ?xlNOUGHT (Lw.gl_mk ?xcWHOLE_SHARE) ?xlWHOLE_SHARE (Lw.gl_mk ?xcMOST_PIECES) (Lw.gl_mk ?xcNOTHING) ?xlNOTHING ?xeNOTHING_2 ?iaShort ?ilShort ?icShort ?ikShort ?ifShort ?ivShort ?ihShort ?isShort ?ixShort ?itShort
  (case a0 | l0 | c0 | k0 | a1 | l1 | c1 | k1 | a2 | l2 | c2 | k2 | a3 | l3 | c3 | k3 | a4 | l4 | c4 | k4 | a5 | l5 | c5 | k5 | a6 | l6 | c6 | k6 | a7 | l7 | c7 | k7 | a8 | l8 | c8 | k8 | a9 | l9 | c9 | k9 | a10 | l10 | c10 | k10 | a11 | l11 | c11 | k11 | a12 | l12 | c12 | k12 | a13 | l13 | c13 | k13 | a14 | l14 | c14 | k14 | a15 | l15 | c15 | k15 | a16 | l16 | c16 | k16 | a17 | l17 | c17 | k17 | a18 | l18 | c18 | k18 | a19 | l19 | c19 | k19 | a20 | l20 | c20 | k20 | a21 | l21 | c21 | k21 | a22 | l22 | c22 | k22 | a23 | l23 | c23 | k23 | a24 | l24 | c24 | k24 | a25 | l25 | c25 | k25 | a26 | l26 | c26 | k26 | a27 | l27 | c27 | k27 | a28 | l28 | c28 | k28 | a29 | l29 | c29 | k29 | a30 | l30 | c30 | k30 | a31 | l31 | c31 | k31 | a32 | l32 | c32 | k32 | a33 | l33 | c33 | k33 | a34 | l34 | c34 | k34 | a35 | l35 | c35 | k35 | xg0 | xg1 | xg2 | xg3 | xg4 | xg5=>k_is)
  (case x_TooMuch=>(unfold L3.OwnX;kernel_rfl))
  (case e_TooMuch=>exact⟨by k_is,by k_is,by k_is,by k_is,by k_is,by k_is,by k_is⟩)
  (case x1=>kernel_rfl)
  (case p1=>kernel_rfl)
  (case p2=>kernel_rfl)
  (case p3=>kernel_rfl)
  (case p4=>kernel_rfl)
  (case p5=>kernel_rfl)
  (case xz0 | xz1 | xz2 | xz3 | xz4 | xz5 | xz6 | xz7 | xz8 | xz9 | xz10 | xz11 | xz12 | xz13 | xcNOUGHT | xlNOUGHT | xcWHOLE_SHARE | xlWHOLE_SHARE | xcMOST_PIECES | xcNOTHING | xlNOTHING | xeNOTHING_2 | iaShort | ilShort | icShort | ikShort | ifShort=>k_is)
  (case ivShort=>(unfold L3.exOver;kernel_rfl))
  (case ihShort | isShort=>k_is)
  (case ixShort=>(unfold L3.excInitIn;kernel_rfl))
  (case itShort=>k_is)

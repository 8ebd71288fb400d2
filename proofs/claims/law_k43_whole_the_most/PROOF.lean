import PyProof.Rows.All
import Wide.All
import OpenK.AllK
import Wide.FinOn
import Lean
import PyProof.EqAt
import PyProof.EqKinds
import PyProof.TupleCall
import PyProof.StrLawsTight
import KE.KIntText
import KE.KxPart
import PySem.Challenge.RW_reelcut_k43_whole_the_most
set_option maxHeartbeats 4000000
set_option Elab.async false
set_option linter.all false
set_option maxRecDepth 100000
namespace L2
open PySem PySem.Spec PyProof.Rows
abbrev Key:=Sum Int Str
def qEy:Key→Value→Bool
 | .inl k,v=>Value.isInt k v
 | .inr x,v=>Value.isStrOf x v
def qPa (w:World):Key→Int
 | .inl k=>hashInt k
 | .inr x=>hashStr w x
theorem qx:∀ {k:Key} {v:Value},qEy k v=true→(∃ i t,k=Sum.inl i∧v=Value.int i t)∨(∃ x t,k=Sum.inr x∧v=Value.str x t)
 | .inl i,v,h=>by
  obtain⟨t,e⟩:=Value.isInt_shape (k:=i) (v:=v) h
  exact .inl ⟨i,t,rfl,e⟩
 | .inr x,v,h=>by
  obtain⟨t,e⟩:=Value.isStrOf_shape (x:=x) (v:=v) h
  exact .inr ⟨x,t,rfl,e⟩
theorem qHz (i:Int)(t:Tok):qEy (.inl i) (.int i t)=true:=by simp [qEy,Value.isInt]
theorem qHm (x:Str)(t:Tok):qEy (.inr x) (.str x t)=true:=by simp [qEy,Value.isStrOf]
theorem qMb (a b:Int):decide ((Sum.inl a:Key)=Sum.inl b)=(a == b):=by
 by_cases e:a=b
 · subst e;simp
 · have h:¬ (Sum.inl a:Key)=Sum.inl b:=fun q=>e (Sum.inl.inj q)
   rw [decide_eq_false h]
   exact(beq_eq_false_iff_ne.mpr e).symm
theorem qL8 (a b:Str):decide ((Sum.inr a:Key)=Sum.inr b)=decide (a=b):=by
 by_cases e:a=b
 · subst e;simp
 · have h:¬ (Sum.inr a:Key)=Sum.inr b:=fun q=>e (Sum.inr.inj q)
   rw [decide_eq_false h,decide_eq_false e]
theorem qNa (a:Int)(b:Str):decide ((Sum.inl a:Key)=Sum.inr b)=false:=decide_eq_false (fun q=>nomatch q)
theorem qMx (a:Str)(b:Int):decide ((Sum.inr a:Key)=Sum.inl b)=false:=decide_eq_false (fun q=>nomatch q)
def jO (prog:Program)(w:World):PySem.KeyKind prog w Key where
 is:=qEy
 hash:=qPa w
 inj:=fun v a b ha hb=>by
  rcases qx ha with ⟨i,t,rfl,rfl⟩ | ⟨x,t,rfl,rfl⟩
  · rcases qx hb with ⟨j,u,rfl,e⟩ | ⟨y,u,rfl,e⟩
    · injection e with e1 _;rw [e1]
    · exact nomatch e
  · rcases qx hb with ⟨j,u,rfl,e⟩ | ⟨y,u,rfl,e⟩
    · exact nomatch e
    · injection e with e1 _;rw [e1]
 byValue:=fun k v h=>by
  rcases qx h with ⟨i,t,rfl,rfl⟩ | ⟨x,t,rfl,rfl⟩ <;> rfl
 pyHash:=fun hv h=>by
  rcases qx hv with ⟨i,t,rfl,rfl⟩ | ⟨x,t,rfl,rfl⟩
  · exact wpAny_pyHash_int h
  · exact wpAny_pyHash_str h
 eqBool:=fun hu hv h=>by
  rcases qx hu with ⟨i,t,rfl,rfl⟩ | ⟨x,t,rfl,rfl⟩
  · rcases qx hv with ⟨j,u,rfl,rfl⟩ | ⟨y,u,rfl,rfl⟩
    · rw [qMb] at h;exact wpAny_eqBool_int h
    · rw [qNa] at h;exact SeqAt.EqAt.int_str i t y u _ _ _ _ h
  · rcases qx hv with ⟨j,u,rfl,rfl⟩ | ⟨y,u,rfl,rfl⟩
    · rw [qMx] at h;exact SeqAt.EqAt.str_int x t j u _ _ _ _ h
    · rw [qL8] at h;exact wpAny_eqBool_str h
 «strs»:=fun k x t v h=>by
  rcases qx h with ⟨i,u,rfl,e⟩ | ⟨y,u,rfl,e⟩
  · exact nomatch e
  · injection e with e1 _
    subst e1
    cases v <;> rfl
theorem qD8 (prog:Program)(w:World)(i:Int)(t:Tok):(jO prog w).is (.inl i) (.int i t)=true:=qHz i t
theorem qE7 (prog:Program)(w:World)(x:Str)(t:Tok):(jO prog w).is (.inr x) (.str x t)=true:=qHm x t
end L2
namespace L2
open PySem PySem.Spec PyProof.Rows
inductive V where
 | non | bl (b:Bool) | int (i:Int) | str (x:Str) | byt (b:Array UInt8) | flt (b:UInt64) | ref (a:Addr) | ty (n:String)
 deriving DecidableEq
def RelV:V→Value→Prop
 | .non,u=>u=Value.none
 | .bl b,u=>u=Value.bool b
 | .int i,u=>∃ t,u=Value.int i t
 | .str x,u=>∃ t,u=Value.str x t
 | .byt b,u=>∃ t,u=Value.bytes b t
 | .flt b,u=>∃ t,u=Value.float b t
 | .ref a,u=>u=Value.ref a
 | .ty n,u=>u=Value.type n
abbrev Vals:List V→List Value→Prop:=Paired RelV
theorem Vals.length {xs:List V}{us:List Value}(r:Vals xs us):xs.length=us.length:=Paired.length r
theorem Vals.get:∀ {xs:List V} {us:List Value} {i:Nat} {x:V},Vals xs us→xs[i]? =some x→∃ u,us[i]? =some u∧RelV x u
 | _,_,_,_,.nil,e=>by simp at e
 | _,_,0,_,.cons r _,e=>by simp at e;subst e;exact⟨_,rfl,r⟩
 | _,_,i+1,x,.cons _ t,e=>by
  obtain⟨u,h1,h2⟩:=Vals.get (i:=i) (x:=x) t (by simpa using e)
  exact⟨u,by simpa using h1,h2⟩
theorem Vals.set {x:V}{u:Value}(r:RelV x u):∀ {xs:List V} {us:List Value} (i:Nat),Vals xs us→Vals (xs.set i x) (us.set i u)
 | _,_,_,.nil=>.nil
 | _,_,0,.cons _ t=>.cons r t
 | _,_,i+1,.cons q t=>.cons q (Vals.set r i t)
theorem Vals.append:∀ {xs ys:List V} {us ws:List Value},Vals xs us→Vals ys ws→Vals (xs++ys) (us++ws)
 | _,_,_,_,.nil,s=>s
 | _,_,_,_,.cons r t,s=>.cons r (Vals.append t s)
theorem Vals.take:∀ {xs:List V} {us:List Value} (n:Nat),Vals xs us→Vals (xs.take n) (us.take n)
 | _,_,0,_=>.nil
 | _,_,_+1,.nil=>.nil
 | _,_,n+1,.cons r t=>.cons r (Vals.take n t)
theorem Vals.drop:∀ {xs:List V} {us:List Value} (n:Nat),Vals xs us→Vals (xs.drop n) (us.drop n)
 | _,_,0,r=>r
 | _,_,_+1,.nil=>.nil
 | _,_,n+1,.cons _ t=>Vals.drop n t
def RelO:Option V→Option Value→Prop
 | some v,some u=>RelV v u
 | none,none=>True
 | _,_=>False
def KV {κ:Type}:List (κ × V)→List (κ × Value)→Prop:=Paired fun(p:κ × V) (q:κ × Value)=>p.1=q.1∧RelV p.2 q.2
def kV:Key→V
 | .inl i=>.int i
 | .inr x=>.str x
inductive HO where
 | lst (xs:List V)
 | tup (xs:List V)
 | dK (kvs:List (Key × V)) | dT (kvs:List (List Key × V))
 | set (S:Int→Bool) (n:Nat)
 | ins (C dx:Addr) (fs:List (Str × V))
 | own (x:Addr)
 | xd (fs:List (Str × V))
 | met (f x:Addr)
 | rng (lo hi:Int)
 | frz (o:Obj) (u:HO)
 | tbl (ps:Array Value)
 | ext (φ:Heap→Prop)
abbrev Hp:=Addr→Option HO
def upd (H:Hp)(a:Addr)(o:HO):Hp:=fun b=>if b=a then some o else H b
theorem qD {H:Hp}{a:Addr}{o:HO}:upd H a o a=some o:=by unfold upd;rw [if_pos rfl]
theorem qR {H:Hp}{a b:Addr}{o:HO}(h:b≠a):upd H a o b=H b:=by unfold upd;rw [if_neg h]
theorem qK0 {H:Hp}{a:Addr}{o u:HO}:upd (upd H a o) a u=upd H a u:=by
 funext b;unfold upd;split <;> rfl
theorem qL6 {H:Hp}{a b:Addr}{o u:HO}(h:H a=some o)(h':H b=some u)(d:o≠u):a≠b:=by
 intro e;subst e;rw [h] at h';exact d (Option.some.inj h')
theorem qU {H:Hp}{a b:Addr}{o:HO}(h:H a=some o)(h':H b=none):a≠b:=by
 intro e;subst e;rw [h] at h';cases h'
section
variable (P : Program) (w : World)
def ObjOk (H:Hp)(h:Heap)(a:Addr):HO→Prop
 | .lst xs=>xs.length≤sizeLine∧∃ (its:List Value) (n:Nat),Vals xs its∧h.get? a=some {cls:=.type "list",data:=.seq its.toArray n}
 | .tup xs=>xs.length≤sizeLine∧∃ its:List Value,Vals xs its∧IsTup h a its.toArray
 | .dK kvs=>kvs.length≤sizeLine∧(a == sysModules)=false∧∃ vs,KV kvs vs∧h.DictOf (jO P w) a vs
 | .dT kvs=>kvs.length≤sizeLine∧(a == sysModules)=false∧∃ xs:List (List Key × Addr × Value),
  Paired (fun(p:List Key × V) (q:List Key × Addr × Value)=>p.1=q.1∧H q.2.1=some (.tup (p.1.map kV))∧RelV p.2 q.2.2) kvs xs∧
  ∃ o es ep,h.get? a=some o∧o.ExactDict∧o.data= .dict es ep∧es.toList=xs.map (entryOfKey (tupleKind (jO P w)))∧(xs.map (·.1)).Nodup
 | .set S n=>h.SetOf (intKind P w) a S n
 | .ins C dx fs=>H dx=some (.own a)∧fs.length≤1000∧dx≠a∧h.get? a=some (PySem.W.instObj C dx)∧
  ∃ mA,h.Ns1 dx mA∧(∀ f,RelO (fs.lookup f) (mA f))∧PySem.Within mA (fs.map (·.1))
 | .own _=>∃ o,h.get? a=some o
 | .xd fs=>∃ mA,h.Ns1 a mA∧∀ f,RelO (fs.lookup f) (mA f)
 | .rng lo hi=>∃ t u v,h.get? a=some {cls:=.type "range",data:=.fields #[.int lo t,.int hi u,.int 1 v]}
 | .frz o u=>h.get? a=some o∧ObjOk H h a u
 | .tbl ps=>h.get? a=some {cls:=.none,data:=.fields ps}
 | .met f x=>h.get? a=some (PySem.W.methodObj (.ref f) (.ref x))
 | .ext φ=>φ h∧(∃ o,h.get? a=some o)∧∀ h1 h2:Heap,φ h1→(∀ o,h1.get? a=some o→h2.get? a=some o)→φ h2
def HOk (H:Hp)(h:Heap):Prop:=∀ a o,H a=some o→ObjOk P w H h a o
end
section
variable {P : Program} {w : World} {H H' : Hp} {h h' : Heap} {a : Addr} {o : HO}
theorem ObjOk.lt (x:ObjOk P w H h a o):a < h.objs.size:=by
 cases o with
 | lst xs=>obtain⟨_,_,_,_,e⟩:=x;exact Heap.lt_size e
 | tup xs=>obtain⟨_,_,_,p⟩:=x;exact p.lt
 | dK kvs=>obtain⟨_,_,_,_,o,_,_,e,_⟩:=x;exact Heap.lt_size e
 | dT kvs=>obtain⟨_,_,_,_,o,_,_,e,_⟩:=x;exact Heap.lt_size e
 | set S n=>obtain⟨o,_,_,_,e,_⟩:=x;exact Heap.lt_size e
 | ins C dx fs=>obtain⟨_,_,_,e,_⟩:=x;exact Heap.lt_size e
 | own y=>obtain⟨_,e⟩:=x;exact Heap.lt_size e
 | xd fs=>obtain⟨_,⟨_,_,_,e,_⟩,_⟩:=x;exact Heap.lt_size e
 | rng lo hi=>obtain⟨_,_,_,e⟩:=x;exact Heap.lt_size e
 | frz ob u=>obtain⟨e,_⟩:=x;exact Heap.lt_size e
 | tbl ps=>exact Heap.lt_size (show h.get? a=some _ from x)
 | met f y=>exact Heap.lt_size (show h.get? a=some _ from x)
 | ext φ=>obtain⟨_,⟨_,e⟩,_⟩:=x;exact Heap.lt_size e
theorem Paired.mapP {α β:Type}{F G:α→β→Prop}:∀ {l₁:List α} {l₂:List β},Paired F l₁ l₂→(∀ a b,F a b→G a b)→Paired G l₁ l₂
 | _,_,.nil,_=>.nil
 | _,_,.cons r t,f=>.cons (f _ _ r) (Paired.mapP t f)
theorem ObjOk.stay (x:ObjOk P w H h a o)(k:∀ b u,(b=a∨H b=some (.own a))→h.get? b=some u→h'.get? b=some u)
 (ho:∀ b,H b=some (.own a)→H' b=some (.own a)) (ht:∀ b xs,H b=some (.tup xs)→H' b=some (.tup xs)):ObjOk P w H' h' a o:=by
 induction o with
 | lst xs=>obtain⟨z,its,n,r,e⟩:=x;exact⟨z,its,n,r,k _ _ (.inl rfl) e⟩
 | tup xs=>obtain⟨z,its,r,ob,e,c⟩:=x;exact⟨z,its,r,ob,k _ _ (.inl rfl) e,c⟩
 | dK kvs=>obtain⟨z,y,vs,r,ob,es,ep,e,c⟩:=x;exact⟨z,y,vs,r,ob,es,ep,k _ _ (.inl rfl) e,c⟩
 | dT kvs=>
  obtain⟨z,y,xs,r,ob,es,ep,e,c⟩:=x
  exact⟨z,y,xs,Paired.mapP r fun p q z=>⟨z.1,ht _ _ z.2.1,z.2.2⟩,ob,es,ep,k _ _ (.inl rfl) e,c⟩
 | set S n=>obtain⟨ob,es,ep,t,e,c⟩:=x;exact⟨ob,es,ep,t,k _ _ (.inl rfl) e,c⟩
 | ins C dx fs=>
  obtain⟨d,z,ne,e,mA,⟨od,es,ep,e2,c⟩,r⟩:=x
  exact⟨ho _ d,z,ne,k _ _ (.inl rfl) e,mA,⟨od,es,ep,k _ _ (.inr d) e2,c⟩,r⟩
 | own y=>obtain⟨ob,e⟩:=x;exact⟨ob,k _ _ (.inl rfl) e⟩
 | xd fs=>obtain⟨mA,⟨od,es,ep,e,c⟩,r⟩:=x;exact⟨mA,⟨od,es,ep,k _ _ (.inl rfl) e,c⟩,r⟩
 | rng lo hi=>obtain⟨t,u,v,e⟩:=x;exact⟨t,u,v,k _ _ (.inl rfl) e⟩
 | frz ob u ih=>obtain⟨e,q⟩:=x;exact⟨k _ _ (.inl rfl) e,ih q⟩
 | tbl ps=>
  have e:h.get? a=some {cls:=.none,data:=.fields ps}:=x
  show h'.get? a=some {cls:=.none,data:=.fields ps}
  exact k a _ (.inl rfl) e
 | met f y=>
  have e:h.get? a=some (PySem.W.methodObj (.ref f) (.ref y)):=x
  show h'.get? a=some (PySem.W.methodObj (.ref f) (.ref y))
  exact k a _ (.inl rfl) e
 | ext φ=>obtain⟨p,⟨o,e⟩,st⟩:=x;exact⟨st _ _ p fun o q=>k _ _ (.inl rfl) q,⟨o,k _ _ (.inl rfl) e⟩,st⟩
theorem HOk.lt (x:HOk P w H h)(e:H a=some o):a < h.objs.size:=(x a o e).lt
theorem HOk.fresh (x:HOk P w H h)(e:h.objs.size≤a):H a=none:=by
 cases q:H a with
 | none=>rfl
 | some u=>exact absurd (Nat.lt_of_lt_of_le (x.lt q) e) (Nat.lt_irrefl _)
theorem HOk.kept (x:HOk P w H h)(k:∀ b u,h.get? b=some u→h'.get? b=some u):HOk P w H h':=fun a o e=>
 (x a o e).stay (fun b u _ q=>k b u q) (fun _ q=>q) fun _ _ q=>q
theorem HOk.laid (x:HOk P w H h)(k:∀ b u,h.get? b=some u→h'.get? b=some u)(hp:h.objs.size≤a)(new:ObjOk P w (upd H a o) h' a o):HOk P w (upd H a o) h':=fun b u e=>by
 have hn:=x.fresh hp
 by_cases hb:b=a
 · subst hb;rw [qD] at e;cases e;exact new
 · rw [qR hb] at e
   exact(x b u e).stay (fun c v _ q=>k c v q) (fun c q=>by rw [qR (qU q hn)];exact q) fun c xs q=>by rw [qR (qU q hn)];exact q
end
def Rd (H:Hp)(a:Addr)(u:HO):Prop:=H a=some u∨∃ o,H a=some (.frz o u)
theorem Rd.ok {P:Program}{w:World}{H:Hp}{h:Heap}{a:Addr}{u:HO}(r:Rd H a u)(x:HOk P w H h):ObjOk P w H h a u:=by
 rcases r with r | ⟨o,r⟩
 · exact x a u r
 · obtain⟨_,q⟩:=x a _ r
   exact q
def Mut:Option HO→Prop
 | some (.lst _)=>True
 | some (.dK _)=>True
 | some (.dT _)=>True
 | some (.set _ _)=>True
 | some (.ins _ _ _)=>True
 | some (.ext _)=>True
 | _=>False
section
variable {P : Program} {w : World} {H : Hp} {h h' : Heap} {x e : Addr} {o' : HO}
theorem HOk.write (ok:HOk P w H h)(mu:Mut (H x))(he:e=x∨H e=some (.own x))(k:∀ b u,b≠e→h.get? b=some u→h'.get? b=some u)(heo:∃ u,h'.get? e=some u)
 (new:ObjOk P w (upd H x o') h' x o'):HOk P w (upd H x o') h':=fun b u q=>by
 have nown:∀ c y,H c=some (.own y)→c≠x:=fun c y r z=>by subst z;rw [r] at mu;exact mu
 have ntup:∀ c xs,H c=some (.tup xs)→c≠x:=fun c xs r z=>by subst z;rw [r] at mu;exact mu
 by_cases hb:b=x
 · subst hb;rw [qD] at q;cases q;exact new
 · rw [qR hb] at q
   by_cases hbe:b=e
   · have q':H b=some (.own x):=by
      rcases he with z | z
      · exact absurd (hbe.trans z) hb
      · rw [hbe];exact z
     rw [q] at q';cases q'
     obtain⟨v,hv⟩:=heo
     exact⟨v,by rw [hbe];exact hv⟩
   · refine(ok b u q).stay (fun c v hc r=>k c v ?_ r) (fun c r=>by rw [qR (nown c b r)];exact r) fun c xs r=>by rw [qR (ntup c xs r)];exact r
     rcases hc with rfl | hc
     · exact hbe
     · rintro rfl
       rcases he with z | z
       · exact nown c b hc z
       · rw [hc] at z;cases z;exact hb rfl
end
structure Un (fs ex:List Addr)(H H':Hp)(h h':Heap):Prop where
 keep:∀ b o,h.get? b=some o→H b=none→b ∉ fs→b ∉ ex→h'.get? b=some o
 slot:∀ b o,h.get? b=some o→H b=none→b∈fs→b ∉ ex→∃ sl,h'.get? b=some {o with slots:=sl}
 free:∀ b o,h.get? b=some o→H b=none→b ∉ ex→H' b=none
 there:∀ b o,h.get? b=some o→b ∉ ex→∃ o',h'.get? b=some o'
 tups:∀ b xs,H b=some (.tup xs)→H' b=some (.tup xs)
 frzs:∀ b o u,H b=some (.frz o u)→H' b=some (.frz o u)
 tbls:∀ b ps,H b=some (.tbl ps)→∃ more,H' b=some (.tbl (ps++more))
section
variable {fs fs' ex ex' : List Addr} {H H1 H2 : Hp} {h h1 h2 h' : Heap} {a x e : Addr} {o : HO}
theorem Un.any (u:Un fs ex H H1 h h1){b:Addr}{ob:Obj}(q:h.get? b=some ob)(n:H b=none)(hx:b ∉ ex):∃ sl,h1.get? b=some {ob with slots:=sl}:=by
 by_cases hb:b∈fs
 · exact u.slot b ob q n hb hx
 · exact⟨ob.slots,u.keep b ob q n hb hx⟩
theorem Un.trans (a:Un fs ex H H1 h h1)(b:Un fs ex H1 H2 h1 h2):Un fs ex H H2 h h2 where
 keep:=fun c ob q n hc hx=>b.keep c ob (a.keep c ob q n hc hx) (a.free c ob q n hx) hc hx
 slot:=fun c ob q n hc hx=>by
  obtain⟨sl,e1⟩:=a.slot c ob q n hc hx
  obtain⟨sl',e2⟩:=b.slot c _ e1 (a.free c ob q n hx) hc hx
  exact⟨sl',e2⟩
 free:=fun c ob q n hx=>by
  obtain⟨o',e1⟩:=a.there c ob q hx
  exact b.free c o' e1 (a.free c ob q n hx) hx
 there:=fun c ob q hx=>by
  obtain⟨o',e1⟩:=a.there c ob q hx
  exact b.there c o' e1 hx
 tups:=fun c xs q=>b.tups c xs (a.tups c xs q)
 frzs:=fun c ob xs q=>b.frzs c ob xs (a.frzs c ob xs q)
 tbls:=fun c ps q=>by
  obtain⟨m1,e1⟩:=a.tbls c ps q
  obtain⟨m2,e2⟩:=b.tbls c _ e1
  exact⟨m1++m2,by rw [e2,Array.append_assoc]⟩
theorem Un.kept (k:∀ b u,h.get? b=some u→h'.get? b=some u):Un fs ex H H h h':=
 ⟨fun b ob q _ _ _=>k b ob q,fun b ob q _ _ _=>⟨ob.slots,k b ob q⟩,fun _ _ _ n _=>n,fun b ob q _=>⟨ob,k b ob q⟩,fun _ _ q=>q,fun _ _ _ q=>q,fun _ ps q=>⟨#[],by rw [q];simp⟩⟩
theorem Un.refl:Un fs ex H H h h:=Un.kept fun _ _ q=>q
theorem Un.laid (k:∀ b u,h.get? b=some u→h'.get? b=some u)(hp:h.objs.size≤a)(hn:H a=none):Un fs ex H (upd H a o) h h' where
 keep:=fun b u q _ _ _=>k b u q
 slot:=fun b u q _ _ _=>⟨u.slots,k b u q⟩
 free:=fun b u q n _=>by rw [qR (Nat.ne_of_lt (Nat.lt_of_lt_of_le (Heap.lt_size q) hp))];exact n
 there:=fun b u q _=>⟨u,k b u q⟩
 tups:=fun b xs q=>by rw [qR (qU q hn)];exact q
 frzs:=fun b u xs q=>by rw [qR (qU q hn)];exact q
 tbls:=fun b ps q=>⟨#[],by rw [qR (qU q hn),q];simp⟩
theorem Un.write (mu:Mut (H x))(he:e=x∨H e=some (.own x))(k:∀ b u,b≠e→h.get? b=some u→h'.get? b=some u)(heo:∃ u,h'.get? e=some u):Un fs ex H (upd H x o) h h':=by
 have hx:∀ b,H b=none→b≠x:=fun b n z=>by subst z;rw [n] at mu;exact mu
 have hb:∀ b,H b=none→b≠e:=fun b n z=>by
  subst z
  rcases he with r | r
  · exact hx b n r
  · rw [n] at r;cases r
 have hm:∀ b u,H b=some u→¬ Mut (some u)→b≠x:=fun b u q nm z=>by subst z;rw [q] at mu;exact nm mu
 refine⟨fun b u q n _ _=>k b u (hb b n) q,fun b u q n _ _=>⟨u.slots,k b u (hb b n) q⟩,fun b u q n _=>by rw [qR (hx b n)];exact n,fun b u q _=>?_,
  fun b xs q=>by rw [qR (hm b _ q fun z=>z)];exact q,fun b u xs q=>by rw [qR (hm b _ q fun z=>z)];exact q,fun b ps q=>⟨#[],by rw [qR (hm b _ q fun z=>z),q];simp⟩⟩
 by_cases hbe:b=e
 · subst hbe;exact heo
 · exact⟨u,k b u hbe q⟩
end
def trk (h:Heap)(H:Hp):List Addr:=(List.range h.objs.size).filter fun a=>(H a).isSome
def qI9 (h:Heap)(H:Hp):Heap:=PySem.W.hideAll h (trk h H)
theorem qHi (h:Heap)(H:Hp):(qI9 h H).objs.size=h.objs.size:=PySem.W.hideAll_size _ _
theorem qKd {h:Heap}{H:Hp}{b:Addr}{o:Obj}(e:h.get? b=some o)(n:H b=none):(qI9 h H).get? b=some o:=
 PySem.W.hideAll_get _ e fun hm=>by
  have q:(H b).isSome=true:=(List.mem_filter.mp hm).2
  rw [n] at q;simp at q
theorem qLo {h:Heap}{H:Hp}{b:Addr}{o:Obj}(e:(qI9 h H).get? b=some o):h.get? b=some o∧H b=none:=by
 have e':h.get? b=some o:=PySem.W.of_hideAll (trk h H) e
 refine⟨e',?_⟩
 cases q:H b with
 | none=>rfl
 | some x=>
  have hm:b∈trk h H:=List.mem_filter.mpr ⟨List.mem_range.mpr (Heap.lt_size e'),by simp [q]⟩
  have z:(qI9 h H).get? b=none:=PySem.W.hideAll_none (trk h H) hm
  rw [z] at e;cases e
def qLm (g h:Heap)(L:Addr):List (Addr × Obj):=(List.range h.objs.size).filterMap fun a=>if a=L∨(g.get? a).isSome=true then none else (h.get? a).map fun o=>(a,o)
def rest (g h:Heap)(L d:Addr):List (Addr × Obj):=(qLm g h L).filter fun p=>decide (p.1≠d)
end L2
namespace L2
open PySem PySem.Spec PyProof.Rows
structure Mod (K:PySem.W.Frag)(mg:Str→Option Value)(base:Heap):Prop where
 kin:K.In base
 glob:base.Ns mainGlobals mg
 blt:∃ mb,base.Ns builtinsNs mb∧∀ x:Str,x≠"__name__"→mb x=bootBuiltins x
 nolimit:base.NoLimit
structure Cx where
 prog:Program
 w:World
 K:PySem.W.Frag
 mg:Str→Option Value
 base:Heap
 A:Around
 N:List Str
 s₀:Shared
 H₀:Hp
 env:Env
 outer:List Env
 stack:List Env
 ex:List Addr
 fn:Str→Bool
 calm:Bool
 pn:List (Addr × Obj)
 xe:Value→Shared→Prop
def frs (l:List Env):List Addr:=l.filterMap (·.frame)
abbrev Cx.fs (X:Cx):List Addr:=frs X.outer
def Vis (sc:Scope)(x:Str):Prop:=sc.names.lookup x=some .local∨sc.names.lookup x=some .cell∨sc.names.lookup x=some .free
def Loc (sc:Scope)(x:Str):Prop:=sc.names.lookup x=some .local∨sc.names.lookup x=some .cell
def qOu (env:Env)(h:Heap)(m:Str→Option Value)(x:Str)(u:Value):Prop:=
 (env.kindOf x=some .local∧m x=some u)∨((env.kindOf x=some .cell∨env.kindOf x=some .free)∧∃ c,env.cells.lookup x=some c∧h.IsCell c (some u))
structure Cx.Ok (X:Cx):Prop where
 mod:Mod X.K X.mg X.base
 kind:X.env.scope.kind= .function
 glob:X.env.globals=mainGlobals
 blt:X.env.builtins=builtinsNs
 above:X.s₀.heap.objs.size≤X.env.locals
 inj:∀ x y c,X.env.cells.lookup x=some c→X.env.cells.lookup y=some c→x=y
 has:∀ x,(X.env.kindOf x=some .cell∨X.env.kindOf x=some .free)→∃ c,X.env.cells.lookup x=some c
 cab:∀ x c,X.fn x=true→X.env.cells.lookup x=some c→X.s₀.heap.objs.size≤c
 hd:X.calm=true→X.A.handled=none
 frames:X.A.frames=some X.stack
 stk:X.stack=X.outer∨(X.stack=X.env::X.outer∧X.env.frame=some X.env.locals)
 exf:∀ b∈X.ex,b≠X.env.locals∧∀ x c,X.env.cells.lookup x=some c→c≠b
 bs:∀ b o,X.base.get? b=some o→X.s₀.heap.get? b=some o∧X.H₀ b=none
 bsz:X.base.objs.size≤X.s₀.heap.objs.size
 noex:∀ b o,X.base.get? b=some o→b ∉ X.ex
 exfs:∀ b∈X.ex,b ∉ X.fs
 funs:X.s₀.heap.FunFrames X.base X.outer
 frf:∀ b∈X.fs,X.H₀ b=none
structure Inv (X:Cx)(pins:List (Addr × Obj))(σ:List (Option V))(H:Hp)(s:Shared):Prop where
 ok:X.Ok
 os:s.os=X.s₀.os
 bare:AllBare s.gens
 base:Un X.fs X.ex X.H₀ H X.s₀.heap s.heap
 loc:∃ m,s.heap.Ns X.env.locals m∧∀ (i:Nat) (x:Str) (v:V),X.N[i]? =some x→σ[i]? =some (some v)→Vis X.env.scope x→∃ u,RelV v u∧qOu X.env s.heap m x u
 cell:∀ x c,X.env.cells.lookup x=some c→∃ v,s.heap.IsCell c v
 free:H X.env.locals=none
 freeC:∀ x c,X.env.cells.lookup x=some c→H c=none
 pin:∀ p∈X.pn++pins,s.heap.get? p.1=some p.2∧H p.1=none∧p.1≠X.env.locals∧p.1 ∉ X.fs∧∀ v,p.2.data≠ .cell v
 hok:HOk X.prog X.w H s.heap
 len:σ.length=X.N.length
section
variable {X : Cx} {pins : List (Addr × Obj)} {σ : List (Option V)} {H H' : Hp} {s : Shared} {h' : Heap}
theorem Cx.Ok.nofr (ok:X.Ok){b:Addr}{o:Obj}(e:X.base.get? b=some o):b ∉ X.fs:=fun hb=>by
 have:=(ok.funs.mem hb).1
 rw [e] at this;cases this
theorem Inv.bs (I:Inv X pins σ H s):∀ b o,X.base.get? b=some o→s.heap.get? b=some o∧H b=none:=fun b o e=>
 ⟨I.base.keep b o (I.ok.bs b o e).1 (I.ok.bs b o e).2 (I.ok.nofr e) (I.ok.noex b o e),I.base.free b o (I.ok.bs b o e).1 (I.ok.bs b o e).2 (I.ok.noex b o e)⟩
theorem Inv.bk (I:Inv X pins σ H s):∀ b o,X.base.get? b=some o→s.heap.get? b=some o:=fun b o e=>(I.bs b o e).1
theorem Inv.mod (I:Inv X pins σ H s):Mod X.K X.mg X.base:=I.ok.mod
theorem Inv.kIn (I:Inv X pins σ H s):X.K.In s.heap:=I.ok.mod.kin.keeps I.bk
theorem Inv.nolimit (I:Inv X pins σ H s):s.heap.NoLimit:=I.ok.mod.nolimit.keeps I.bk
theorem Inv.fr (I:Inv X pins σ H s):∃ m,Fr X.base X.env.locals s.heap m:=
 let ⟨m,hn,_⟩:=I.loc
 ⟨m,hn,I.bk,Nat.le_trans I.ok.bsz I.ok.above⟩
theorem Inv.lt (I:Inv X pins σ H s):X.env.locals < s.heap.objs.size:=let ⟨_,hn,_⟩:=I.loc;hn.lt
theorem Inv.sz (I:Inv X pins σ H s):X.s₀.heap.objs.size≤s.heap.objs.size:=Nat.le_trans I.ok.above (Nat.le_of_lt I.lt)
theorem Inv.nofs (I:Inv X pins σ H s){a:Addr}(h:s.heap.objs.size≤a):a ∉ X.fs:=fun hb=>by
 obtain⟨_,o,ho,_⟩:=I.ok.funs.mem hb
 exact absurd (Nat.lt_of_lt_of_le (Heap.lt_size ho) (Nat.le_trans I.sz h)) (Nat.lt_irrefl _)
theorem Inv.cne (I:Inv X pins σ H s):∀ x c,X.env.cells.lookup x=some c→c≠X.env.locals:=fun x c e z=>by
 obtain⟨v,o,ho,hd⟩:=I.cell x c e
 obtain⟨m,⟨o',es,ep,ho',hd',_⟩,_⟩:=I.loc
 rw [z,ho'] at ho;cases ho;rw [hd'] at hd;cases hd
theorem Inv.funs (I:Inv X pins σ H s):s.heap.FunFrames X.base X.outer:=by
 have all:∀ (l:List Env),(∀ b∈frs l,b∈X.fs)→X.s₀.heap.FunFrames X.base l→s.heap.FunFrames X.base l:=by
  intro l
  induction l with
  | nil=>intro _ _;trivial
  | cons env r ih=>
   intro hs hl
   obtain⟨hk,⟨L,o,hf,hn,ho,hd⟩,hr⟩:=hl
   have hL:L∈X.fs:=hs L (by unfold frs;rw [List.filterMap_cons,hf];exact List.mem_cons_self)
   obtain⟨sl,e⟩:=I.base.slot L o ho (I.ok.frf L hL) hL fun z=>I.ok.exfs L z hL
   exact⟨hk,⟨L,_,hf,hn,e,hd⟩,ih (fun b hb=>hs b (by unfold frs;rw [List.filterMap_cons,hf];exact List.mem_cons_of_mem _ hb)) hr⟩
 exact all X.outer (fun _ hb=>hb) I.ok.funs
theorem Inv.stack (I:Inv X pins σ H s):s.heap.FunFrames X.base X.stack:=by
 rcases I.ok.stk with e | ⟨e,hf⟩
 · rw [e];exact I.funs
 · rw [e]
   obtain⟨m,hn,_⟩:=I.loc
   refine .cons (by rw [I.ok.kind];decide) hf hn ?_ I.funs
   exact Heap.get?_none_of_le (Nat.le_trans I.ok.bsz I.ok.above)
theorem Inv.stkSub (I:Inv X pins σ H s):∀ b∈frs X.stack,b∈X.env.locals::X.fs:=fun b hb=>by
 rcases I.ok.stk with e | ⟨e,hf⟩
 · rw [e] at hb;exact List.mem_cons_of_mem _ hb
 · rw [e] at hb
   unfold frs at hb
   rw [List.filterMap_cons,hf] at hb
   exact hb
theorem Inv.stkFree (I:Inv X pins σ H s):∀ b∈frs X.stack,H b=none:=fun b hb=>by
 rcases List.mem_cons.mp (I.stkSub b hb) with e | hb
 · rw [e];exact I.free
 · obtain⟨_,o,ho,_⟩:=I.ok.funs.mem hb
   exact I.base.free b o ho (I.ok.frf b hb) fun z=>I.ok.exfs b z hb
theorem Inv.step {g':Array GenState}{t':Nat}{d':Drawn}{ch:List Addr}(I:Inv X pins σ H s)
 (hch:∀ b∈ch,(b∈X.ex∨X.s₀.heap.objs.size≤b)∧b≠X.env.locals∧(∀ x c,X.env.cells.lookup x=some c→c≠b)∧∀ p∈X.pn++pins,p.1≠b)
 (keep:∀ b o,b≠X.env.locals→b ∉ X.fs→b ∉ ch→s.heap.get? b=some o→H b=none→h'.get? b=some o)
 (slot:∀ b o,b≠X.env.locals→b∈X.fs→b ∉ ch→s.heap.get? b=some o→H b=none→∃ sl,h'.get? b=some {o with slots:=sl}) (free:∀ b o,b ∉ ch→s.heap.get? b=some o→H b=none→H' b=none)
 (there:∀ b o,b ∉ ch→s.heap.get? b=some o→∃ o',h'.get? b=some o')
 (tups:∀ b xs,H b=some (.tup xs)→H' b=some (.tup xs)) (frzs:∀ b o u,H b=some (.frz o u)→H' b=some (.frz o u)) (tbls:∀ b ps,H b=some (.tbl ps)→∃ more,H' b=some (.tbl (ps++more)))
 (ns:∀ m,s.heap.Ns X.env.locals m→h'.Ns X.env.locals m) (hok:HOk X.prog X.w H' h') (hg:AllBare g'):
 Inv X pins σ H' {s with heap:=h',gens:=g',drawn:=d',toks:=t'}:=by
 have neL:∀ b o,X.s₀.heap.get? b=some o→b≠X.env.locals:=fun b o e=>Nat.ne_of_lt (Nat.lt_of_lt_of_le (Heap.lt_size e) I.ok.above)
 have neC:∀ b o,X.s₀.heap.get? b=some o→b ∉ X.ex→b ∉ ch:=fun b o e hx hb=>by
  rcases (hch b hb).1 with z | z
  · exact hx z
  · exact absurd (Nat.lt_of_lt_of_le (Heap.lt_size e) z) (Nat.lt_irrefl _)
 have cellK:∀ x c,X.env.cells.lookup x=some c→∀ v,s.heap.IsCell c v→h'.IsCell c v:=fun x c e v ⟨o,ho,hd⟩=>by
  have nch:c ∉ ch:=fun z=>(hch c z).2.2.1 x c e rfl
  by_cases hc:c∈X.fs
  · obtain⟨sl,q⟩:=slot c o (I.cne x c e) hc nch ho (I.freeC x c e)
    exact⟨_,q,hd⟩
  · exact⟨o,keep c o (I.cne x c e) hc nch ho (I.freeC x c e),hd⟩
 refine⟨I.ok,I.os,hg,⟨fun b o e n hb hx=>?_,fun b o e n hb hx=>?_,fun b o e n hx=>?_,fun b o e hx=>?_,fun b xs e=>tups b xs (I.base.tups b xs e),fun b o xs e=>frzs b o xs (I.base.frzs b o xs e),fun b ps e=>?_⟩,?_,fun x c e=>?_,?_,fun x c e=>?_,fun p hp=>?_,hok,I.len⟩
 · exact keep b o (neL b o e) hb (neC b o e hx) (I.base.keep b o e n hb hx) (I.base.free b o e n hx)
 · obtain⟨sl,e1⟩:=I.base.slot b o e n hb hx
   obtain⟨sl',e2⟩:=slot b _ (neL b o e) hb (neC b o e hx) e1 (I.base.free b o e n hx)
   exact⟨sl',e2⟩
 · obtain⟨o',e1⟩:=I.base.there b o e hx
   exact free b o' (neC b o e hx) e1 (I.base.free b o e n hx)
 · obtain⟨o',e1⟩:=I.base.there b o e hx
   exact there b o' (neC b o e hx) e1
 · obtain⟨m1,e1⟩:=I.base.tbls b ps e
   obtain⟨m2,e2⟩:=tbls b _ e1
   exact⟨m1++m2,by rw [e2,Array.append_assoc]⟩
 · obtain⟨m,hn,hl⟩:=I.loc
   refine⟨m,ns m hn,fun i x v e1 e2 e3=>?_⟩
   obtain⟨u,r,l⟩:=hl i x v e1 e2 e3
   refine⟨u,r,?_⟩
   rcases l with l | ⟨k,c,e,z⟩
   · exact .inl l
   · exact .inr ⟨k,c,e,cellK x c e _ z⟩
 · obtain⟨v,z⟩:=I.cell x c e
   exact⟨v,cellK x c e v z⟩
 · obtain⟨m,⟨o,_,_,ho,_⟩,_⟩:=I.loc
   exact free _ o (fun z=>(hch _ z).2.1 rfl) ho I.free
 · obtain⟨v,o,ho,hd⟩:=I.cell x c e
   exact free c o (fun z=>(hch c z).2.2.1 x c e rfl) ho (I.freeC x c e)
 · obtain⟨e,n,ne,nf,d⟩:=I.pin p hp
   have nch:p.1 ∉ ch:=fun z=>(hch p.1 z).2.2.2 p hp rfl
   exact⟨keep p.1 p.2 ne nf nch e n,free p.1 p.2 nch e n,ne,nf,d⟩
theorem Inv.un {t':Nat}(I:Inv X pins σ H s)(u:Un X.fs [] H H' s.heap h')(hok:HOk X.prog X.w H' h'):Inv X pins σ H' {s with heap:=h',toks:=t'}:=by
 obtain⟨m,⟨o,es,ep,ho,r⟩,_⟩:=id I.loc
 obtain⟨sl,hL⟩:=u.any ho I.free (by simp)
 exact I.step (g':=s.gens) (d':=s.drawn) (ch:=[]) (fun _ z=>nomatch z) (fun b o _ hb _ e n=>u.keep b o e n hb (by simp)) (fun b o _ hb _ e n=>u.slot b o e n hb (by simp)) (fun b o _ e n=>u.free b o e n (by simp)) (fun b o _ e=>u.there b o e (by simp)) u.tups u.frzs u.tbls (fun m' hm=>by
  obtain⟨o',es',ep',ho',r'⟩:=hm
  rw [ho] at ho';cases ho'
  exact⟨_,es',ep',hL,r'⟩) hok I.bare
theorem Inv.call {g':Array GenState}{t':Nat}{d':Drawn}{ch:List Addr}(I:Inv X pins σ H s)(u:Un (frs X.stack) ch H H' s.heap h')(hok:HOk X.prog X.w H' h')(hg:AllBare g')
 (hch:∀ b∈ch,(b∈X.ex∨X.s₀.heap.objs.size≤b)∧b≠X.env.locals∧(∀ x c,X.env.cells.lookup x=some c→c≠b)∧∀ p∈X.pn++pins,p.1≠b):
 Inv X pins σ H' {s with heap:=h',gens:=g',drawn:=d',toks:=t'}:=by
 obtain⟨m,⟨o,es,ep,ho,r⟩,_⟩:=id I.loc
 obtain⟨sl,hL⟩:=u.any ho I.free fun z=>(hch _ z).2.1 rfl
 exact I.step (ch:=ch) hch (fun b o hL hb hc e n=>u.keep b o e n (fun z=>(List.mem_cons.mp (I.stkSub b z)).elim hL hb) hc) (fun b o _ _ hc e n=>u.any e n hc) (fun b o hc e n=>u.free b o e n hc) (fun b o hc e=>u.there b o e hc) u.tups u.frzs u.tbls (fun m' hm=>by
  obtain⟨o',es',ep',ho',r'⟩:=hm
  rw [ho] at ho';cases ho'
  exact⟨_,es',ep',hL,r'⟩) hok hg
theorem Inv.turned {t':Nat}{it:Addr}(I:Inv X pins σ H s)(k:∀ b o,b≠it→s.heap.get? b=some o→h'.get? b=some o)(hn:H it=none)(hL:it≠X.env.locals)
 (h1:it∈X.ex∨X.s₀.heap.objs.size≤it) (h2:∀ x c,X.env.cells.lookup x=some c→c≠it) (h3:∀ p∈X.pn++pins,p.1≠it):Inv X pins σ H {s with heap:=h',toks:=t'}:=by
 have nit:∀ b u,H b=some u→b≠it:=fun b u e z=>by rw [z,hn] at e;cases e
 refine I.step (g':=s.gens) (d':=s.drawn) (ch:=[it]) (fun b hb=>?_) (fun b o _ _ hc e _=>k b o (fun z=>hc (by simp [z])) e) (fun b o _ _ hc e _=>⟨o.slots,k b o (fun z=>hc (by simp [z])) e⟩) (fun _ _ _ _ n=>n)
  (fun b o hc e=>⟨o,k b o (fun z=>hc (by simp [z])) e⟩) (fun _ _ e=>e) (fun _ _ _ e=>e) (fun b ps e=>⟨#[],by rw [e];simp⟩) (fun m hm=>?_) (fun b u e=>?_) I.bare
 · have e:b=it:=by simpa using hb
   subst e
   exact⟨h1,hL,h2,h3⟩
 · obtain⟨o,es,ep,ho,r⟩:=hm
   exact⟨o,es,ep,k _ o (Ne.symm hL) ho,r⟩
 · refine(I.hok b u e).stay (fun c v hc q=>k c v ?_ q) (fun _ q=>q) fun _ _ q=>q
   rcases hc with z | z
   · rw [z];exact nit b u e
   · exact nit c _ z
theorem Inv.tok (I:Inv X pins σ H s)(t:Nat):Inv X pins σ H {s with toks:=t}:=I.un (h':=s.heap) (t':=t) Un.refl I.hok
theorem Inv.kept {t':Nat}(I:Inv X pins σ H s)(k:∀ b u,s.heap.get? b=some u→h'.get? b=some u):Inv X pins σ H {s with heap:=h',toks:=t'}:=I.un (Un.kept k) (I.hok.kept k)
theorem Inv.laid {a:Addr}{o:HO}{t':Nat}(I:Inv X pins σ H s)(k:∀ b u,s.heap.get? b=some u→h'.get? b=some u)(hp:s.heap.objs.size≤a)(new:ObjOk X.prog X.w (upd H a o) h' a o):
 Inv X pins σ (upd H a o) {s with heap:=h',toks:=t'}:=I.un (Un.laid k hp (I.hok.fresh hp)) (I.hok.laid k hp new)
theorem Inv.write {x e:Addr}{o:HO}{t':Nat}(I:Inv X pins σ H s)(mu:Mut (H x))(he:e=x∨H e=some (.own x))(k:∀ b u,b≠e→s.heap.get? b=some u→h'.get? b=some u)(heo:∃ u,h'.get? e=some u)
 (new:ObjOk X.prog X.w (upd H x o) h' x o):Inv X pins σ (upd H x o) {s with heap:=h',toks:=t'}:=I.un (Un.write mu he k heo) (I.hok.write mu he k heo new)
theorem Inv.weak {σ':List (Option V)}(I:Inv X pins σ H s)(hl:σ'.length=σ.length)(w:∀ (i:Nat) v,σ'[i]? =some (some v)→σ[i]? =some (some v)):Inv X pins σ' H s:=
 ⟨I.ok,I.os,I.bare,I.base,let ⟨m,hn,hl'⟩:=I.loc;⟨m,hn,fun i x v e1 e2 e3=>hl' i x v e1 (w i v e2) e3⟩,I.cell,I.free,I.freeC,I.pin,I.hok,hl.trans I.len⟩
theorem Inv.pins_of {pins':List (Addr × Obj)}(I:Inv X pins σ H s)(h:∀ p∈pins',s.heap.get? p.1=some p.2∧H p.1=none∧p.1≠X.env.locals∧p.1 ∉ X.fs∧∀ v,p.2.data≠ .cell v):Inv X pins' σ H s:=
 ⟨I.ok,I.os,I.bare,I.base,I.loc,I.cell,I.free,I.freeC,fun p hp=>(List.mem_append.mp hp).elim (fun z=>I.pin p (List.mem_append_left _ z)) (h p),I.hok,I.len⟩
theorem qBj {N:List Str}(hN:N.Nodup){i j:Nat}{x:Str}(a:N[i]? =some x)(b:N[j]? =some x):i=j:=by
 obtain⟨h1,e1⟩:=List.getElem?_eq_some_iff.mp a
 obtain⟨h2,e2⟩:=List.getElem?_eq_some_iff.mp b
 exact(List.getElem_inj hN).mp (e1.trans e2.symm)
theorem qCv {M:Model}{A:Around}{E:Value→Shared→Prop}{i:Nat}{x:Str}{v:V}{u:Value}{Q:Unit→Shared→Prop}(I:Inv X pins σ H s)(hN:X.N.Nodup)(hi:X.N[i]? =some x)(hx:Loc X.env.scope x)(r:RelV v u)
 (h:∀ s',Inv X pins (σ.set i (some v)) H s'→(∃ a,Heap.SameBut a s.heap s'.heap∧(a=X.env.locals∨X.env.cells.lookup x=some a))→Q () s') (hf:X.fn x=true∨X.env.scope.names.lookup x=some .local:=by first | exact .inl rfl | exact .inr rfl | assumption):wpAny M A (storeName X.env x u) Q E s:=by
 obtain⟨m,hn,hl⟩:=id I.loc
 have hcls:(X.env.scope.kind == .class || (X.env.scope.kind == .module && X.env.locals != X.env.globals))=false:=by rw [I.ok.kind];rfl
 have hiσ:i < σ.length:=by rw [I.len];exact(List.getElem?_eq_some_iff.mp hi).1
 have cne:=I.cne
 have tracked:∀ {a:Addr} {h':Heap},(∃ o,s.heap.get? a=some o∧H a=none)→Heap.SameBut a s.heap h'→HOk X.prog X.w H h':=fun {a h'} ha hs b ob e=>by
  obtain⟨_,_,hfree⟩:=ha
  refine(I.hok b ob e).stay (fun c w' hc q=>(hs.2 c ?_).trans q) (fun _ q=>q) fun _ _ q=>q
  rintro rfl
  rcases hc with rfl | hc
  · rw [hfree] at e;cases e
  · rw [hfree] at hc;cases hc
 rcases hx with hk | hk
 · refine wpAny_storeName_local hk hn (fun h' hn' hs=>?_) hcls
   obtain⟨oL,_,_,hoL,_⟩:=id hn
   refine h _ ⟨I.ok,I.os,I.bare,⟨fun b o e n hb hx=>?_,fun b o e n hb hx=>?_,I.base.free,fun b o e hx=>?_,I.base.tups,I.base.frzs,I.base.tbls⟩,⟨_,hn',fun j y v' e1 e2 e3=>?_⟩,fun y c e=>?_,I.free,I.freeC,fun p hp=>?_,tracked ⟨oL,hoL,I.free⟩ hs,by simpa using I.len⟩ ⟨_,hs,.inl rfl⟩
   · exact(hs.2 b (Nat.ne_of_lt (Nat.lt_of_lt_of_le (Heap.lt_size e) I.ok.above))).trans (I.base.keep b o e n hb hx)
   · obtain⟨sl,e1⟩:=I.base.slot b o e n hb hx
     exact⟨sl,(hs.2 b (Nat.ne_of_lt (Nat.lt_of_lt_of_le (Heap.lt_size e) I.ok.above))).trans e1⟩
   · obtain⟨o',e1⟩:=I.base.there b o e hx
     exact⟨o',(hs.2 b (Nat.ne_of_lt (Nat.lt_of_lt_of_le (Heap.lt_size e) I.ok.above))).trans e1⟩
   · by_cases hj:j=i
     · subst hj
       rw [hi] at e1;cases e1
       rw [List.getElem?_set_self hiσ] at e2
       cases e2
       exact⟨u,r,.inl ⟨hk,by simp⟩⟩
     · rw [List.getElem?_set_ne (Ne.symm hj)] at e2
       obtain⟨u',r',q⟩:=hl j y v' e1 e2 e3
       refine⟨u',r',?_⟩
       rcases q with ⟨k,e⟩ | ⟨k,c,e,z⟩
       · refine .inl ⟨k,?_⟩
         have:y≠x:=fun e=>hj (qBj hN e1 (e ▸ hi))
         simp [this,e]
       · exact .inr ⟨k,c,e,z.sameBut hs (cne y c e)⟩
   · obtain⟨w',z⟩:=I.cell y c e
     exact⟨w',z.sameBut hs (cne y c e)⟩
   · obtain⟨e,n,ne,nf,d⟩:=I.pin p hp
     exact⟨(hs.2 p.1 ne).trans e,n,ne,nf,d⟩
 · have hfn:X.fn x=true:=by
    rcases hf with z | z
    · exact z
    · rw [z] at hk;cases hk
   obtain⟨c,hc⟩:=I.ok.has x (.inl hk)
   obtain⟨w',z⟩:=I.cell x c hc
   refine wpAny_storeName_cell I.ok.kind hk hc z (fun h' hc' hs=>?_)
   obtain⟨oc,hoc,hocd⟩:=id z
   refine h {s with heap:=h'} ⟨I.ok,I.os,I.bare,⟨fun b o e n hb hx=>?_,fun b o e n hb hx=>?_,I.base.free,fun b o e hx=>?_,I.base.tups,I.base.frzs,I.base.tbls⟩,⟨m,hn.sameBut hs (Ne.symm (cne x c hc)),fun j y v' e1 e2 e3=>?_⟩,fun y c' e=>?_,I.free,I.freeC,fun p hp=>?_,tracked ⟨oc,hoc,I.freeC x c hc⟩ hs,by simpa using I.len⟩ ⟨c,hs,.inr hc⟩
   · exact(hs.2 b (Nat.ne_of_lt (Nat.lt_of_lt_of_le (Heap.lt_size e) (I.ok.cab x c hfn hc)))).trans (I.base.keep b o e n hb hx)
   · obtain⟨sl,e1⟩:=I.base.slot b o e n hb hx
     exact⟨sl,(hs.2 b (Nat.ne_of_lt (Nat.lt_of_lt_of_le (Heap.lt_size e) (I.ok.cab x c hfn hc)))).trans e1⟩
   · obtain⟨o',e1⟩:=I.base.there b o e hx
     exact⟨o',(hs.2 b (Nat.ne_of_lt (Nat.lt_of_lt_of_le (Heap.lt_size e) (I.ok.cab x c hfn hc)))).trans e1⟩
   · by_cases hj:j=i
     · subst hj
       rw [hi] at e1;cases e1
       rw [List.getElem?_set_self hiσ] at e2
       cases e2
       exact⟨u,r,.inr ⟨.inl hk,c,hc,hc'⟩⟩
     · rw [List.getElem?_set_ne (Ne.symm hj)] at e2
       obtain⟨u',r',q⟩:=hl j y v' e1 e2 e3
       refine⟨u',r',?_⟩
       rcases q with q | ⟨k,c',e,z'⟩
       · exact .inl q
       · refine .inr ⟨k,c',e,z'.sameBut hs ?_⟩
         rintro rfl
         exact hj (qBj hN e1 (I.ok.inj _ _ _ e hc ▸ hi))
   · by_cases hcc:c'=c
     · subst hcc;exact⟨_,hc'⟩
     · obtain⟨w2,z2⟩:=I.cell y c' e
       exact⟨w2,z2.sameBut hs hcc⟩
   · obtain⟨e,n,ne,nf,d⟩:=I.pin p hp
     refine⟨(hs.2 p.1 ?_).trans e,n,ne,nf,d⟩
     intro q
     rw [q,hoc] at e
     have q':oc=p.2:=Option.some.inj e
     exact d w' (by rw [← q'];exact hocd)
theorem zU {M:Model}{A:Around}{E:Value→Shared→Prop}{i:Nat}{x:Str}{v:V}{u:Value}{Q:Unit→Shared→Prop}(I:Inv X pins σ H s)(hN:X.N.Nodup)(hi:X.N[i]? =some x)(hx:Loc X.env.scope x)(r:RelV v u)
 (h:∀ s',Inv X pins (σ.set i (some v)) H s'→Q () s') (hf:X.fn x=true∨X.env.scope.names.lookup x=some .local:=by first | exact .inl rfl | exact .inr rfl | assumption):wpAny M A (storeName X.env x u) Q E s:=
 qCv I hN hi hx r (fun s' I' _=>h s' I') hf
theorem Inv.call' {s':Shared}{ch:List Addr}(I:Inv X pins σ H s)(ho:s'.os=s.os)(u:Un (frs X.stack) ch H H' s.heap s'.heap)(hok:HOk X.prog X.w H' s'.heap)(hg:AllBare s'.gens)
 (hch:∀ b∈ch,(b∈X.ex∨X.s₀.heap.objs.size≤b)∧b≠X.env.locals∧(∀ x c,X.env.cells.lookup x=some c→c≠b)∧∀ p∈X.pn++pins,p.1≠b):Inv X pins σ H' s':=by
 obtain⟨h',g',d',t',o'⟩:=s'
 have e:o'=s.os:=ho
 subst e
 exact I.call (g':=g') (t':=t') (d':=d') u hok hg hch
end
abbrev XK:=Value→Option Addr→Hp→Prop
abbrev St:=List (Option V)
abbrev VK:=V→Hp→Prop
abbrev TE:=St→Hp→VK→Prop
abbrev TT:=St→Hp→(Bool→Hp→Prop)→Prop
abbrev TA:=St→Hp→(List V→Hp→Prop)→Prop
structure qFy where
 nx:St→Hp→Prop
 rt:VK
 bk:St→Hp→Prop:=fun _ _=>False
 ct:St→Hp→Prop:=fun _ _=>False
abbrev TS:=qFy→St→Hp→Prop
def EP (X:Cx)(pins:List (Addr × Obj))(σ:St)(Q:VK)(u:Value)(s':Shared):Prop:=∃ v H',Inv X pins σ H' s'∧RelV v u∧Q v H'
def TP (X:Cx)(pins:List (Addr × Obj))(σ:St)(Q:Bool→Hp→Prop)(b:Bool)(s':Shared):Prop:=∃ H',Inv X pins σ H' s'∧Q b H'
def AP (X:Cx)(pins:List (Addr × Obj))(σ:St)(Q:List V→Hp→Prop)(us:List Value)(s':Shared):Prop:=∃ vs H',Inv X pins σ H' s'∧Vals vs us∧Q vs H'
def SP (X:Cx)(pins:List (Addr × Obj))(D:qFy)(f:Flow)(s':Shared):Prop:=
 match f with
 | .next=>∃ σ' H',Inv X pins σ' H' s'∧D.nx σ' H'
 | .brk=>∃ σ' H',Inv X pins σ' H' s'∧D.bk σ' H'
 | .cont=>∃ σ' H',Inv X pins σ' H' s'∧D.ct σ' H'
 | .ret u=>∃ v σ' H',Inv X pins σ' H' s'∧RelV v u∧D.rt v H'
def PE (X:Cx)(e:Expr)(t:TE):Prop:=
 ∀ (pins:List (Addr × Obj)) (s:Shared) (σ:St) (H:Hp) (Q:VK),Inv X pins σ H s→t σ H Q→wpAny (model X.prog X.w) X.A (eval e X.env) (EP X pins σ Q) X.xe s
def PT (X:Cx)(e:Expr)(t:TT):Prop:=
 ∀ (pins:List (Addr × Obj)) (s:Shared) (σ:St) (H:Hp) (Q:Bool→Hp→Prop),Inv X pins σ H s→t σ H Q→wpAny (model X.prog X.w) X.A (isTrue e X.env (eval e X.env)) (TP X pins σ Q) X.xe s
def PW (X:Cx)(e:Expr)(t:TT):Prop:=
 ∀ (whole:Sem Value) (pins:List (Addr × Obj)) (s:Shared) (σ:St) (H:Hp) (Q:Bool→Hp→Prop),Inv X pins σ H s→t σ H Q→wpAny (model X.prog X.w) X.A (isTrue e X.env whole) (TP X pins σ Q) X.xe s
theorem PW.pt {X:Cx}{e:Expr}{t:TT}(h:PW X e t):PT X e t:=h _
def PA (X:Cx)(es:List Expr)(t:TA):Prop:=
 ∀ (pos:Pos) (pins:List (Addr × Obj)) (s:Shared) (σ:St) (H:Hp) (Q:List V→Hp→Prop),Inv X pins σ H s→t σ H Q→wpAny (model X.prog X.w) X.A (spliced (backTo pos (starEach es X.env))) (AP X pins σ Q) X.xe s
def PS (X:Cx)(st:Stmt)(t:TS):Prop:=
 ∀ (pins:List (Addr × Obj)) (s:Shared) (σ:St) (H:Hp) (D:qFy),Inv X pins σ H s→t D σ H→wpAny (model X.prog X.w) X.A (exec st X.env) (SP X pins D) X.xe s
def PSs (X:Cx)(st:List Stmt)(t:TS):Prop:=
 ∀ (pins:List (Addr × Obj)) (s:Shared) (σ:St) (H:Hp) (D:qFy),Inv X pins σ H s→t D σ H→wpAny (model X.prog X.w) X.A (execs st X.env) (SP X pins D) X.xe s
theorem thn {α:Type}{t:Sem α}{Q Q':α→Shared→Prop}{M:Model}{A:Around}{E:Value→Shared→Prop}{s:Shared}(h:wpAny M A t Q E s)(hQ:∀ a s,Q a s→Q' a s):wpAny M A t Q' E s:=wpAny_mono h hQ fun _ _ x=>x
end L2
namespace L2
open PySem PySem.Spec PyProof.Rows
section
variable {X : Cx}
theorem bin {a b:Expr}{ta tb:TE}(ha:PE X a ta)(hb:PE X b tb){pins:List (Addr × Obj)}{s:Shared}{σ:St}{H:Hp}{R:V→V→Hp→Prop}(I:Inv X pins σ H s)(h:ta σ H fun x H1=>tb σ H1 fun y H2=>R x y H2)
 {α:Type} {Q:α→Shared→Prop} {f:Value→Value→Sem α}
 (hf:∀ v u s2 x y H2,Inv X pins σ H2 s2→RelV x v→RelV y u→R x y H2→wpAny (model X.prog X.w) X.A (f v u) Q X.xe s2):
 wpAny (model X.prog X.w) X.A (eval a X.env) (fun v s₁=>wpAny (model X.prog X.w) X.A (eval b X.env) (fun u s₂=>wpAny (model X.prog X.w) X.A (f v u) Q X.xe s₂) X.xe s₁) X.xe s:=by
 refine thn (ha pins s σ H _ I h) fun v s1 ⟨x,H1,I1,r1,q1⟩=>?_
 refine thn (hb pins s1 σ H1 _ I1 q1) fun u s2 ⟨y,H2,I2,r2,q2⟩=>?_
 exact hf v u s2 x y H2 I2 r1 r2 q2
inductive qM5 (i:Nat)(σ:L2.St)(H:Hp)(Q:VK):Prop
| mk v (_:σ[i]? =some (some v)) (_:Q v H)
def tC (v:V):TE:=fun _ H Q=>Q v H
theorem qMd {i:Nat}{x:Str}{pos:Pos}(hN:X.N[i]? =some x)(hv:Vis X.env.scope x)(hd:(x == ("__debug__":Str))=false:=by decide)(hcd:(x == ("__classdict__":Str))=false:=by decide):PE X (.Name x pos) (qM5 i):=by
 intro pins s σ H Q I h
 obtain⟨v,e,h⟩:=h
 obtain⟨m,hn,hl⟩:=I.loc
 obtain⟨u,r,l⟩:=hl i x v hN e hv
 have fin:EP X pins σ Q u s:=⟨v,H,I,r,h⟩
 rcases l with ⟨hk,hm⟩ | ⟨hk,c,hc,hcell⟩
 · exact wpAny_Name (wpAny_loadName_local I.ok.kind hk hn hm fin) hd
 · rcases hk with hk | hk
   · exact wpAny_Name (wpAny_loadName_cell I.ok.kind hk hc hcell fin) hd
   · exact wpAny_Name (wpAny_loadName_free I.ok.kind hk hc hcell fin hcd) hd
theorem qG {i j pos}:PE X (.Constant (.int i) j pos) (tC (.int i)):=fun _ _ _ H _ I h=>wpAny_Constant_int ⟨.int i,H,I.tok _,⟨_,rfl⟩,h⟩
theorem qEr {b j pos}:PE X (.Constant (.bool b) j pos) (tC (.bl b)):=fun _ _ _ H _ I h=>Constant_bool ⟨.bl b,H,I,rfl,h⟩
theorem ku {j pos}:PE X (.Constant .none j pos) (tC .non):=fun _ _ _ H _ I h=>Constant_none ⟨.non,H,I,rfl,h⟩
theorem qQ {x j pos}:PE X (.Constant (.str x) j pos) (tC (.str x)):=fun _ _ _ H _ I h=>Calls.Constant_str ⟨.str x,H,I.tok _,⟨_,rfl⟩,h⟩
def Gl (X:Cx)(x:Str):Prop:=X.env.kindOf x=some .globalImplicit
theorem wc {E:Value→Shared→Prop}{pins:List (Addr × Obj)}{s:Shared}{σ:St}{H:Hp}{x:Str}{u:Value}{pos:Pos}{Q:Value→Shared→Prop}(I:Inv X pins σ H s)(hg:Gl X x)(hm:X.mg x=some u)(h:Q u s)
 (hd:(x == ("__debug__":Str))=false:=by decide):wpAny (model X.prog X.w) X.A (eval (.Name x pos) X.env) Q E s:=
 Calls.Name_function_global I.ok.kind hg (Calls.loadGlobal_global (by rw [I.ok.glob];exact I.mod.glob.keeps I.bk) hm h) hd
theorem qA4 {E:Value→Shared→Prop}{pins:List (Addr × Obj)}{s:Shared}{σ:St}{H:Hp}{x:Str}{u:Value}{pos:Pos}{Q:Value→Shared→Prop}(I:Inv X pins σ H s)(hg:Gl X x)(hm:X.mg x=none)(hv:bootBuiltins x=some u)(h:Q u s)
 (hn:x≠"__name__":=by decide) (hd:(x == ("__debug__":Str))=false:=by decide):wpAny (model X.prog X.w) X.A (eval (.Name x pos) X.env) Q E s:=by
 obtain⟨mb,h1,h2⟩:=I.mod.blt
 exact Calls.Name_function_global I.ok.kind hg (Calls.loadGlobal_builtin (by rw [I.ok.glob];exact I.mod.glob.keeps I.bk) hm (by rw [I.ok.blt];exact h1.keeps I.bk) ((h2 x hn).trans hv) h) hd
theorem xS {x:Str}{v:V}{u:Value}{pos:Pos}(hg:Gl X x)(hm:X.mg x=some u)(r:RelV v u)(hd:(x == ("__debug__":Str))=false:=by decide):PE X (.Name x pos) (tC v):=
 fun _ _ _ H _ I h=>wc I hg hm ⟨v,H,I,r,h⟩ hd
theorem qLj {x:Str}{v:V}{u:Value}{pos:Pos}(hg:Gl X x)(hm:X.mg x=none)(hv:bootBuiltins x=some u)(r:RelV v u)(hn:x≠"__name__":=by decide)(hd:(x == ("__debug__":Str))=false:=by decide):PE X (.Name x pos) (tC v):=
 fun _ _ _ H _ I h=>qA4 I hg hm hv ⟨v,H,I,r,h⟩ hn hd
variable {a b : Expr} {ta tb : TE} {pos : Pos}
def PC (X:Cx)(op:CmpOp)(a b:Expr)(t:TE):Prop:=
 ∀ (pins:List (Addr × Obj)) (s:Shared) (σ:St) (H:Hp) (Q:VK),Inv X pins σ H s→t σ H Q→
  wpAny (model X.prog X.w) X.A (eval a X.env) (fun v s₁=>wpAny (model X.prog X.w) X.A (eval b X.env) (fun u s₂=>wpAny (model X.prog X.w) X.A (compareOp op v u) (EP X pins σ Q) X.xe s₂) X.xe s₁) X.xe s
theorem qJi (b:Expr){op:CmpOp}(h:op≠ .In)(h2:op≠ .NotIn):behindInMarks op b=false:=by
 have e1:(op == CmpOp.In)=false:=by cases op <;> first | rfl | exact absurd rfl h
 have e2:(op == CmpOp.NotIn)=false:=by cases op <;> first | rfl | exact absurd rfl h2
 cases b <;> simp [behindInMarks,e1,e2]
def qO7 (ta:TE):TE:=fun σ H Q=>ta σ H fun x H1=>Q (.bl (decide (x= .non))) H1
def qOf (ta:TE):TE:=fun σ H Q=>ta σ H fun x H1=>Q (.bl (!decide (x= .non))) H1
theorem RelV.none_iff {x:V}{v:Value}(r:RelV x v):(v == Value.none)=decide (x= .non):=by
 cases x with
 | non=>cases r;rfl
 | bl _=>cases r;rfl
 | int _=>obtain⟨t,rfl⟩:=r;rfl
 | str _=>obtain⟨t,rfl⟩:=r;rfl
 | byt _=>obtain⟨t,rfl⟩:=r;rfl
 | flt _=>obtain⟨t,rfl⟩:=r;rfl
 | ref _=>cases r;rfl
 | ty _=>cases r;rfl
theorem ww {j pos'}(ha:PE X a ta):PC X .Is a (.Constant .none j pos') (qO7 ta):=by
 intro pins s σ H Q I h
 refine thn (ha pins s σ H _ I h) fun v s1 ⟨x,H1,I1,r1,q1⟩=>?_
 exact Constant_none (is_none_gen ⟨.bl _,H1,I1,by rw [r1.none_iff];rfl,q1⟩)
theorem qLr {j pos'}(ha:PE X a ta):PC X .IsNot a (.Constant .none j pos') (qOf ta):=by
 intro pins s σ H Q I h
 refine thn (ha pins s σ H _ I h) fun v s1 ⟨x,H1,I1,r1,q1⟩=>?_
 exact Constant_none (isnot_none_gen ⟨.bl _,H1,I1,by rw [r1.none_iff];rfl,q1⟩)
inductive tBI (Q:Bool→Hp→Prop)(x:V)(H1:Hp):Prop
| mk c (_:x= .bl c) (_:Q c H1)
def tB (t:TE):TT:=fun σ H Q=>t σ H fun x H1=>tBI Q x H1
theorem vp {op:CmpOp}{t:TE}(h:PC X op a b t)(h1:behindInMarks op b=false:=by first | exact qJi _ (by decide) (by decide) | rfl):PT X (.Compare a [op] [b] pos) (tB t):=by
 intro pins s σ H Q I hw
 refine wpAny_isTrue_Compare1 (thn (h pins s σ H _ I hw) fun v s1 h1=>thn h1 fun u s2 h2=>thn h2 fun c s3 ⟨x,H1,I1,r1,q1⟩=>?_) h1
 obtain⟨d,rfl,q⟩:=q1
 cases r1
 exact wpAny_truthy_bool ⟨H1,I1,q⟩
theorem jx {e:Expr}{t:TE}(h:PE X e t)(he:∀ whole,isTrue e X.env whole=(do let v ← whole;standAt e.pos;holding [v] (truthy v)):=by intro _;rfl):PT X e (tB t):=by
 intro pins s σ H Q I hw
 refine isTrue_plain (thn (h pins s σ H _ I hw) fun v s1 ⟨x,H1,I1,r1,q1⟩=>?_) (he _)
 obtain⟨d,rfl,q⟩:=q1
 cases r1
 exact wpAny_truthy_bool ⟨H1,I1,q⟩
variable {tA tB' : TT} {rest : List Expr}
def qO5 (t u:TT):TT:=fun σ H Q=>t σ H fun c H1=>if c=true then u σ H1 Q else Q false H1
def tOr (t u:TT):TT:=fun σ H Q=>t σ H fun c H1=>if c=true then Q true H1 else u σ H1 Q
def qPc (t:TT):TT:=fun σ H Q=>t σ H fun c H1=>Q (!c) H1
theorem zN (ha:PT X a tA):PW X (.BoolOp .And [a] pos) tA:=by
 intro wh pins s σ H Q I h
 refine isTrue_and (thn (ha pins s σ H Q I h) fun c s1 e=>?_)
 cases c with
 | true=>exact isTrue_and_nil e
 | false=>exact e
theorem zr (ha:PT X a tA):PW X (.BoolOp .Or [a] pos) tA:=by
 intro wh pins s σ H Q I h
 refine isTrue_or (thn (ha pins s σ H Q I h) fun c s1 e=>?_)
 cases c with
 | false=>exact isTrue_or_nil e
 | true=>exact e
theorem vE (ha:PT X a tA)(hb:PW X (.BoolOp .And (b::rest) pos) tB'):PW X (.BoolOp .And (a::b::rest) pos) (qO5 tA tB'):=by
 intro wh pins s σ H Q I h
 refine isTrue_and (thn (ha pins s σ H _ I h) fun c s1 ⟨H1,I1,q1⟩=>?_)
 cases c with
 | true=>exact hb wh pins s1 σ H1 Q I1 q1
 | false=>exact⟨H1,I1,q1⟩
theorem vF (ha:PT X a tA)(hb:PW X (.BoolOp .Or (b::rest) pos) tB'):PW X (.BoolOp .Or (a::b::rest) pos) (tOr tA tB'):=by
 intro wh pins s σ H Q I h
 refine isTrue_or (thn (ha pins s σ H _ I h) fun c s1 ⟨H1,I1,q1⟩=>?_)
 cases c with
 | true=>exact⟨H1,I1,q1⟩
 | false=>exact hb wh pins s1 σ H1 Q I1 q1
theorem kT (ha:PT X a tA):PT X (.UnaryOp .Not a pos) (qPc tA):=by
 intro pins s σ H Q I h
 exact isTrue_not (ha pins s σ H (fun c H1=>Q (!c) H1) I h)
inductive qL9 (tb:TE)(σ:L2.St)(Q:VK)(x:V)(H1:Hp):Prop
| mk c (_:x= .bl c) (_:if c=true then tb σ H1 Q else Q (.bl false) H1)
def qNq (ta tb:TE):TE:=fun σ H Q=>ta σ H fun x H1=>qL9 tb σ Q x H1
inductive qNp (tb:TE)(σ:L2.St)(Q:VK)(x:V)(H1:Hp):Prop
| mk c (_:x= .bl c) (_:if c=true then Q (.bl true) H1 else tb σ H1 Q)
def qO3 (ta tb:TE):TE:=fun σ H Q=>ta σ H fun x H1=>qNp tb σ Q x H1
inductive qMi (Q:VK)(x:V)(H1:Hp):Prop
| mk c (_:x= .bl c) (_:Q (.bl (!c)) H1)
def qNz (ta:TE):TE:=fun σ H Q=>ta σ H fun x H1=>qMi Q x H1
theorem wo {op}{t:TE}(h:PE X a t):PE X (.BoolOp op [a] pos) t:=fun pins s σ H Q I hw=>BoolOp_one (h pins s σ H Q I hw)
theorem qA6 (ha:PE X a ta)(hb:PE X (.BoolOp .And (b::rest) pos) tb):PE X (.BoolOp .And (a::b::rest) pos) (qNq ta tb):=by
 intro pins s σ H Q I h
 refine BoolOp_and (thn (ha pins s σ H _ I h) fun v s1 ⟨x,H1,I1,r1,q1⟩=>?_)
 obtain⟨c,rfl,q1⟩:=q1
 cases r1
 refine wpAny_truthy_bool ?_
 cases c with
 | true=>exact hb pins s1 σ H1 Q I1 q1
 | false=>exact⟨.bl false,H1,I1,rfl,q1⟩
theorem qNr (ha:PE X a ta)(hb:PE X (.BoolOp .Or (b::rest) pos) tb):PE X (.BoolOp .Or (a::b::rest) pos) (qO3 ta tb):=by
 intro pins s σ H Q I h
 refine BoolOp_or (thn (ha pins s σ H _ I h) fun v s1 ⟨x,H1,I1,r1,q1⟩=>?_)
 obtain⟨c,rfl,q1⟩:=q1
 cases r1
 refine wpAny_truthy_bool ?_
 cases c with
 | false=>exact hb pins s1 σ H1 Q I1 q1
 | true=>exact⟨.bl true,H1,I1,rfl,q1⟩
theorem qFs (ha:PE X a ta):PE X (.UnaryOp .Not a pos) (qNz ta):=by
 intro pins s σ H Q I h
 refine UnaryOp_ (thn (ha pins s σ H _ I h) fun v s1 ⟨x,H1,I1,r1,q1⟩=>?_)
 obtain⟨c,rfl,q1⟩:=q1
 cases r1
 exact not_of (wpAny_truthy_bool ⟨.bl (!c),H1,I1,rfl,q1⟩)
def tIf (t:TT)(ta tb:TE):TE:=fun σ H Q=>t σ H fun c H1=>if c=true then ta σ H1 Q else tb σ H1 Q
theorem vD {c:Expr}(hc:PT X c tA)(ha:PE X a ta)(hb:PE X b tb):PE X (.IfExp c a b pos) (tIf tA ta tb):=by
 intro pins s σ H Q I h
 refine wpAny_IfExp (thn (hc pins s σ H _ I h) fun d s1 ⟨H1,I1,q1⟩=>?_)
 cases d with
 | true=>exact ha pins s1 σ H1 Q I1 q1
 | false=>exact hb pins s1 σ H1 Q I1 q1
end
end L2
namespace L2
open PySem PySem.Spec PyProof.Rows
def SqL (K:PySem.W.Frag)(H:Hp)(a:Addr)(xs:List V):Prop:=
 Rd H a (.lst xs)∨
  ∃ (o:Obj) (its:Array Value) (n:Nat),K.lookup a=some o∧o.cls= .type "list"∧o.dict=none∧o.data= .seq its n∧its.size≤sizeLine∧Vals xs its.toList
def SqT (K:PySem.W.Frag)(H:Hp)(a:Addr)(xs:List V):Prop:=
 Rd H a (.tup xs)∨
  ∃ (o:Obj) (its:Array Value) (n:Nat),K.lookup a=some o∧o.cls= .type "tuple"∧o.data= .seq its n∧its.size≤sizeLine∧Vals xs its.toList
def qOr:Value→Option V
 | .none=>some .non
 | .bool b=>some (.bl b)
 | .int i _=>some (.int i)
 | .str x _=>some (.str x)
 | .bytes b _=>some (.byt b)
 | .float b _=>some (.flt b)
 | .ref a=>some (.ref a)
 | .type n=>some (.ty n)
 | _=>none
theorem RelV.abs {x:V}{u:Value}(r:RelV x u):qOr u=some x:=by
 cases x with
 | non=>cases r;rfl
 | bl _=>cases r;rfl
 | int _=>obtain⟨t,rfl⟩:=r;rfl
 | str _=>obtain⟨t,rfl⟩:=r;rfl
 | byt _=>obtain⟨t,rfl⟩:=r;rfl
 | flt _=>obtain⟨t,rfl⟩:=r;rfl
 | ref _=>cases r;rfl
 | ty _=>cases r;rfl
theorem RelV.inj {x y:V}{u:Value}(r:RelV x u)(q:RelV y u):x=y:=Option.some.inj (r.abs.symm.trans q.abs)
theorem Vals.inj:∀ {xs ys:List V} {us:List Value},Vals xs us→Vals ys us→xs=ys
 | _,_,_,.nil,.nil=>rfl
 | _,_,_,.cons r t,.cons r' t'=>by rw [r.inj r',Vals.inj t t']
section
variable {X : Cx} {pins : List (Addr × Obj)} {σ : St} {H : Hp} {s : Shared} {a : Addr} {xs ys : List V}
theorem SqL.of {K:PySem.W.Frag}(h:H a=some (.lst xs)):SqL K H a xs:=.inl (.inl h)
theorem SqT.of {K:PySem.W.Frag}(h:H a=some (.tup xs)):SqT K H a xs:=.inl (.inl h)
theorem Inv.list (I:Inv X pins σ H s)(h:SqL X.K H a xs):∃ its:List Value,Vals xs its∧PlainL s.heap a its.toArray∧xs.length≤sizeLine:=by
 rcases h with h | ⟨o,its,n,hk,hc,hd,hs,hz,r⟩
 · obtain⟨z,its,n,r,e⟩:=h.ok I.hok
   exact⟨its,r,⟨_,n,e,rfl,rfl,rfl⟩,z⟩
 · refine⟨its.toList,r,⟨o,n,I.kIn a o hk,hc,hd,by simpa using hs⟩,?_⟩
   have e:=r.length
   simp only [Array.length_toList] at e
   omega
theorem Inv.tuple (I:Inv X pins σ H s)(h:SqT X.K H a xs):∃ its:List Value,Vals xs its∧IsTup s.heap a its.toArray∧xs.length≤sizeLine:=by
 rcases h with h | ⟨o,its,n,hk,hc,hs,hz,r⟩
 · obtain⟨z,its,r,p⟩:=h.ok I.hok
   exact⟨its,r,p,z⟩
 · refine⟨its.toList,r,⟨o,I.kIn a o hk,hc,n,by simpa using hs⟩,?_⟩
   have e:=r.length
   simp only [Array.length_toList] at e
   omega
theorem Inv.list_inj (I:Inv X pins σ H s)(h:SqL X.K H a xs)(h':SqL X.K H a ys):xs=ys:=by
 obtain⟨its,r,⟨o,n,e,_,_,d⟩,_⟩:=I.list h
 obtain⟨its',r',⟨o',n',e',_,_,d'⟩,_⟩:=I.list h'
 rw [e] at e';cases e'
 rw [d] at d'
 injection d' with d1 _
 have:its=its':=by simpa using congrArg Array.toList d1
 subst this
 exact r.inj r'
theorem Inv.tuple_inj (I:Inv X pins σ H s)(h:SqT X.K H a xs)(h':SqT X.K H a ys):xs=ys:=by
 obtain⟨its,r,⟨o,e,_,n,d⟩,_⟩:=I.tuple h
 obtain⟨its',r',⟨o',e',_,n',d'⟩,_⟩:=I.tuple h'
 rw [e] at e';cases e'
 rw [d] at d'
 injection d' with d1 _
 have:its=its':=by simpa using congrArg Array.toList d1
 subst this
 exact r.inj r'
end
abbrev Cx.wish (X:Cx)(E:Value→Shared→Prop):Cx:={X with xe:=E}
abbrev Cx.nox (X:Cx):Cx:=X.wish fun _ _=>False
theorem Cx.Ok.wish {X:Cx}(ok:X.Ok)(E:Value→Shared→Prop):(X.wish E).Ok:=
 ⟨ok.mod,ok.kind,ok.glob,ok.blt,ok.above,ok.inj,ok.has,ok.cab,ok.hd,ok.frames,ok.stk,ok.exf,ok.bs,ok.bsz,ok.noex,ok.exfs,ok.funs,ok.frf⟩
theorem Cx.Ok.unwish {X:Cx}{E:Value→Shared→Prop}(ok:(X.wish E).Ok):X.Ok:=
 ⟨ok.mod,ok.kind,ok.glob,ok.blt,ok.above,ok.inj,ok.has,ok.cab,ok.hd,ok.frames,ok.stk,ok.exf,ok.bs,ok.bsz,ok.noex,ok.exfs,ok.funs,ok.frf⟩
section
variable {X : Cx} {pins : List (Addr × Obj)} {σ : St} {H : Hp} {s : Shared} {E : Value → Shared → Prop}
theorem Inv.wish (I:Inv X pins σ H s)(E:Value→Shared→Prop):Inv (X.wish E) pins σ H s:=⟨I.ok.wish E,I.os,I.bare,I.base,I.loc,I.cell,I.free,I.freeC,I.pin,I.hok,I.len⟩
theorem Inv.unwish (I:Inv (X.wish E) pins σ H s):Inv X pins σ H s:=⟨I.ok.unwish,I.os,I.bare,I.base,I.loc,I.cell,I.free,I.freeC,I.pin,I.hok,I.len⟩
theorem SP.unwish {D:qFy}{f:Flow}{s':Shared}(h:SP (X.wish E) pins D f s'):SP X pins D f s':=by
 cases f with
 | next=>obtain⟨σ',H',I,q⟩:=h;exact⟨σ',H',I.unwish,q⟩
 | brk=>obtain⟨σ',H',I,q⟩:=h;exact⟨σ',H',I.unwish,q⟩
 | cont=>obtain⟨σ',H',I,q⟩:=h;exact⟨σ',H',I.unwish,q⟩
 | ret u=>obtain⟨v,σ',H',I,r,q⟩:=h;exact⟨v,σ',H',I.unwish,r,q⟩
theorem PSs.nox {st:List Stmt}{t:TS}(h:PSs X.nox st t):PSs X st t:=fun pins s σ H D I hw=>
 wpAny_mono (h pins s σ H D (I.wish _) hw) (fun _ _ q=>q.unwish) fun _ _ z=>False.elim z
end
section
variable {X : Cx} {st : Stmt} {rest : List Stmt} {t u : TS} {e : Expr} {te : TE} {pos : Pos}
def qNs:TS:=fun D σ H=>D.nx σ H
def qOo (t u:TS):TS:=fun D σ H=>t {D with nx:=u D} σ H
theorem qP:PSs X [] qNs:=fun _ _ σ H _ I h=>wpAny_execs_nil ⟨σ,H,I,h⟩
theorem qB (h1:PS X st t)(h2:PSs X rest u):PSs X (st::rest) (qOo t u):=by
 intro pins s σ H D I h
 refine wpAny_execs_cons (thn (h1 pins s σ H {D with nx:=u D} I h) fun f s1 q=>?_)
 cases f with
 | next=>
  obtain⟨σ',H',I',q⟩:=q
  exact h2 pins s1 σ' H' D I' q
 | ret v=>exact q
 | brk=>exact q
 | cont=>exact q
theorem qE (h1:PS X st t):PSs X [st] t:=by
 intro pins s σ H D I h
 refine wpAny_execs_cons (thn (h1 pins s σ H D I h) fun f s1 q=>?_)
 cases f with
 | next=>exact wpAny_execs_nil q
 | ret v=>exact q
 | brk=>exact q
 | cont=>exact q
theorem Inv.quiet {pins:List (Addr × Obj)}{σ:St}{H:Hp}{s:Shared}(I:Inv X pins σ H s):interactive X.env=false:=by simp [interactive,I.ok.kind]
def qNg (te:TE):TS:=fun D σ H=>te σ H fun _ H1=>D.nx σ H1
theorem vK (he:PE X e te)(hs:swapsWith e none pos.line X.env=pure false:=by rfl):PS X (.Expr e pos) (qNg te):=by
 intro pins s σ H D I h
 exact wpAny_Expr_any (thn (he pins s σ H _ I h) fun v s1 ⟨x,H1,I1,r1,q1⟩=>⟨σ,H1,I1,q1⟩) I.quiet hs
def qO6 (te:TE):TS:=fun D σ H=>te σ H D.rt
theorem qK (he:PE X e te):PS X (.Return (some e) pos) (qO6 te):=by
 intro pins s σ H D I h
 exact wpAny_Return_some (thn (he pins s σ H _ I h) fun v s1 ⟨x,H1,I1,r1,q1⟩=>⟨x,σ,H1,I1,r1,q1⟩)
def qOp (c:TT)(t u:TS):TS:=fun D σ H=>c σ H fun b H1=>if b=true then t D σ H1 else u D σ H1
theorem qf {c:Expr}{a b:List Stmt}{tc:TT}(hc:PT X c tc)(ha:PSs X a t)(hb:PSs X b u):PS X (.If c a b pos) (qOp tc t u):=by
 intro pins s σ H D I h
 refine wpAny_If (thn (hc pins s σ H _ I h) fun d s1 ⟨H1,I1,q1⟩=>?_)
 cases d with
 | true=>exact ha pins s1 σ H1 D I1 q1
 | false=>exact hb pins s1 σ H1 D I1 q1
def qMv:TS:=fun _ _ _=>False
theorem wX {sts:List Stmt}:PSs X sts qMv:=fun _ _ _ _ _ _ h=>h.elim
end
abbrev TG:=V→St→Hp→(St→Hp→Prop)→Prop
abbrev TGs:=List V→St→Hp→(St→Hp→Prop)→Prop
def PG (X:Cx)(target:Expr)(t:TG):Prop:=
 ∀ (pins:List (Addr × Obj)) (s:Shared) (σ:St) (H:Hp) (v:V) (u:Value) (Q:St→Hp→Prop),Inv X pins σ H s→RelV v u→t v σ H Q→
  wpAny (model X.prog X.w) X.A (assign target X.env u) (fun _ s'=>∃ σ' H',Inv X pins σ' H' s'∧Q σ' H') X.xe s
def PGs (X:Cx)(ts:List Expr)(t:TGs):Prop:=
 ∀ (pins:List (Addr × Obj)) (s:Shared) (σ:St) (H:Hp) (vs:List V) (us:List Value) (Q:St→Hp→Prop),Inv X pins σ H s→Vals vs us→t vs σ H Q→
  wpAny (model X.prog X.w) X.A (assignInOrder ((assignEach ts X.env).map (·.2)) us) (fun _ s'=>∃ σ' H',Inv X pins σ' H' s'∧Q σ' H') X.xe s
abbrev qOc:=V→V→V→Hp→(Hp→Prop)→Prop
def qOn (X:Cx)(t:qOc):Prop:=
 ∀ (pins:List (Addr × Obj)) (s:Shared) (σ:St) (H:Hp) (o i v:V) (ov iv u:Value) (Q:Hp→Prop),Inv X pins σ H s→RelV o ov→RelV i iv→RelV v u→t o i v H Q→
  wpAny (model X.prog X.w) X.A (setItem ov iv u) (fun _ s'=>∃ H',Inv X pins σ H' s'∧Q H') X.xe s
section
variable {X : Cx} {pos : Pos}
def v8 (i:Nat):TG:=fun v σ H Q=>Q (σ.set i (some v)) H
theorem jR {i:Nat}{x:Str}(hN:X.N.Nodup)(hi:X.N[i]? =some x)(hx:Loc X.env.scope x)(hf:X.fn x=true∨X.env.scope.names.lookup x=some .local:=by first | exact .inl rfl | exact .inr rfl | assumption):PG X (.Name x pos) (v8 i):=by
 intro pins s σ H v u Q I r h
 exact wpAny_assign_Name (zU I hN hi hx r (fun s' I'=>⟨_,H,I',h⟩) hf)
def qNo:TGs:=fun vs σ H Q=>vs=[]∧Q σ H
inductive qIk (t:TG)(u:TGs)(vs:List V)(σ:L2.St)(H:Hp)(Q:L2.St→Hp→Prop):Prop
| mk v r (_:vs=v::r) (_:t v σ H fun σ' H'=>u r σ' H' Q)
theorem qEs:PGs X [] qNo:=by
 intro pins s σ H vs us Q I r h
 obtain⟨e,h⟩:=h
 subst e
 cases r
 exact assignInOrder_nil ⟨σ,H,I,h⟩
theorem zV {e:Expr}{es:List Expr}{t:TG}{u:TGs}(h1:PG X e t)(h2:PGs X es u)
 (hs:(assignEach (e::es) X.env).map (·.2)=assign e X.env::(assignEach es X.env).map (·.2):=by rfl):PGs X (e::es) (qIk t u):=by
 intro pins s σ H vs us Q I r h
 obtain⟨v,vr,e1,h⟩:=h
 subst e1
 cases r with
 | cons r rr=>
  rw [hs]
  refine assignInOrder_cons (thn (h1 pins s σ H _ _ _ I r h) fun _ s1 ⟨σ1,H1,I1,q1⟩=>?_)
  exact h2 pins s1 σ1 H1 _ _ Q I1 rr q1
inductive qNn (K:PySem.W.Frag)(n:Nat)(t:TGs)(v:V)(σ:L2.St)(H:Hp)(Q:L2.St→Hp→Prop):Prop
| mk a xs (_:v= .ref a) (_:SqT K H a xs) (_:xs.length=n) (_:t xs σ H Q)
theorem qIy {es:List Expr}{k:Nat}{t:TGs}{n:Nat}(hc:X.calm=true)(h:PGs X es t)
 (hn:(assignEach es X.env).length=n:=by rfl) (hst:(assignEach es X.env).findIdx? (·.1)=none:=by rfl):PG X (.Tuple es k pos) (qNn X.K n t):=by
 intro pins s σ H v u Q I r hw
 obtain⟨a,xs,e1,hq,hl,hw⟩:=hw
 subst e1
 cases r
 obtain⟨its,rv,ht,hz⟩:=I.tuple hq
 refine assign_Tuple_tuple (I.ok.hd hc) ht (by simp [hn,← hl,rv.length]) hst fun h' hx=>?_
 have I1:Inv X pins σ H {s with heap:=h'}:=I.kept (t':=s.toks) fun b o e=>hx b o (Nat.ne_of_lt (Heap.lt_size e)) e
 exact h pins _ σ H xs _ Q I1 (by simpa using rv) hw
def qOx (to ti:TE)(t:qOc):TG:=fun v σ H Q=>to σ H fun o H1=>ti σ H1 fun i H2=>t o i v H2 fun H3=>Q σ H3
theorem qFb {o i:Expr}{to ti:TE}{t:qOc}(ho:PE X o to)(hi:PE X i ti)(hs:qOn X t)
 (ha:∀ v,assign (.Subscript o i pos) X.env v=(do
   let ov ← holding [v] (eval o X.env)
   let iv ← holding [v,ov] (eval i X.env)
   standAt pos
   holding [v,ov,iv] (setItem ov iv v)
   release [v,ov,iv] []):=by intro _;rfl):PG X (.Subscript o i pos) (qOx to ti t):=by
 intro pins s σ H v u Q I r h
 rw [ha]
 refine wpAny_bind (wpAny_holding (thn (ho pins s σ H _ I h) fun ov s1 ⟨x,H1,I1,r1,q1⟩=>?_))
 refine wpAny_bind (wpAny_holding (thn (hi pins s1 σ H1 _ I1 q1) fun iv s2 ⟨y,H2,I2,r2,q2⟩=>?_))
 refine wpAny_bind (wpAny_standAt (wpAny_bind (wpAny_holding (thn (hs pins s2 σ H2 x y v ov iv u _ I2 r1 r2 r q2) fun _ s3 ⟨H3,I3,q3⟩=>?_))))
 exact wpAny_release ⟨σ,H3,I3,q3⟩
def qL4 (te:TE)(g:TG):TS:=fun D σ H=>te σ H fun x H1=>g x σ H1 D.nx
theorem qF1 {tg e:Expr}{te:TE}{g:TG}(he:PE X e te)(hg:PG X tg g)(hs:swapsWithSole [tg] e pos.line X.env=pure false:=by rfl)(hw:swappedStores [tg] e X.env=pure none:=by rfl)
 (h1:(assignEach [tg] X.env).map (·.2)=[assign tg X.env]:=by rfl):PS X (.Assign [tg] e pos) (qL4 te g):=by
 intro pins s σ H D I h
 refine wpAny_Assign_stores (thn (he pins s σ H _ I h) fun v s1 ⟨x,H1,I1,r1,q1⟩=>?_) hs hw
 rw [h1]
 exact thn (hg pins s1 σ H1 x v _ I1 r1 q1) fun _ s2 q=>q
theorem qF0 {i:Nat}{x:Str}{e:Expr}{te:TE}{pos':Pos}(hN:X.N.Nodup)(hi:X.N[i]? =some x)(hx:Loc X.env.scope x)(he:PE X e te)(hs:swapsWith e (some (.Name x pos')) pos.line X.env=pure false:=by rfl)(hf:X.fn x=true∨X.env.scope.names.lookup x=some .local:=by first | exact .inl rfl | exact .inr rfl | assumption):
 PS X (.Assign [.Name x pos'] e pos) (qL4 te (v8 i)):=by
 intro pins s σ H D I h
 refine wpAny_Assign_Name (thn (he pins s σ H _ I h) fun v s1 ⟨y,H1,I1,r1,q1⟩=>?_) hs
 exact zU I1 hN hi hx r1 (fun s2 I2=>⟨_,H1,I2,q1⟩) hf
inductive qN2 (i:Nat)(j:Nat)(D:qFy)(σ:L2.St)(vs:List V)(H1:Hp):Prop
| mk v w (_:vs=[v,w]) (_:D.nx ((σ.set i (some v)).set j (some w)) H1)
def qOy (i j:Nat)(ta:TA):TS:=fun D σ H=>ta σ H fun vs H1=>qN2 i j D σ vs H1
theorem qM2 {i j:Nat}{x y:Str}{a b:Expr}{ta:TA}{px py pt:Pos}{kt k2 pt2}(hc:X.calm=true)(hN:X.N.Nodup)(hi:X.N[i]? =some x)(hj:X.N[j]? =some y)(hij:i≠j)
 (hx:X.env.scope.names.lookup x=some .local) (hy:X.env.scope.names.lookup y=some .local) (ha:PA X [a,b] ta)
 (hw:swappedStores [.Tuple [.Name x px,.Name y py] kt pt] (.Tuple [a,b] k2 pt2) X.env=pure (some [x,y]))
 (hs:swapsWithSole [.Tuple [.Name x px,.Name y py] kt pt] (.Tuple [a,b] k2 pt2) pos.line X.env=pure false:=by rfl):
 PS X (.Assign [.Tuple [.Name x px,.Name y py] kt pt] (.Tuple [a,b] k2 pt2) pos) (qOy i j ta):=by
 intro pins s σ H D I h
 rw [exec_Assign_arm]
 refine wpAny_bind (wpAny_standAt ?_)
 rw [hs]
 refine wpAny_bind (wpAny_pure ?_)
 rw [if_neg (by decide)]
 refine wpAny_bind (Tuple_ (thn (ha _ pins s σ H _ I h) fun us s1 ⟨vs,H1,I1,r1,q1⟩=>?_))
 obtain⟨v,w,e1,q1⟩:=q1
 subst e1
 obtain⟨u1,u2,rfl,rv,rw'⟩:∃ u1 u2,us=[u1,u2]∧RelV v u1∧RelV w u2:=by
  cases r1 with
  | cons p q=>
   cases q with
   | cons p' q'=>
    cases q'
    exact⟨_,_,rfl,p,p'⟩
 refine wpAny_newObj_type ?_ (by show 2≤sizeLine;decide)
 have I2:Inv X pins σ H1 {s1 with heap:=s1.heap.push {cls:=.type "tuple",data:=.seq [u1,u2].toArray}}:=I1.kept (t':=s1.toks) fun b o e=>Heap.get?_push_of_some _ e
 rw [hw]
 refine wpAny_bind (wpAny_pure ?_)
 show wpAny (model X.prog X.w) X.A (do rule "assign.swapped-stores";let items ← unpackItems (.ref s1.heap.objs.size) 2 none;assignInOrder [fun v=>bindName X.env y v,fun v=>bindName X.env x v] items.reverse;pure Flow.next) _ _ _
 refine wpAny_bind (wpAny_rule (wpAny_bind (unpackItems_tuple (items:=#[u1,u2]) (I.ok.hd hc) (IsTup.new s1.heap _) fun h' hx'=>?_)))
 have I3:=I2.kept (h':=h') (t':=s1.toks) fun b o e=>hx' b o (Nat.ne_of_lt (Heap.lt_size e)) e
 show wpAny _ _ (assignInOrder [fun v=>bindName X.env y v,fun v=>bindName X.env x v] [u2,u1] >>=fun _=>pure Flow.next) _ _ _
 refine wpAny_bind (assignInOrder_cons (wpAny_bindName (zU I3 hN hj (.inl hy) rw' (fun s2 I4=>?_) (.inr hy))))
 refine assignInOrder_cons (wpAny_bindName (zU I4 hN hi (.inl hx) rv (fun s3 I5=>assignInOrder_nil (wpAny_pure ?_)) (.inr hx)))
 rw [List.set_comm _ _ (Ne.symm hij)] at I5
 exact⟨_,H1,I5,q1⟩
end
section
variable {X : Cx} {pos : Pos}
def qKl (c:TT)(tb:TS):TS:=fun D σ H=>∃ W:Nat→St→Hp→Prop,(∃ m,W m σ H)∧∀ m σ H,W m σ H→
 c σ H fun b H1=>if b=true then ∃ N:St→Hp→Prop,(∀ σ' H',N σ' H'→∃ m',m' < m∧W m' σ' H')∧tb {D with nx:=N,ct:=N,bk:=D.nx} σ H1 else D.nx σ H1
theorem wG {c:Expr}{body:List Stmt}{tc:TT}{tb:TS}(hp:PassesOwn (model X.prog X.w) X.A X.env X.xe)(hc:PT X c tc)(hb:PSs X body tb):PS X (.While c body [] pos) (qKl tc tb):=by
 intro pins s σ H D I h
 obtain⟨W,⟨m0,w0⟩,turn⟩:=h
 refine wpAny_While (codeAny_whileLoop (fun n s'=>∃ σ' H',Inv X pins σ' H' s'∧W n σ' H') ?_ m0 ⟨σ,H,I,w0⟩)
 rintro n s1 ⟨σ1,H1,I1,w1⟩
 refine wpAny_passesOwn hp (thn (hc pins s1 σ1 H1 _ I1 (turn n σ1 H1 w1)) fun b s2 ⟨H2,I2,q2⟩=>?_)
 cases b with
 | true=>
  obtain⟨N,hN,q2⟩:=q2
  rw [if_pos rfl]
  refine wpAny_passesOwn hp (thn (hb pins s2 σ1 H2 _ I2 q2) fun f s3 q3=>?_)
  cases f with
  | next=>
   obtain⟨σ3,H3,I3,n3⟩:=q3
   obtain⟨m',hm,w3⟩:=hN σ3 H3 n3
   exact⟨m',hm,σ3,H3,I3,w3⟩
  | cont=>
   obtain⟨σ3,H3,I3,n3⟩:=q3
   obtain⟨m',hm,w3⟩:=hN σ3 H3 n3
   exact⟨m',hm,σ3,H3,I3,w3⟩
  | brk=>exact q3
  | ret v=>exact q3
 | false=>
  rw [if_neg Bool.false_ne_true]
  exact wpAny_execs_nil ⟨σ1,H2,I2,q2⟩
end
structure It where
 go:Nat→Hp→Prop
 yld:Nat→Hp→V→Hp→Prop
 stop:Nat→Hp→Prop
def qJk (X:Cx)(pins:List (Addr × Obj))(H:Hp)(b:Addr):Prop:=
 H b=none∧b≠X.env.locals∧b ∉ X.fs∧(b∈X.ex∨X.s₀.heap.objs.size≤b)∧(∀ x c,X.env.cells.lookup x=some c→c≠b)∧∀ p∈X.pn++pins,p.1≠b
theorem Inv.fpOk {X:Cx}{pins:List (Addr × Obj)}{σ:St}{H H':Hp}{s:Shared}{b:Addr}(I:Inv X pins σ H s)(hb:s.heap.objs.size≤b)(hn:H' b=none):qJk X pins H' b:=by
 refine⟨hn,Nat.ne_of_gt (Nat.lt_of_lt_of_le I.lt hb),I.nofs hb,.inr (Nat.le_trans I.sz hb),fun x c e z=>?_,fun p hp z=>?_⟩
 · obtain⟨v,q⟩:=I.cell x c e
   exact absurd (Nat.lt_of_lt_of_le q.lt (by rw [z];exact hb)) (Nat.lt_irrefl _)
 · exact absurd (Nat.lt_of_lt_of_le (Heap.lt_size (I.pin p hp).1) (by rw [z];exact hb)) (Nat.lt_irrefl _)
structure qL2 (P:Program)(w:World)(K:PySem.W.Frag)(tg:Expr)(J:It)(fp:List Addr)(it:Addr)(tn:Nat→Heap→Prop):Prop where
 mem:it∈fp
 obj:∀ i h,tn i h→∀ b∈fp,∃ o,h.get? b=some o∧∀ v,o.data≠ .cell v
 keep:∀ i h h',tn i h→(∀ b∈fp,∀ o,h.get? b=some o→h'.get? b=some o)→tn i h'
 item:∀ (X:Cx),X.prog=P→X.w=w→X.K=K→X.calm=true→∀ (i:Nat) (pins:List (Addr × Obj)) (s:Shared) (σ:St) (H:Hp) (E:Value→Shared→Prop),Inv X pins σ H s→(∀ b∈fp,qJk X pins H b)→tn i s.heap→J.go i H→
  wpAny (model P w) X.A (pyNext (.ref it)) (fun r s1=>∃ u,r=some u∧
   wpAny (model P w) X.A (letOwnedTupleGo tg (.ref it) u) (fun _ s2=>∃ x H',Inv X pins σ H' s2∧RelV x u∧J.yld i H x H'∧tn (i+1) s2.heap∧∀ b∈fp,H' b=none) E s1) E s
 done:∀ (X:Cx),X.prog=P→X.w=w→X.K=K→X.calm=true→∀ (i:Nat) (pins:List (Addr × Obj)) (s:Shared) (σ:St) (H:Hp) (E:Value→Shared→Prop),Inv X pins σ H s→(∀ b∈fp,qJk X pins H b)→tn i s.heap→J.stop i H→
  wpAny (model P w) X.A (pyNext (.ref it)) (fun r s1=>r=none∧Inv X pins σ H s1) E s
 self:∀ (A:Around) (i:Nat) (s:Shared) (Q:Value→Shared→Prop) (E:Value→Shared→Prop),tn i s.heap→Q (.ref it) s→wpAny (model P w) A (pyIter (.ref it)) Q E s
abbrev TI:=St→Hp→(It→Hp→Prop)→Prop
def PIE (X:Cx)(pins:List (Addr × Obj))(σ:St)(tg:Expr)(R:It→Hp→Prop)(itv:Value)(s2:Shared):Prop:=
 ∃ (it:Addr) (fp:List Addr) (tn:Nat→Heap→Prop) (J:It) (H':Hp),itv= .ref it∧Inv X pins σ H' s2∧qL2 X.prog X.w X.K tg J fp it tn∧tn 0 s2.heap∧(∀ b∈fp,qJk X pins H' b)∧R J H'
def PI (X:Cx)(tg iter:Expr)(wi:TI):Prop:=
 ∀ (pins:List (Addr × Obj)) (s:Shared) (σ:St) (H:Hp) (R:It→Hp→Prop),Inv X pins σ H s→wi σ H R→
  wpAny (model X.prog X.w) X.A (eval iter X.env) (fun v s1=>wpAny (model X.prog X.w) X.A (pyIter v) (PIE X pins σ tg R) X.xe s1) X.xe s
theorem qL1 {M:Model}{A:Around}{E:Value→Shared→Prop}{s:Shared}{tg:Expr}{it:Addr}{u:Value}{o:Obj}{n:String}{vs:Array Value}{Q:Unit→Shared→Prop}(ho:s.heap.get? it=some o)(hc:o.cls= .type n)(hd:o.data= .fields vs)
 (hn:["enumerate","zip","dict_itemiterator","dict_reverseitemiterator","odict_iterator","itertools.zip_longest","itertools.pairwise"].contains n=false) (hQ:Q () s):wpAny M A (letOwnedTupleGo tg (.ref it) u) Q E s:=by
 unfold letOwnedTupleGo
 cases tg <;> first
  | exact wpAny_pure hQ
  | (cases u <;> first
      | exact wpAny_pure hQ
      | (refine wpAny_bind (wpAny_load ho ?_)
         rw [hc,hd]
         show wpAny M A (if (["enumerate","zip","dict_itemiterator","dict_reverseitemiterator","odict_iterator","itertools.zip_longest","itertools.pairwise"].contains n && vs[0]? == some (rawInt _))=true then _ else _) Q E s
         rw [if_neg (by intro h;rw [hn,Bool.false_and] at h;cases h)]
         exact wpAny_pure hQ))
def Itl (K:PySem.W.Frag)(a:Addr):It:=
 ⟨fun i H=>∃ xs x,SqL K H a xs∧xs[i]? =some x,fun i H x H'=>H'=H∧∀ xs,SqL K H a xs→xs[i]? =some x,fun i H=>∃ xs,SqL K H a xs∧xs.length≤i⟩
def Itt (K:PySem.W.Frag)(a:Addr):It:=
 ⟨fun i H=>∃ xs x,SqT K H a xs∧xs[i]? =some x,fun i H x H'=>H'=H∧∀ xs,SqT K H a xs→xs[i]? =some x,fun i H=>∃ xs,SqT K H a xs∧xs.length≤i⟩
def Itr (lo:Int)(n:Nat):It:=⟨fun i _=>i < n,fun i H x H'=>H'=H∧x= .int (lo+i),fun i _=>n≤i⟩
theorem qIo {P:Program}{w:World}{K:PySem.W.Frag}{tg:Expr}(a it:Addr):qL2 P w K tg (Itl K a) [it] it (fun i h=>h.IsListIter it a i) where
 mem:=by simp
 obj:=fun i h st b hb=>by
  have e:b=it:=by simpa using hb
  subst e
  obtain⟨o,e,c,d⟩:=st
  exact⟨o,e,fun v z=>by rw [d] at z;cases z⟩
 keep:=fun i h h' st k=>st.at fun o e=>k it (by simp) o e
 item:=by
  intro X hP hw hK hc i pins s σ H E I hf st hg
  subst hP hw hK
  obtain⟨xs,x,hq,hx⟩:=hg
  obtain⟨its,rv,p,hz⟩:=I.list hq
  obtain⟨u,hu,ru⟩:=rv.get hx
  obtain⟨f0,f1,f2,f3,f4,f5⟩:=hf it (by simp)
  refine wpAny_pyNext_list_item st p.isList (x:=u) (by simpa using hu) fun h' st' sb=>?_
  have I1:Inv X pins σ H {s with heap:=h'}:=I.turned (t':=s.toks) (fun b o hb e=>(sb.2 b hb).trans e) f0 f1 f3 f4 f5
  obtain⟨o,e,c,d⟩:=id st'
  exact⟨u,rfl,qL1 (s:={s with heap:=h'}) e c d (by decide) ⟨x,H,I1,ru,⟨rfl,fun ys hy=>by rw [I.list_inj hy hq];exact hx⟩,st',fun b hb=>(hf b hb).1⟩⟩
 done:=by
  intro X hP hw hK hc i pins s σ H E I hf st hg
  subst hP hw hK
  obtain⟨xs,hq,hx⟩:=hg
  obtain⟨its,rv,p,hz⟩:=I.list hq
  obtain⟨f0,f1,f2,f3,f4,f5⟩:=hf it (by simp)
  have hl:=rv.length
  exact wpAny_pyNext_list_end (I.ok.hd hc) st p.isList (by simp;omega) fun h' eb=>⟨rfl,I.turned (t':=s.toks) (fun b o hb e=>eb b o hb e) f0 f1 f3 f4 f5⟩
 self:=fun _ _ _ _ _ st h=>wpAny_pyIter_listiter st h
theorem qGf {P:Program}{w:World}{K:PySem.W.Frag}{tg:Expr}(a it:Addr):qL2 P w K tg (Itt K a) [it] it (fun i h=>h.IsTupleIter it a i) where
 mem:=by simp
 obj:=fun i h st b hb=>by
  have e:b=it:=by simpa using hb
  subst e
  obtain⟨o,e,c,d⟩:=st
  exact⟨o,e,fun v z=>by rw [d] at z;cases z⟩
 keep:=fun i h h' st k=>st.at fun o e=>k it (by simp) o e
 item:=by
  intro X hP hw hK hc i pins s σ H E I hf st hg
  subst hP hw hK
  obtain⟨xs,x,hq,hx⟩:=hg
  obtain⟨its,rv,p,hz⟩:=I.tuple hq
  obtain⟨u,hu,ru⟩:=rv.get hx
  obtain⟨f0,f1,f2,f3,f4,f5⟩:=hf it (by simp)
  refine wpAny_pyNext_tuple_item st (show s.heap.IsTuple a its.toArray from p) (x:=u) (by simpa using hu) fun h' st' sb=>?_
  have I1:Inv X pins σ H {s with heap:=h'}:=I.turned (t':=s.toks) (fun b o hb e=>(sb.2 b hb).trans e) f0 f1 f3 f4 f5
  obtain⟨o,e,c,d⟩:=id st'
  exact⟨u,rfl,qL1 (s:={s with heap:=h'}) e c d (by decide) ⟨x,H,I1,ru,⟨rfl,fun ys hy=>by rw [I.tuple_inj hy hq];exact hx⟩,st',fun b hb=>(hf b hb).1⟩⟩
 done:=by
  intro X hP hw hK hc i pins s σ H E I hf st hg
  subst hP hw hK
  obtain⟨xs,hq,hx⟩:=hg
  obtain⟨its,rv,p,hz⟩:=I.tuple hq
  obtain⟨f0,f1,f2,f3,f4,f5⟩:=hf it (by simp)
  have hl:=rv.length
  exact wpAny_pyNext_tuple_end (I.ok.hd hc) st (show s.heap.IsTuple a its.toArray from p) (by simp;omega) fun h' eb=>⟨rfl,I.turned (t':=s.toks) (fun b o hb e=>eb b o hb e) f0 f1 f3 f4 f5⟩
 self:=fun _ _ _ _ _ st h=>wpAny_pyIter_tupleiter st h
theorem qGi {P:Program}{w:World}{K:PySem.W.Frag}{tg:Expr}(it:Addr)(lo:Int)(n:Nat):qL2 P w K tg (Itr lo n) [it] it (fun i h=>IsRangeIter h it (lo+(i:Nat)*1) ((n:Int) - (i:Nat)) 1) where
 mem:=by simp
 obj:=fun i h st b hb=>by
  have e:b=it:=by simpa using hb
  subst e
  exact⟨_,st,fun v z=>by
   have z':Data.fields _=Data.cell v:=z
   cases z'⟩
 keep:=fun i h h' st k=>k it (by simp) _ st
 item:=by
  intro X hP hw hK hc i pins s σ H E I hf st hg
  subst hP hw hK
  obtain⟨f0,f1,f2,f3,f4,f5⟩:=hf it (by simp)
  have W:=Walks.range (prog:=X.prog) (w:=X.w) (I.ok.hd hc) it lo 1 n
  refine W.item i s _ _ hg st fun v h' tk hv st' kk=>?_
  obtain⟨t,rfl⟩:=hv
  have I1:Inv X pins σ H {s with heap:=h',toks:=tk}:=I.turned (fun b o hb e=>kk b o (by simpa using hb) e) f0 f1 f3 f4 f5
  refine⟨_,rfl,qL1 (s:={s with heap:=h',toks:=tk}) (n:="range_iterator") st' rfl rfl (by decide) ⟨.int (lo+i),H,I1,⟨t,?_⟩,⟨rfl,rfl⟩,st',fun b hb=>(hf b hb).1⟩⟩
  rw [Int.mul_one]
 done:=by
  intro X hP hw hK hc i pins s σ H E I hf st hg
  subst hP hw hK
  obtain⟨f0,f1,f2,f3,f4,f5⟩:=hf it (by simp)
  exact wpAny_pyNext_range_end (I.ok.hd hc) st (by have:n≤i:=hg;omega) fun h' eb=>⟨rfl,I.turned (t':=s.toks) (fun b o hb e=>eb b o hb e) f0 f1 f3 f4 f5⟩
 self:=fun _ _ _ _ _ st h=>wpAny_pyIter_rangeiter st h
end L2
namespace L2
open PySem PySem.Spec PyProof.Rows
section
variable {X : Cx} {tg : Expr}
inductive qMq (K:PySem.W.Frag)(R:It→Hp→Prop)(x:V)(H1:Hp):Prop
| mk a (_:x= .ref a) (_:(∃ xs,SqL K H1 a xs)) (_:R (Itl K a) H1)
def qNu (K:PySem.W.Frag)(tl:TE):TI:=fun σ H R=>tl σ H fun x H1=>qMq K R x H1
inductive qN3 (K:PySem.W.Frag)(R:It→Hp→Prop)(x:V)(H1:Hp):Prop
| mk a (_:x= .ref a) (_:(∃ xs,SqT K H1 a xs)) (_:R (Itt K a) H1)
def qOv (K:PySem.W.Frag)(tl:TE):TI:=fun σ H R=>tl σ H fun x H1=>qN3 K R x H1
theorem xU {l:Expr}{tl:TE}(hl:PE X l tl):PI X tg l (qNu X.K tl):=by
 intro pins s σ H R I h
 refine thn (hl pins s σ H _ I h) fun v s1 ⟨x,H1,I1,r1,q1⟩=>?_
 obtain⟨a,e,⟨xs,hq⟩,q⟩:=q1
 subst e
 cases r1
 obtain⟨its,rv,p,hz⟩:=I1.list hq
 refine wpAny_pyIter_list p.isList ?_
 refine⟨s1.heap.objs.size,[s1.heap.objs.size],_,_,H1,rfl,I1.kept (t':=s1.toks) fun b o e=>Heap.get?_push_of_some _ e,qIo a _,⟨_,Heap.get?_push_size _ rfl,rfl,rfl⟩,fun b hb=>?_,q⟩
 have e:b=s1.heap.objs.size:=by simpa using hb
 subst e
 exact I1.fpOk (Nat.le_refl _) (I1.hok.fresh (Nat.le_refl _))
theorem qMh {l:Expr}{tl:TE}(hl:PE X l tl):PI X tg l (qOv X.K tl):=by
 intro pins s σ H R I h
 refine thn (hl pins s σ H _ I h) fun v s1 ⟨x,H1,I1,r1,q1⟩=>?_
 obtain⟨a,e,⟨xs,hq⟩,q⟩:=q1
 subst e
 cases r1
 obtain⟨its,rv,p,hz⟩:=I1.tuple hq
 refine wpAny_pyIter_tuple (show s1.heap.IsTuple a its.toArray from p) ?_
 refine⟨s1.heap.objs.size,[s1.heap.objs.size],_,_,H1,rfl,I1.kept (t':=s1.toks) fun b o e=>Heap.get?_push_of_some _ e,qGf a _,⟨_,Heap.get?_push_size _ rfl,rfl,rfl⟩,fun b hb=>?_,q⟩
 have e:b=s1.heap.objs.size:=by simpa using hb
 subst e
 exact I1.fpOk (Nat.le_refl _) (I1.hok.fresh (Nat.le_refl _))
theorem qJ1 {pins:List (Addr × Obj)}{σ:St}{H:Hp}{s:Shared}{R:It→Hp→Prop}{E:Value→Shared→Prop}{lo hi:Int}{t u v:Tok}{tk:Nat}(I:Inv X pins σ H s)(h1:-(2 ^ 62)≤lo)(h2:lo < 2 ^ 62)(h3:-(2 ^ 62)≤hi)(h4:hi < 2 ^ 62)
 (q:R (Itr lo (hi - lo).toNat) H):wpAny (model X.prog X.w) X.A (pyIter (.ref s.heap.objs.size)) (PIE X pins σ tg R) E {s with heap:=s.heap.push {cls:=.type "range",data:=.fields #[.int lo t,.int hi u,.int 1 v]},toks:=tk}:=by
 refine wpAny_pyIter_range (IsRange.new ..) (small_one h1 h2 h3 h4) ?_
 have I1:Inv X pins σ H {s with heap:=s.heap.push {cls:=.type "range",data:=.fields #[.int lo t,.int hi u,.int 1 v]},toks:=tk}:=I.kept fun b o e=>Heap.get?_push_of_some _ e
 refine⟨(s.heap.push {cls:=.type "range",data:=.fields #[.int lo t,.int hi u,.int 1 v]}).objs.size,[(s.heap.push {cls:=.type "range",data:=.fields #[.int lo t,.int hi u,.int 1 v]}).objs.size],_,_,H,rfl,
  I1.kept (t':=tk) fun b o e=>Heap.get?_push_of_some _ e,qGi _ lo (hi - lo).toNat,?_,fun b hb=>?_,q⟩
 · have e1:lo+((0:Nat):Int)*1=lo:=by simp
   have e2:(((hi - lo).toNat:Nat):Int) - ((0:Nat):Int)=Builtin.Range.rangeSize lo hi 1:=by rw [rangeSize_one];split <;> omega
   show IsRangeIter _ _ (lo+((0:Nat):Int)*1) ((((hi - lo).toNat:Nat):Int) - ((0:Nat):Int)) 1
   rw [e1,e2]
   exact Heap.get?_push_size _ rfl
 · have e:b=(s.heap.push {cls:=.type "range",data:=.fields #[.int lo t,.int hi u,.int 1 v]}).objs.size:=by simpa using hb
   subst e
   exact I1.fpOk (Nat.le_refl _) (I1.hok.fresh (Nat.le_refl _))
def qOb (ta:TA):TI:=fun σ H R=>ta σ H fun vs H1=>∃ j:Int,vs=[.int j]∧-(2 ^ 62)≤j∧j < 2 ^ 62∧R (Itr 0 j.toNat) H1
theorem qDf {a:Expr}{ta:TA}{p pos:Pos}(hg:Gl X "range")(hm:X.mg "range"=none)(ha:PA X [a] ta)(hs:starEach [a] X.env=[(false,eval a X.env)]:=by rfl):PI X tg (.Call (.Name "range" p) [a] [] pos) (qOb ta):=by
 intro pins s σ H R I h
 refine Call_ (qA4 I hg hm boot_range (PyProof.Rows.callWith_type1 (thn (ha pos pins s σ H _ I h) fun us s1 ⟨vs,H1,I1,r1,q1⟩=>?_) hs rfl))
 obtain⟨j,e,q1,q2,q⟩:=q1
 subst e
 cases r1 with
 | cons r rr=>
  cases rr
  obtain⟨t,rfl⟩:=r
  exact call_range_1 (qJ1 I1 (by omega) (by omega) q1 q2 (by simpa using q))
def qPb (wi:TI)(g:TG)(tb:TS):TS:=fun D σ H=>wi σ H fun J H1=>∃ W:Nat→Nat→St→Hp→Prop,(∃ m,W 0 m σ H1)∧∀ i m σ H,W i m σ H→
 (J.stop i H∧D.nx σ H)∨(J.go i H∧∃ N:St→Hp→Prop,(∀ σ' H',N σ' H'→∃ m',m' < m∧W (i+1) m' σ' H')∧∀ x H',J.yld i H x H'→g x σ H' fun σ2 H2=>tb {D with nx:=N,ct:=N,bk:=D.nx} σ2 H2)
def qCg (fp:List Addr)(h:Heap):List (Addr × Obj):=fp.filterMap fun b=>(h.get? b).map fun o=>(b,o)
theorem vU {fp:List Addr}{h:Heap}{b:Addr}{o:Obj}(hb:b∈fp)(e:h.get? b=some o):(b,o)∈qCg fp h:=List.mem_filterMap.mpr ⟨b,hb,by rw [e];rfl⟩
theorem qHn {fp:List Addr}{h:Heap}{p:Addr × Obj}(hp:p∈qCg fp h):p.1∈fp∧h.get? p.1=some p.2:=by
 obtain⟨b,hb,e⟩:=List.mem_filterMap.mp hp
 cases q:h.get? b with
 | none=>rw [q] at e;cases e
 | some o=>
  rw [q] at e
  have e':(b,o)=p:=Option.some.inj e
  subst e'
  exact⟨hb,q⟩
theorem Inv.pinned {pins:List (Addr × Obj)}{σ:St}{H:Hp}{s:Shared}{fp:List Addr}(I:Inv X pins σ H s)(hf:∀ b∈fp,qJk X pins H b)(ho:∀ b∈fp,∃ o,s.heap.get? b=some o∧∀ v,o.data≠ .cell v):Inv X (pins++qCg fp s.heap) σ H s:=
 I.pins_of fun p hp=>(List.mem_append.mp hp).elim (fun z=>I.pin p (List.mem_append_right _ z)) fun z=>by
  obtain⟨hb,e⟩:=qHn z
  obtain⟨f0,f1,f2,_⟩:=hf p.1 hb
  obtain⟨o,e',d⟩:=ho p.1 hb
  rw [e] at e';cases e'
  exact⟨e,f0,f1,f2,d⟩
theorem Inv.unpinned {pins pl:List (Addr × Obj)}{σ:St}{H:Hp}{s:Shared}(I:Inv X (pins++pl) σ H s):Inv X pins σ H s:=I.pins_of fun p hp=>I.pin p (List.mem_append_right _ (List.mem_append_left _ hp))
theorem kj {iter:Expr}{body:List Stmt}{wi:TI}{g:TG}{tb:TS}{pos:Pos}(hp:PassesOwn (model X.prog X.w) X.A X.env X.xe)(hc:X.calm=true)(hi:PI X tg iter wi)(hg:PG X tg g)(hb:PSs X body tb)
 (hs:∀ x,foldedSetIterable iter X.env x=pure x:=by intro _;rfl):PS X (.For tg iter body [] pos) (qPb wi g tb):=by
 intro pins s σ H D I h
 refine wpAny_For (thn (hi pins s σ H _ I h) fun v s1 h1=>thn h1 fun itv s2 h2=>?_) hs
 obtain⟨it,fp,tn,J,H2,e,I2,T,st2,f2,W,⟨m0,w0⟩,turn⟩:=h2
 subst e
 have stat:∀ {H':Hp},(∀ b∈fp,H' b=none)→∀ b∈fp,qJk X pins H' b:=fun hn b hb=>⟨hn b hb,(f2 b hb).2⟩
 refine codeAny_forLoop_any (fun n s'=>∃ i σ' H',Inv X pins σ' H' s'∧tn i s'.heap∧(∀ b∈fp,H' b=none)∧W i n σ' H') ?_ m0 ⟨0,σ,H2,I2,st2,fun b hb=>(f2 b hb).1,w0⟩
 rintro n s3 ⟨i,σ3,H3,I3,st3,fr3,w3⟩
 rcases turn i n σ3 H3 w3 with ⟨stop,qn⟩ | ⟨go,N,hN,step⟩
 · refine wpAny_passesOwn hp (thn (T.done X rfl rfl rfl hc i pins s3 σ3 H3 X.xe I3 (stat fr3) st3 stop) fun r s4 ⟨hr,I4⟩=>?_)
   subst hr
   exact wpAny_execs_nil ⟨σ3,H3,I4,qn⟩
 · refine wpAny_passesOwn hp (thn (T.item X rfl rfl rfl hc i pins s3 σ3 H3 X.xe I3 (stat fr3) st3 go) fun r s4 ⟨u,hr,h4⟩=>?_)
   subst hr
   refine wpAny_passesOwn hp (thn h4 fun _ s5 ⟨x,H5,I5,r5,y5,st5,fr5⟩=>?_)
   have I5':=I5.pinned (stat fr5) (T.obj _ _ st5)
   refine wpAny_passesOwn hp (thn (hg _ s5 σ3 H5 x u _ I5' r5 (step x H5 y5)) fun _ s6 ⟨σ6,H6,I6,q6⟩=>?_)
   refine wpAny_passesOwn hp (thn (hb _ s6 σ6 H6 _ I6 q6) fun f s7 q7=>?_)
   have again:∀ {σ7:St} {H7:Hp},Inv X (pins++qCg fp s5.heap) σ7 H7 s7→N σ7 H7→∃ m,m < n∧∃ i σ' H',Inv X pins σ' H' s7∧tn i s7.heap∧(∀ b∈fp,H' b=none)∧W i m σ' H':=fun {σ7 H7} I7 n7=>by
    obtain⟨m',hm,w7⟩:=hN σ7 H7 n7
    refine⟨m',hm,i+1,σ7,H7,I7.unpinned,T.keep _ _ _ st5 fun b hb o e=>(I7.pin (b,o) (List.mem_append_right _ (List.mem_append_right _ (vU hb e)))).1,fun b hb=>?_,w7⟩
    obtain⟨o,e,d⟩:=T.obj _ _ st5 b hb
    exact(I7.pin (b,o) (List.mem_append_right _ (List.mem_append_right _ (vU hb e)))).2.1
   cases f with
   | next=>obtain⟨σ7,H7,I7,n7⟩:=q7;exact again I7 n7
   | cont=>obtain⟨σ7,H7,I7,n7⟩:=q7;exact again I7 n7
   | brk=>obtain⟨σ7,H7,I7,q7⟩:=q7;exact⟨σ7,H7,I7.unpinned,q7⟩
   | ret v=>obtain⟨x7,σ7,H7,I7,r7,q7⟩:=q7;exact⟨x7,σ7,H7,I7.unpinned,r7,q7⟩
end
theorem zZ {K:PySem.W.Frag}{a:Addr}{xs:List V}{g:TG}{tb:TS}{D:qFy}{σ:St}{H:Hp}(Pv:Nat→St→Hp→Prop)(h0:Pv 0 σ H)(hl:∀ i σ H,i≤xs.length→Pv i σ H→SqL K H a xs)
 (hs:∀ i x σ H,xs[i]? =some x→Pv i σ H→g x σ H fun σ2 H2=>tb {D with nx:=Pv (i+1),ct:=Pv (i+1),bk:=D.nx} σ2 H2) (hd:∀ σ H,Pv xs.length σ H→D.nx σ H):
 ∃ W:Nat→Nat→St→Hp→Prop,(∃ m,W 0 m σ H)∧∀ i m σ H,W i m σ H→
  ((Itl K a).stop i H∧D.nx σ H)∨((Itl K a).go i H∧∃ N:St→Hp→Prop,(∀ σ' H',N σ' H'→∃ m',m' < m∧W (i+1) m' σ' H')∧∀ x H',(Itl K a).yld i H x H'→g x σ H' fun σ2 H2=>tb {D with nx:=N,ct:=N,bk:=D.nx} σ2 H2):=by
 refine⟨fun i m σ H=>m=xs.length - i∧i≤xs.length∧Pv i σ H,⟨xs.length,by simp,Nat.zero_le _,h0⟩,?_⟩
 rintro i m σ H ⟨rfl,hi,p⟩
 have q:=hl i σ H hi p
 by_cases hlt:i < xs.length
 · refine .inr ⟨⟨xs,xs[i],q,by simp [hlt]⟩,Pv (i+1),fun σ' H' p'=>⟨xs.length - (i+1),by omega,rfl,hlt,p'⟩,fun x H' y=>?_⟩
   obtain⟨e,y⟩:=y
   subst e
   exact hs i x σ _ (y xs q) p
 · have e:i=xs.length:=by omega
   subst e
   exact .inl ⟨⟨xs,q,Nat.le_refl _⟩,hd σ H p⟩
theorem qHw {lo:Int}{n:Nat}{g:TG}{tb:TS}{D:qFy}{σ:St}{H:Hp}(Pv:Nat→St→Hp→Prop)(h0:Pv 0 σ H)
 (hs:∀ i σ H,i < n→Pv i σ H→g (.int (lo+i)) σ H fun σ2 H2=>tb {D with nx:=Pv (i+1),ct:=Pv (i+1),bk:=D.nx} σ2 H2) (hd:∀ σ H,Pv n σ H→D.nx σ H):
 ∃ W:Nat→Nat→St→Hp→Prop,(∃ m,W 0 m σ H)∧∀ i m σ H,W i m σ H→
  ((Itr lo n).stop i H∧D.nx σ H)∨((Itr lo n).go i H∧∃ N:St→Hp→Prop,(∀ σ' H',N σ' H'→∃ m',m' < m∧W (i+1) m' σ' H')∧∀ x H',(Itr lo n).yld i H x H'→g x σ H' fun σ2 H2=>tb {D with nx:=N,ct:=N,bk:=D.nx} σ2 H2):=by
 refine⟨fun i m σ H=>m=n - i∧i≤n∧Pv i σ H,⟨n,by simp,Nat.zero_le _,h0⟩,?_⟩
 rintro i m σ H ⟨rfl,hi,p⟩
 by_cases hlt:i < n
 · refine .inr ⟨hlt,Pv (i+1),fun σ' H' p'=>⟨n - (i+1),by omega,rfl,hlt,p'⟩,fun x H' y=>?_⟩
   obtain⟨e,y⟩:=y
   subst e y
   exact hs i σ _ hlt p
 · have e:i=n:=by omega
   subst e
   exact .inl ⟨Nat.le_refl _,hd σ H p⟩
theorem wE {c:TT}{tb:TS}{D:qFy}{σ:St}{H:Hp}(Pv:St→Hp→Prop)(μ:St→Hp→Nat)(h0:Pv σ H)
 (hs:∀ σ H,Pv σ H→c σ H fun b H1=>if b=true then tb {D with nx:=fun σ' H'=>Pv σ' H'∧μ σ' H' < μ σ H,ct:=fun σ' H'=>Pv σ' H'∧μ σ' H' < μ σ H,bk:=D.nx} σ H1 else D.nx σ H1)
 (mono:∀ σ H Q Q',(∀ b H1,Q b H1→Q' b H1)→c σ H Q→c σ H Q'):qKl c tb D σ H:=by
 refine⟨fun m σ H=>m=μ σ H∧Pv σ H,⟨_,rfl,h0⟩,?_⟩
 rintro m σ H ⟨rfl,p⟩
 refine mono σ H _ _ (fun b H1 q=>?_) (hs σ H p)
 cases b with
 | true=>exact⟨_,fun σ' H' ⟨p',l⟩=>⟨_,l,rfl,p'⟩,q⟩
 | false=>exact q
end L2
namespace L2
open PySem PySem.Spec PyProof.Rows
abbrev R2:=V→V→Hp→VK→Prop
def OpR (X:Cx)(f:Value→Value→Sem Value)(r:R2):Prop:=
 ∀ (pins:List (Addr × Obj)) (s:Shared) (σ:St) (H:Hp) (x y:V) (v u:Value) (Q:VK),Inv X pins σ H s→RelV x v→RelV y u→r x y H Q→
  wpAny (model X.prog X.w) X.A (f v u) (EP X pins σ Q) X.xe s
def UnR (X:Cx)(f:Value→Sem Value)(r:V→Hp→VK→Prop):Prop:=
 ∀ (pins:List (Addr × Obj)) (s:Shared) (σ:St) (H:Hp) (x:V) (v:Value) (Q:VK),Inv X pins σ H s→RelV x v→r x H Q→
  wpAny (model X.prog X.w) X.A (f v) (EP X pins σ Q) X.xe s
def wg (X:Cx)(f:Value)(r:List V→Hp→VK→Prop):Prop:=
 ∀ (pins:List (Addr × Obj)) (s:Shared) (σ:St) (H:Hp) (xs:List V) (us:List Value) (Q:VK),Inv X pins σ H s→Vals xs us→r xs H Q→
  wpAny (model X.prog X.w) X.A (call f us) (EP X pins σ Q) X.xe s
def tOp (r:R2)(ta tb:TE):TE:=fun σ H Q=>ta σ H fun x H1=>tb σ H1 fun y H2=>r x y H2 Q
def tUn (r:V→Hp→VK→Prop)(ta:TE):TE:=fun σ H Q=>ta σ H fun x H1=>r x H1 Q
inductive rI (C:Int→Int→Prop)(g:Int→Int→V)(x:V)(y:V)(H:Hp)(Q:VK):Prop
| mk i j (_:x= .int i) (_:y= .int j) (_:C i j) (_:Q (g i j) H)
inductive rI0 (g:Int→Int→V)(x:V)(y:V)(H:Hp)(Q:VK):Prop
| mk i j (_:x= .int i) (_:y= .int j) (_:Q (g i j) H)
inductive rU (g:Int→V)(x:V)(H:Hp)(Q:VK):Prop
| mk i (_:x= .int i) (_:Q (g i) H)
section
variable {X : Cx} {a b c : Expr} {ta tb tc : TE} {pos : Pos}
theorem qN0 (ha:PE X a ta)(hb:PE X b tb){pins:List (Addr × Obj)}{s:Shared}{σ:St}{H:Hp}{R:V→V→Hp→Prop}(I:Inv X pins σ H s)
 (h:ta σ H fun x H1=>tb σ H1 fun y H2=>R x y H2) {Q:Value→Shared→Prop} {f:Value→Value→Sem Value}
 (hf:∀ v u s2 x y H2,Inv X pins σ H2 s2→RelV x v→RelV y u→R x y H2→wpAny (model X.prog X.w) X.A (f v u) Q X.xe s2):
 wpAny (model X.prog X.w) X.A (eval a X.env) (fun v s₁=>wpAny (model X.prog X.w) X.A (eval b X.env) (fun u s₂=>wpAny (model X.prog X.w) X.A (f v u) Q X.xe s₂) X.xe s₁) X.xe s:=by
 refine thn (ha pins s σ H _ I h) fun v s1 ⟨x,H1,I1,r1,q1⟩=>?_
 refine thn (hb pins s1 σ H1 _ I1 q1) fun u s2 ⟨y,H2,I2,r2,q2⟩=>?_
 exact hf v u s2 x y H2 I2 r1 r2 q2
theorem qJ {op:Operator}{r:R2}(ho:OpR X (binaryOp op) r)(ha:PE X a ta)(hb:PE X b tb):PE X (.BinOp a op b pos) (tOp r ta tb):=by
 intro pins s σ H Q I h
 exact wpAny_BinOp (qN0 ha hb I h fun v u s2 x y H2 I2 rx ry q=>ho pins s2 σ H2 x y v u Q I2 rx ry q)
theorem v5 {op:UnaryOp}{r:V→Hp→VK→Prop}(ho:UnR X (unaryOp op) r)(ha:PE X a ta):PE X (.UnaryOp op a pos) (tUn r ta):=by
 intro pins s σ H Q I h
 exact UnaryOp_ (thn (ha pins s σ H _ I h) fun v s1 ⟨x,H1,I1,r1,q1⟩=>ho pins s1 σ H1 x v Q I1 r1 q1)
theorem opI {f:Value→Value→Sem Value}{C:Int→Int→Prop}{g:Int→Int→Int}
 (rule:∀ (i j:Int) (t u:Tok) (s:Shared) (Q:Value→Shared→Prop) (E:Value→Shared→Prop),C i j→Q (.int (g i j) s.toks) {s with toks:=s.toks+1}→wpAny (model X.prog X.w) X.A (f (.int i t) (.int j u)) Q E s):
 OpR X f (rI C fun i j=>.int (g i j)):=by
 intro pins s σ H x y v u Q I rx ry h
 obtain⟨i,j,rfl,rfl,hc,q⟩:=h
 obtain⟨t,rfl⟩:=rx
 obtain⟨t',rfl⟩:=ry
 exact rule i j t t' s _ _ hc ⟨.int (g i j),H,I.tok _,⟨_,rfl⟩,q⟩
theorem qOk {f:Value→Value→Sem Value}{g:Int→Int→Int}
 (rule:∀ (i j:Int) (t u:Tok) (s:Shared) (Q:Value→Shared→Prop) (E:Value→Shared→Prop),Q (.int (g i j) s.toks) {s with toks:=s.toks+1}→wpAny (model X.prog X.w) X.A (f (.int i t) (.int j u)) Q E s):
 OpR X f (rI0 fun i j=>.int (g i j)):=by
 intro pins s σ H x y v u Q I rx ry h
 obtain⟨i,j,rfl,rfl,q⟩:=h
 obtain⟨t,rfl⟩:=rx
 obtain⟨t',rfl⟩:=ry
 exact rule i j t t' s _ _ ⟨.int (g i j),H,I.tok _,⟨_,rfl⟩,q⟩
theorem qNc {f:Value→Value→Sem Value}{g:Int→Int→Bool}
 (rule:∀ (i j:Int) (t u:Tok) (s:Shared) (Q:Value→Shared→Prop) (E:Value→Shared→Prop),Q (.bool (g i j)) s→wpAny (model X.prog X.w) X.A (f (.int i t) (.int j u)) Q E s):
 OpR X f (rI0 fun i j=>.bl (g i j)):=by
 intro pins s σ H x y v u Q I rx ry h
 obtain⟨i,j,rfl,rfl,q⟩:=h
 obtain⟨t,rfl⟩:=rx
 obtain⟨t',rfl⟩:=ry
 exact rule i j t t' s _ _ ⟨.bl (g i j),H,I,rfl,q⟩
def qOg (i j:Int):Prop:=0≤j∧j≤1000000∧i.natAbs < 2 ^ 64
def CMul (i j:Int):Prop:=(-(2 ^ 64) < i∧i < 2 ^ 64)∨(-(2 ^ 64) < j∧j < 2 ^ 64)
theorem CMul.ok {i j:Int}(h:CMul i j):IntMulOk i j:=by
 rcases h with ⟨h1,h2⟩ | ⟨h1,h2⟩
 · exact .of_left (intBits_le_64 h1 h2)
 · exact .of_right (intBits_le_64 h1 h2)
theorem qY:OpR X (binaryOp .Add) (rI0 fun i j=>.int (i+j)):=qOk fun _ _ _ _ _ _ _ q=>add_int q
theorem qp:OpR X (binaryOp .Sub) (rI0 fun i j=>.int (i - j)):=qOk fun _ _ _ _ _ _ _ q=>sub_int q
theorem qi:OpR X (binaryOp .Mod) (rI (fun _ j=>j≠0) fun i j=>.int (i.fmod j)):=opI fun _ _ _ _ _ _ _ hc q=>mod_int' hc q
theorem qMp:OpR X (binaryOp .Pow) (rI qOg fun i j=>.int (i ^ j.toNat)):=opI fun _ _ _ _ _ _ _ hc q=>pow_int_small hc.1 hc.2.1 hc.2.2 q
theorem unI {f:Value→Sem Value}{g:Int→Int}
 (rule:∀ (i:Int) (t:Tok) (s:Shared) (Q:Value→Shared→Prop) (E:Value→Shared→Prop),Q (.int (g i) s.toks) {s with toks:=s.toks+1}→wpAny (model X.prog X.w) X.A (f (.int i t)) Q E s):
 UnR X f (rU fun i=>.int (g i)):=by
 intro pins s σ H x v Q I rx h
 obtain⟨i,rfl,q⟩:=h
 obtain⟨t,rfl⟩:=rx
 exact rule i t s _ _ ⟨.int (g i),H,I.tok _,⟨_,rfl⟩,q⟩
theorem xg:UnR X (unaryOp .USub) (rU fun i=>.int (-i)):=unI fun _ _ _ _ _ q=>neg_int q
end
def qOj:V→V→Bool
 | .non,.non=>true | .non,.int _=>true | .int _,.non=>true | .non,.bl _=>true | .bl _,.non=>true | .non,.str _=>true | .str _,.non=>true
 | .int _,.int _=>true | .bl _,.bl _=>true | .str _,.str _=>true | .byt _,.byt _=>true
 | .int _,.str _=>true | .str _,.int _=>true | .bl _,.str _=>true | .str _,.bl _=>true
 | _,_=>false
inductive rEq (x:V)(y:V)(H:Hp)(Q:VK):Prop
| mk (_:qOj x y=true) (_:Q (.bl (decide (x=y))) H)
inductive rNe (x:V)(y:V)(H:Hp)(Q:VK):Prop
| mk (_:qOj x y=true) (_:Q (.bl (!decide (x=y))) H)
theorem qIg {i j:Int}:decide (V.int i=V.int j)=(i == j):=by
 rw [Bool.eq_iff_iff]
 simp
theorem qKr {i j:Bool}:decide (V.bl i=V.bl j)=(i == j):=by
 rw [Bool.eq_iff_iff]
 simp
theorem qHc {i j:Str}:decide (V.str i=V.str j)=(i == j):=by
 rw [Bool.eq_iff_iff]
 simp
theorem qIe {i j:Array UInt8}:decide (V.byt i=V.byt j)=(i.toList == j.toList):=by
 rw [Bool.eq_iff_iff]
 cases i
 cases j
 simp
section
variable {X : Cx} {a b c : Expr} {ta tb tc : TE} {pos : Pos}
theorem qr {pins:List (Addr × Obj)}{σ:St}{H:Hp}{s:Shared}{Q:VK}{k k':Bool}(I:Inv X pins σ H s)(q:Q (.bl k) H)(e:k=k'):EP X pins σ Q (.bool k') s:=by
 subst e
 exact⟨.bl k,H,I,rfl,q⟩
theorem jj:OpR X (compareOp .Eq) rEq:=by
 intro pins s σ H x y v u Q I rx ry h
 obtain⟨hs,q⟩:=h
 cases x with
 | non=>
  cases rx
  cases y with
  | non=>cases ry;exact PySem.EqNone.eq_none_none (qr I q (by simp))
  | bl j=>cases ry;exact PySem.EqNone.eq_none_bool (qr I q (by simp))
  | int j=>obtain⟨t',rfl⟩:=ry;exact PySem.EqNone.eq_none_int (qr I q (by simp))
  | str j=>obtain⟨t',rfl⟩:=ry;exact PySem.EqNone.eq_none_str (qr I q (by simp))
  | _=>exact absurd (show false=true from hs) Bool.false_ne_true
 | bl i=>
  cases rx
  cases y with
  | non=>cases ry;exact PySem.EqNone.eq_bool_none (qr I q (by simp))
  | bl j=>cases ry;exact eq_bool (qr I q qKr)
  | str j=>obtain⟨t',rfl⟩:=ry;exact PySem.EqMixed.eq_bool_str (qr I q (by simp))
  | _=>exact absurd (show false=true from hs) Bool.false_ne_true
 | int i=>
  obtain⟨t,rfl⟩:=rx
  cases y with
  | non=>cases ry;exact PySem.EqNone.eq_int_none (qr I q (by simp))
  | int j=>obtain⟨t',rfl⟩:=ry;exact eq_int (qr I q qIg)
  | str j=>obtain⟨t',rfl⟩:=ry;exact PySem.EqMixed.eq_int_str (qr I q (by simp))
  | _=>exact absurd (show false=true from hs) Bool.false_ne_true
 | str i=>
  obtain⟨t,rfl⟩:=rx
  cases y with
  | non=>cases ry;exact PySem.EqNone.eq_str_none (qr I q (by simp))
  | bl j=>cases ry;exact PySem.EqMixed.eq_str_bool (qr I q (by simp))
  | int j=>obtain⟨t',rfl⟩:=ry;exact PySem.EqMixed.eq_str_int (qr I q (by simp))
  | str j=>obtain⟨t',rfl⟩:=ry;exact eq_str (qr I q qHc)
  | _=>exact absurd (show false=true from hs) Bool.false_ne_true
 | byt i=>
  obtain⟨t,rfl⟩:=rx
  cases y with
  | byt j=>obtain⟨t',rfl⟩:=ry;exact PySem.W.eq_bytes (qr I q qIe)
  | _=>exact absurd (show false=true from hs) Bool.false_ne_true
 | _=>cases y <;> exact absurd (show false=true from hs) Bool.false_ne_true
theorem qA8:OpR X (compareOp .NotEq) rNe:=by
 intro pins s σ H x y v u Q I rx ry h
 obtain⟨hs,q⟩:=h
 cases x with
 | non=>
  cases rx
  cases y with
  | non=>cases ry;exact PySem.EqNone.ne_none_none (qr I q (by simp))
  | bl j=>cases ry;exact PySem.EqNone.ne_none_bool (qr I q (by simp))
  | int j=>obtain⟨t',rfl⟩:=ry;exact PySem.EqNone.ne_none_int (qr I q (by simp))
  | str j=>obtain⟨t',rfl⟩:=ry;exact PySem.EqNone.ne_none_str (qr I q (by simp))
  | _=>exact absurd (show false=true from hs) Bool.false_ne_true
 | bl i=>
  cases rx
  cases y with
  | non=>cases ry;exact PySem.EqNone.ne_bool_none (qr I q (by simp))
  | bl j=>cases ry;exact ne_bool (qr I q (congrArg not qKr))
  | str j=>obtain⟨t',rfl⟩:=ry;exact PySem.EqMixed.ne_bool_str (qr I q (by simp))
  | _=>exact absurd (show false=true from hs) Bool.false_ne_true
 | int i=>
  obtain⟨t,rfl⟩:=rx
  cases y with
  | non=>cases ry;exact PySem.EqNone.ne_int_none (qr I q (by simp))
  | int j=>obtain⟨t',rfl⟩:=ry;exact ne_int (qr I q (congrArg not qIg))
  | str j=>obtain⟨t',rfl⟩:=ry;exact PySem.EqMixed.ne_int_str (qr I q (by simp))
  | _=>exact absurd (show false=true from hs) Bool.false_ne_true
 | str i=>
  obtain⟨t,rfl⟩:=rx
  cases y with
  | non=>cases ry;exact PySem.EqNone.ne_str_none (qr I q (by simp))
  | bl j=>cases ry;exact PySem.EqMixed.ne_str_bool (qr I q (by simp))
  | int j=>obtain⟨t',rfl⟩:=ry;exact PySem.EqMixed.ne_str_int (qr I q (by simp))
  | str j=>obtain⟨t',rfl⟩:=ry;exact ne_str (qr I q (congrArg not qHc))
  | _=>exact absurd (show false=true from hs) Bool.false_ne_true
 | byt i=>
  obtain⟨t,rfl⟩:=rx
  cases y with
  | byt j=>obtain⟨t',rfl⟩:=ry;exact PySem.W.ne_bytes (qr I q (congrArg not qIe))
  | _=>exact absurd (show false=true from hs) Bool.false_ne_true
 | _=>cases y <;> exact absurd (show false=true from hs) Bool.false_ne_true
theorem xL:OpR X (compareOp .Lt) (rI0 fun i j=>.bl (decide (i < j))):=qNc fun _ _ _ _ _ _ _ q=>lt_int q
theorem qAm:OpR X (compareOp .LtE) (rI0 fun i j=>.bl (decide (i≤j))):=qNc fun _ _ _ _ _ _ _ q=>le_int q
theorem qG2:OpR X (compareOp .Gt) (rI0 fun i j=>.bl (decide (j < i))):=qNc fun _ _ _ _ _ _ _ q=>gt_int q
theorem qJj:OpR X (compareOp .GtE) (rI0 fun i j=>.bl (decide (j≤i))):=qNc fun _ _ _ _ _ _ _ q=>ge_int q
theorem OpR.or {f:Value→Value→Sem Value}{r r':R2}(h:OpR X f r)(h':OpR X f r'):OpR X f (fun x y H Q=>r x y H Q∨r' x y H Q):=by
 intro pins s σ H x y v u Q I rx ry q
 rcases q with q | q
 · exact h pins s σ H x y v u Q I rx ry q
 · exact h' pins s σ H x y v u Q I rx ry q
theorem qS (b:Expr){op:CmpOp}(h:op≠ .In:=by decide)(h2:op≠ .NotIn:=by decide):behindInMarks op b=false:=by
 have e1:(op == CmpOp.In)=false:=by cases op <;> first | rfl | exact absurd rfl h
 have e2:(op == CmpOp.NotIn)=false:=by cases op <;> first | rfl | exact absurd rfl h2
 cases b <;> simp [behindInMarks,e1,e2]
theorem zF {op:CmpOp}{r:R2}(ho:OpR X (compareOp op) r)(ha:PE X a ta)(hb:PE X b tb)(hm:behindInMarks op b=false):PE X (.Compare a [op] [b] pos) (tOp r ta tb):=by
 intro pins s σ H Q I h
 exact wpAny_Compare1 (qN0 ha hb I h fun v u s2 x y H2 I2 rx ry q=>ho pins s2 σ H2 x y v u Q I2 rx ry q) hm
inductive qMy (Q:Bool→Hp→Prop)(x:V)(H':Hp):Prop
| mk k (_:x= .bl k) (_:Q k H')
def qMe (t:TE):TT:=fun σ H Q=>t σ H fun x H'=>qMy Q x H'
theorem qO {op:CmpOp}{r:R2}(ho:OpR X (compareOp op) r)(ha:PE X a ta)(hb:PE X b tb)(hm:behindInMarks op b=false):PT X (.Compare a [op] [b] pos) (qMe (tOp r ta tb)):=by
 intro pins s σ H Q I h
 refine wpAny_isTrue_Compare1 (thn (ha pins s σ H _ I h) fun v s1 ⟨x,H1,I1,r1,q1⟩=>thn (hb pins s1 σ H1 _ I1 q1) fun u s2 ⟨y,H2,I2,r2,q2⟩=>
  thn (ho pins s2 σ H2 x y v u _ I2 r1 r2 q2) fun c s3 ⟨z,H3,I3,r3,k,e,q3⟩=>?_) hm
 subst e
 cases r3
 exact wpAny_truthy_bool ⟨H3,I3,q3⟩
def qKm (r r':R2)(ta tb tc:TE):TE:=fun σ H Q=>ta σ H fun x H1=>tb σ H1 fun y H2=>r x y H2 fun z H3=>∃ k,z= .bl k∧
 (if k=true then tc σ H3 fun w' H4=>r' y w' H4 Q else Q (.bl false) H3)
theorem qJh {op op':CmpOp}{r r':R2}(ho:OpR X (compareOp op) r)(ho':OpR X (compareOp op') r')(ha:PE X a ta)(hb:PE X b tb)(hc:PE X c tc)
 (hm:lastMarks [op,op'] [b,c]=false:=by with_unfolding_all rfl):PE X (.Compare a [op,op'] [b,c] pos) (qKm r r' ta tb tc):=by
 intro pins s σ H Q I h
 refine Compare_chain (thn (ha pins s σ H _ I h) fun v s1 ⟨x,H1,I1,r1,q1⟩=>chain_link (thn (hb pins s1 σ H1 _ I1 q1) fun u s2 ⟨y,H2,I2,r2,q2⟩=>
  thn (ho pins s2 σ H2 x y v u _ I2 r1 r2 q2) fun d s3 ⟨z,H3,I3,r3,k,e,q3⟩=>?_)) hm
 subst e
 cases r3
 refine wpAny_truthy_bool ?_
 cases k with
 | false=>exact ite_ff ⟨.bl false,H3,I3,rfl,q3⟩
 | true=>exact ite_tt (chain_last (thn (hc pins s3 σ H3 _ I3 q3) fun w' s4 ⟨z',H4,I4,r4,q4⟩=>ho' pins s4 σ H4 y z' u w' Q I4 r2 r4 q4))
theorem wJ {op op':CmpOp}{r r':R2}(ho:OpR X (compareOp op) r)(ho':OpR X (compareOp op') r')(ha:PE X a ta)(hb:PE X b tb)(hc:PE X c tc)
 (hm:lastMarks [op,op'] [b,c]=false:=by with_unfolding_all rfl):PT X (.Compare a [op,op'] [b,c] pos) (qMe (qKm r r' ta tb tc)):=by
 intro pins s σ H Q I h
 refine isTrue_chain (thn (ha pins s σ H _ I h) fun v s1 ⟨x,H1,I1,r1,q1⟩=>test_link (thn (hb pins s1 σ H1 _ I1 q1) fun u s2 ⟨y,H2,I2,r2,q2⟩=>
  thn (ho pins s2 σ H2 x y v u _ I2 r1 r2 q2) fun d s3 ⟨z,H3,I3,r3,k,e,q3⟩=>?_)) hm
 subst e
 cases r3
 refine wpAny_truthy_bool ?_
 cases k with
 | false=>
  obtain⟨k',e',q'⟩:=q3
  cases e'
  exact ite_ff ⟨H3,I3,q'⟩
 | true=>
  refine ite_tt (test_last (thn (hc pins s3 σ H3 _ I3 q3) fun w' s4 ⟨z',H4,I4,r4,q4⟩=>thn (ho' pins s4 σ H4 y z' u w' _ I4 r2 r4 q4) fun d' s5 ⟨z2,H5,I5,r5,k2,e2,q5⟩=>?_))
  subst e2
  cases r5
  exact wpAny_truthy_bool ⟨H5,I5,q5⟩
theorem qFc:(sizeLine:Nat) < 2 ^ 63:=by rw [sizeLine_eq];decide
theorem qF9 {x:V}{us:List Value}(r:Vals [x] us):∃ u,us=[u]∧RelV x u:=by
 cases r with
 | cons r1 r2=>cases r2;exact⟨_,rfl,r1⟩
theorem qMr {x y:V}{us:List Value}(r:Vals [x,y] us):∃ u w',us=[u,w']∧RelV x u∧RelV y w':=by
 cases r with
 | cons r1 r2=>
  cases r2 with
  | cons r3 r4=>cases r4;exact⟨_,_,rfl,r1,r3⟩
theorem jg:wg X (.builtin "abs") (fun xs H Q=>∃ i,xs=[.int i]∧Q (.int (if i < 0 then -i else i)) H):=by
 intro pins s σ H xs us Q I r h
 obtain⟨i,rfl,q⟩:=h
 obtain⟨u,rfl,t,rfl⟩:=qF9 r
 exact call_abs_int fun u tk=>⟨.int (if i < 0 then -i else i),H,I.tok _,⟨_,rfl⟩,q⟩
theorem wT (hc:X.calm=true):wg X (.builtin "min") (fun xs H Q=>∃ i j,xs=[.int i,.int j]∧Q (.int (if j < i then j else i)) H):=by
 intro pins s σ H xs us Q I r h
 obtain⟨i,j,rfl,q⟩:=h
 obtain⟨u,w',rfl,⟨t,rfl⟩,⟨t',rfl⟩⟩:=qMr r
 refine min_two_ints (I.ok.hd hc) fun h' tk k=>⟨_,H,I.kept k,?_,q⟩
 by_cases hj:j < i
 · rw [if_pos hj,if_pos hj];exact⟨_,rfl⟩
 · rw [if_neg hj,if_neg hj];exact⟨_,rfl⟩
end
end L2
namespace L2
open PySem PySem.Spec PyProof.Rows
structure ObjM (h:Heap)(x dx C:Addr)(mA:Str→Option Value):Prop where
 obj:h.get? x=some (PySem.W.instObj C dx)
 ns:h.Ns1 dx mA
 ne:dx≠x
theorem qH1 {h:Heap}{dx:Addr}{mA:Str→Option Value}(n:h.Ns1 dx mA):∃ od,h.get? dx=some od∧∀ name,PySem.W.lookIn name od=some (mA name):=by
 obtain⟨o,es,ep,ho,hd,hk,_,hm⟩:=n
 refine⟨o,ho,fun name=>?_⟩
 have e:=hm name
 unfold nsFind findBy at e
 rw [← Array.find?_toList] at e
 unfold PySem.W.lookIn
 rw [hd]
 dsimp only
 split
 · rename_i y q
   rw [q] at e
   exact congrArg some e
 · rename_i q
   rw [q] at e
   have a:es.toList.any (·.refKey)=false:=by
    rw [List.any_eq_false]
    intro y hy
    obtain⟨z,t,hkey⟩:=hk y (Array.mem_toList_iff.mp hy)
    simp [DictEntry.refKey,hkey]
   have a':¬ es.toList.any (·.refKey)=true:=by rw [a];exact Bool.false_ne_true
   rw [if_neg a']
   exact congrArg some e
theorem ObjM.look {h:Heap}{x dx C:Addr}{mA:Str→Option Value}(I:ObjM h x dx C mA):∃ od,PySem.W.InstAt h x (PySem.W.instObj C dx) C (some od)∧∀ name,PySem.W.lookIn name od=some (mA name):=
 let ⟨od,ho,hl⟩:=qH1 I.ns
 ⟨od,⟨I.obj,rfl,rfl,ho⟩,hl⟩
section
variable {prog : Program} {w : World} {A : Around} {E : Value → Shared → Prop} {s : Shared} {K : PySem.W.Frag} {x dx C f : Addr} {mA : Str → Option Value} {name : Str} {v : Value}
end
theorem RelO.some_of {v:V}{o:Option Value}(r:RelO (some v) o):∃ u,o=some u∧RelV v u:=by
 cases o with
 | none=>exact(show False from r).elim
 | some u=>exact⟨u,rfl,r⟩
section
variable {P : Program} {w : World} {H H' : Hp} {h h' : Heap} {a C dx : Addr} {fs fs' : List (Str × V)}
theorem qLw (hok:HOk P w H h)(e:H a=some (.ins C dx fs)):∃ mA,ObjM h a dx C mA∧(∀ f,RelO (fs.lookup f) (mA f))∧PySem.Within mA (fs.map (·.1))∧fs.length≤1000∧H dx=some (.own a):=by
 obtain⟨d,z,ne,ob,mA,n,r,q⟩:=(show ObjOk P w H h a (.ins C dx fs) from hok a _ e)
 exact⟨mA,⟨ob,n,ne⟩,r,q,z,d⟩
end
structure Cls (K:PySem.W.Frag)(C:Addr):Prop where
 pg:PySem.W.plainGet K C Str.empty=true
 hd:PySem.W.hasDictIn K C=true
 po:PySem.W.plainOver K C=true
 sa:PySem.W.findIn K (.ref C) "__setattr__"=some (some (.builtin "object.__setattr__"))
theorem Cls.get {K:PySem.W.Frag}{C:Addr}(c:Cls K C)(f:Str):PySem.W.plainGet K C f=true:=c.pg
section
variable {X : Cx} {pins : List (Addr × Obj)} {σ : St} {H : Hp} {s : Shared} {a C dx : Addr} {fs : List (Str × V)} {f : Str} {v : V} {A : Around} {E : Value → Shared → Prop}
theorem Inv.made (I:Inv X pins σ H s):Inv X pins σ (upd (upd H s.heap.objs.size (.own (s.heap.objs.size+1))) (s.heap.objs.size+1) (.ins C s.heap.objs.size []))
 {s with heap:=(s.heap.push PySem.W.emptyDict).push (PySem.W.instObj C s.heap.objs.size)}:=by
 have e1:(s.heap.push PySem.W.emptyDict).get? s.heap.objs.size=some PySem.W.emptyDict:=Heap.get?_push_size s.heap rfl
 have e2:((s.heap.push PySem.W.emptyDict).push (PySem.W.instObj C s.heap.objs.size)).get? (s.heap.objs.size+1)=some (PySem.W.instObj C s.heap.objs.size):=by
  have:=Heap.get?_push_size (s.heap.push PySem.W.emptyDict) (o:=PySem.W.instObj C s.heap.objs.size) rfl
  rwa [Heap.size_push] at this
 have e3:(s.heap.push PySem.W.emptyDict).Ns s.heap.objs.size (fun _=>none):=⟨PySem.W.emptyDict,#[],_,e1,rfl,(fun e he=>absurd he (by simp)),fun _=>rfl⟩
 have I1:=I.laid (a:=s.heap.objs.size) (o:=.own (s.heap.objs.size+1)) (h':=s.heap.push PySem.W.emptyDict) (t':=s.toks) (fun b u q=>Heap.get?_push_of_some _ q) (Nat.le_refl _) ⟨_,e1⟩
 refine I1.laid (a:=s.heap.objs.size+1) (o:=.ins C s.heap.objs.size []) (t':=s.toks) (fun b u q=>Heap.get?_push_of_some _ q) (Nat.le_of_eq (Heap.size_push _ _)) ?_
 have ne:s.heap.objs.size≠s.heap.objs.size+1:=Nat.ne_of_lt (Nat.lt_succ_self _)
 refine⟨by rw [qR ne,qD],Nat.zero_le _,ne,e2,fun _=>none,(Heap.Ns1.of_empty e3).at fun o q=>Heap.get?_push_of_some _ q,fun _=>True.intro,fun y hy=>absurd rfl hy⟩
theorem qLy {prog:Program}{w:World}{env:Env}{e:Expr}{f:Str}{pos:Pos}{s:Shared}{Q:Value→Shared→Prop}(hb:attributeBase e f env (eval e env)=eval e env)
 (h:wpAny (model prog w) A (eval e env) (fun o s₁=>wpAny (model prog w) A (getAttr o f true) Q E s₁) E s):wpAny (model prog w) A (eval (.Attribute e f pos) env) Q E s:=
 Attribute_any_ h (by rw [arm_eval_Attribute,hb])
end
section
variable {X : Cx} {o e value : Expr} {f : Str} {pos pos' tpos : Pos} {ta tv : TE}
end
section
variable {X : Cx} {pins : List (Addr × Obj)} {σ : St} {H : Hp} {s : Shared} {A : Around} {E : Value → Shared → Prop} {Q : Value → Shared → Prop} {c : Value} {b : Bool}
inductive qFe (K:PySem.W.Frag)(H:Hp):V→Value→Prop where
 | non:qFe K H .non (.type "NoneType")
 | bl (x:Bool):qFe K H (.bl x) (.type "bool")
 | int (i:Int):qFe K H (.int i) (.type "int")
 | str (x:Str):qFe K H (.str x) (.type "str")
 | flt (x:UInt64):qFe K H (.flt x) (.type "float")
 | lst {a:Addr} {xs:List V} (e:H a=some (.lst xs)):qFe K H (.ref a) (.type "list")
 | frz {a:Addr} {o:Obj} {xs:List V} (e:H a=some (.frz o (.lst xs))):qFe K H (.ref a) (.type "list")
 | tup {a:Addr} {xs:List V} (e:H a=some (.tup xs)):qFe K H (.ref a) (.type "tuple")
 | dK {a:Addr} {kvs:List (Key × V)} (e:H a=some (.dK kvs)):qFe K H (.ref a) (.type "dict")
 | dT {a:Addr} {kvs:List (List Key × V)} (e:H a=some (.dT kvs)):qFe K H (.ref a) (.type "dict")
 | ins {a C dx:Addr} {fs:List (Str × V)} (e:H a=some (.ins C dx fs)) (cl:Cls K C) (ha:PySem.W.findIn K (.ref C) "__class__"=some (some (.builtin "object.__class__")))
  (hn:PySem.W.specialIn K (.builtin "object.__class__") "__get__"=some (some (.builtin "getset_descriptor.__get__"))) (htk:PySem.W.takesIn K (.builtin "object.__class__")=some true)
  (hm:PySem.W.mroIn K C (.type "object")=some true):qFe K H (.ref a) (.ref C)
theorem qCx {x:V}{u t:Value}(I:Inv X pins σ H s)(rx:RelV x u)(ty:qFe X.K H x t)(e:PySem.W.kitOne X.K t c=some b)(h:∀ tk,Q (.bool b) {s with toks:=tk}):
 wpAny (model X.prog X.w) A (call (.builtin "isinstance") [u,c]) Q E s:=by
 cases ty with
 | non=>cases (show u=Value.none from rx);exact PySem.W.kia_one PySem.W.kitx_none I.kIn True.intro e (fun z=>nomatch z) h
 | bl y=>cases (show u=Value.bool y from rx);exact PySem.W.kia_one PySem.W.kitx_bool I.kIn True.intro e (fun z=>nomatch z) h
 | int i=>obtain⟨t,q⟩:=(show ∃ t,u=Value.int i t from rx);cases q;exact PySem.W.kia_one PySem.W.kitx_int I.kIn True.intro e (fun z=>nomatch z) h
 | str y=>obtain⟨t,q⟩:=(show ∃ t,u=Value.str y t from rx);cases q;exact PySem.W.kia_one PySem.W.kitx_str I.kIn True.intro e (fun z=>nomatch z) h
 | flt y=>obtain⟨t,q⟩:=(show ∃ t,u=Value.float y t from rx);cases q;exact PySem.W.kia_one PySem.W.kitx_float I.kIn True.intro e (fun z=>nomatch z) h
 | @lst a xs ea=>
  cases (show u=Value.ref a from rx)
  obtain⟨_,_,n,_,h1⟩:=(show ObjOk X.prog X.w H s.heap a (.lst xs) from I.hok a _ ea)
  exact PySem.W.kia_one PySem.W.kitx_list I.kIn ⟨_,h1,rfl⟩ e (fun z=>nomatch z) h
 | @frz a ob xs ea=>
  cases (show u=Value.ref a from rx)
  obtain⟨_,_,_,n,_,h1⟩:=(show ObjOk X.prog X.w H s.heap a (.frz ob (.lst xs)) from I.hok a _ ea)
  exact PySem.W.kia_one PySem.W.kitx_list I.kIn ⟨_,h1,rfl⟩ e (fun z=>nomatch z) h
 | @tup a xs ea=>
  cases (show u=Value.ref a from rx)
  obtain⟨_,_,_,p⟩:=(show ObjOk X.prog X.w H s.heap a (.tup xs) from I.hok a _ ea)
  obtain⟨o,h1,h2,_⟩:=p
  exact PySem.W.kia_one PySem.W.kitx_tuple I.kIn ⟨o,h1,h2⟩ e (fun z=>nomatch z) h
 | @dK a kvs ea=>
  cases (show u=Value.ref a from rx)
  obtain⟨_,_,vs,_,p⟩:=(show ObjOk X.prog X.w H s.heap a (.dK kvs) from I.hok a _ ea)
  obtain⟨o,es,ep,h1,h2,_⟩:=p
  exact PySem.W.kia_one PySem.W.kitx_dict I.kIn ⟨o,h1,h2.1⟩ e (fun z=>nomatch z) h
 | @dT a kvs ea=>
  cases (show u=Value.ref a from rx)
  obtain⟨_,_,xs,_,o,es,ep,h1,h2,_⟩:=(show ObjOk X.prog X.w H s.heap a (.dT kvs) from I.hok a _ ea)
  exact PySem.W.kia_one PySem.W.kitx_dict I.kIn ⟨o,h1,h2.1⟩ e (fun z=>nomatch z) h
 | @ins a C dx fs ea cl ha hn htk hm=>
  cases (show u=Value.ref a from rx)
  obtain⟨mA,O,_⟩:=qLw I.hok ea
  obtain⟨od,J,_⟩:=O.look
  exact PySem.W.kia_one (PySem.W.kitx_own (cl.get _) cl.hd ha hn htk hm) I.kIn J e (fun z=>nomatch z) h
end
end L2
namespace L2
open PySem PySem.Spec PyProof.Rows
structure Room (k:Nat)(A:Around):Prop where
 hd:A.handled=none
 dp:A.depth+3*k+5 < recursionLimit
 un:A.units+16*k+200 < cLine
theorem Room.mono {j k:Nat}{A:Around}(r:Room k A)(h:j≤k):Room j A:=⟨r.hd,by have:=r.dp;omega,by have:=r.un;omega⟩
theorem Room.deeper {k:Nat}{A:Around}(r:Room (k+1) A)(env:Env):Room k (A.deeper env):=
 ⟨r.hd,by have:=r.dp;show A.depth+1+3*k+5 < _;omega,by have:=r.un;show A.units+3+16*k+200 < _;omega⟩
theorem Room.in1 {k:Nat}{A:Around}(r:Room (k+1) A):Room k A.in1:=
 ⟨r.hd,by have:=r.dp;show A.depth+3*k+5 < _;omega,by have:=r.un;show A.units+1+16*k+200 < _;omega⟩
theorem qGm {A:Around}{C:Addr}{us:List Value}{kw:List (Str × Value)}:(A.under (.builtin "type.__call__" ⟨.ref C::us,kw⟩)).depth=A.depth+1:=by
 first | rfl | simp [Around.under,Code.weight,Code.isCreation,Code.isGuard,Code.isCaller,Code.frames,Code.isFrame,guardIds]
theorem qGd {A:Around}{C:Addr}{us:List Value}{kw:List (Str × Value)}:(A.under (.builtin "type.__call__" ⟨.ref C::us,kw⟩)).units=A.units+1:=by
 first | rfl | simp [Around.under,Code.cUnits,Code.frames,Code.isFrame]
theorem Room.make {k:Nat}{A:Around}(r:Room (k+1) A)(C:Addr)(us:List Value)(kw:List (Str × Value)):Room k (A.under (.builtin "type.__call__" ⟨.ref C::us,kw⟩)):=
 ⟨r.hd,by have:=r.dp;rw [qGm];omega,by have:=r.un;rw [qGd];omega⟩
theorem Room.depth {k:Nat}{A:Around}(r:Room k A):A.depth < recursionLimit:=by have:=r.dp;omega
theorem Room.units {k:Nat}{A:Around}(r:Room k A):A.units+64 < cLine:=by have:=r.un;omega
theorem Room.units0 {k:Nat}{A:Around}(r:Room k A):A.units < cLine:=by have:=r.un;omega
def qOt:TA:=fun _ H Q=>Q [] H
def qOd (ta:TE)(tr:TA):TA:=fun σ H Q=>ta σ H fun x H1=>tr σ H1 fun xs H2=>Q (x::xs) H2
section
variable {X : Cx} {e : Expr} {es : List Expr} {te : TE} {t : TA} {pos : Pos}
theorem qC:PA X [] qOt:=fun _ _ _ _ H Q I h=>Calls.spliced_nil ⟨[],H,I,.nil,h⟩
theorem qA (ha:PE X e te)(hr:PA X es t)(hs:starEach (e::es) X.env=(false,eval e X.env)::starEach es X.env:=by rfl):PA X (e::es) (qOd te t):=by
 intro pos pins s σ H Q I h
 rw [hs]
 show wpAny _ _ (spliced ((false,eval e X.env)::backTo pos (starEach es X.env))) _ _ s
 refine Calls.spliced_cons (thn (ha pins s σ H _ I h) fun u s1 ⟨x,H1,I1,r1,q1⟩=>?_)
 exact thn (hr pos pins s1 σ H1 _ I1 q1) fun us s2 ⟨xs,H2,I2,r2,q2⟩=>⟨x::xs,H2,I2,.cons r1 r2,q2⟩
inductive qNl (Q:VK)(xs:List V)(H1:Hp):Prop
| mk (_:xs.length≤sizeLine) (_:∀ p,H1 p=none→Q (.ref p) (upd H1 p (.tup xs)))
def qO8 (t:TA):TE:=fun σ H Q=>t σ H fun xs H1=>qNl Q xs H1
inductive qNw (Q:VK)(xs:List V)(H1:Hp):Prop
| mk (_:xs.length≤sizeLine) (_:∀ p,H1 p=none→Q (.ref p) (upd H1 p (.lst xs)))
def qO1 (t:TA):TE:=fun σ H Q=>t σ H fun xs H1=>qNw Q xs H1
theorem jI {x1}(h:PA X es t):PE X (.Tuple es x1 pos) (qO8 t):=by
 intro pins s σ H Q I hq
 refine wpAny_Tuple_spliced (thn (h pos pins s σ H _ I hq) fun us s1 ⟨xs,H1,I1,r,z,q⟩=>⟨by rw [← r.length];exact z,?_⟩)
 have hf:H1 s1.heap.objs.size=none:=I1.hok.fresh (Nat.le_refl _)
 refine⟨.ref s1.heap.objs.size,upd H1 s1.heap.objs.size (.tup xs),I1.laid (t':=s1.toks) (fun b u e=>Heap.get?_push_of_some _ e) (Nat.le_refl _) ?_,rfl,q _ hf⟩
 exact⟨z,us,r,⟨_,Heap.get?_push_size _ rfl,rfl,_,rfl⟩⟩
theorem jU (h:PA X es t):PE X (.List es pos) (qO1 t):=by
 intro pins s σ H Q I hq
 refine wpAny_List_spliced (thn (h pos pins s σ H _ I hq) fun us s1 ⟨xs,H1,I1,r,z,q⟩=>⟨by rw [← r.length];exact z,?_⟩)
 have hf:H1 s1.heap.objs.size=none:=I1.hok.fresh (Nat.le_refl _)
 refine⟨.ref s1.heap.objs.size,upd H1 s1.heap.objs.size (.lst xs),I1.laid (t':=s1.toks) (fun b u e=>Heap.get?_push_of_some _ e) (Nat.le_refl _) ?_,rfl,q _ hf⟩
 exact⟨z,us,0,r,Heap.get?_push_size _ rfl⟩
end
abbrev Sp:=List V→Hp→VK→XK→Prop
abbrev CXT:=List Env→Hp→Shared→XK→Value→Shared→Prop
structure Env0 (P:Program)(w:World)(K:PySem.W.Frag)(mg:Str→Option Value)(base:Heap)(A:Around)(outer:List Env)(s:Shared)(H:Hp):Prop where
 frames:A.frames=some outer
 mod:Mod K mg base
 bs:∀ b o,base.get? b=some o→s.heap.get? b=some o∧H b=none
 bsz:base.objs.size≤s.heap.objs.size
 funs:s.heap.FunFrames base outer
 frf:∀ b∈frs outer,H b=none
 hok:HOk P w H s.heap
 bare:AllBare s.gens
def CE (outer:List Env)(P:Program)(w:World)(H:Hp)(s:Shared)(Q:VK)(u:Value)(s':Shared):Prop:=
 ∃ v H',s'.os=s.os∧AllBare s'.gens∧Un (frs outer) [] H H' s.heap s'.heap∧HOk P w H' s'.heap∧RelV v u∧Q v H'
def CR (CX:CXT)(outer:List Env)(P:Program)(w:World)(H:Hp)(s:Shared)(Q:VK)(E:XK)(r:Result)(s':Shared):Prop:=
 match r with
 | .ok (.ret u)=>CE outer P w H s Q u s'
 | .ok _=>False
 | .error e=>CX outer H s E e s'
structure FnOk (P:Program)(w:World)(K:PySem.W.Frag)(mg:Str→Option Value)(base:Heap)(CX:CXT)(k:Nat)(f:Addr)(fd:FuncData)(ps:List Str)(sp:Sp):Prop where
 len:∀ vs H Q E,sp vs H Q E→vs.length=ps.length
 run:∀ (A:Around) (outer:List Env) (s:Shared) (H:Hp) (args:Args) (us:List Value) (vs:List V) (Q:VK) (E:XK),Room k A→Env0 P w K mg base A outer s H→BindsTo s fd args (ps.zip us)→Vals vs us→sp vs H Q E→
  codeAny (model P w) A (.call (.ref f) args) (CR CX outer P w H s Q E) s
theorem FnOk.imp {P:Program}{w:World}{K:PySem.W.Frag}{mg:Str→Option Value}{base:Heap}{CX:CXT}{k:Nat}{f:Addr}{fd:FuncData}{ps:List Str}{sp sp':Sp}(F:FnOk P w K mg base CX k f fd ps sp)
 (h:∀ vs H Q E,sp' vs H Q E→sp vs H Q E):FnOk P w K mg base CX k f fd ps sp':=
 ⟨fun vs H Q E q=>F.len vs H Q E (h _ _ _ _ q),fun A outer s H args us vs Q E hr he hb hv hs=>F.run A outer s H args us vs Q E hr he hb hv (h _ _ _ _ hs)⟩
theorem Env0.make {P:Program}{w:World}{K:PySem.W.Frag}{mg:Str→Option Value}{base:Heap}{A:Around}{outer:List Env}{s:Shared}{H:Hp}(e:Env0 P w K mg base A outer s H)(C:Addr)(us:List Value)(kw:List (Str × Value)):
 Env0 P w K mg base (A.under (.builtin "type.__call__" ⟨.ref C::us,kw⟩)) outer s H:=⟨by first | exact e.frames | (simpa [Around.under,Code.envs,Code.isFrame,pushEnvs] using e.frames),e.mod,e.bs,e.bsz,e.funs,e.frf,e.hok,e.bare⟩
section
variable {X : Cx} {pins : List (Addr × Obj)} {σ : St} {H : Hp} {s s' : Shared}
theorem Inv.env0 (I:Inv X pins σ H s):Env0 X.prog X.w X.K X.mg X.base X.A X.stack s H:=
 ⟨I.ok.frames,I.ok.mod,I.bs,Nat.le_trans I.ok.bsz I.sz,I.stack,I.stkFree,I.hok,I.bare⟩
theorem Inv.after {Q:VK}{u:Value}(I:Inv X pins σ H s)(h:CE X.stack X.prog X.w H s Q u s'):EP X pins σ Q u s':=by
 obtain⟨v,H',os,bare,un,hok,r,q⟩:=h
 obtain⟨hh,g,d,t,os'⟩:=s'
 obtain rfl:os'=s.os:=os
 exact⟨v,H',I.call (h':=hh) (g':=g) (d':=d) (t':=t) (ch:=[]) un hok bare (fun b z=>absurd z (by simp)),r,q⟩
end
def qLi (sp:Sp)(dvs:List V)(E:XK)(t:TA):TE:=fun σ H Q=>t σ H fun vs H1=>sp (vs++dvs) H1 Q E
def Binds (K:PySem.W.Frag)(fd:FuncData)(ps:List Str)(ds:List Value):Prop:=
 ∀ (s:Shared) (us:List Value),K.In s.heap→(us++ds).length=ps.length→BindsTo s fd ⟨us,[]⟩ (ps.zip (us++ds))
theorem Binds.all {K:PySem.W.Frag}{fd:FuncData}{ps:List Str}(h:∀ us:List Value,us.length=ps.length→bindArgs fd ⟨us,[]⟩=pure (ps.zip us)):Binds K fd ps []:=fun s us _ hl=>by
 rw [List.append_nil] at hl ⊢
 exact .of_eq (h us hl)
def qFz (CX:CXT)(X:Cx)(E:XK):Prop:=∀ (pins:List (Addr × Obj)) (σ:St) (H:Hp) (s:Shared) (e:Value) (s':Shared),Inv X pins σ H s→CX X.stack H s E e s'→X.xe e s'
section
variable {X : Cx} {CX : CXT} {k : Nat} {f C : Addr} {fd : FuncData} {ps : List Str} {sp : Sp} {dvs : List V} {ds : List Value} {E : XK} {x m : Str} {p pos apos : Pos} {e o : Expr} {es : List Expr} {ta : TE} {t : TA}
theorem qM0 {pins:List (Addr × Obj)}{σ:St}{H:Hp}{s:Shared}{Q:VK}{us:List Value}{vs:List V}(F:FnOk X.prog X.w X.K X.mg X.base CX k f fd ps sp)(hr:Room k X.A)(hb:Binds X.K fd ps ds)(hd:Vals dvs ds)(hx:qFz CX X E)
 (I:Inv X pins σ H s) (r:Vals vs us) (h:sp (vs++dvs) H Q E):wpAny (model X.prog X.w) X.A (call (.ref f) us) (EP X pins σ Q) X.xe s:=by
 have r2:Vals (vs++dvs) (us++ds):=r.append hd
 have hl:(us++ds).length=ps.length:=by rw [← r2.length];exact F.len _ _ _ _ h
 refine wpAny_call (codeAny_mono (F.run X.A X.stack s H ⟨us,[]⟩ (us++ds) (vs++dvs) Q E hr I.env0 (hb s us I.kIn hl) r2 h) fun r s' hq=>?_)
 cases r with
 | error e=>exact hx pins σ H s e s' I hq
 | ok fl=>
  cases fl with
  | ret u=>exact I.after hq
  | next=>exact False.elim hq
  | brk=>exact False.elim hq
  | cont=>exact False.elim hq
theorem qHu (F:FnOk X.prog X.w X.K X.mg X.base CX k f fd ps sp)(hr:Room k X.A)(hg:Gl X x)(hm:X.mg x=some (.ref f))(hk:PySem.W.keepIn X.K (.ref f)=true)(hb:Binds X.K fd ps ds)(hd:Vals dvs ds)(hx:qFz CX X E)
 (ha:PA X (e::es) t) (hdb:(x == ("__debug__":Str))=false:=by decide) (he:starEach (e::es) X.env=(false,eval e X.env)::starEach es X.env:=by rfl) (hpl:(backTo pos (starEach es X.env)).any (·.1)=false:=by rfl):
 PE X (.Call (.Name x p) (e::es) [] pos) (qLi sp dvs E t):=by
 intro pins s σ H Q I h
 refine wpAny_Call_Name_kw (wc I hg hm ?_ hdb)
 refine PySem.W.callWith_K (h₀:=X.base) I.ok.mod.kin hk (thn (ha pos pins s σ H _ I h) fun us s1 ⟨vs,H1,I1,r,q⟩=>⟨I1.kIn,?_⟩) he hpl
 exact qM0 F hr hb hd hx I1 r q
end
section
variable {X : Cx} {CX : CXT} {k : Nat} {f C : Addr} {fd : FuncData} {ps ks : List Str} {sp : Sp} {E : XK} {x m : Str} {p pos apos kpos : Pos} {e o : Expr} {es : List Expr} {kws : List Keyword} {te ta : TE} {t tk : TA} {nm : Option Str}
variable {g : List Value → List Value → List Value} {gV : List V → List V → List V}
end
structure qL (N P:List Str)(sc:Scope):Prop where
 kind:sc.kind= .function
 co:sc.isCoroutine=false
 gen:sc.isGenerator=false
 nd:N.Nodup
 pre:N.take P.length=P
 par:∀ x∈P,sc.names.lookup x=some .local∨sc.names.lookup x=some .cell
 nofree:∀ y∈sc.names,y.2≠ .free
theorem qDj {kindOf:Str→Option NameKind}{x:Str}:∀ {binds:List (Str × Value)} {m:Str→Option Value},(∀ v,(x,v) ∉ binds)→bindL kindOf binds m x=m x
 | [],_,_=>rfl
 | (n,v)::r,m,h=>by
  unfold bindL
  rw [qDj fun w hw=>h w (List.mem_cons_of_mem _ hw)]
  split
  · have:x≠n:=by rintro rfl;exact h v List.mem_cons_self
    simp [this]
  · rfl
theorem qC7 {kindOf:Str→Option NameKind}{x:Str}:∀ {binds:List (Str × Value)} {m:Str→Option Value},(∀ v,(x,v) ∉ binds)→bindC kindOf binds m x=m x
 | [],_,_=>rfl
 | (n,v)::r,m,h=>by
  unfold bindC
  rw [qC7 fun w hw=>h w (List.mem_cons_of_mem _ hw)]
  split
  · rfl
  · have:x≠n:=by rintro rfl;exact h v List.mem_cons_self
    simp [this]
theorem qCp {kindOf:Str→Option NameKind}{x:Str}{v:Value}:∀ {P:List Str} {vs:List Value} {i:Nat} {m:Str→Option Value},P.Nodup→P[i]? =some x→vs[i]? =some v→kindOf x=some .local→
 bindL kindOf (P.zip vs) m x=some v
 | [],_,_,_,_,h,_,_=>by simp at h
 | _::_,[],_,_,_,_,h,_=>by simp at h
 | p::P,w::vs,0,m,nd,h1,h2,hk=>by
  simp at h1 h2;subst h1;subst h2
  show bindL kindOf ((p,w)::P.zip vs) m p=_
  unfold bindL
  rw [qDj fun v hv=>(List.nodup_cons.mp nd).1 (List.of_mem_zip hv).1,if_pos hk]
  simp
 | p::P,w::vs,i+1,m,nd,h1,h2,hk=>by
  show bindL kindOf ((p,w)::P.zip vs) m x=_
  unfold bindL
  exact qCp (i:=i) (List.nodup_cons.mp nd).2 (by simpa using h1) (by simpa using h2) hk
theorem qDr {kindOf:Str→Option NameKind}{x:Str}{v:Value}:∀ {P:List Str} {vs:List Value} {i:Nat} {m:Str→Option Value},P.Nodup→P[i]? =some x→vs[i]? =some v→kindOf x≠some .local→
 bindC kindOf (P.zip vs) m x=some v
 | [],_,_,_,_,h,_,_=>by simp at h
 | _::_,[],_,_,_,_,h,_=>by simp at h
 | p::P,w::vs,0,m,nd,h1,h2,hk=>by
  simp at h1 h2;subst h1;subst h2
  show bindC kindOf ((p,w)::P.zip vs) m p=_
  unfold bindC
  rw [qC7 fun v hv=>(List.nodup_cons.mp nd).1 (List.of_mem_zip hv).1,if_neg hk]
  simp
 | p::P,w::vs,i+1,m,nd,h1,h2,hk=>by
  show bindC kindOf ((p,w)::P.zip vs) m x=_
  unfold bindC
  exact qDr (i:=i) (List.nodup_cons.mp nd).2 (by simpa using h1) (by simpa using h2) hk
def qCb (N:List Str)(vs:List V):St:=vs.map some++List.replicate (N.length - vs.length) none
def qI4 (CX:CXT)(P:Program)(w:World)(K:PySem.W.Frag)(mg:Str→Option Value)(base:Heap)(N:List Str)(qual:Str)(scope:Scope)(f:Addr)(cd:Value)(A:Around)(outer:List Env)(s:Shared)(H:Hp)(E:XK):Cx where
 prog:=P
 w:=w
 K:=K
 mg:=mg
 base:=base
 A:=A.deeper (envOfC qual scope s.heap.objs.size f cd)
 N:=N
 s₀:=s
 H₀:=H
 env:=envOfC qual scope s.heap.objs.size f cd
 outer:=outer
 stack:=envOfC qual scope s.heap.objs.size f cd::outer
 ex:=[]
 calm:=true
 fn:=fun _=>true
 pn:=[]
 xe:=fun e s'=>wpAny (model P w) (A.deeper (envOfC qual scope s.heap.objs.size f cd)) (leaving (envOfC qual scope s.heap.objs.size f cd) e) (fun _ s''=>CX outer H s E e s'') (fun e' s''=>CX outer H s E e' s'') s'
theorem qFr {sc:Scope}{n:Nat}{x:Str}(h:sc.names.lookup x=some .cell):∃ c,(cellsFrom n sc.names []).lookup x=some c:=by
 have q:=PySem.W.cellsFrom_some sc.names n [] (.inl h)
 exact Option.isSome_iff_exists.mp q
theorem qH9 {CX:CXT}{P:Program}{w:World}{K:PySem.W.Frag}{mg:Str→Option Value}{base:Heap}{N ps:List Str}{qual:Str}{scope:Scope}{f:Addr}{cd:Value}{A:Around}{outer:List Env}{s s1:Shared}{H:Hp}{E:XK}{us:List Value}{vs:List V}
 (S:qL N ps scope) (hd:A.handled=none) (e0:Env0 P w K mg base A outer s H) (hl:vs.length=ps.length) (r:Vals vs us)
 (x:InCallC s s.heap.objs.size (bindL (envOfC qual scope s.heap.objs.size f cd).kindOf (ps.zip us) fun _=>none) (cellsFrom (s.heap.objs.size+1) scope.names []) (bindC (envOfC qual scope s.heap.objs.size f cd).kindOf (ps.zip us) fun _=>none) s1):
 Inv (qI4 CX P w K mg base N qual scope f cd A outer s H E) [] (qCb N vs) H s1:=by
 have hpl:ps.length≤N.length:=by have:=congrArg List.length S.pre;rw [List.length_take] at this;omega
 obtain⟨h1,tk,rfl,hk⟩:=x.done
 have noA:∀ b:Addr,b ∉ (qI4 CX P w K mg base N qual scope f cd A outer s H E).ex:=fun b z=>absurd (show b∈([]:List Addr) from z) (by simp)
 refine⟨⟨e0.mod,S.kind,rfl,rfl,Nat.le_refl _,fun y z c h1 h2=>?_,fun y hy=>?_,fun y c _ h=>?_,fun _=>hd,Around.frames_deeper e0.frames,.inr ⟨rfl,rfl⟩,fun b z=>absurd z (noA b),e0.bs,e0.bsz,fun b _ _=>noA b,fun b z=>absurd z (noA b),e0.funs,e0.frf⟩,
  rfl,e0.bare,Un.kept hk,⟨_,x.toInCall.ns,fun i y v h1 h2 h3=>?_⟩,fun y c h=>⟨_,x.cell y c h⟩,e0.hok.fresh (Nat.le_refl _),fun y c h=>?_,fun p hp=>absurd (show p∈([]:List (Addr × Obj)) from hp) (by simp),e0.hok.kept hk,?_⟩
 · exact name_of_addr x.apart (PySem.mem_of_lookup h1) (PySem.mem_of_lookup h2)
 · have hy:scope.names.lookup y=some .cell∨scope.names.lookup y=some .free:=hy
   rcases hy with hy | hy
   · exact qFr hy
   · exact absurd rfl (S.nofree _ (PySem.mem_of_lookup hy))
 · exact Nat.le_of_lt (x.above y c (PySem.mem_of_lookup h))
 · have hi:i < vs.length:=by
    unfold qCb at h2
    by_cases hi:i < vs.length
    · exact hi
    · rw [List.getElem?_append_right (by simpa using hi)] at h2
      rw [List.getElem?_replicate] at h2
      split at h2 <;> cases h2
   have ha:vs[i]? =some v:=by
    unfold qCb at h2
    rw [List.getElem?_append_left (by simpa using hi),List.getElem?_map] at h2
    cases e:vs[i]? with
    | none=>rw [e] at h2;cases h2
    | some a=>rw [e] at h2;cases h2;rfl
   obtain⟨u,hu,rv⟩:=r.get ha
   have hp:ps[i]? =some y:=by
    rw [← S.pre,List.getElem?_take_of_lt (by omega)];exact h1
   have ndP:ps.Nodup:=by rw [← S.pre];exact S.nd.sublist (List.take_sublist _ _)
   refine⟨u,rv,?_⟩
   rcases S.par y (List.mem_of_getElem? hp) with k | k
   · exact .inl ⟨k,qCp ndP hp hu k⟩
   · obtain⟨c,e⟩:=qFr (n:=s.heap.objs.size+1) k
     refine .inr ⟨.inl k,c,e,?_⟩
     have q:=x.cell y c e
     rw [qDr ndP hp hu (by show scope.names.lookup y≠_;rw [k];decide)] at q
     exact q
 · exact e0.hok.fresh (Nat.le_of_lt (x.above y c (PySem.mem_of_lookup h)))
 · unfold qCb
   show _=N.length
   rw [List.length_append,List.length_map,List.length_replicate]
   omega
theorem qMn {CX:CXT}{P:Program}{w:World}{K:PySem.W.Frag}{mg:Str→Option Value}{base:Heap}{k:Nat}{f:Addr}{name qual:Str}{params:Arguments}{body:List Stmt}{scope:Scope}{dV kV doc pm cdv ct oc:Value}{an od:Option Addr}
 {osl:Array (Option Value)} {N ps:List Str} {sp:Sp} (lk:K.lookup f=some ⟨oc,od,.func (PySem.W.fnOf name qual params body scope dV kV doc pm an cdv ct),osl⟩) (hcd:PySem.W.codeIn K cdv qual=true) (S:qL N ps scope)
 (len:∀ vs H Q E,sp vs H Q E→vs.length=ps.length)
 (hbody:∀ (A:Around) (outer:List Env) (s:Shared) (H:Hp) (vs:List V) (Q:VK) (E:XK),Room k (A.deeper (envOfC qual scope s.heap.objs.size f cdv))→sp vs H Q E→
   ∃ t,PSs (qI4 CX P w K mg base N qual scope f cdv A outer s H E) body t∧t {nx:=fun _ H'=>Q .non H',rt:=Q} (qCb N vs) H):
 FnOk P w K mg base CX (k+1) f (PySem.W.fnOf name qual params body scope dV kV doc pm an cdv ct) ps sp:=by
 refine⟨len,fun A outer s H args us vs Q E hr e0 hb r hsp=>?_⟩
 have hl:=len _ _ _ _ hsp
 have KX:K.In s.heap:=e0.mod.kin.keeps fun b o e=>(e0.bs b o e).1
 have lim:s.heap.NoLimit:=e0.mod.nolimit.keeps fun b o e=>(e0.bs b o e).1
 have hkind:∀ y∈ps.zip us,scope.names.lookup y.1=some .local∨(scope.names.lookup y.1=some .cell∧((cellsFrom (s.heap.objs.size+1) scope.names []).lookup y.1).isSome=true):=fun⟨n,v⟩ hy=>by
  rcases S.par n (List.of_mem_zip hy).1 with q | q
  · exact .inl q
  · exact .inr ⟨q,PySem.W.cellsFrom_some _ _ _ (.inl q)⟩
 refine codeAny_call_function hr.depth (KX _ _ lk) rfl S.co S.gen rfl (PySem.W.codeRec_of KX hcd) (hb _ _ _ _ ?_)
 refine wpAny_newFunctionEnv_cells S.kind hkind fun env he s1 x=>?_
 subst he
 refine⟨lim.keeps x.toInCall.keep,codeAny_func ?_⟩
 obtain⟨t,ht,hq⟩:=hbody A outer s H vs Q E (hr.deeper _) hsp
 have I:Inv (qI4 CX P w K mg base N qual scope f cdv A outer s H E) [] (qCb N vs) H s1:=qH9 S hr.hd e0 hl r x
 refine wpAny_mono (ht [] s1 (qCb N vs) H _ I hq) (fun fl s' hs=>?_) fun e s' hs=>hs
 have fin:∀ {σ':St} {H':Hp} {v:V} {u:Value},Inv (qI4 CX P w K mg base N qual scope f cdv A outer s H E) [] σ' H' s'→RelV v u→Q v H'→CE outer P w H s Q u s':=
  fun {σ' H' v u} J rv q=>⟨v,H',J.os,J.bare,J.base,J.hok,rv,q⟩
 cases fl with
 | ret u=>
  obtain⟨v,σ',H',J,rv,q⟩:=hs
  exact fin J rv q
 | next=>
  obtain⟨σ',H',J,q⟩:=hs
  exact fin (v:=V.non) (u:=Value.none) J rfl q
 | brk=>
  obtain⟨_,_,_,q⟩:=hs
  exact False.elim q
 | cont=>
  obtain⟨_,_,_,q⟩:=hs
  exact False.elim q
end L2
namespace L2
open PySem PySem.Spec PyProof.Rows
section
variable {X : Cx} {x : Str} {p pos : Pos} {e : Expr} {es : List Expr} {t : TA} {id T : String} {r : List V → Hp → VK → Prop}
def tCB (r:List V→Hp→VK→Prop)(t:TA):TE:=fun σ H Q=>t σ H fun vs H1=>r vs H1 Q
theorem qZ (hc:wg X (.builtin id) r)(hg:Gl X x)(hm:X.mg x=none)(hv:bootBuiltins x=some (.builtin id))(ha:PA X (e::es) t)(hn:x≠"__name__":=by decide)(hdb:(x == ("__debug__":Str))=false:=by decide)
 (he:starEach (e::es) X.env=(false,eval e X.env)::starEach es X.env:=by rfl) (hpl:(backTo pos (starEach es X.env)).any (·.1)=false:=by rfl):PE X (.Call (.Name x p) (e::es) [] pos) (tCB r t):=by
 intro pins s σ H Q I h
 refine wpAny_Call_Name_kw (qA4 I hg hm hv ?_ hn hdb)
 exact PyProof.Rows.callWith_builtin1 (thn (ha pos pins s σ H _ I h) fun us s1 ⟨vs,H1,I1,r1,q1⟩=>hc pins s1 σ H1 vs us Q I1 r1 q1) he hpl
theorem x5 (hc:wg X (.type T) r)(hg:Gl X x)(hm:X.mg x=none)(hv:bootBuiltins x=some (.type T))(ha:PA X (e::es) t)(hn:x≠"__name__":=by decide)(hdb:(x == ("__debug__":Str))=false:=by decide)
 (he:starEach (e::es) X.env=(false,eval e X.env)::starEach es X.env:=by rfl) (hpl:(backTo pos (starEach es X.env)).any (·.1)=false:=by rfl):PE X (.Call (.Name x p) (e::es) [] pos) (tCB r t):=by
 intro pins s σ H Q I h
 refine wpAny_Call_Name_kw (qA4 I hg hm hv ?_ hn hdb)
 exact PyProof.Rows.callWith_type1 (thn (ha pos pins s σ H _ I h) fun us s1 ⟨vs,H1,I1,r1,q1⟩=>hc pins s1 σ H1 vs us Q I1 r1 q1) he hpl
end
end L2
namespace HT
open PySem PyProof.Rows
section
open PySem.SeqAt
open PySem.AutoSeq1 (wpAny_loadPart')
open PySem.MeetsSeq PySem.MeetsSeq2 PySem.MeetsSeq3
end
section
variable {prog : Program} {w : World} {A : Around} {E : Value → Shared → Prop} {s : Shared}
theorem cat_tup {t b:Addr}{vs ws:List Value}{Q:Value→Shared→Prop}(ht:IsTup s.heap t vs.toArray)(hb:IsTup s.heap b ws.toArray)(hv:vs≠[])
 (h1:ws=[]→Q (.ref t) s) (h2:ws≠[]→Q (.ref s.heap.objs.size) {s with heap:=s.heap.push {cls:=.type "tuple",data:=.seq (vs++ws).toArray}})
 (hsz:vs.length+ws.length≤sizeLine):wpAny (model prog w) A (binaryOp .Add (.ref t) (.ref b)) Q E s:=by
 obtain⟨⟨cls,dd,data,sl⟩,ho,hc,n,hd⟩:=id ht
 obtain⟨⟨cls2,dd2,data2,sl2⟩,ho2,hc2,n2,hd2⟩:=id hb
 simp only at hc hd hc2 hd2
 subst hc hd hc2 hd2
 have e:vs.toArray++ws.toArray=(vs++ws).toArray:=by simp
 by_cases hw:ws=[]
 · exact concat_meets ⟨_,ho,rfl⟩ ⟨_,ho2,rfl⟩ noFill_tuple_add seq_tuple_add PySem.F.slot_tuple_add PySem.F.entry_tuple_add (PySem.F.args_tuple_add_2 _ _)
    (tuple_addW1 t b vs.toArray ws.toArray n n2 dd dd2 sl sl2 (by simpa using hv) (by simp [hw])) ⟨ho,ho2,h1 hw⟩
 · refine concat_meets ⟨_,ho,rfl⟩ ⟨_,ho2,rfl⟩ noFill_tuple_add seq_tuple_add PySem.F.slot_tuple_add PySem.F.entry_tuple_add (PySem.F.args_tuple_add_2 _ _)
    (tuple_addW2 t b vs.toArray ws.toArray n n2 dd dd2 sl sl2 (by simpa using hv) (by simpa using hw) (by rw [List.size_toArray,List.size_toArray];exact hsz)) ⟨ho,ho2,?_⟩
   rw [e]
   exact h2 hw
def sIx (n d:Nat):Option Int→Nat
 | none=>d
 | some v=>if v < 0 then (v+(n:Int)).toNat else min v.toNat n
theorem sIx_none (n d:Nat):sIx n d none=d:=rfl
theorem sIx_nat (n d k:Nat):sIx n d (some (k:Int))=min k n:=by
 show (if (k:Int) < 0 then ((k:Int)+(n:Int)).toNat else min (k:Int).toNat n)=min k n
 rw [if_neg (by omega),Int.toNat_natCast]
theorem qM6 (n d:Nat)(hd:d≤n)(o:Option Int):sIx n d o≤n:=by
 cases o with
 | none=>exact hd
 | some v=>
  show (if v < 0 then (v+(n:Int)).toNat else min v.toNat n)≤n
  by_cases hv:v < 0
  · rw [if_pos hv];omega
  · rw [if_neg hv];exact Nat.min_le_right _ _
theorem qHx (v:Int)(n d:Nat):(if v < 0 then max (v+(n:Int)) 0 else min v (n:Int))=((sIx n d (some v):Nat):Int):=by
 show (if v < 0 then max (v+(n:Int)) 0 else min v (n:Int))=(((if v < 0 then (v+(n:Int)).toNat else min v.toNat n):Nat):Int)
 by_cases hv:v < 0
 · simp only [if_pos hv];omega
 · simp only [if_neg hv];omega
theorem qGq (lo hi:Option Int)(n:Nat):Builtin.Slice.sliceAdjust lo hi 1 (n:Int)=(((sIx n 0 lo:Nat):Int),((sIx n n hi:Nat):Int)):=by
 have h1:¬ ((1:Int) < 0):=by omega
 unfold Builtin.Slice.sliceAdjust
 simp only [h1,if_false]
 refine Prod.ext ?_ ?_
 · cases lo with
   | none=>rfl
   | some v=>exact qHx v n 0
 · cases hi with
   | none=>rfl
   | some v=>exact qHx v n n
theorem qGg (i j:Nat):Builtin.Slice.slicePlaces (i:Int) (j:Int) 1=j - i:=by
 unfold Builtin.Slice.slicePlaces
 have h1:(1:Int) > 0:=by omega
 simp only [h1,if_true,Int.ediv_one]
 split <;> omega
theorem qA1 {v:Value}{o:Option Int}{Q:Option Int→Shared→Prop}(p:IsPart v o)(h:Q o s):wpAny (model prog w) A (Builtin.Slice.slicePartIndex v) Q E s:=by
 cases p with
 | none=>exact slicePart_none h
 | int i t=>exact slicePart_int h
theorem wA {sl:Addr}{vl vu:Value}{lo hi:Option Int}{n:Nat}{Q:Int × Int × Nat→Shared→Prop}(hs:s.heap.IsSliceOf sl vl vu .none)(pl:IsPart vl lo)(pu:IsPart vu hi)
 (h:Q (((sIx n 0 lo:Nat):Int),1,sIx n n hi - sIx n 0 lo) s):wpAny (model prog w) A (Builtin.Slice.sliceApplied (.ref sl) (pure (n:Int))) Q E s:=by
 obtain⟨os,hos,hcs,hds⟩:=id hs
 unfold Builtin.Slice.sliceApplied Builtin.Slice.sliceFields
 refine wpAny_bind (wpAny_bind (wpAny_field hos hds (x:=vl) rfl (wpAny_bind (wpAny_field hos hds (x:=vu) rfl (wpAny_bind (wpAny_field hos hds (x:=.none) rfl (wpAny_pure ?_)))))))
 refine wpAny_bind (slicePart_none ?_)
 show wpAny _ _ (if ((1:Int) == 0)=true then _ else _) _ _ s
 rw [if_neg (by decide)]
 refine wpAny_bind (qA1 pl (wpAny_bind (qA1 pu (wpAny_bind (wpAny_pure ?_)))))
 show wpAny _ _ (match Builtin.Slice.sliceAdjust lo hi 1 (n:Int) with | (lo,hi)=>pure (lo,(1:Int),Builtin.Slice.slicePlaces lo hi 1)) _ _ s
 rw [qGq lo hi n]
 show wpAny _ _ (pure (((sIx n 0 lo:Nat):Int),(1:Int),Builtin.Slice.slicePlaces ((sIx n 0 lo:Nat):Int) ((sIx n n hi:Nat):Int) 1)) _ _ s
 rw [qGg]
 exact wpAny_pure h
theorem qJa (xs:Array Value)(i k:Nat):((List.range k).filterMap fun(m:Nat)=>xs[((i:Int)+(m:Int)*1).toNat]?).toArray=((xs.toList.drop i).take k).toArray:=by
 have e:(fun(m:Nat)=>xs[((i:Int)+(m:Int)*1).toNat]?)=fun m=>xs[i+m]?:=by
  funext m
  have:((i:Int)+(m:Int)*1).toNat=i+m:=by omega
  rw [this]
 rw [e]
 have:=pick_run xs i k
 rw [List.filterMap_map] at this
 have e2:((fun x=>xs[x]?) ∘ fun x=>i+x)=fun m=>xs[i+m]?:=rfl
 rw [e2] at this
 rw [this]
theorem getItem_tuple_cut {t sl:Addr}{items:Array Value}{vl vu:Value}{lo hi:Option Int}{Q:Value→Shared→Prop}(ht:IsTup s.heap t items)(hs:s.heap.IsSliceOf sl vl vu .none)(pl:IsPart vl lo)(pu:IsPart vu hi)
 (hw:¬ (sIx items.size 0 lo=0∧sIx items.size items.size hi=items.size))
 (h:Q (.ref s.heap.objs.size) {s with heap:=s.heap.push {cls:=.type "tuple",data:=.seq ((items.toList.drop (sIx items.size 0 lo)).take (sIx items.size items.size hi - sIx items.size 0 lo)).toArray}})
 (hsz:items.size≤sizeLine):wpAny (model prog w) A (getItem (.ref t) (.ref sl)) Q E s:=by
 have htake:sizeOk (.seq ((items.toList.drop (sIx items.size 0 lo)).take (sIx items.size items.size hi - sIx items.size 0 lo)).toArray):=by
  show ((items.toList.drop (sIx items.size 0 lo)).take (sIx items.size items.size hi - sIx items.size 0 lo)).toArray.size≤sizeLine
  rw [List.size_toArray,List.length_take,List.length_drop,Array.length_toList]
  omega
 have hj:sIx items.size items.size hi≤items.size:=qM6 _ _ (Nat.le_refl _) hi
 obtain⟨os,hos,hcs,hds⟩:=id hs
 have hTs:s.TypeIs (.ref sl) "slice":=⟨os,hos,hcs⟩
 unfold getItem
 try with_reducible refine wpAny_holding ?_
 first | refine wpAny_bind (wpAny_pure ?_) | skip
 refine wpAny_bind (wpAny_sequenceKey ht.typeIs (by decide) ?_)
 refine wpAny_bind (wpAny_callSpecial?_slot (name:=Str.ofString "__getitem__") ht.typeIs PyProof.Rows.slot_tuple_getitem
  (wpAny_call_entry PyProof.Rows.slot_tuple_getitem ht.typeIs entry_tuple_getitem ?_ (args_tuple_getitem _ _)))
 show wpAny _ _ (Builtin.Tuple.tupleItemsOf (.ref t) >>=_) _ _ s
 refine wpAny_bind (tupleItemsOf_ ht ?_)
 refine wpAny_bind (wpAny_typeOf hTs ?_)
 rw [if_pos (by decide)]
 refine wpAny_bind (wA hs pl pu ?_)
 have hno:¬ ((((sIx items.size 0 lo:Nat):Int) == 0 && (1:Int) == 1 && (sIx items.size items.size hi - sIx items.size 0 lo) == items.size)=true):=by
  intro q
  rw [Bool.and_eq_true,Bool.and_eq_true] at q
  have q1:((sIx items.size 0 lo:Nat):Int)=0:=eq_of_beq q.1.1
  have q2:sIx items.size items.size hi - sIx items.size 0 lo=items.size:=eq_of_beq q.2
  exact hw ⟨by omega,by omega⟩
 show wpAny _ _ (if (((sIx items.size 0 lo:Nat):Int) == 0 && (1:Int) == 1 && (sIx items.size items.size hi - sIx items.size 0 lo) == items.size)=true then _ else _) _ _ s
 rw [if_neg hno,qJa]
 first
  | exact wpAny_bind (m:=Builtin.Tuple.tupleExact _) (wpAny_newObj_type (wpAny_pure ⟨_,rfl,wpAny_pure h⟩) htake)
  | exact wpAny_bind (m:=Builtin.Tuple.tupleExact _) (wpAny_newObj_type (wpAny_bind (wpAny_pure (wpAny_pure ⟨_,rfl,wpAny_pure h⟩))) htake)
  | exact wpAny_bind (wpAny_bind (m:=Builtin.Tuple.tupleExact _) (wpAny_newObj_type (wpAny_pure (wpAny_pure ⟨_,rfl,wpAny_pure h⟩)) htake))
  | exact wpAny_bind (wpAny_bind (m:=Builtin.Tuple.tupleExact _) (wpAny_newObj_type (wpAny_pure ⟨_,rfl,wpAny_pure h⟩) htake))
end
end HT
namespace L2
open PySem PySem.Spec PyProof.Rows
abbrev TO:=St→Hp→(Option Int→Hp→Prop)→Prop
def PO (X:Cx)(e:Option Expr)(t:TO):Prop:=
 ∀ (pins:List (Addr × Obj)) (s:Shared) (σ:St) (H:Hp) (Q:Option Int→Hp→Prop),Inv X pins σ H s→t σ H Q→
  wpAny (model X.prog X.w) X.A (evalPart e X.env) (fun u s'=>∃ o H',Inv X pins σ H' s'∧IsPart u o∧Q o H') X.xe s
def qK5:TO:=fun _ H Q=>Q none H
inductive qMo (Q:Option Int→Hp→Prop)(x:V)(H1:Hp):Prop
| mk i (_:x= .int i) (_:Q (some i) H1)
def qNm (t:TE):TO:=fun σ H Q=>t σ H fun x H1=>qMo Q x H1
section
variable {X : Cx} {e : Expr} {te : TE} {lo hi : Option Expr} {tl th : TO} {pos p2 : Pos}
theorem qHr:PO X none qK5:=by
 intro pins s σ H Q I h
 rw [evalPart_none]
 exact wpAny_pure ⟨none,H,I,.none,h⟩
theorem qHe (h:PE X e te):PO X (some e) (qNm te):=by
 intro pins s σ H Q I hw
 rw [evalPart_some]
 refine thn (h pins s σ H _ I hw) fun u s1 ⟨x,H1,I1,r1,q1⟩=>?_
 obtain⟨i,rfl,q⟩:=q1
 obtain⟨t,rfl⟩:=r1
 exact⟨some i,H1,I1,.int i t,q⟩
def SlR (X:Cx)(r:V→Option Int→Option Int→Hp→VK→Prop):Prop:=
 ∀ (pins:List (Addr × Obj)) (s:Shared) (σ:St) (H:Hp) (x:V) (v vl vu:Value) (lo hi:Option Int) (sl:Addr) (Q:VK),Inv X pins σ H s→RelV x v→s.heap.IsSliceOf sl vl vu .none→IsPart vl lo→IsPart vu hi→r x lo hi H Q→
  ∃ T id,typeLookup (.type T) "__getitem__"=pure (some (.builtin id))∧s.TypeIs v T∧wpAny (model X.prog X.w) X.A (getItem v (.ref sl)) (EP X pins σ Q) X.xe s
def tSl (r:V→Option Int→Option Int→Hp→VK→Prop)(te:TE)(tl th:TO):TE:=fun σ H Q=>te σ H fun x H1=>tl σ H1 fun l H2=>th σ H2 fun u H3=>r x l u H3 Q
theorem qFk {r:V→Option Int→Option Int→Hp→VK→Prop}(hr:SlR X r)(he:PE X e te)(hl:PO X lo tl)(hu:PO X hi th):PE X (.Subscript e (.Slice lo hi none p2) pos) (tSl r te tl th):=by
 intro pins s σ H Q I h
 refine Subscript_ (thn (he pins s σ H _ I h) fun v s1 ⟨x,H1,I1,r1,q1⟩=>?_)
 refine wpAny_Slice (thn (hl pins s1 σ H1 _ I1 q1) fun vl s2 ⟨l,H2,I2,pl,q2⟩=>thn (hu pins s2 σ H2 _ I2 q2) fun vu s3 ⟨u,H3,I3,pu,q3⟩=>?_)
 rw [evalPart_none]
 refine wpAny_pure ?_
 have I4:Inv X pins σ H3 {s3 with heap:=s3.heap.push {cls:=.type "slice",data:=.fields #[vl,vu,.none]}}:=I3.kept (t':=s3.toks) fun b ob q=>Heap.get?_push_of_some _ q
 obtain⟨T,id,hT,ht,hg⟩:=hr pins {s3 with heap:=s3.heap.push {cls:=.type "slice",data:=.fields #[vl,vu,.none]}} σ H3 x v vl vu l u s3.heap.objs.size Q I4 r1 (Heap.IsSliceOf.new ..) pl pu q3
 show wpAny (model X.prog X.w) X.A (subscriptTail e (.Slice lo hi none p2) v (.ref s3.heap.objs.size)) (EP X pins σ Q) X.xe {s3 with heap:=s3.heap.push {cls:=.type "slice",data:=.fields #[vl,vu,.none]}}
 exact tail_any (ops:=[.ref s3.heap.objs.size,v]) ht hT hg (by with_unfolding_all rfl)
def qI3 (xs:List V)(lo hi:Option Int):List V:=(xs.drop (HT.sIx xs.length 0 lo)).take (HT.sIx xs.length xs.length hi - HT.sIx xs.length 0 lo)
theorem qAc (xs:List V)(lo hi:Option Int):(qI3 xs lo hi).length≤xs.length:=by
 unfold qI3
 rw [List.length_take,List.length_drop]
 omega
inductive qOi (K:PySem.W.Frag)(x:V)(lo:Option Int)(hi:Option Int)(H:Hp)(Q:VK):Prop
| mk a xs (_:x= .ref a) (_:SqT K H a xs) (_:¬ (HT.sIx xs.length 0 lo=0∧HT.sIx xs.length xs.length hi=xs.length)) (_:∀ p,H p=none→Q (.ref p) (upd H p (.tup (qI3 xs lo hi))))
theorem qKo:SlR X (qOi X.K):=by
 intro pins s σ H x v vl vu lo hi sl Q I rx hs pl pu h
 obtain⟨a,xs,rfl,hx,hw,q⟩:=h
 cases rx
 obtain⟨its,r,ht,hz⟩:=I.tuple hx
 have hlen:its.toArray.size=xs.length:=by rw [List.size_toArray];exact r.length.symm
 refine⟨"tuple",_,PyProof.Rows.slot_tuple_getitem.lookup,ht.typeIs,?_⟩
 refine HT.getItem_tuple_cut ht hs pl pu (by rw [hlen];exact hw) ?_ (by rw [hlen];exact hz)
 rw [hlen]
 refine⟨.ref s.heap.objs.size,_,I.laid (t':=s.toks) (o:=.tup (qI3 xs lo hi)) (fun b ob q=>Heap.get?_push_of_some _ q) (Nat.le_refl _) ?_,rfl,q _ (I.hok.fresh (Nat.le_refl _))⟩
 exact⟨Nat.le_trans (qAc xs lo hi) hz,_,(r.drop (HT.sIx xs.length 0 lo)).take (HT.sIx xs.length xs.length hi - HT.sIx xs.length 0 lo),IsTup.new _ _⟩
def qM7 (K:PySem.W.Frag):R2:=fun x y H Q=>∃ a b xs ys,x= .ref a∧y= .ref b∧SqT K H a xs∧SqT K H b ys∧xs≠[]∧xs.length+ys.length≤sizeLine∧
 (ys=[]→Q (.ref a) H)∧(ys≠[]→∀ p,H p=none→Q (.ref p) (upd H p (.tup (xs++ys))))
theorem Vals.nil_iff {xs:List V}{us:List Value}(r:Vals xs us):us=[]↔xs=[]:=by
 cases r with
 | nil=>simp
 | cons _ _=>simp
theorem qH0:OpR X (binaryOp .Add) (qM7 X.K):=by
 intro pins s σ H x y v u Q I rx ry h
 obtain⟨a,b,xs,ys,rfl,rfl,ha,hb,hx,hz,q1,q2⟩:=h
 cases rx
 cases ry
 obtain⟨its,r1,p1,_⟩:=I.tuple ha
 obtain⟨its2,r2,p2,_⟩:=I.tuple hb
 refine HT.cat_tup p1 p2 (fun z=>hx (r1.nil_iff.mp z)) (fun z=>⟨.ref a,H,I,rfl,q1 (r2.nil_iff.mp z)⟩) (fun z=>?_) (by rw [← r1.length,← r2.length];exact hz)
 refine⟨.ref s.heap.objs.size,_,I.laid (t':=s.toks) (o:=.tup (xs++ys)) (fun b ob q=>Heap.get?_push_of_some _ q) (Nat.le_refl _) ?_,rfl,q2 (fun w=>z (r2.nil_iff.mpr w)) _ (I.hok.fresh (Nat.le_refl _))⟩
 exact⟨by rw [List.length_append];exact hz,_,r1.append r2,IsTup.new _ _⟩
end
end L2
namespace L2
open PySem PySem.Spec PyProof.Rows
def ixN (n:Nat)(i:Int):Option Nat:=if 0≤i then (if i < n then some i.toNat else none) else if -(n:Int)≤i then some (i+n).toNat else none
def atI {α:Type}(xs:List α)(i:Int):Option α:=(ixN xs.length i).bind fun j=>xs[j]?
theorem qIr {n:Nat}{i:Int}{j:Nat}(h:ixN n i=some j):seqIndex? i n=some j∧j < n∧-(n:Int)≤i∧i < n:=by
 unfold ixN at h
 by_cases h0:0≤i
 · rw [if_pos h0] at h
   by_cases h1:i < n
   · rw [if_pos h1] at h
     have e:i.toNat=j:=Option.some.inj h
     exact⟨by rw [seqIndex_of h0 h1,e],by omega,by omega,h1⟩
   · rw [if_neg h1] at h;cases h
 · rw [if_neg h0] at h
   by_cases h1:-(n:Int)≤i
   · rw [if_pos h1] at h
     have e:(i+n).toNat=j:=Option.some.inj h
     exact⟨by rw [seqIndex_neg (by omega) h1,e],by omega,h1,by omega⟩
   · rw [if_neg h1] at h;cases h
theorem qIj {α:Type}{xs:List α}{i:Int}{v:α}(h:atI xs i=some v):∃ j,seqIndex? i xs.length=some j∧xs[j]? =some v∧j < xs.length∧-(xs.length:Int)≤i∧i < xs.length:=by
 unfold atI at h
 cases e:ixN xs.length i with
 | none=>rw [e] at h;cases h
 | some j=>
  rw [e] at h
  obtain⟨h1,h2,h3,h4⟩:=qIr e
  exact⟨j,h1,h,h2,h3,h4⟩
theorem jX {α:Type}{xs:List α}{j:Nat}{v:α}(h:xs[j]? =some v):atI xs (j:Int)=some v:=by
 have hj:j < xs.length:=(List.getElem?_eq_some_iff.mp h).1
 have e:ixN xs.length (j:Int)=some j:=by
  unfold ixN
  rw [if_pos (by omega),if_pos (by omega)];simp
 unfold atI;rw [e];exact h
theorem qFp {α:Type}(xs:List α)(v:α):atI (xs++[v]) (-1)=some v:=by
 have hl:(xs++[v]).length=xs.length+1:=by simp
 have e:ixN (xs++[v]).length (-1)=some xs.length:=by
  unfold ixN
  rw [hl,if_neg (by decide),if_pos (by omega)]
  congr 1
  omega
 unfold atI
 rw [e]
 show (xs++[v])[xs.length]? =some v
 simp
def qLl (b:Expr):Prop:=∀ o i,subscripted b false o i=operate [o,i] (getItem o i)
def IxR (X:Cx)(r:R2):Prop:=
 ∀ (value slice:Expr) (pins:List (Addr × Obj)) (s:Shared) (σ:St) (H:Hp) (x y:V) (v u:Value) (Q:VK),Inv X pins σ H s→RelV x v→RelV y u→r x y H Q→
  subscripted slice false v u=operate [v,u] (getItem v u)→wpAny (model X.prog X.w) X.A (subscriptTail value slice v u) (EP X pins σ Q) X.xe s
def MtR (X:Cx)(id:String)(r:V→List V→Hp→VK→Prop):Prop:=
 ∀ (pins:List (Addr × Obj)) (s:Shared) (σ:St) (H:Hp) (x:V) (xs:List V) (v:Value) (us:List Value) (Q:VK),Inv X pins σ H s→RelV x v→Vals xs us→r x xs H Q→
  wpAny (model X.prog X.w) X.A (call (.builtin id) (v::us)) (EP X pins σ Q) X.xe s
section
variable {X : Cx} {a b : Expr} {ta tb : TE} {pos : Pos}
theorem ql {r:R2}(hr:IxR X r)(ha:PE X a ta)(hb:PE X b tb)(hs:qLl b):PE X (.Subscript a b pos) (tOp r ta tb):=by
 intro pins s σ H Q I h
 exact Subscript_ (qN0 ha hb I h fun v u s2 x y H2 I2 rx ry q=>hr a b pins s2 σ H2 x y v u Q I2 rx ry q (hs _ _))
inductive qO2 (K:PySem.W.Frag)(x:V)(y:V)(H:Hp)(Q:VK):Prop
| mk p xs i v (_:x= .ref p) (_:y= .int i) (_:SqL K H p xs) (_:atI xs i=some v) (_:Q v H)
inductive qL3 (K:PySem.W.Frag)(x:V)(y:V)(H:Hp)(Q:VK):Prop
| mk p xs i v (_:x= .ref p) (_:y= .int i) (_:SqT K H p xs) (_:atI xs i=some v) (_:Q v H)
theorem qV:IxR X (qO2 X.K):=by
 intro value slice pins s σ H x y v u Q I rx ry h hs
 obtain⟨p,xs,i,z,rfl,rfl,hq,he,q⟩:=h
 cases rx
 obtain⟨t,rfl⟩:=ry
 obtain⟨its,r,pl,hz⟩:=I.list hq
 obtain⟨j,h1,h2,h3,h4,h5⟩:=qIj he
 obtain⟨w,ew,rw'⟩:=r.get h2
 have hl:=r.length
 have hn:=qFc
 have fin:EP X pins σ Q w s:=⟨z,H,I,rw',q⟩
 by_cases h0:0≤i
 · have hj:i.toNat=j:=by
    rw [seqIndex_of h0 h5] at h1
    exact Option.some.inj h1
   exact item_listR pl.isList h0 (by omega) (by rw [hj];simpa using ew) fin hs
 · have hj:(i+(its.toArray.size:Int)).toNat=j:=by
    rw [seqIndex_neg (by omega) h4] at h1
    rw [List.size_toArray,← hl]
    exact Option.some.inj h1
   exact subscriptTail_builtinR (x:=w) pl.isList.typeIs slot_list_getitem.lookup
    (wpAny_getItem_list_neg (Q:=fun r s'=>r=w∧EP X pins σ Q r s') pl.isList (by omega) (by rw [List.size_toArray] <;> omega) (by omega) (by rw [hj];simpa using ew) ⟨rfl,fin⟩) hs
theorem qDm:IxR X (qL3 X.K):=by
 intro value slice pins s σ H x y v u Q I rx ry h hs
 obtain⟨p,xs,i,z,rfl,rfl,hq,he,q⟩:=h
 cases rx
 obtain⟨t,rfl⟩:=ry
 obtain⟨its,r,pl,hz⟩:=I.tuple hq
 obtain⟨j,h1,h2,h3,h4,h5⟩:=qIj he
 obtain⟨w,ew,rw'⟩:=r.get h2
 have hl:=r.length
 have hn:=qFc
 have fin:EP X pins σ Q w s:=⟨z,H,I,rw',q⟩
 exact subscriptTail_builtinR (x:=w) pl.typeIs slot_tuple_getitem.lookup
  (getItem_tuple (j:=j) (Q:=fun r s'=>r=w∧EP X pins σ Q r s') pl (by omega) (by omega) (by rw [List.size_toArray,← hl];exact h1) (by simpa using ew) ⟨rfl,fin⟩) hs
theorem qGv (its:List Value)(n j:Nat)(u:Value):Obj.mapSeq (·.setIfInBounds j u) {cls:=.type "list",data:=.seq its.toArray n}={cls:=.type "list",data:=.seq (its.set j u).toArray n}:=by
 simp [Obj.mapSeq]
theorem Inv.lst {pins:List (Addr × Obj)}{σ:St}{H:Hp}{s:Shared}{p:Addr}{xs:List V}(I:Inv X pins σ H s)(h:H p=some (.lst xs)):
 ∃ (its:List Value) (n:Nat),Vals xs its∧s.heap.get? p=some {cls:=.type "list",data:=.seq its.toArray n}∧xs.length≤sizeLine:=by
 obtain⟨z,its,n,r,e⟩:=I.hok p _ h
 exact⟨its,n,r,e,z⟩
theorem Inv.lstUpd {pins:List (Addr × Obj)}{σ:St}{H:Hp}{s:Shared}{p:Addr}{xs ys:List V}{its its':List Value}{n n':Nat}{f:Obj→Obj}(I:Inv X pins σ H s)(h:H p=some (.lst xs))
 (ho:s.heap.get? p=some {cls:=.type "list",data:=.seq its.toArray n}) (hf:f {cls:=.type "list",data:=.seq its.toArray n}={cls:=.type "list",data:=.seq its'.toArray n'}) (r:Vals ys its') (hz:ys.length≤sizeLine) (t:Nat):
 Inv X pins σ (upd H p (.lst ys)) {s with heap:=s.heap.update p f,toks:=t}:=by
 have e:(s.heap.update p f).get? p=some {cls:=.type "list",data:=.seq its'.toArray n'}:=by
  rw [Heap.get?_update_self f ho (by rw [hf] <;> rfl),hf]
 refine I.write (x:=p) (e:=p) (by rw [h];trivial) (.inl rfl) (fun b u hb q=>(Heap.get?_update_other _ _ (Ne.symm hb)).trans q) ⟨_,e⟩ ?_
 exact⟨hz,its',n',r,e⟩
def qNx:V→V→V→Hp→(Hp→Prop)→Prop:=fun o i v H Q=>∃ p xs k j,o= .ref p∧i= .int k∧H p=some (.lst xs)∧ixN xs.length k=some j∧Q (upd H p (.lst (xs.set j v)))
theorem wD:qOn X qNx:=by
 intro pins s σ H o i v ov iv u Q I ro ri rv h
 obtain⟨p,xs,k,j,rfl,rfl,hp,hj,q⟩:=h
 cases ro
 obtain⟨t,rfl⟩:=ri
 obtain⟨its,n,r,ho,hz⟩:=I.lst hp
 obtain⟨h1,h2,h3,h4⟩:=qIr hj
 have hl:=r.length
 have hn:=qFc
 have I':Inv X pins σ (upd H p (.lst (xs.set j v))) {s with heap:=s.heap.update p (Obj.mapSeq (·.setIfInBounds j u))}:=
  I.lstUpd hp ho (qGv its n j u) (r.set rv j) (by rw [List.length_set];exact hz) s.toks
 by_cases h0:0≤k
 · have hk:k.toNat=j:=by
    rw [seqIndex_of h0 h4] at h1
    exact Option.some.inj h1
   exact PySem.W.ki_setAt ho h0 (by omega) (by rw [List.size_toArray,← hl];exact h4) (by rw [hk];exact⟨_,I',q⟩)
 · have hk:(k+(its.toArray.size:Int)).toNat=j:=by
    rw [seqIndex_neg (by omega) h3] at h1
    rw [List.size_toArray,← hl]
    exact Option.some.inj h1
   exact PySem.W.ki_setBack ho (by omega) (by rw [List.size_toArray,← hl];exact h3) (by omega) (by rw [hk];exact⟨_,I',q⟩)
theorem qDe (lo hi:Option Int)(n:Nat):(sliceBounds lo hi none n).1=((HT.sIx n 0 lo:Nat):Int)∧(sliceBounds lo hi none n).2.1=((HT.sIx n n hi:Nat):Int)∧(sliceBounds lo hi none n).2.2=1:=by
 refine⟨?_,?_,rfl⟩
 · cases lo with
   | none=>simp [sliceBounds,HT.sIx]
   | some i=>
    simp only [sliceBounds,HT.sIx,Option.getD_none,show (1:Int) > 0 by decide,if_true]
    by_cases h:i < 0
    · simp only [h,if_true] <;> omega
    · simp only [h,if_false] <;> omega
 · cases hi with
   | none=>simp [sliceBounds,HT.sIx]
   | some i=>
    simp only [sliceBounds,HT.sIx,Option.getD_none,show (1:Int) > 0 by decide,if_true]
    by_cases h:i < 0
    · simp only [h,if_true] <;> omega
    · simp only [h,if_false] <;> omega
theorem qCf (its:List Value)(lo hi:Option Int):slicePick its.toArray lo hi none=((its.drop (HT.sIx its.length 0 lo)).take (HT.sIx its.length its.length hi - HT.sIx its.length 0 lo)).toArray:=by
 obtain⟨h1,h2,h3⟩:=qDe lo hi its.toArray.size
 unfold slicePick
 rw [h1,h2,h3]
 simp only [sliceRange_one,pick_run,List.size_toArray] <;> rfl
inductive qOs (K:PySem.W.Frag)(x:V)(lo:Option Int)(hi:Option Int)(H:Hp)(Q:VK):Prop
| mk a xs (_:x= .ref a) (_:SqL K H a xs) (_:∀ p,H p=none→Q (.ref p) (upd H p (.lst (qI3 xs lo hi))))
theorem sl_list:SlR X (qOs X.K):=by
 intro pins s σ H x v vl vu lo hi sl Q I rx hs pl pu h
 obtain⟨a,xs,rfl,hx,q⟩:=h
 cases rx
 obtain⟨its,r,ht,hz⟩:=I.list hx
 have hlen:=r.length
 refine⟨"list",_,slot_list_getitem.lookup,ht.isList.typeIs,?_⟩
 refine wpAny_getItem_list_slice ht.isList hs pl pu .none (by simp) ?_ (by rw [List.size_toArray] <;> omega)
 rw [qCf,← hlen]
 refine⟨.ref s.heap.objs.size,_,I.laid (t':=s.toks) (o:=.lst (qI3 xs lo hi)) (fun b ob q=>Heap.get?_push_of_some _ q) (Nat.le_refl _) ?_,rfl,q _ (I.hok.fresh (Nat.le_refl _))⟩
 exact⟨Nat.le_trans (qAc xs lo hi) hz,_,0,(r.drop (HT.sIx xs.length 0 lo)).take (HT.sIx xs.length xs.length hi - HT.sIx xs.length 0 lo),Heap.get?_push_size _ rfl⟩
def xB:V→Bool
 | .non=>true
 | .bl _=>true
 | .int _=>true
 | .str _=>true
 | _=>false
def eqV:V→V→Bool
 | .non,.non=>true
 | .bl a,.bl b=>a == b
 | .bl a,.int b=>(if a then 1 else 0) == b
 | .int a,.bl b=>a == (if b then 1 else 0)
 | .int a,.int b=>a == b
 | .str a,.str b=>a == b
 | _,_=>false
theorem qCu {A:Around}{s:Shared}{y x:V}{u v:Value}(ry:RelV y u)(rx:RelV x v)(fy:xB y=true)(fx:xB x=true):SeqAt.EqAt A s u v (eqV y x):=by
 cases y with
 | non=>
  cases ry
  cases x with
  | non=>cases rx;exact SeqAt.EqAt.same _
  | bl b=>cases rx;exact SeqAt.EqAt.none_bool b
  | int b=>obtain⟨t,rfl⟩:=rx;exact SeqAt.EqAt.none_int b t
  | str b=>obtain⟨t,rfl⟩:=rx;exact SeqAt.EqAt.none_str b t
  | _=>exact absurd (show false=true from fx) Bool.false_ne_true
 | bl a=>
  cases ry
  cases x with
  | non=>cases rx;exact SeqAt.EqAt.bool_none a
  | bl b=>cases rx;exact SeqAt.EqAt.bool_bool a b
  | int b=>obtain⟨t,rfl⟩:=rx;exact SeqAt.EqAt.bool_int a b t
  | str b=>obtain⟨t,rfl⟩:=rx;exact SeqAt.EqAt.bool_str a b t
  | _=>exact absurd (show false=true from fx) Bool.false_ne_true
 | int a=>
  obtain⟨t',rfl⟩:=ry
  cases x with
  | non=>cases rx;exact SeqAt.EqAt.int_none a t'
  | bl b=>cases rx;exact SeqAt.EqAt.int_bool a t' b
  | int b=>obtain⟨t,rfl⟩:=rx;exact SeqAt.EqAt.int_int a t' b t
  | str b=>obtain⟨t,rfl⟩:=rx;exact SeqAt.EqAt.int_str a t' b t
  | _=>exact absurd (show false=true from fx) Bool.false_ne_true
 | str a=>
  obtain⟨t',rfl⟩:=ry
  cases x with
  | non=>cases rx;exact SeqAt.EqAt.str_none a t'
  | bl b=>cases rx;exact SeqAt.EqAt.str_bool a t' b
  | int b=>obtain⟨t,rfl⟩:=rx;exact SeqAt.EqAt.str_int a t' b t
  | str b=>obtain⟨t,rfl⟩:=rx;exact SeqAt.EqAt.str_str a t' b t
  | _=>exact absurd (show false=true from fx) Bool.false_ne_true
 | _=>exact absurd (show false=true from fy) Bool.false_ne_true
def eqU (x:V)(u:Value):Bool:=match u with
 | .none=>eqV .non x
 | .bool b=>eqV (.bl b) x
 | .int i _=>eqV (.int i) x
 | .str z _=>eqV (.str z) x
 | _=>false
theorem qKi {x y:V}{u:Value}(r:RelV y u)(f:xB y=true):eqU x u=eqV y x:=by
 cases y with
 | non=>cases r;rfl
 | bl b=>cases r;rfl
 | int i=>obtain⟨t,rfl⟩:=r;rfl
 | str z=>obtain⟨t,rfl⟩:=r;rfl
 | _=>exact absurd (show false=true from f) Bool.false_ne_true
theorem qEz {x:V}:∀ {xs:List V} {us:List Value},Vals xs us→xs.all xB=true→us.any (eqU x)=xs.any fun y=>eqV y x
 | _,_,.nil,_=>rfl
 | y::xs,u::us,.cons r t,f=>by
  rw [List.all_cons,Bool.and_eq_true] at f
  rw [List.any_cons,List.any_cons,qKi r f.1,qEz t f.2]
theorem qBc {A:Around}{s:Shared}{x:V}{v:Value}(rx:RelV x v)(fx:xB x=true):∀ {xs:List V} {us:List Value},Vals xs us→xs.all xB=true→∀ u∈us,SeqAt.EqAt A s u v (eqU x u)
 | _,_,.nil,_=>fun u hu=>by cases hu
 | y::xs,u::us,.cons r t,f=>fun u' hu=>by
  rw [List.all_cons,Bool.and_eq_true] at f
  rcases List.mem_cons.mp hu with rfl | hu
  · rw [qKi r f.1];exact qCu r rx f.1 fx
  · exact qBc rx fx t f.2 u' hu
def inV (x:V)(xs:List V):Bool:=xs.any fun y=>eqV y x
inductive rIn (K:PySem.W.Frag)(neg:Bool)(x:V)(y:V)(H:Hp)(Q:VK):Prop
| mk p xs (_:y= .ref p) (_:(SqL K H p xs∨SqT K H p xs)) (_:xB x=true) (_:xs.all xB=true) (_:Q (.bl (if neg then !inV x xs else inV x xs)) H)
theorem qIh:OpR X (compareOp .In) (rIn X.K false):=by
 intro pins s σ H x y v u Q I rx ry h
 obtain⟨p,xs,rfl,hq,fx,fs,q⟩:=h
 cases ry
 rcases hq with hq | hq
 · obtain⟨its,r,pl,hz⟩:=I.list hq
   refine SeqAt.in_listAt (eqU x) pl.isList (fun w hw=>qBc rx fx r fs w (by simpa using hw)) ⟨.bl _,H,I,rfl,?_⟩
   rw [show its.toArray.any (eqU x)=its.any (eqU x) by simp,qEz r fs]
   exact q
 · obtain⟨its,r,pl,hz⟩:=I.tuple hq
   refine SeqAt.in_tupleAt (eqU x) pl (fun w hw=>qBc rx fx r fs w (by simpa using hw)) ⟨.bl _,H,I,rfl,?_⟩
   rw [show its.toArray.any (eqU x)=its.any (eqU x) by simp,qEz r fs]
   exact q
theorem jB:wg X (.builtin "len") (fun xs H Q=>∃ p ys,xs=[.ref p]∧(SqL X.K H p ys∨SqT X.K H p ys)∧Q (.int ys.length) H):=by
 intro pins s σ H xs us Q I r h
 obtain⟨p,ys,rfl,hq,q⟩:=h
 obtain⟨u,rfl,rx⟩:=qF9 r
 cases rx
 have hn:=qFc
 rcases hq with hq | hq
 · obtain⟨its,r',pl,hz⟩:=I.list hq
   have hlen:=r'.length
   exact Calls.call_len_list pl.isList (by simp only [List.size_toArray] <;> omega) ⟨.int ys.length,H,I.tok _,⟨s.toks+1,by rw [List.size_toArray,hlen]⟩,q⟩
 · obtain⟨its,r',pl,hz⟩:=I.tuple hq
   have hlen:=r'.length
   exact len_tuple pl (by simp only [List.size_toArray] <;> omega) ⟨.int ys.length,H,I.tok _,⟨s.toks+1,by rw [List.size_toArray,hlen]⟩,q⟩
theorem j5:wg X (.type "list") (fun xs H Q=>∃ p ys,xs=[.ref p]∧(SqL X.K H p ys∨SqT X.K H p ys)∧∀ l,H l=none→Q (.ref l) (upd H l (.lst ys))):=by
 intro pins s σ H xs us Q I r h
 obtain⟨p,ys,rfl,hq,q⟩:=h
 obtain⟨u,rfl,rx⟩:=qF9 r
 cases rx
 have fin:∀ (its:List Value),Vals ys its→ys.length≤sizeLine→∀ (h':Heap) (c':Nat),(∀ b o',s.heap.get? b=some o'→h'.get? b=some o')→
  h'.get? s.heap.objs.size=some {cls:=.type "list",dict:=none,data:=.seq its.toArray c',slots:=#[]}→EP X pins σ Q (.ref s.heap.objs.size) {s with heap:=h'}:=fun its r' hz h' c' kp e=>
  ⟨.ref s.heap.objs.size,_,I.laid (t':=s.toks) kp (Nat.le_refl _) (show ObjOk X.prog X.w _ h' _ (.lst ys) from ⟨hz,its,c',r',e⟩),rfl,q _ (I.hok.fresh (Nat.le_refl _))⟩
 rcases hq with hq | hq
 · obtain⟨its,r',pl,hz⟩:=I.list hq
   have hlen:=r'.length
   obtain⟨o,ho,hc,n,hd⟩:=pl.isList
   exact call_list_seq p (.inl rfl) ho hc hd (fun h' c' kp e=>fin its r' hz h' c' kp e) (by simp only [List.size_toArray] <;> omega)
 · obtain⟨its,r',pl,hz⟩:=I.tuple hq
   have hlen:=r'.length
   obtain⟨o,ho,hc,n,hd⟩:=pl
   exact call_list_seq p (.inr rfl) ho hc hd (fun h' c' kp e=>fin its r' hz h' c' kp e) (by simp only [List.size_toArray] <;> omega)
def tyV (K:PySem.W.Frag)(T:String)(x:V)(H:Hp):Prop:=match x with
 | .str _=>T="str"
 | .int _=>T="int"
 | .ref p=>(T="list"∧∃ xs,SqL K H p xs)∨(T="tuple"∧∃ o,K.lookup p=some o∧o.cls= .type "tuple"∧o.dict=none)∨
  (T="dict"∧((∃ kvs,H p=some (.dK kvs))∨∃ kvs,H p=some (.dT kvs)))∨(T="set"∧∃ S n,H p=some (.set S n))
 | _=>False
theorem qMf {pins:List (Addr × Obj)}{σ:St}{H:Hp}{s:Shared}{T:String}{x:V}{v:Value}(I:Inv X pins σ H s)(r:RelV x v)(ty:tyV X.K T x H):
 s.TypeIs v T∧∀ a,v= .ref a→∃ ob,s.heap.get? a=some ob∧ob.dict=none:=by
 cases x with
 | str z=>
  obtain⟨t,rfl⟩:=r
  cases (show T="str" from ty)
  exact⟨typeIs_str s z t,fun _ e=>nomatch e⟩
 | int i=>
  obtain⟨t,rfl⟩:=r
  cases (show T="int" from ty)
  exact⟨typeIs_int s i t,fun _ e=>nomatch e⟩
 | ref p=>
  cases r
  rcases ty with ⟨rfl,xs,hq⟩ | ⟨rfl,o,hk,hc,hd⟩ | ⟨rfl,hk⟩ | ⟨rfl,S,n,hk⟩
  · obtain⟨its,_,pl,_⟩:=I.list hq
    refine⟨pl.isList.typeIs,fun a e=>?_⟩
    cases e
    obtain⟨o,n,e,c,hd,_⟩:=pl
    exact⟨o,e,hd⟩
  · refine⟨⟨o,I.kIn p o hk,hc⟩,fun a e=>?_⟩
    cases e
    exact⟨o,I.kIn _ o hk,hd⟩
  · have z:∃ o,s.heap.get? p=some o∧o.ExactDict:=by
     rcases hk with ⟨kvs,hk⟩ | ⟨kvs,hk⟩
     · obtain⟨_,_,_,_,o,_,_,e,ex,_⟩:=I.hok p _ hk
       exact⟨o,e,ex⟩
     · obtain⟨_,_,_,_,o,_,_,e,ex,_⟩:=I.hok p _ hk
       exact⟨o,e,ex⟩
    obtain⟨o,e,ex⟩:=z
    refine⟨⟨o,e,ex.1⟩,fun a e2=>?_⟩
    cases e2
    exact⟨o,e,ex.2.1⟩
  · obtain⟨o,_,_,_,e,ex,_⟩:=I.hok p _ hk
    refine⟨⟨o,e,ex.1⟩,fun a e2=>?_⟩
    cases e2
    exact⟨o,e,ex.2.1⟩
 | _=>exact False.elim ty
def tBM (K:PySem.W.Frag)(T:String)(r:V→List V→Hp→VK→Prop)(to:TE)(t:TA):TE:=fun σ H Q=>to σ H fun x H1=>tyV K T x H1∧t σ H1 fun xs H2=>r x xs H2 Q
variable {o e : Expr} {es : List Expr} {to : TE} {t : TA} {name : Str} {apos cpos : Pos} {T id : String} {r : V → List V → Hp → VK → Prop}
theorem qMu (pa:PlainAttrs T)(slot:Slot T name id)(hty:typeOf (.builtin id)=pure (.type "method_descriptor"))(hm:MtR X id r)(ho:PE X o to)(ha:PA X (e::es) t)
 (hbase:attributeBase o name X.env (eval o X.env)=eval o X.env:=by rfl)
 (hfew:((backTo cpos (starEach (e::es) X.env)).all (fun x=>!x.1) && (backToKw cpos (keywordEach [] X.env)).all (fun x=>x.1.isSome)
   && decide ((e::es).length+([]:List Keyword).length+(if ([]:List Keyword).isEmpty then 0 else 1) < 30))=true:=by rfl)
 (hline:(apos.endLine == cpos.line)=true:=by rfl) (hs:starEach (e::es) X.env=(false,eval e X.env)::starEach es X.env:=by rfl) (hplain:(backTo cpos (starEach es X.env)).any (·.1)=false:=by rfl):
 PE X (.Call (.Attribute o name apos) (e::es) [] cpos) (tBM X.K T r to t):=by
 intro pins s σ H Q I h
 refine wpAny_Call_method_late hbase hfew hline rfl (thn (ho pins s σ H _ I h) fun v s1 ⟨x,H1,I1,r1,ty,q1⟩=>?_)
 obtain⟨h1,h2⟩:=qMf I1 r1 ty
 refine⟨T,id,pa,slot,hty,h1,h2,?_⟩
 have hA:=ha cpos pins s1 σ H1 _ I1 q1
 rw [hs] at hA ⊢
 refine Calls.callWith_builtin (by show (false || (backTo cpos (starEach es X.env)).any (·.1))=false;rw [hplain] <;> rfl) (Calls.evalArgs_plain ?_)
 exact thn hA fun us s2 ⟨vs,H2,I2,r2,q2⟩=>hm pins s2 σ H2 x vs v us Q I2 r1 r2 q2
end
end L2
namespace L2
open PySem PySem.Spec PyProof.Rows
def MtM (X:Cx)(id:String)(r:V→List V→Hp→VK→Prop):Prop:=
 ∀ (pins:List (Addr × Obj)) (s:Shared) (σ:St) (H:Hp) (x:V) (xs:List V) (v:Value) (us:List Value) (Q:VK),Inv X pins σ H s→RelV x v→Vals xs us→r x xs H Q→
  wpAny (model X.prog X.w) X.A (call (.builtin id) (v::us)) (EP X pins σ Q) X.xe s
theorem Vals.one:∀ {x:V} {us:List Value},Vals [x] us→∃ u,us=[u]∧RelV x u
 | _,_,.cons r .nil=>⟨_,rfl,r⟩
theorem Vals.two:∀ {x y:V} {us:List Value},Vals [x,y] us→∃ u v,us=[u,v]∧RelV x u∧RelV y v
 | _,_,_,.cons r (.cons q .nil)=>⟨_,_,rfl,r,q⟩
theorem Vals.zero:∀ {us:List Value},Vals [] us→us=[]
 | _,.nil=>rfl
theorem Vals.dropLast {xs:List V}{us:List Value}(h:Vals xs us):Vals xs.dropLast us.dropLast:=by
 induction h with
 | nil=>exact .nil
 | cons r t ih=>
  cases t with
  | nil=>exact .nil
  | cons q t'=>exact .cons r ih
theorem Vals.reverse {xs:List V}{us:List Value}(h:Vals xs us):Vals xs.reverse us.reverse:=by
 induction h with
 | nil=>exact .nil
 | cons r t ih=>rw [List.reverse_cons,List.reverse_cons];exact Vals.append ih (.cons r .nil)
section
variable {X : Cx} {pins : List (Addr × Obj)} {σ : St} {H : Hp} {s : Shared} {l b : Addr} {xs ys zs : List V}
theorem Inv.lset {its its':List Value}{n:Nat}{f:Array Value→Array Value}{t':Nat}(I:Inv X pins σ H s)(hH:H l=some (.lst xs))
 (e:s.heap.get? l=some {cls:=.type "list",data:=.seq its.toArray n}) (hf:f its.toArray=its'.toArray) (hv:Vals ys its') (hz:ys.length≤sizeLine):
 Inv X pins σ (upd H l (.lst ys)) {s with heap:=s.heap.update l (Obj.mapSeq f),toks:=t'}:=by
 have q:=PySem.IsL.update e f
 rw [hf] at q
 refine I.write (x:=l) (e:=l) (by rw [hH];exact trivial) (.inl rfl) (fun b' u hb hu=>(Heap.get?_update_other s.heap (Obj.mapSeq f) (Ne.symm hb)).trans hu) ⟨_,q⟩ ?_
 exact⟨hz,its',_,hv,q⟩
theorem Inv.lstM (I:Inv X pins σ H s)(hH:H l=some (.lst xs)):xs.length≤sizeLine∧∃ (its:List Value) (n:Nat),Vals xs its∧xs.length=its.length∧s.heap.get? l=some {cls:=.type "list",data:=.seq its.toArray n}:=by
 obtain⟨z,its,n,r,e⟩:=I.hok l _ hH
 exact⟨z,its,n,r,r.length,e⟩
end
section
variable {X : Cx}
inductive qKu (x:V)(vs:List V)(H:Hp)(Q:VK):Prop
| mk l xs y (_:x= .ref l) (_:vs=[y]) (_:H l=some (.lst xs)) (_:xs.length < sizeLine) (_:Q .non (upd H l (.lst (xs++[y]))))
theorem qDx:MtM X "list.append" qKu:=by
 intro pins s σ H x vs v us Q I rx rv h
 obtain⟨l,xs,y,rfl,rfl,hH,hz,q⟩:=h
 cases rx
 obtain⟨u,rfl,ru⟩:=rv.one
 obtain⟨z,its,n,r,hl,e⟩:=I.lstM hH
 refine call_meets F.slot_list_append ⟨_,e,rfl⟩ F.entry_list_append (F.args_list_append_2 _ _) (PySem.list_append l its.toArray n u (by rw [List.size_toArray];omega)) ⟨e,?_⟩
 refine⟨.non,_,I.lset (its':=its++[u]) hH e (by simp) (r.append (.cons ru .nil)) ?_,rfl,q⟩
 rw [List.length_append,List.length_singleton]
 omega
end
section
variable {prog : Program} {w : World} {A : Around} {E : Value → Shared → Prop} {s : Shared}
end
section
variable {X : Cx}
end
end L2
namespace Att
open PySem PySem.W PySem.Calls PyProof.Rows
theorem wL {P:Params}{h:Heap}:∀ (ns:List Int) (vs:List Value),WellAll P h vs (ns.map WData.int)→IntsAre vs ns:=by
 intro ns
 induction ns with
 | nil=>
  intro vs w
  rw [List.map_nil] at w
  cases w
  exact .nil
 | cons n ns ih=>
  intro vs w
  rw [List.map_cons] at w
  cases w with
  | cons a b=>
   cases a
   exact .cons _ _ (ih _ b)
theorem qIa {l:OpenLaw}{n:Nat}(hn:l.most=some n){P:Params}{h:Heap}{args:List WData}{vals:List Value}
 (hpre:l.row.toRowW.claim.pre args=true) (hwl:WellAll P h vals args):
 ∃ a vs ns,vals=[Value.ref a]∧args=[WData.list (ns.map WData.int)]∧h.get? a=some {cls:=.type "list",data:=.seq vs.toArray}∧IntsAre vs ns∧ns.length≤n:=by
 have hsh:WShape.hasAll [] args [.list .int]=true:=(pre_splitW hpre).1
 have hc:l.pre.holds [] {args:=args}=true:=(pre_splitW hpre).2
 obtain⟨d,r,rfl,h1,h2⟩:=hasAllW_cons hsh
 obtain rfl:=hasAllW_nil h2
 obtain⟨xs,rfl,h3⟩:=hasW_list h1
 obtain⟨ns,rfl⟩:=items_int h3
 have hlen:ns.length≤n:=by
  unfold OpenLaw.pre at hc
  have h4:(WTm.not (.lt (.lit (.int (n:Int))) (.len (.arg 0)))).holds [] {args:=[.list (ns.map .int)]}=true:=by
   have h4:=(holds_andW hc).1
   rw [hn] at h4
   exact h4
  have h5:=condW_of h4 (w_not (w_lt w_lit (w_len_list (w_arg rfl))))
  rw [List.length_map] at h5
  refine Nat.le_of_not_lt fun q=>?_
  have q':(n:Int) < ((ns.length:Nat):Int):=by omega
  first
   | (rw [decide_eq_true q'] at h5;exact absurd h5 (by decide))
   | (simp at h5;omega)
 cases hwl with
 | cons w1 w2=>
  cases w2
  cases w1 with
  | list ho hall=>exact⟨_,_,ns,rfl,rfl,ho,wL ns _ hall,hlen⟩
theorem qH8 (l:OpenLaw)(args:List WData):l.row.toRowW.claim.post args (.bool true) args=true:=
 postW_of (r:=l.row.toRowW) (X:=(true == true))
  (show WShape.has [] (.bool true) .bool=true by first | rfl | decide | simp [WShape.has,WShape.arms,WShape.armsAll])
  (show (WTm.eq .res (.lit (.bool true))).value [] {args:=args,res:=some (.bool true),after:=args}=some (.bool (true == true)) from w_eq_bool (w_res rfl) w_lit) rfl
theorem attach_call {l:OpenLaw}{n:Nat}{q:Program}{loose:List Str}{XP:(Str→Option Value)→Heap→Prop}{YP:World→Heap→Prop}{d:DefRec}
 (hn:l.most=some n) (hdf:d.params.defaults=[])
 (call:∀ (w:World) (s₀ s₁:Shared) (mg mb:Str→Option Value) (fa:Addr) (o:Obj) (pm cd doc:Value) (a:Addr) (vs:List Value) (ns:List Int),
   Ground q loose [] XP w s₀ mg mb s₁.heap→YP w s₁.heap→
   s₁.heap.get? fa=some o→o.data= .func (docDef d.name d.params d.body d.scope pm cd doc)→s₁.heap.CodeRec cd d.name→mg d.name=some (.ref fa)→
   s₁.heap.get? a=some {cls:=.type "list",data:=.seq vs.toArray}→IntsAre vs ns→ns.length≤n→s₁.gens=#[]→
   codeAny (model l.prog w) callerA (.call (.ref fa) ⟨[.ref a],[]⟩) (fun r s'=>r= .ok (.ret (.bool true))∧OldK s₁.heap s'.heap∧s'.os=s₁.os∧AllBare s'.gens) s₁):
 WalkO q loose XP YP l.row.toRowW d [] (fun f vs=>PySem.call f vs):=by
 intro w s₀ s₁ mg mb G Y fa o pm cd doc dV kV ho hd hcd hD hmg hg args vals as hpre hlay hrd hwl hlo
 obtain rfl:dV= .none:=Dflts.none hD hdf
 obtain rfl:kV= .none:=Dflts.noKw hD
 obtain⟨a,vs,ns,rfl,rfl,hobj,hints,hlen⟩:=qIa hn hpre hwl
 refine enter_call (codeAny_mono (call w s₀ s₁ mg mb fa o pm cd doc a vs ns G Y ho (fd_plain hd) hcd hmg hobj hints hlen hg) fun r s' hq=>?_)
 obtain⟨rfl,h2,h3,h4⟩:=hq
 exact⟨.inl ⟨.bool true,.bool true,[],rfl,fun _=>rfl,.bool true,qH8 l _,fun _=>⟨List.Pairwise.nil,fun _ hm=>(nomatch hm)⟩⟩,h2,h3,h4⟩
section
variable {prog : Program} {w : World} {A : Around} {E : Value → Shared → Prop} {s : Shared} {K : Frag}
def ledger (h:Heap)(L d:Addr):List (Addr × Obj):=(List.range h.objs.size).filterMap fun a=>if a=L∨a=d then none else (h.get? a).map fun o=>(a,o)
end
end Att
namespace L2
open PySem PySem.Spec PyProof.Rows
theorem qCs:∀ {vs:List Value} {ns:List Int},IntsAre vs ns→Vals (ns.map V.int) vs
 | _,_,.nil=>.nil
 | _,_,.cons n t h=>.cons ⟨t,rfl⟩ (qCs h)
def qNh (H:Hp):Prop:=∀ b,H b=none∨∃ o xs,H b=some (.frz o (.lst xs))
theorem qJg {P:Program}{w:World}{K:PySem.W.Frag}{mg mb:Str→Option Value}{CX:CXT}{k:Nat}{fa a:Addr}{fd:FuncData}{x:Str}{sp:Sp}{s₁:Shared}{vs:List Value}{ns:List Int}
 (KX:K.In s₁.heap) (hns:s₁.heap.Ns mainGlobals mg) (hb:s₁.heap.Ns builtinsNs mb) (hbb:∀ x:Str,x≠"__name__"→mb x=bootBuiltins x) (hlim:s₁.heap.NoLimit) (hg:s₁.gens=#[])
 (ha:s₁.heap.get? a=some {cls:=.type "list",data:=.seq vs.toArray}) (hi:IntsAre vs ns) (hl:ns.length≤sizeLine) (hr:Room k callerA)
 (F:∀ base:Heap,K.In base→base.Ns mainGlobals mg→FnOk P w K mg base CX k fa fd [x] sp) (hbind:∀ (s:Shared) (u:Value),BindsTo s fd ⟨[u],[]⟩ [(x,u)])
 (hsp:∀ H:Hp,qNh H→SqL K H a (ns.map V.int)→sp [.ref a] H (fun v _=>v= .bl true) fun _ _ _=>False)
 (hCX:∀ H e s',CX [] H s₁ (fun _ _ _=>False) e s'→False):
 codeAny (model P w) callerA (.call (.ref fa) ⟨[.ref a],[]⟩) (fun r s'=>r= .ok (.ret (.bool true))∧OldK s₁.heap s'.heap∧s'.os=s₁.os∧AllBare s'.gens) s₁:=by
 have rv:=qCs hi
 have lenV:=hi.length
 have core:∀ H:Hp,qNh H→SqL K H a (ns.map V.int)→HOk P w H s₁.heap→(∀ b,H b≠none→b=a)→(H a≠none→K.lookup a=none)→
  codeAny (model P w) callerA (.call (.ref fa) ⟨[.ref a],[]⟩) (fun r s'=>r= .ok (.ret (.bool true))∧OldK s₁.heap s'.heap∧s'.os=s₁.os∧AllBare s'.gens) s₁:=by
  intro H hO hS hok hA hK
  have base_of:∀ {b:Addr} {o:Obj},s₁.heap.get? b=some o→H b=none→(qI9 s₁.heap H).get? b=some o:=fun e n=>qKd e n
  have noA:∀ {b:Addr} {o:Obj} {es:Array DictEntry} {ep:Nat},s₁.heap.get? b=some o→o.data= .dict es ep→H b=none:=fun {b o es ep} e d=>by
   cases q:H b with
   | none=>rfl
   | some u=>
    have e':b=a:=hA b (by rw [q];simp)
    subst e'
    rw [ha] at e;cases e
    have d':Data.seq vs.toArray _=Data.dict es ep:=d
    cases d'
  have nsK:∀ {b:Addr} {m:Str→Option Value},s₁.heap.Ns b m→(qI9 s₁.heap H).Ns b m:=fun {b m} ⟨o,es,ep,e,d,r⟩=>⟨o,es,ep,base_of e (noA e d),d,r⟩
  have hKb:K.In (qI9 s₁.heap H):=fun b o e=>base_of (KX b o e) (by
   cases q:H b with
   | none=>rfl
   | some u=>
    have e':b=a:=hA b (by rw [q];simp)
    subst e'
    rw [hK (by rw [q];simp)] at e;cases e)
  have hM:Mod K mg (qI9 s₁.heap H):=⟨hKb,nsK hns,⟨mb,nsK hb,hbb⟩,let ⟨mc,h1,h2⟩:=hlim;⟨mc,nsK h1,h2⟩⟩
  have e0:Env0 P w K mg (qI9 s₁.heap H) callerA [] s₁ H:=⟨rfl,hM,fun b o e=>qLo e,Nat.le_of_eq (qHi _ _),trivial,fun b hb=>absurd (show b∈([]:List Addr) from hb) (by simp),hok,.of_eq hg⟩
  refine codeAny_mono ((F _ hKb (nsK hns)).run callerA [] s₁ H ⟨[.ref a],[]⟩ [.ref a] [.ref a] _ _ hr e0 (hbind s₁ (.ref a)) (.cons rfl .nil) (hsp H hO hS)) fun r s' h=>?_
  cases r with
  | error e=>exact(hCX H e s' h).elim
  | ok fl=>
   cases fl with
   | next=>exact False.elim h
   | brk=>exact False.elim h
   | cont=>exact False.elim h
   | ret u=>
    obtain⟨v,H',os,bare,un,hok',r',q⟩:=h
    have q':v= .bl true:=q
    subst q'
    obtain rfl:u=Value.bool true:=r'
    refine⟨rfl,OldK.of_keep fun b o e=>?_,os,bare⟩
    cases q:H b with
    | none=>exact un.keep b o e q (by intro z;exact absurd (show b∈([]:List Addr) from z) (by simp)) (by simp)
    | some u=>
     rcases hO b with z | ⟨ob,xs,z⟩
     · rw [q] at z;cases z
     · have z2:=un.frzs b ob _ z
       obtain⟨e1,_⟩:=hok b _ z
       obtain⟨e2,_⟩:=hok' b _ z2
       rw [e] at e1;cases e1
       exact e2
 cases hk:K.lookup a with
 | some o=>
  have e:=KX a o hk
  rw [ha] at e
  cases e
  refine core (fun _=>none) (fun _=>.inl rfl) (.inr ⟨_,vs.toArray,_,hk,rfl,rfl,rfl,by rw [List.size_toArray,lenV];exact hl,by simpa using rv⟩) (fun b u z=>by have z':(none:Option HO)=some u:=z;cases z') (fun b z=>absurd rfl z) fun z=>absurd rfl z
 | none=>
  refine core (fun b=>if b=a then some (.frz {cls:=.type "list",data:=.seq vs.toArray} (.lst (ns.map V.int))) else none) (fun b=>?_) (.inl (.inr ⟨{cls:=.type "list",data:=.seq vs.toArray},if_pos rfl⟩)) (fun b u z=>?_) (fun b z=>?_) fun _=>hk
  · by_cases hb:b=a
    · exact .inr ⟨_,_,if_pos hb⟩
    · exact .inl (if_neg hb)
  · by_cases hb:b=a
    · have z':=(if_pos hb).symm.trans z
      cases z'
      subst hb
      exact⟨ha,by rw [List.length_map];exact hl,vs,_,rv,ha⟩
    · have z':=(if_neg hb).symm.trans z
      cases z'
  · by_cases hb:b=a
    · exact hb
    · exact absurd (if_neg hb) z
end L2
namespace L2
open PySem PySem.Spec PyProof.Rows
theorem walk_of {l:PySem.W.OpenLaw}{n k:Nat}{q:Program}{loose:List Str}{XP:(Str→Option Value)→Heap→Prop}{YP:World→Heap→Prop}{d:DefRec}{K:Params→PySem.W.Frag}{CX:World→CXT}{sp:World→Sp}{x:Str}
 (hn:l.most=some n) (hn2:n≤sizeLine) (hdf:d.params.defaults=[]) (hr:Room k callerA)
 (hY:∀ (w:World) (h:Heap),YP w h→(K w.params).In h)
 (F:∀ (w:World) (mg:Str→Option Value) (fa:Addr) (h:Heap),(K w.params).In h→h.Ns mainGlobals mg→mg d.name=some (.ref fa)→
   ∃ fd:FuncData,(∀ (s:Shared) (u:Value),BindsTo s fd ⟨[u],[]⟩ [(x,u)])∧
    ∀ base:Heap,(K w.params).In base→base.Ns mainGlobals mg→FnOk l.prog w (K w.params) mg base (CX w) k fa fd [x] (sp w))
 (hsp:∀ (w:World) (H:Hp) (a:Addr) (ns:List Int),ns.length≤n→qNh H→SqL (K w.params) H a (ns.map V.int)→sp w [.ref a] H (fun v _=>v= .bl true) fun _ _ _=>False)
 (hCX:∀ (w:World) (H:Hp) (s:Shared) (e:Value) (s':Shared),CX w [] H s (fun _ _ _=>False) e s'→False):
 PySem.W.WalkO q loose XP YP l.row.toRowW d [] (fun f vs=>PySem.call f vs):=by
 refine Att.attach_call hn hdf fun w s₀ s₁ mg mb fa o pm cd doc a vs ns G Y ho hd hcd hmg hobj hints hlen hg=>?_
 have KX:=hY w _ Y
 obtain⟨fd,hb,hF⟩:=F w mg fa _ KX G.T.g hmg
 exact qJg KX G.T.g G.T.b G.T.builtins G.T.nolimit hg hobj hints (Nat.le_trans hlen hn2) hr hF hb (fun H hO hS=>hsp w H a ns hlen hO hS) fun H e s'=>hCX w H s₁ e s'
end L2
namespace L2
open PySem PySem.Spec PyProof.Rows
def qKy (s:Stmt)(j:Nat):Stmt:=match s with
 | .ClassDef _ _ _ body _ _ _ _ _ _ _=>body.getD j (.Pass ⟨0,0,0,0⟩)
 | _=>.Pass ⟨0,0,0,0⟩
def xq (s:Stmt):Arguments:=match s with
 | .FunctionDef _ a _ _ _ _ _ _ _ _=>a
 | _=>{posonlyargs:=[],args:=[],vararg:=none,kwonlyargs:=[],kw_defaults:=[],kwarg:=none,defaults:=[]}
def j6 (s:Stmt):List Stmt:=match s with
 | .FunctionDef _ _ b _ _ _ _ _ _ _=>b
 | _=>[]
def qH (s:Stmt):Scope:=match s with
 | .FunctionDef _ _ _ _ _ _ sc _ _ _=>sc
 | _=>{kind:=.function,names:=[],isGenerator:=false,isCoroutine:=false}
abbrev CX0:CXT:=fun _ _ _ _ _ _=>False
abbrev E0:XK:=fun _ _ _=>False
theorem qNy {X:Cx}:qFz CX0 X E0:=fun _ _ _ _ _ _ _ h=>h.elim
structure Fun (K:PySem.W.Frag)(x qual:Str)(st:Stmt)(f:Addr)(fd:FuncData):Prop where
 ex:∃ (oc:Value) (od:Option Addr) (kV doc pm:Value) (an:Option Addr) (cdv ct:Value) (osl:Array (Option Value)),
  fd=PySem.W.fnOf x qual (xq st) (j6 st) (qH st) .none kV doc pm an cdv ct∧K.lookup f=some ⟨oc,od,.func fd,osl⟩∧PySem.W.codeIn K cdv qual=true
 kp:PySem.W.keepIn K (.ref f)=true
section
variable {P : Program} {w : World} {K : PySem.W.Frag} {mg : Str → Option Value} {base : Heap}
theorem Fun.ok {x qual:Str}{st:Stmt}{f:Addr}{fd:FuncData}{N ps:List Str}{k:Nat}{sp:Sp}(F:Fun K x qual st f fd)(S:qL N ps (qH st))(len:∀ vs H Q E,sp vs H Q E→vs.length=ps.length)
 (hbody:∀ (cdv:Value) (A:Around) (outer:List Env) (s:Shared) (H:Hp) (vs:List V) (Q:VK) (E:XK),Room k (A.deeper (envOfC qual (qH st) s.heap.objs.size f cdv))→sp vs H Q E→
   ∃ t,PSs (qI4 CX0 P w K mg base N qual (qH st) f cdv A outer s H E).nox (j6 st) t∧t {nx:=fun _ H'=>Q .non H',rt:=Q} (qCb N vs) H):FnOk P w K mg base CX0 (k+1) f fd ps sp:=by
 obtain⟨oc,od,kV,doc,pm,an,cdv,ct,osl,rfl,lk,hcd⟩:=F.ex
 refine qMn lk hcd S len fun A outer s H vs Q E hr hsp=>?_
 obtain⟨t,h,q⟩:=hbody cdv A outer s H vs Q E hr hsp
 exact⟨t,h.nox,q⟩
theorem Fun.binds {x qual:Str}{st:Stmt}{f:Addr}{fd:FuncData}{ps:List Str}(F:Fun K x qual st f fd)
 (h:∀ (kV doc pm:Value) (an:Option Addr) (cdv ct:Value) (us:List Value),us.length=ps.length→bindArgs (PySem.W.fnOf x qual (xq st) (j6 st) (qH st) .none kV doc pm an cdv ct) ⟨us,[]⟩=pure (ps.zip us)):Binds K fd ps []:=by
 obtain⟨oc,od,kV,doc,pm,an,cdv,ct,osl,rfl,lk,hcd⟩:=F.ex
 exact .all (h kV doc pm an cdv ct)
theorem qKp {x qual:Str}{st:Stmt}{f:Addr}{oc:Value}{od an:Option Addr}{osl:Array (Option Value)}{kV doc pm cdv ct:Value}(l:K.lookup f=some ⟨oc,od,.func (PySem.W.fnOf x qual (xq st) (j6 st) (qH st) .none kV doc pm an cdv ct),osl⟩)
 (c:PySem.W.codeIn K cdv qual=true) (k:PySem.W.keepIn K (.ref f)=true):Fun K x qual st f (PySem.W.fnOf x qual (xq st) (j6 st) (qH st) .none kV doc pm an cdv ct):=⟨⟨oc,od,kV,doc,pm,an,cdv,ct,osl,rfl,l,c⟩,k⟩
end
theorem qE6 {A:Around}{k:Nat}(hr:Room k A):A.units+1 < cLine:=Nat.lt_of_le_of_lt (Nat.add_le_add_left (by decide:1≤64) _) hr.units
theorem jT {n:Nat}(h:n≤1000):n < sizeLine:=Nat.lt_of_le_of_lt h (by decide)
section
variable {X : Cx}
theorem pv (i:Nat){x:Str}{pos:Pos}(hN:X.N[i]? =some x:=by rfl)(hv:Vis X.env.scope x:=by first | exact Or.inl rfl | exact Or.inr (Or.inl rfl) | exact Or.inr (Or.inr rfl))(hd:(x == ("__debug__":Str))=false:=by decide)
 (hcd:(x == ("__classdict__":Str))=false:=by decide):PE X (.Name x pos) (qM5 i):=qMd hN hv hd hcd
end
theorem xY {A B:Prop}(h:B):if false=true then A else B:=by
 rw [if_neg Bool.false_ne_true]
 exact h
theorem xn {A B:Prop}(h:A):if true=true then A else B:=by
 rw [if_pos rfl]
 exact h
theorem jN {c A B:Prop} [Decidable c] (h1:c→A)(h2:¬ c→B):if c then A else B:=by
 by_cases h:c
 · rw [if_pos h]
   exact h1 h
 · rw [if_neg h]
   exact h2 h
theorem qN8 {c A B:Prop} [Decidable c] (hc:c)(h:B):if (!decide c)=true then A else B:=by
 rw [decide_eq_true hc]
 exact xY h
def Same (H H':Hp):Prop:=∀ b o,H b=some o→H' b=some o
theorem Same.refl (H:Hp):Same H H:=fun _ _ h=>h
theorem Same.trans {H H1 H2:Hp}(a:Same H H1)(b:Same H1 H2):Same H H2:=fun c o h=>b c o (a c o h)
theorem Same.free {H H':Hp}(e:Same H H'){l:Addr}(h:H' l=Option.none):H l=Option.none:=by
 cases q:H l with
 | none=>rfl
 | some o=>
  rw [e l o q] at h
  cases h
theorem Same.seq {K:PySem.W.Frag}{H H':Hp}{a:Addr}{xs:List V}(e:Same H H')(h:SqL K H a xs):SqL K H' a xs:=by
 rcases h with (h | ⟨o,h⟩) | h
 · exact .inl (.inl (e _ _ h))
 · exact .inl (.inr ⟨o,e _ _ h⟩)
 · exact .inr h
end L2
namespace L2
open PySem PySem.Spec PyProof.Rows
section
variable {κ : Type} [DecidableEq κ]
def qAg (kvs:List (κ × V))(k:κ):Option V:=(kvs.find? fun kv=>decide (kv.1=k)).map (·.2)
def qAi (kvs:List (κ × V))(k:κ)(v:V):List (κ × V):=
 if (kvs.any fun kv=>decide (kv.1=k))=true then kvs.map (fun kv=>if kv.1=k then (kv.1,v) else kv) else kvs++[(k,v)]
theorem ze {p:κ × V}{r:List (κ × V)}{k:κ}(e:p.1=k):qAg (p::r) k=some p.2:=by simp [qAg,List.find?_cons,e]
theorem jq {p:κ × V}{r:List (κ × V)}{k:κ}(e:¬ p.1=k):qAg (p::r) k=qAg r k:=by simp [qAg,List.find?_cons,e]
theorem qB7 (k:κ):∀ kvs:List (κ × V),(kvs.any fun kv=>decide (kv.1=k))=(qAg kvs k).isSome
 | []=>rfl
 | p::r=>by
  rw [List.any_cons]
  by_cases e:p.1=k
  · simp only [ze e,decide_eq_true e,Bool.true_or,Option.isSome_some]
  · rw [jq e,decide_eq_false e,Bool.false_or];exact qB7 k r
theorem kD (kvs:List (κ × V))(k:κ)(v:V):(qAi kvs k v).length≤kvs.length+1:=by
 unfold qAi
 split
 · rw [List.length_map];omega
 · rw [List.length_append,List.length_cons,List.length_nil];omega
theorem qJ4 {kvs:List (κ × V)}{k:κ}(v:V)(h:qAg kvs k=none):qAi kvs k v=kvs++[(k,v)]:=by
 unfold qAi
 rw [qB7,h]
 exact if_neg (by decide)
theorem RelO.isSome_eq {o:Option V}{u:Option Value}(r:RelO o u):o.isSome=u.isSome:=by
 cases o with
 | none=>cases u with
  | none=>rfl
  | some _=>exact(show False from r).elim
 | some _=>cases u with
  | none=>exact(show False from r).elim
  | some _=>rfl
theorem RelO.getD {o:Option V}{u:Option Value}{d:V}{d':Value}(r:RelO o u)(rd:RelV d d'):RelV (o.getD d) (u.getD d'):=by
 cases o with
 | none=>cases u with
  | none=>exact rd
  | some _=>exact(show False from r).elim
 | some _=>cases u with
  | none=>exact(show False from r).elim
  | some _=>exact r
theorem KV.val {kvs:List (κ × V)}{vs:List (κ × Value)}(r:KV kvs vs)(k:κ):RelO (qAg kvs k) (valueAt vs k):=by
 unfold KV at r
 induction r with
 | nil=>exact True.intro
 | @cons p q ps qs h t ih=>
  obtain⟨h1,h2⟩:=h
  by_cases e:p.1=k
  · have e':q.1=k:=h1.symm.trans e
    have b:valueAt (q::qs) k=some q.2:=by simp [valueAt,List.find?_cons,e']
    rw [ze e,b];exact h2
  · have e':¬ q.1=k:=fun z=>e (h1.trans z)
    have b:valueAt (q::qs) k=valueAt qs k:=by simp [valueAt,List.find?_cons,e']
    rw [jq e,b];exact ih
theorem KV.any {kvs:List (κ × V)}{vs:List (κ × Value)}(r:KV kvs vs)(k:κ):(kvs.any fun kv=>decide (kv.1=k))=vs.any fun kv=>decide (kv.1=k):=by
 unfold KV at r
 induction r with
 | nil=>rfl
 | cons h t ih=>rw [List.any_cons,List.any_cons,ih,h.1]
theorem KV.repl {kvs:List (κ × V)}{vs:List (κ × Value)}(r:KV kvs vs)(k:κ){y:V}{u:Value}(ry:RelV y u):
 KV (kvs.map fun kv=>if kv.1=k then (kv.1,y) else kv) (vs.map fun kv=>if kv.1=k then (kv.1,u) else kv):=by
 unfold KV at r ⊢
 induction r with
 | nil=>exact .nil
 | @cons p q ps qs h t ih=>
  rw [List.map_cons,List.map_cons]
  refine .cons ?_ ih
  obtain⟨h1,h2⟩:=h
  by_cases e:p.1=k
  · rw [if_pos e,if_pos (h1.symm.trans e)];exact⟨h1,ry⟩
  · rw [if_neg e,if_neg (fun z=>e (h1.trans z))];exact⟨h1,h2⟩
theorem KV.put {kvs:List (κ × V)}{vs:List (κ × Value)}(r:KV kvs vs)(k:κ){y:V}{u:Value}(ry:RelV y u):KV (qAi kvs k y) (stored vs k u):=by
 unfold qAi stored
 rw [r.any k]
 by_cases e:(vs.any fun kv=>decide (kv.1=k))=true
 · rw [if_pos e,if_pos e];exact r.repl k ry
 · rw [if_neg e,if_neg e];exact Paired.snoc r ⟨rfl,ry⟩
theorem KV.length {kvs:List (κ × V)}{vs:List (κ × Value)}(r:KV kvs vs):kvs.length=vs.length:=Paired.length r
end
theorem qJt {P:Program}{w:World}{k:Key}{u:Value}(r:RelV (kV k) u):(jO P w).is k u=true:=by
 cases k with
 | inl i=>obtain⟨t,e⟩:=(show ∃ t,u=Value.int i t from r);subst e;exact qD8 P w i t
 | inr x=>obtain⟨t,e⟩:=(show ∃ t,u=Value.str x t from r);subst e;exact qE7 P w x t
theorem qCt {P:Program}{w:World}:∀ {ks:List Key} {us:List Value},Vals (ks.map kV) us→ItemsAre (jO P w) ks us
 | [],_,r=>by rw [List.map_nil] at r;cases r;exact .nil
 | k::ks,_,r=>by
  rw [List.map_cons] at r
  cases r with
  | cons h t=>exact .cons (qJt h) (qCt t)
abbrev KT (H:Hp):List (List Key × V)→List (List Key × Addr × Value)→Prop:=Paired fun p q=>p.1=q.1∧H q.2.1=some (.tup (p.1.map kV))∧RelV p.2 q.2.2
theorem KT.val {H:Hp}{kvs:List (List Key × V)}{xs:List (List Key × Addr × Value)}(r:KT H kvs xs)(k:List Key):RelO (qAg kvs k) ((atKey xs k).map (·.2)):=by
 induction r with
 | nil=>exact True.intro
 | @cons p q ps qs h t ih=>
  obtain⟨h1,_,h2⟩:=h
  by_cases e:p.1=k
  · have e':q.1=k:=h1.symm.trans e
    have b:atKey (q::qs) k=some q.2:=by simp [atKey,List.find?_cons,e']
    rw [ze e,b];exact h2
  · have e':¬ q.1=k:=fun z=>e (h1.trans z)
    have b:atKey (q::qs) k=atKey qs k:=by simp [atKey,List.find?_cons,e']
    rw [jq e,b];exact ih
theorem KT.repl {H:Hp}{kvs:List (List Key × V)}{xs:List (List Key × Addr × Value)}(r:KT H kvs xs)(k:List Key){y:V}{u:Value}(ry:RelV y u):
 KT H (kvs.map fun kv=>if kv.1=k then (kv.1,y) else kv) (xs.map (putAt k u)):=by
 induction r with
 | nil=>exact .nil
 | @cons p q ps qs h t ih=>
  rw [List.map_cons,List.map_cons]
  refine .cons ?_ ih
  obtain⟨h1,h2,h3⟩:=h
  unfold putAt
  by_cases e:p.1=k
  · rw [if_pos e,if_pos (h1.symm.trans e)];exact⟨h1,h2,ry⟩
  · rw [if_neg e,if_neg (fun z=>e (h1.trans z))];exact⟨h1,h2,h3⟩
theorem KT.put {H:Hp}{kvs:List (List Key × V)}{xs:List (List Key × Addr × Value)}(r:KT H kvs xs)(k:List Key){b:Addr}{y:V}{u:Value}(hb:H b=some (.tup (k.map kV)))(ry:RelV y u):
 KT H (qAi kvs k y) (storedH xs k b u):=by
 have e:(kvs.any fun kv=>decide (kv.1=k))=(atKey xs k).isSome:=by
  rw [qB7,(r.val k).isSome_eq,Option.isSome_map]
 unfold qAi storedH
 rw [e]
 by_cases q:(atKey xs k).isSome=true
 · rw [if_pos q,if_pos q];exact r.repl k ry
 · rw [if_neg q,if_neg q];exact Paired.snoc r ⟨rfl,hb,ry⟩
theorem KT.keeps {H H':Hp}{kvs:List (List Key × V)}{xs:List (List Key × Addr × Value)}(r:KT H kvs xs)(ht:∀ b ys,H b=some (.tup ys)→H' b=some (.tup ys)):KT H' kvs xs:=
 Paired.mapP r fun _ _ z=>⟨z.1,ht _ _ z.2.1,z.2.2⟩
section
variable {P : Program} {w : World} {H : Hp} {h : Heap} {a : Addr}
theorem qMm {u:HO}(ok:HOk P w H h)(e:Rd H a u):ObjOk P w H h a u:=e.ok ok
theorem qLb {kvs:List (Key × V)}(ok:HOk P w H h)(e:Rd H a (.dK kvs)):kvs.length≤sizeLine∧(a == sysModules)=false∧∃ vs,KV kvs vs∧h.DictOf (jO P w) a vs:=
 show ObjOk P w H h a (.dK kvs) from qMm ok e
theorem qM1 {kvs:List (Key × V)}(ok:HOk P w H h)(e:H a=some (.dK kvs)):kvs.length≤sizeLine∧(a == sysModules)=false∧∃ vs,KV kvs vs∧h.DictOf (jO P w) a vs:=qLb ok (.inl e)
theorem qHa {ks:List Key}(ok:HOk P w H h)(e:H a=some (.tup (ks.map kV))):(tupleKind (jO P w)).is h ks a:=by
 obtain⟨_,its,r,o,h1,h2,n,h3⟩:=(show ObjOk P w H h a (.tup (ks.map kV)) from ok a _ e)
 exact⟨o,its.toArray,n,h1,h2,h3,by simpa using qCt r⟩
theorem qKv {kvs:List (List Key × V)}(ok:HOk P w H h)(e:Rd H a (.dT kvs)):kvs.length≤sizeLine∧(a == sysModules)=false∧
 ∃ xs,KT H kvs xs∧h.DictOfH (tupleKind (jO P w)) a xs:=by
 obtain⟨z,y,xs,r,o,es,ep,h1,h2,h3,h4,h5⟩:=(show ObjOk P w H h a (.dT kvs) from qMm ok e)
 refine⟨z,y,xs,r,o,es,ep,h1,h2,h3,h4,fun x hx=>?_,h5⟩
 have all:∀ {l:List (List Key × V)} {m:List (List Key × Addr × Value)},KT H l m→∀ x∈m,(tupleKind (jO P w)).is h x.1 x.2.1:=by
  intro l m q
  induction q with
  | nil=>intro x hx;exact nomatch hx
  | @cons p q ps qs hq t ih=>
   intro x hx
   rcases List.mem_cons.mp hx with e | hx
   · subst e
     exact qHa ok (by rw [← hq.1];exact hq.2.1)
   · exact ih x hx
 exact all r x hx
theorem qNf {kvs:List (List Key × V)}(ok:HOk P w H h)(e:H a=some (.dT kvs)):kvs.length≤sizeLine∧(a == sysModules)=false∧
 ∃ xs,KT H kvs xs∧h.DictOfH (tupleKind (jO P w)) a xs:=qKv ok (.inl e)
end
def DGet (H:Hp)(a:Addr)(y:V)(r:Option V):Prop:=
 (∃ kvs k,Rd H a (.dK kvs)∧y=kV k∧r=qAg kvs k)∨∃ kvs k b,Rd H a (.dT kvs)∧y= .ref b∧H b=some (.tup (k.map kV))∧r=qAg kvs k
def DPut (H:Hp)(a:Addr)(y v:V)(H':Hp):Prop:=
 (∃ kvs k,H a=some (.dK kvs)∧y=kV k∧kvs.length < sizeLine∧H'=upd H a (.dK (qAi kvs k v)))∨
 ∃ kvs k b,H a=some (.dT kvs)∧y= .ref b∧H b=some (.tup (k.map kV))∧kvs.length < sizeLine∧H'=upd H a (.dT (qAi kvs k v))
theorem DGet.k {H:Hp}{a:Addr}{kvs:List (Key × V)}{k:Key}(e:H a=some (.dK kvs)):DGet H a (kV k) (qAg kvs k):=.inl ⟨kvs,k,.inl e,rfl,rfl⟩
theorem DGet.t {H:Hp}{a b:Addr}{kvs:List (List Key × V)}{k:List Key}(e:H a=some (.dT kvs))(eb:H b=some (.tup (k.map kV))):DGet H a (.ref b) (qAg kvs k):=.inr ⟨kvs,k,b,.inl e,rfl,eb,rfl⟩
theorem DPut.k {H:Hp}{a:Addr}{kvs:List (Key × V)}{k:Key}{v:V}(e:H a=some (.dK kvs))(hl:kvs.length < sizeLine):DPut H a (kV k) v (upd H a (.dK (qAi kvs k v))):=.inl ⟨kvs,k,e,rfl,hl,rfl⟩
section
variable {X : Cx} {pins : List (Addr × Obj)} {σ : St} {H : Hp} {s : Shared} {a : Addr} {y v : V} {u r : Value} {o : Option V} {A : Around} {E : Value → Shared → Prop}
theorem Inv.big (I:Inv X pins σ H s):sysModules < s.heap.objs.size:=by
 have h:mainGlobals < s.heap.objs.size:=(I.mod.glob.keeps I.bk).lt
 exact Nat.lt_trans (by decide) h
theorem qId {Q:Value→Shared→Prop}(hu:A.units+1 < cLine)(I:Inv X pins σ H s)(g:DGet H a y (some v))(ry:RelV y u)(h:∀ w' s',Inv X pins σ H s'→RelV v w'→Q w' s'):
 wpAny (model X.prog X.w) A (getItem (.ref a) u) Q E s:=by
 rcases g with ⟨kvs,k,e,ey,l⟩ | ⟨kvs,k,b,e,ey,eb,l⟩
 · subst ey
   obtain⟨z,hd,vs,rel,dd⟩:=qLb I.hok e
   obtain⟨w',hw,rw'⟩:=RelO.some_of (v:=v) (o:=valueAt vs k) (by rw [l];exact rel.val k)
   exact wpAny_getItem_of (qJt ry) dd.mapOf hw (h w' _ (I.tok _) rw')
 · subst ey
   cases (show u=Value.ref b from ry)
   obtain⟨z,hd,xs,rel,dd⟩:=qKv I.hok e
   obtain⟨w',hw,rw'⟩:=RelO.some_of (v:=v) (o:=(atKey xs k).map (·.2)) (by rw [l];exact rel.val k)
   obtain⟨p,hp,hp2⟩:=Option.map_eq_some_iff.mp hw
   refine wpAny_getItem_heap (tupleKind_room_in1 hu) (qHa I.hok eb) dd hp ?_
   rw [hp2]
   exact h w' _ (I.tok _) rw'
theorem qEx {h':Heap}{t':Nat}{ob:HO}(I:Inv X pins σ H s)(mu:Mut (H a))(hs:Heap.SameBut a s.heap h')(he:∃ q,h'.get? a=some q)(new:ObjOk X.prog X.w (upd H a ob) h' a ob):
 Inv X pins σ (upd H a ob) {s with heap:=h',toks:=t'}:=
 I.write (x:=a) (e:=a) mu (.inl rfl) (fun b q hb z=>(hs.2 b hb).trans z) he new
theorem qKg {P:Program}{w:World}{H':Hp}{h':Heap}{kvs:List (Key × V)}{vs:List (Key × Value)}(z:kvs.length≤sizeLine)(hd:(a == sysModules)=false)(rel:KV kvs vs)(dd:h'.DictOf (jO P w) a vs):
 ObjOk P w H' h' a (.dK kvs):=⟨z,hd,vs,rel,dd⟩
theorem qHt {H':Hp}{Q:Unit→Shared→Prop}(hu:A.units+1 < cLine)(I:Inv X pins σ H s)(g:DPut H a y v H')(ry:RelV y u)(rv:RelV v r)(h:∀ s',Inv X pins σ H' s'→Q () s'):
 wpAny (model X.prog X.w) A (setItem (.ref a) u r) Q E s:=by
 rcases g with ⟨kvs,k,e,ey,l,eH⟩ | ⟨kvs,k,b,e,ey,eb,l,eH⟩
 · subst ey eH
   obtain⟨z,hd,vs,rel,dd⟩:=qM1 I.hok e
   have hz:vs.length≤sizeLine:=by rw [← rel.length];exact z
   have hl:(qAi kvs k v).length≤sizeLine:=by have:=kD kvs k v;omega
   refine wpAny_setItem_pairs (hsz:=hz) (qJt ry) dd fun h' dd' hs=>h _ ?_
   have he:∃ q,h'.get? a=some q:=let ⟨q,_,_,hq,_⟩:=dd';⟨q,hq⟩
   exact qEx I (by rw [e];exact True.intro) hs he (qKg hl hd (rel.put k rv) dd')
 · subst ey eH
   cases (show u=Value.ref b from ry)
   obtain⟨z,hd,xs,rel,dd⟩:=qNf I.hok e
   have hz:xs.length≤sizeLine:=by rw [← Paired.length rel];exact z
   have hl:(qAi kvs k v).length≤sizeLine:=by have:=kD kvs k v;omega
   refine wpAny_setItem_heap (hsz:=hz) (tupleKind_room_in1 hu) (qHa I.hok eb) dd fun h' dd' hs=>h _ ?_
   obtain⟨q,es,ep,hq,h2,h3,h4,_,h5⟩:=dd'
   refine qEx I (by rw [e];exact True.intro) hs ⟨q,hq⟩ ⟨hl,hd,_,(rel.put k eb rv).keeps fun c ys ec=>?_,q,es,ep,hq,h2,h3,h4,h5⟩
   rw [qR (qL6 ec e (fun z=>nomatch z))]
   exact ec
end
section
variable {X : Cx} {pins : List (Addr × Obj)} {σ : St} {H : Hp} {s : Shared} {a : Addr} {kvs : List (Key × V)} {k : Key} {u : Value} {A : Around} {E : Value → Shared → Prop}
end
def qOm (i:Expr):Prop:=∀ ov iv,subscripted i false ov iv=operate [ov,iv] (getItem ov iv)
theorem qLd {prog:Program}{w:World}{A:Around}{E:Value→Shared→Prop}{s:Shared}{env:Env}{value slice:Expr}{pos:Pos}{T id:String}{Q:Value→Shared→Prop}
 (hl:typeLookup (.type T) "__getitem__"=pure (some (.builtin id))) (hs:qOm slice)
 (h:wpAny (model prog w) A (eval value env) (fun o s₁=>wpAny (model prog w) A (eval slice env) (fun i s₂=>s₂.TypeIs o T∧wpAny (model prog w) A (getItem o i) Q E s₂) E s₁) E s):
 wpAny (model prog w) A (eval (.Subscript value slice pos) env) Q E s:=by
 refine Subscript_ (wpAny_mono h (fun o s₁ h₁=>wpAny_mono h₁ (fun i s₂ h₂=>?_) fun _ _ x=>x) fun _ _ x=>x)
 obtain⟨hT,h₂⟩:=h₂
 unfold subscriptTail
 refine wpAny_bind ?_
 rw [getitemInPython_of_ne hT.not_modules]
 refine wpAny_bind (wpAny_specialOf hT hl ?_)
 have fin:wpAny (model prog w) A (subscripted slice false o i) (fun r s₃=>wpAny (model prog w) A (letTemporaryGo value o r >>=fun _=>pure r) Q E s₃) E s₂:=by
  rw [hs o i]
  exact wpAny_operating (wpAny_mono h₂ (fun r s₃ h₃=>wpAny_bind (wpAny_letTemporaryGo (wpAny_pure h₃))) fun _ _ x=>x)
 first
  | exact wpAny_pure (wpAny_bind fin)
  | exact wpAny_bind (wpAny_pure (wpAny_bind fin))
  | exact wpAny_bind fin
theorem qEt {X:Cx}{pins:List (Addr × Obj)}{σ:St}{H:Hp}{s:Shared}{a:Addr}{y:V}{o:Option V}(I:Inv X pins σ H s)(g:DGet H a y o):s.TypeIs (.ref a) "dict":=by
 rcases g with ⟨kvs,k,e,_,_⟩ | ⟨kvs,k,b,e,_,_,_⟩
 · obtain⟨_,_,vs,_,dd⟩:=qLb I.hok e
   exact dd.typeIs
 · obtain⟨_,_,xs,_,dd⟩:=qKv I.hok e
   exact dd.typeIs
def qNt (td ty:TE):TE:=fun σ H Q=>td σ H fun x H1=>ty σ H1 fun y H2=>∃ a v,x= .ref a∧DGet H2 a y (some v)∧Q v H2
def qNk (td ty tv:TE):TS:=fun D σ H=>tv σ H fun v H1=>td σ H1 fun x H2=>ty σ H2 fun y H3=>∃ a H4,x= .ref a∧DPut H3 a y v H4∧D.nx σ H4
section
variable {X : Cx} {o i e value : Expr} {pos pos' tpos : Pos} {td ty tv : TE}
theorem qv (hu:X.A.units+1 < cLine)(ho:PE X o td)(hi:PE X i ty)(hs:qOm i):PE X (.Subscript o i pos) (qNt td ty):=by
 intro pins s σ H Q I h
 refine qLd PySem.F.slot_dict_getitem.lookup hs (thn (ho pins s σ H _ I h) fun u s1 ⟨x,H1,I1,rx,q1⟩=>thn (hi pins s1 σ H1 _ I1 q1) fun iv s2 ⟨y,H2,I2,ry,a,v,ex,g,q2⟩=>?_)
 subst ex
 obtain rfl:u=Value.ref a:=rx
 exact⟨qEt I2 g,qId hu I2 g ry fun w' s3 I3 rw'=>⟨v,H2,I3,rw',q2⟩⟩
theorem vV (hu:X.A.units+1 < cLine)(ho:PE X o td)(hi:PE X i ty)(hv:PE X value tv)(hs:swapsWith value (some (.Subscript o i pos')) pos.line X.env=pure false):
 PS X (.Assign [.Subscript o i pos'] value pos) (qNk td ty tv):=by
 intro pins s σ H D I h
 refine wpAny_Assign_Subscript (thn (hv pins s σ H _ I h) fun r s1 ⟨v,H1,I1,rv,q1⟩=>thn (ho pins s1 σ H1 _ I1 q1) fun u s2 ⟨x,H2,I2,rx,q2⟩=>thn (hi pins s2 σ H2 _ I2 q2) fun iv s3 ⟨y,H3,I3,ry,a,H4,ex,g,q3⟩=>?_) hs
 subst ex
 obtain rfl:u=Value.ref a:=rx
 exact qHt hu I3 g ry rv fun s4 I4=>⟨σ,H4,I4,q3⟩
end
theorem qFq {P:Program}{w:World}{H:Hp}(h:Heap)(hb:sysModules < h.objs.size):ObjOk P w H (h.push {cls:=.type "dict",data:=.dict #[]}) h.objs.size (.dK []):=
 ⟨Nat.zero_le _,beq_eq_false_iff_ne.mpr (Ne.symm (Nat.ne_of_lt hb)),[],.nil,Heap.DictOf.new h⟩
def qMl:TE:=fun _ H Q=>∀ p,H p=none→Q (.ref p) (upd H p (.dK []))
section
variable {X : Cx} {pos : Pos}
theorem qFf:PE X (.Dict [] [] pos) qMl:=fun pins s σ H Q I h=>
 wpAny_Dict_empty ⟨.ref s.heap.objs.size,_,I.laid (a:=s.heap.objs.size) (o:=.dK []) (t':=s.toks) (fun _ _ q=>Heap.get?_push_of_some _ q) (Nat.le_refl _) (qFq s.heap I.big),rfl,h _ (I.hok.fresh (Nat.le_refl _))⟩
end
def qHf:List (TE × TE)→St→Hp→(List (V × V)→Hp→Prop)→Prop
 | [],_,H,Q=>Q [] H
 | (tk,tv)::r,σ,H,Q=>tk σ H fun x H1=>tv σ H1 fun y H2=>qHf r σ H2 fun ps H3=>Q ((x,y)::ps) H3
abbrev VV:List (V × V)→List (Value × Value)→Prop:=Paired fun p q=>RelV p.1 q.1∧RelV p.2 q.2
def PPs (X:Cx)(pos:Pos)(keys:List (Option Expr))(values:List Expr)(trs:List (TE × TE)):Prop:=
 ∀ (pins:List (Addr × Obj)) (s:Shared) (σ:St) (H:Hp) (Q:List (V × V)→Hp→Prop),Inv X pins σ H s→qHf trs σ H Q→
  wpAny (model X.prog X.w) X.A (evalPairs (pairTrees keys values X.env pos)) (fun vs s'=>∃ ps H',Inv X pins σ H' s'∧VV ps vs∧Q ps H') X.xe s
theorem qL0 {X:Cx}{pos:Pos}:PPs X pos [] [] []:=fun pins s σ H Q I h=>pairTrees_nil_walk ⟨[],H,I,.nil,h⟩
theorem zY {X:Cx}{pos:Pos}{k v:Expr}{ks:List (Option Expr)}{vs:List Expr}{tk tv:TE}{trs:List (TE × TE)}(hk:PE X k tk)(hv:PE X v tv)(hr:PPs X pos ks vs trs):
 PPs X pos (some k::ks) (v::vs) ((tk,tv)::trs):=fun pins s σ H Q I h=>
 pairTrees_cons_walk (thn (hk pins s σ H _ I h) fun u s1 ⟨x,H1,I1,rx,q1⟩=>thn (hv pins s1 σ H1 _ I1 q1) fun w2 s2 ⟨y,H2,I2,ry,q2⟩=>
  thn (hr pins s2 σ H2 _ I2 q2) fun ws s3 ⟨ps,H3,I3,rel,q3⟩=>⟨(x,y)::ps,H3,I3,.cons ⟨rx,ry⟩ rel,q3⟩)
def qAx (kvs more:List (Key × V)):List (Key × V):=more.foldl (fun acc kv=>qAi acc kv.1 kv.2) kvs
theorem KV.merge:∀ {more:List (Key × V)} {rs:List (Key × Value)} {kvs:List (Key × V)} {vs:List (Key × Value)},KV more rs→KV kvs vs→KV (qAx kvs more) (merged vs rs):=by
 intro more rs kvs vs r
 unfold KV at r
 induction r generalizing kvs vs with
 | nil=>intro q;exact q
 | @cons p q ps qs h t ih=>
  intro r0
  have e:KV (qAi kvs p.1 p.2) (stored vs q.1 q.2):=by
   have:=r0.put p.1 h.2
   rw [← h.1];exact this
  exact ih e
theorem kr:∀ (more kvs:List (Key × V)),(qAx kvs more).length≤kvs.length+more.length
 | [],kvs=>by show kvs.length≤kvs.length+0;omega
 | p::r,kvs=>by
  have h1:=kr r (qAi kvs p.1 p.2)
  have h2:=kD kvs p.1 p.2
  show (qAx (qAi kvs p.1 p.2) r).length≤_
  rw [List.length_cons];omega
theorem qA2 {P:Program}{w:World}:∀ {kvs:List (Key × V)} {ws:List (Value × Value)},VV (kvs.map fun kv=>(kV kv.1,kv.2)) ws→∃ rs,Carries (jO P w) ws rs∧KV kvs rs
 | [],_,r=>by rw [List.map_nil] at r;cases r;exact⟨[],True.intro,.nil⟩
 | p::kvs,_,r=>by
  rw [List.map_cons] at r
  cases r with
  | @cons a b as bs h t=>
   obtain⟨rs,c,q⟩:=qA2 (P:=P) (w:=w) t
   obtain⟨b1,b2⟩:=b
   exact⟨(p.1,b2)::rs,⟨qJt h.1,rfl,c⟩,.cons ⟨rfl,h.2⟩ q⟩
def qN4 (trs:List (TE × TE)):TE:=fun σ H Q=>∀ p,H p=none→qHf trs σ (upd H p (.dK [])) fun ps H2=>H2 p=some (.dK [])∧∃ kvs:List (Key × V),ps=kvs.map (fun kv=>(kV kv.1,kv.2))∧kvs.length≤15∧Q (.ref p) (upd H2 p (.dK (qAx [] kvs)))
theorem qLc {X:Cx}{pos:Pos}{keys:List (Option Expr)}{values:List Expr}{trs:List (TE × TE)}(h:PPs X pos keys values trs)(hall:keys.all (·.isSome)=true)(hl:keys.length=values.length)(h0:keys≠[])
 (h15:keys.length≤15):PE X (.Dict keys values pos) (qN4 trs):=by
 intro pins s σ H Q I q
 have hn:=I.hok.fresh (Nat.le_refl s.heap.objs.size)
 have I1:=I.laid (a:=s.heap.objs.size) (o:=.dK []) (h':=s.heap.push {cls:=.type "dict",data:=.dict #[]}) (t':=s.toks) (fun _ _ q=>Heap.get?_push_of_some _ q) (Nat.le_refl _) (qFq s.heap I.big)
 refine wpAny_Dict_walk (knd:=jO X.prog X.w) hall hl h0 h15 (thn (h pins _ σ _ _ I1 (q _ hn)) fun ws s2 ⟨ps,H2,I2,rel,e,kvs,ep,lk,q2⟩=>?_)
 subst ep
 obtain⟨rs,c,rk⟩:=qA2 (P:=X.prog) (w:=X.w) rel
 obtain⟨z,hd,vs0,r0,dd⟩:=qM1 I2.hok e
 cases r0
 refine⟨rs,c,dd,fun h' dd' hs=>⟨.ref s.heap.objs.size,_,?_,rfl,q2⟩⟩
 have hz:(qAx [] kvs).length≤sizeLine:=by
  have h1:=kr kvs []
  rw [List.length_nil] at h1
  rw [sizeLine_eq];omega
 have he:∃ q,h'.get? s.heap.objs.size=some q:=let ⟨q,_,_,hq,_⟩:=dd';⟨q,hq⟩
 exact qEx I2 (by rw [e];exact True.intro) hs he (qKg hz hd (rk.merge .nil) dd')
structure M1 (X:Cx)(o:Expr)(m:Str)(apos:Pos)(e:Expr)(cpos:Pos):Prop where
 base:attributeBase o m X.env (eval o X.env)=eval o X.env
 few:((backTo cpos (starEach [e] X.env)).all (fun x=>!x.1) && (backToKw cpos (keywordEach [] X.env)).all (fun x=>x.1.isSome)
  && decide (([e]:List Expr).length+([]:List Keyword).length+(if ([]:List Keyword).isEmpty then 0 else 1) < 30))=true
 line:(apos.endLine == cpos.line)=true
 trees:backTo cpos (starEach [e] X.env)=[(false,eval e X.env)]
structure M2 (X:Cx)(o:Expr)(m:Str)(apos:Pos)(e f:Expr)(cpos:Pos):Prop where
 base:attributeBase o m X.env (eval o X.env)=eval o X.env
 few:((backTo cpos (starEach [e,f] X.env)).all (fun x=>!x.1) && (backToKw cpos (keywordEach [] X.env)).all (fun x=>x.1.isSome)
  && decide (([e,f]:List Expr).length+([]:List Keyword).length+(if ([]:List Keyword).isEmpty then 0 else 1) < 30))=true
 line:(apos.endLine == cpos.line)=true
 trees:backTo cpos (starEach [e,f] X.env)=[(false,eval e X.env),(false,eval f X.env)]
section
variable {X : Cx} {pins : List (Addr × Obj)} {σ : St} {H : Hp} {s : Shared} {a : Addr} {y d : V} {u r : Value} {o : Option V} {A : Around} {E : Value → Shared → Prop}
end
section
variable {X : Cx} {o e f : Expr} {apos cpos : Pos} {td ty tx : TE}
end
section
variable {X : Cx} {pins : List (Addr × Obj)} {σ : St} {H : Hp} {s : Shared} {a : Addr} {kvs : List (Key × V)} {A : Around} {E : Value → Shared → Prop}
end
section
variable {X : Cx} {pins : List (Addr × Obj)} {σ : St} {H : Hp} {s : Shared} {a : Addr} {y : V} {u : Value} {A : Around} {E : Value → Shared → Prop}
end
end L2
namespace Att
open PySem PySem.W PySem.Calls PyProof.Rows
section
variable {prog : Program} {w : World} {A : Around} {E : Value → Shared → Prop} {s : Shared} {K : Frag}
end
end Att
namespace L2
open PySem PySem.Spec PyProof.Rows
end L2
namespace L2
open PySem PySem.Spec PyProof.Rows
end L2
namespace L2
open PySem PySem.Spec PyProof.Rows
section
variable {P : Program} {w : World} {K : PySem.W.Frag} {mg : Str → Option Value} {base : Heap}
end
section
variable {X : Cx}
end
section
variable {κ : Type} [DecidableEq κ]
end
end L2
namespace Mt
theorem qLn (a b:Int):a.fmod b=a - b*a.fdiv b:=by
 have:=Int.fmod_add_mul_fdiv a b
 omega
theorem qFn (a b:Int):Int.gcd b (a.fmod b)=Int.gcd a b:=by
 apply Nat.dvd_antisymm
 · refine Int.dvd_gcd ?_ (Int.gcd_dvd_left b (a.fmod b))
   have h1:((Int.gcd b (a.fmod b):Nat):Int) ∣ b:=Int.gcd_dvd_left ..
   have h2:((Int.gcd b (a.fmod b):Nat):Int) ∣ a.fmod b:=Int.gcd_dvd_right ..
   have h3:=Int.dvd_add h2 (Int.dvd_trans h1 (Int.dvd_mul_right b (a.fdiv b)))
   have e:a.fmod b+b*a.fdiv b=a:=Int.fmod_add_mul_fdiv a b
   rwa [e] at h3
 · refine Int.dvd_gcd (Int.gcd_dvd_right ..) ?_
   rw [qLn]
   exact Int.dvd_sub (Int.gcd_dvd_left ..) (Int.dvd_trans (Int.gcd_dvd_right ..) (Int.dvd_mul_right ..))
theorem qH2 (a b:Int)(h:b≠0):(a.fmod b).natAbs < b.natAbs:=by
 rcases Int.lt_or_gt_of_ne h with h | h
 · have h1:=Int.fmod_lt_of_pos (-a) (show 0 < -b by omega)
   have h2:=Int.fmod_nonneg_of_pos (-a) (show 0 < -b by omega)
   rw [Int.neg_fmod_neg] at h1 h2
   omega
 · have h1:=Int.fmod_lt_of_pos a h
   have h2:=Int.fmod_nonneg_of_pos a h
   omega
def sg (t b:Int):Int:=if b < 0 then -((Int.gcd t b:Nat):Int) else ((Int.gcd t b:Nat):Int)
def jP (t b:Int):Int:=t.fdiv (sg t b)
def jF (t b:Int):Int:=b.fdiv (sg t b)
theorem vT {t b:Int}(h:b≠0):0 < Int.gcd t b:=by
 rcases Nat.eq_zero_or_pos (Int.gcd t b) with z | z
 · rw [Int.gcd_eq_zero_iff] at z
   exact absurd z.2 h
 · exact z
theorem qN6 {t b:Int}(h:b≠0):sg t b≠0:=by
 have:=vT (t:=t) h
 unfold sg;split <;> omega
theorem qJ0 (t b:Int):sg t b ∣ t:=by
 unfold sg;split
 · exact Int.neg_dvd.mpr (Int.gcd_dvd_left ..)
 · exact Int.gcd_dvd_left ..
theorem qJ5 (t b:Int):sg t b ∣ b:=by
 unfold sg;split
 · exact Int.neg_dvd.mpr (Int.gcd_dvd_right ..)
 · exact Int.gcd_dvd_right ..
theorem qFt (t b:Int):(sg t b).natAbs=Int.gcd t b:=by
 unfold sg;split <;> omega
theorem qJ2 (t b:Int):jP t b*sg t b=t:=Int.fdiv_mul_cancel (qJ0 t b)
theorem qHg (t b:Int):jF t b*sg t b=b:=Int.fdiv_mul_cancel (qJ5 t b)
theorem jz {t b:Int}(h:b≠0):0 < jF t b:=by
 have e:=qHg t b
 have g:=vT (t:=t) h
 by_cases hb:b < 0
 · have s:sg t b= -((Int.gcd t b:Nat):Int):=by unfold sg;rw [if_pos hb]
   rw [s] at e
   rcases Int.lt_trichotomy (jF t b) 0 with z | z | z
   · have:=Int.mul_pos_of_neg_of_neg z (show -((Int.gcd t b:Nat):Int) < 0 by omega)
     omega
   · rw [z] at e;omega
   · exact z
 · have s:sg t b=((Int.gcd t b:Nat):Int):=by unfold sg;rw [if_neg hb]
   rw [s] at e
   rcases Int.lt_trichotomy (jF t b) 0 with z | z | z
   · have:=Int.mul_neg_of_neg_of_pos z (show 0 < ((Int.gcd t b:Nat):Int) by omega)
     omega
   · rw [z] at e;omega
   · exact z
theorem qEe {t b:Int}(h:b≠0):Int.gcd (jP t b) (jF t b)=1:=by
 have e:=Int.gcd_mul_right (jP t b) (sg t b) (jF t b)
 rw [qJ2,qHg,qFt] at e
 have g:=vT (t:=t) h
 have e':1*Int.gcd t b=(jP t b).gcd (jF t b)*Int.gcd t b:=by omega
 exact(Nat.eq_of_mul_eq_mul_right g e').symm
theorem xE (t b:Int):jP t b*b=t*jF t b:=by
 have e1:=qJ2 t b
 have e2:=qHg t b
 calc jP t b*b=jP t b*(jF t b*sg t b):=by rw [e2]
  _=(jP t b*sg t b)*jF t b:=by rw [Int.mul_comm (jF t b),Int.mul_assoc]
  _=t*jF t b:=by rw [e1]
theorem wF {t b:Int}(h:b≠0):(jP t b).natAbs≤t.natAbs:=by
 have e:=congrArg Int.natAbs (qJ2 t b)
 rw [Int.natAbs_mul,qFt] at e
 have g:=vT (t:=t) h
 rw [← e]
 exact Nat.le_mul_of_pos_right _ g
theorem xP {t b:Int}(h:b≠0):(jF t b).natAbs≤b.natAbs:=by
 have e:=congrArg Int.natAbs (qHg t b)
 rw [Int.natAbs_mul,qFt] at e
 have g:=vT (t:=t) h
 have:=Nat.le_mul_of_pos_right (jF t b).natAbs g
 omega
end Mt
namespace Mt
theorem qK1 {p q p' q':Int}(hq:0 < q)(hq':0 < q')(g:Int.gcd p q=1)(g':Int.gcd p' q'=1)(c:p*q'=p'*q):p=p'∧q=q':=by
 have d1:q ∣ q':=by
  have h:q ∣ p*q':=by rw [c];exact Int.dvd_mul_left ..
  have n:q.natAbs ∣ p.natAbs*q'.natAbs:=by
   have:=Int.natAbs_dvd_natAbs.mpr h
   rwa [Int.natAbs_mul] at this
  have co:Nat.Coprime q.natAbs p.natAbs:=by
   show Nat.gcd q.natAbs p.natAbs=1
   rw [Nat.gcd_comm];exact g
  exact Int.natAbs_dvd_natAbs.mp (Nat.Coprime.dvd_of_dvd_mul_left co n)
 have d2:q' ∣ q:=by
  have h:q' ∣ p'*q:=by rw [← c];exact Int.dvd_mul_left ..
  have n:q'.natAbs ∣ p'.natAbs*q.natAbs:=by
   have:=Int.natAbs_dvd_natAbs.mpr h
   rwa [Int.natAbs_mul] at this
  have co:Nat.Coprime q'.natAbs p'.natAbs:=by
   show Nat.gcd q'.natAbs p'.natAbs=1
   rw [Nat.gcd_comm];exact g'
  exact Int.natAbs_dvd_natAbs.mp (Nat.Coprime.dvd_of_dvd_mul_left co n)
 have e:q=q':=by
  have h1:=Int.le_of_dvd hq' d1
  have h2:=Int.le_of_dvd hq d2
  omega
 subst e
 exact⟨Int.eq_of_mul_eq_mul_right (by omega) c,rfl⟩
theorem qFl {t b p q:Int}(h:b≠0)(hq:0 < q)(g:Int.gcd p q=1)(c:p*b=t*q):jP t b=p∧jF t b=q:=by
 have e:=xE t b
 have k:jP t b*q=p*jF t b:=by
  have:(jP t b*q)*b=(p*jF t b)*b:=by
   calc (jP t b*q)*b=(jP t b*b)*q:=by rw [Int.mul_assoc,Int.mul_comm q b,← Int.mul_assoc]
    _=(t*jF t b)*q:=by rw [e]
    _=(t*q)*jF t b:=by rw [Int.mul_assoc,Int.mul_comm (jF t b) q,← Int.mul_assoc]
    _=(p*b)*jF t b:=by rw [c]
    _=(p*jF t b)*b:=by rw [Int.mul_assoc,Int.mul_comm b,← Int.mul_assoc]
  exact Int.eq_of_mul_eq_mul_right h this
 exact qK1 (jz h) hq (qEe h) g k
theorem qFu {p q:Int}(hq:0 < q)(g:Int.gcd p q=1):jP p q=p∧jF p q=q:=qFl (by omega) hq g rfl
theorem qk {p q:Int}(hq:0 < q):p.fdiv q*q≤p∧p < (p.fdiv q+1)*q:=by
 have e:=Int.fmod_add_mul_fdiv p q
 have h1:=Int.fmod_nonneg_of_pos p hq
 have h2:=Int.fmod_lt_of_pos p hq
 have c:q*p.fdiv q=p.fdiv q*q:=Int.mul_comm ..
 have d:(p.fdiv q+1)*q=p.fdiv q*q+q:=by rw [Int.add_mul,Int.one_mul]
 omega
end Mt
namespace Mt
theorem zX {A B C D:Int}(hB:0 < B)(hD:0 < D)(h:A*D=C*B):A.fdiv B=C.fdiv D:=by
 obtain⟨h1,h2⟩:=qk (p:=A) hB
 obtain⟨h3,h4⟩:=qk (p:=C) hD
 generalize A.fdiv B=f at h1 h2 ⊢
 generalize C.fdiv D=g at h3 h4 ⊢
 have k1:f*B*D≤A*D:=Int.mul_le_mul_of_nonneg_right h1 (by omega)
 have k2:C*B < (g+1)*D*B:=Int.mul_lt_mul_of_pos_right h4 hB
 have k3:g*D*B≤C*B:=Int.mul_le_mul_of_nonneg_right h3 (by omega)
 have k4:A*D < (f+1)*B*D:=Int.mul_lt_mul_of_pos_right h2 hD
 have p:=Int.mul_pos hB hD
 have e1:f*(B*D) < (g+1)*(B*D):=by grind
 have e2:g*(B*D) < (f+1)*(B*D):=by grind
 have:=Int.lt_of_mul_lt_mul_right e1 (by omega)
 have:=Int.lt_of_mul_lt_mul_right e2 (by omega)
 omega
def plP (p q r s k:Int):Int:=jP (p*s+k*r*q) (q*s)
def plQ (p q r s k:Int):Int:=jF (p*s+k*r*q) (q*s)
theorem qHh {p q r s k:Int}(hq:0 < q)(hs:0 < s):0 < plQ p q r s k:=jz (Int.ne_of_gt (Int.mul_pos hq hs))
theorem qFi (p q r s k:Int):plP p q r s k*(q*s)=(p*s+k*r*q)*plQ p q r s k:=xE _ _
theorem qMg {p q r s lo k:Int}(hq:0 < q)(hs:0 < s):(plP p q r s lo*s+k*r*plQ p q r s lo).fdiv (plQ p q r s lo*s)=(p*s+(lo+k)*r*q).fdiv (q*s):=by
 have c:=qFi p q r s lo
 have h:=qHh (p:=p) (r:=r) (k:=lo) hq hs
 generalize plP p q r s lo=u at c ⊢
 generalize plQ p q r s lo=v at c h ⊢
 refine zX (Int.mul_pos h hs) (Int.mul_pos hq hs) ?_
 grind
theorem qHd {p q r s:Int}(hq:0 < q)(hs:0 < s)(g:Int.gcd p q=1):plP p q r s 0=p∧plQ p q r s 0=q:=by
 refine qFl (Int.ne_of_gt (Int.mul_pos hq hs)) hq g ?_
 grind
theorem qK6 {p q r s k:Int}(hq:0 < q)(hs:0 < s):(plP p q r s k).natAbs≤(p*s+k*r*q).natAbs:=wF (Int.ne_of_gt (Int.mul_pos hq hs))
theorem qLg {p q r s k:Int}(hq:0 < q)(hs:0 < s):(plQ p q r s k).natAbs≤(q*s).natAbs:=xP (Int.ne_of_gt (Int.mul_pos hq hs))
end Mt
namespace Mt
def InR (N D m:Int):Prop:=0≤N∧N < m*D
theorem wR {N D m:Int}(hD:0 < D):InR N D m↔(0≤N.fdiv D∧N.fdiv D < m):=by
 obtain⟨h1,h2⟩:=qk (p:=N) hD
 generalize N.fdiv D=f at h1 h2 ⊢
 unfold InR
 constructor
 · rintro ⟨a,b⟩
   constructor
   · have:0*D < (f+1)*D:=by rw [Int.zero_mul];omega
     have:=Int.lt_of_mul_lt_mul_right this (by omega)
     omega
   · exact Int.lt_of_mul_lt_mul_right (a:=D) (by omega) (by omega)
 · rintro ⟨a,b⟩
   constructor
   · have:=Int.mul_nonneg a (by omega:0≤D)
     omega
   · have:(f+1)*D≤m*D:=Int.mul_le_mul_of_nonneg_right (by omega) (by omega)
     omega
theorem qG6 {X Y E D m:Int}(hE:0 < E)(hD:0 < D)(h:X*D=Y*E):InR X E m↔InR Y D m:=by
 rw [wR hE,wR hD,zX hE hD h]
def zk (N R D m:Int):Int:=
 if R=0 then 1000000 else if ¬ (0≤N.fdiv D∧N.fdiv D < m) then 0
 else if 1000000 < (if R < 0 then N.fdiv (-R)+1 else -((N - m*D).fdiv R)) then 1000000 else (if R < 0 then N.fdiv (-R)+1 else -((N - m*D).fdiv R))
theorem qJ3 {N R D m:Int}(hR:R < 0)(h:InR N D m):1≤N.fdiv (-R)+1∧(∀ j,0≤j→j < N.fdiv (-R)+1→InR (N+j*R) D m)∧¬ InR (N+(N.fdiv (-R)+1)*R) D m:=by
 obtain⟨h1,h2⟩:=qk (p:=N) (q:=-R) (by omega)
 have f0:0≤N.fdiv (-R):=Int.fdiv_nonneg h.1 (by omega)
 generalize N.fdiv (-R)=f at h1 h2 f0 ⊢
 refine⟨by omega,fun j j0 j1=>?_,?_⟩
 · have k1:j*(-R)≤f*(-R):=Int.mul_le_mul_of_nonneg_right (by omega) (by omega)
   have k2:0≤j*(-R):=Int.mul_nonneg j0 (by omega)
   have e:j*R= -(j*(-R)):=by grind
   obtain⟨a,b⟩:=h
   exact⟨by omega,by omega⟩
 · intro z
   have e:(f+1)*R= -((f+1)*(-R)):=by grind
   have:=z.1
   omega
theorem qJx {N R D m:Int}(hR:0 < R)(h:InR N D m):1≤ -((N - m*D).fdiv R)∧(∀ j,0≤j→j < -((N - m*D).fdiv R)→InR (N+j*R) D m)∧¬ InR (N+ -((N - m*D).fdiv R)*R) D m:=by
 obtain⟨h1,h2⟩:=qk (p:=N - m*D) hR
 obtain⟨a,b⟩:=h
 generalize (N - m*D).fdiv R=f at h1 h2 ⊢
 have f0:f < 0:=by
  have:f*R < 0*R:=by rw [Int.zero_mul];omega
  exact Int.lt_of_mul_lt_mul_right this (by omega)
 refine⟨by omega,fun j j0 j1=>?_,?_⟩
 · have k1:(j+f+1)*R≤0*R:=Int.mul_le_mul_of_nonneg_right (by omega) (by omega)
   have k2:0≤j*R:=Int.mul_nonneg j0 (by omega)
   have e:(j+f+1)*R=j*R+(f+1)*R:=by grind
   rw [Int.zero_mul] at k1
   exact⟨by omega,by omega⟩
 · intro z
   have:=z.2
   have e:-f*R= -(f*R):=by grind
   omega
theorem qLt {N R D m:Int}(hD:0 < D)(h0:R=0→InR N D m):0≤zk N R D m∧zk N R D m≤1000000∧(∀ j,0≤j→j < zk N R D m→InR (N+j*R) D m)∧(zk N R D m < 1000000→¬ InR (N+zk N R D m*R) D m)∧(R=0→zk N R D m=1000000):=by
 unfold zk
 by_cases hR:R=0
 · rw [if_pos hR]
   refine⟨by decide,by decide,fun j _ _=>?_,fun z=>absurd z (by decide),fun _=>rfl⟩
   rw [hR,Int.mul_zero,Int.add_zero]
   exact h0 hR
 rw [if_neg hR]
 by_cases hi:InR N D m
 · rw [if_neg (by rw [Classical.not_not];exact(wR hD).mp hi)]
   have key:∀ g:Int,1≤g→(∀ j,0≤j→j < g→InR (N+j*R) D m)→¬ InR (N+g*R) D m→
    0≤(if 1000000 < g then 1000000 else g)∧(if 1000000 < g then 1000000 else g)≤1000000∧(∀ j,0≤j→j < (if 1000000 < g then 1000000 else g)→InR (N+j*R) D m)∧((if 1000000 < g then 1000000 else g) < 1000000→¬ InR (N+(if 1000000 < g then 1000000 else g)*R) D m):=by
    intro g g1 g2 g3
    by_cases hg:1000000 < g
    · rw [if_pos hg]
      exact⟨by decide,by decide,fun j a b=>g2 j a (by omega),fun z=>absurd z (by decide)⟩
    · rw [if_neg hg]
      exact⟨by omega,by omega,g2,fun _=>g3⟩
   have fin:∀ {A B C D':Prop},A∧B∧C∧D'→A∧B∧C∧D'∧(R=0→(if 1000000 < (if R < 0 then N.fdiv (-R)+1 else -((N - m*D).fdiv R)) then (1000000:Int) else (if R < 0 then N.fdiv (-R)+1 else -((N - m*D).fdiv R)))=1000000):=fun⟨a,b,c,d⟩=>⟨a,b,c,d,fun z=>absurd z hR⟩
   refine fin ?_
   by_cases hn:R < 0
   · rw [if_pos hn]
     obtain⟨a,b,c⟩:=qJ3 hn hi
     exact key _ a b c
   · rw [if_neg hn]
     obtain⟨a,b,c⟩:=qJx (by omega:0 < R) hi
     exact key _ a b c
 · rw [if_pos (by rw [← wR hD];exact hi)]
   refine⟨by decide,by decide,fun j a b=>absurd b (by omega),fun _=>?_,fun z=>absurd z hR⟩
   rw [Int.zero_mul,Int.add_zero]
   exact hi
end Mt
namespace L3
open PySem PySem.Spec PyProof.Rows L2
def CMulB (i j:Int):Prop:=CMul i j∨(i.natAbs < 2 ^ 60000∧j.natAbs < 2 ^ 60000)
theorem kn {i:Int}(h:i.natAbs < 2 ^ 60000):Builtin.Int.intBits i≤2 ^ 20:=by
 unfold Builtin.Int.intBits
 split
 · exact Nat.zero_le _
 · rename_i h0
   have hz:i.natAbs≠0:=by
    intro z
    apply h0
    have:i=0:=by omega
    rw [this];rfl
   have:=(Nat.log2_lt hz).mpr h
   have e:(2:Nat) ^ 20=1048576:=by decide
   omega
theorem CMulB.ok {i j:Int}(h:CMulB i j):IntMulOk i j:=by
 rcases h with h | ⟨h1,h2⟩
 · exact h.ok
 · exact IntMulOk.of_bits (kn h1) (kn h2)
def CDivB (_ j:Int):Prop:=j≠0∧j.natAbs < 2 ^ 8000
theorem CDivB.ok {i j:Int}(h:CDivB i j):Builtin.divisionGoesByPylong i j=false:=by
 refine PyProof.noPylong_of_log2 ?_
 have hz:j.natAbs≠0:=by have:=h.1;omega
 have:=(Nat.log2_lt hz).mpr h.2
 omega
section
variable {X : Cx}
theorem qm:OpR X (binaryOp .Mult) (rI CMulB fun i j=>.int (i*j)):=opI fun _ _ _ _ _ _ _ hc q=>mul_int q hc.ok
theorem jG:OpR X (binaryOp .FloorDiv) (rI CDivB fun i j=>.int (i.fdiv j)):=opI fun _ _ _ _ _ _ _ hc q=>floordiv_int hc.1 q (.inl hc.ok)
theorem jd:wg X (.builtin "isinstance") (fun xs H Q=>∃ x c t b,xs=[x,c]∧qFe X.K H x t∧
 (∃ n,c= .ty n∧PySem.W.kitOne X.K t (.type n)=some b∨∃ a,c= .ref a∧PySem.W.kitOne X.K t (.ref a)=some b)∧Q (.bl b) H):=by
 intro pins s σ H xs us Q I r h
 obtain⟨x,c,t,b,rfl,ty,hk,q⟩:=h
 obtain⟨u,u',rfl,rx,rc⟩:=qMr r
 obtain⟨n,⟨rfl,e⟩ | ⟨a,rfl,e⟩⟩:=hk
 · cases rc
   exact qCx I rx ty e fun tk=>⟨.bl b,H,I.tok _,rfl,q⟩
 · cases rc
   exact qCx I rx ty e fun tk=>⟨.bl b,H,I.tok _,rfl,q⟩
def qGu (xs ys:List V):Bool:=(List.range (min xs.length ys.length)).all (fun j=>eqV (xs.getD j .non) (ys.getD j .non)) && xs.length == ys.length
theorem qAu {A:Around}{s:Shared}{xs ys:List V}{us ws:List Value}(r1:Vals xs us)(r2:Vals ys ws)(f1:xs.all xB=true)(f2:ys.all xB=true):
 ∀ j (h1:j < us.toArray.size) (h2:j < ws.toArray.size),SeqAt.EqAt A s us.toArray[j] ws.toArray[j] (eqV (xs.getD j .non) (ys.getD j .non)):=by
 intro j h1 h2
 have l1:=r1.length
 have l2:=r2.length
 rw [List.size_toArray] at h1 h2
 have g1:xs[j]? =some xs[j]:=List.getElem?_eq_getElem (by omega)
 have g2:ys[j]? =some ys[j]:=List.getElem?_eq_getElem (by omega)
 obtain⟨u,e1,q1⟩:=r1.get g1
 obtain⟨w,e2,q2⟩:=r2.get g2
 have d1:xs.getD j .non=xs[j]:=by rw [List.getD_eq_getElem?_getD,g1];rfl
 have d2:ys.getD j .non=ys[j]:=by rw [List.getD_eq_getElem?_getD,g2];rfl
 have c1:us.toArray[j]=u:=by
  have:=(List.getElem?_eq_some_iff.mp e1).2
  simpa using this
 have c2:ws.toArray[j]=w:=by
  have:=(List.getElem?_eq_some_iff.mp e2).2
  simpa using this
 rw [d1,d2,c1,c2]
 exact qCu q1 q2 (List.all_eq_true.mp f1 _ (List.getElem_mem _)) (List.all_eq_true.mp f2 _ (List.getElem_mem _))
inductive qOz (K:PySem.W.Frag)(neg:Bool)(x:V)(y:V)(H:Hp)(Q:VK):Prop
| mk p q xs ys (_:x= .ref p) (_:y= .ref q) (_:SqT K H p xs) (_:SqT K H q ys) (_:xs.all xB=true) (_:ys.all xB=true) (_:Q (.bl (if neg then !qGu xs ys else qGu xs ys)) H)
theorem qM3 (hu:X.A.units < cLine):OpR X (compareOp .Eq) (qOz X.K false):=by
 intro pins s σ H x y v u Q I rx ry h
 obtain⟨p,q,xs,ys,rfl,rfl,h1,h2,f1,f2,k⟩:=h
 cases rx;cases ry
 obtain⟨us,r1,t1,_⟩:=I.tuple h1
 obtain⟨ws,r2,t2,_⟩:=I.tuple h2
 have l1:us.toArray.size=xs.length:=by rw [List.size_toArray];exact r1.length.symm
 have l2:ws.toArray.size=ys.length:=by rw [List.size_toArray];exact r2.length.symm
 refine SeqAt.eq_tupleAt t1 t2 hu (qAu r1 r2 f1 f2) ?_
 rw [l1,l2]
 exact⟨.bl (qGu xs ys),H,I,rfl,k⟩
end
def q9 (X:Cx)(scope:Scope)(cl:List (Str × Addr))(C:Addr)(N:List Str)(s:Shared)(H:Hp)(fp:List Addr):Cx:=
 {X with N:=N,s₀:=s,H₀:=H,env:=compEnvC scope cl C X.env,outer:=X.stack,stack:=X.stack,ex:=fp,fn:=fun _=>false,pn:=[]}
def wl (js:List Nat)(σ:L2.St):L2.St:=js.map fun j=>(σ[j]?).join
theorem qF6 {prog:Program}{w:World}{A:Around}{R:Result→Shared→Prop}{s0:Shared}{el tg src:Expr}{cs:List Expr}{sco:Scope}{po:Pos}{itv lst:Value}{en:Env}(J:Nat→Shared→Prop)
 (step:∀ k st,J k st→wpAny (model prog w) A (pyNext itv) (fun got s1=>match got with
   | none=>R (.ok .next) s1
   | some u=>wpAny (model prog w) A (letOwnedTupleGo tg itv u) (fun _ s1'=>wpAny (model prog w) A (assign tg en u) (fun _ s2=>
    wpAny (model prog w) A (forIn cs true fun c r=>if r=true then do let ok ← isTrue c en (eval c en);pure (ForInStep.yield ok) else pure (ForInStep.yield r)) (fun good s3=>
     if good=true then wpAny (model prog w) A (eval el en) (fun y s4=>
      wpAny (model prog w) A (call (.builtin "list.append") [lst,y]) (fun _ s5=>∃ j,j < k∧J j s5) (notedBy (model prog w) A en fun x z=>R (.error x) z) s4) (notedBy (model prog w) A en fun x z=>R (.error x) z) s3
     else ∃ j,j < k∧J j s3) (notedBy (model prog w) A en fun x z=>R (.error x) z) s2) (notedBy (model prog w) A en fun x z=>R (.error x) z) s1') (notedBy (model prog w) A en fun x z=>R (.error x) z) s1) (notedBy (model prog w) A en fun x z=>R (.error x) z) st)
 (k:Nat) (hJ:J k s0):codeAny (model prog w) A (.compLoop (.ListComp el [⟨tg,src,cs,0⟩] sco po) 0 itv lst en) R s0:=by
 refine codeAny_loop rfl J (fun k st hk=>?_) k hJ
 show wpAny _ A ((compTurn (.ListComp el [⟨tg,src,cs,0⟩] sco po) 0 itv lst en).onRaise (fun x=>do noteFrame x en;theTreesLotGoes x)) _ _ st
 refine wpAny_noted ?_
 rw [compTurn_list]
 refine wpAny_bind (wpAny_standAt (wpAny_bind (wpAny_mono (step k st hk) (fun got s1 g1=>?_) fun _ _ q=>q)))
 match got with
 | none=>exact wpAny_pure g1
 | some u=>
  refine wpAny_bind (wpAny_mono g1 (fun _ s1' g2=>?_) fun _ _ q=>q)
  refine wpAny_bind (wpAny_mono g2 (fun _ s2 g3=>wpAny_bind (wpAny_mono g3 (fun good s3 g4=>?_) fun _ _ q=>q)) fun _ _ q=>q)
  match good with
  | false=>exact wpAny_pure ⟨rfl,g4⟩
  | true=>
   refine wpAny_bind (wpAny_bind (wpAny_mono g4 (fun y s4 g5=>?_) fun _ _ q=>q))
   exact wpAny_bind (wpAny_mono g5 (fun _ s5 g6=>wpAny_pure (wpAny_pure ⟨rfl,g6⟩)) fun _ _ q=>q)
structure COk (X:Cx)(scope:Scope)(cl:List (Str × Addr))(iter:Expr)(xs ys:List Str)(js:List Nat):Prop where
 clos:closureFor scope X.env=pure cl
 cls:cl.map (fun p=>X.env.cells.lookup p.1)=cl.map (fun p=>some p.2)
 cell:(scope.names.all fun p=>p.2 != .cell)=true
 kind:scope.kind= .function
 names:(scope.names.all fun p=>p.2 != .local || scope.names.lookup p.1 == some .local)=true
 has:((relabel scope X.env).names.all fun p=>(p.2 != .cell && p.2 != .free) || (cl.lookup p.1).isSome)=true
 hjs:js.map (fun j=>X.N[j]?)=ys.map some
 hys:(ys.all fun y=>((relabel scope X.env).names.lookup y == some .cell || (relabel scope X.env).names.lookup y == some .free) && (X.env.scope.names.lookup y == some .cell || X.env.scope.names.lookup y == some .free))=true
 set:∀ x,foldedSetIterable iter X.env x=pure x
 nd:(xs++ys).Nodup
def PTs (X:Cx)(cs:List Expr)(t:TT):Prop:=
 ∀ (pins:List (Addr × Obj)) (s:Shared) (σ:L2.St) (H:Hp) (Q:Bool→Hp→Prop),Inv X pins σ H s→t σ H Q→wpAny (model X.prog X.w) X.A (forIn cs true fun c r=>if r=true then do let ok ← isTrue c X.env (eval c X.env);pure (ForInStep.yield ok) else pure (ForInStep.yield r)) (TP X pins σ Q) X.xe s
theorem qI0 {X:Cx}:PTs X [] fun _ H Q=>Q true H:=fun _ _ _ H _ I h=>wpAny_pure ⟨H,I,h⟩
theorem qLh {X:Cx}{c:Expr}{t:TT}(hc:PT X c t):PTs X [c] t:=fun pins s σ H Q I h=>by
 simp only [List.forIn_cons,List.forIn_nil,if_true]
 exact wpAny_bind (wpAny_bind (thn (hc pins s σ H Q I h) fun _ _ q=>wpAny_pure (wpAny_pure q)))
def ke (n:Nat)(js:List Nat)(g:TG)(tc:TT)(te:TE)(σ:L2.St)(Q:VK)(J:It)(H1:Hp):Prop:=∃ W:Nat→Nat→List V→Hp→Prop,(∃ m,W 0 m [] H1)∧∀ i m acc H2,W i m acc H2→
 acc.length < sizeLine∧((J.stop i H2∧∀ D,H2 D=none→Q (.ref D) (upd H2 D (.lst acc)))∨
  (J.go i H2∧∀ x H3,J.yld i H2 x H3→g x (List.replicate n none++wl js σ) H3 fun σ' H4=>∃ vs:L2.St,σ'=vs++wl js σ∧vs.length=n∧tc σ' H4 fun ok H5=>if ok=true then te σ' H5 fun v H6=>∃ m',m' < m∧W (i+1) m' (acc++[v]) H6 else ∃ m',m' < m∧W (i+1) m' acc H5))
theorem qAv {X:Cx}{elt iter tg:Expr}{cs:List Expr}{scope:Scope}{cl:List (Str × Addr)}{pos:Pos}{wi:TI}{g:TG}{tc:TT}{te:TE}{xs ys:List Str}{js:List Nat}{E:It→Hp→Prop}
 (hcm:X.calm=true) (hi:PI X tg iter wi) (hg:∀ C s H fp,PG (q9 X scope cl C (xs++ys) s H fp).nox tg g) (hc:∀ C s H fp,PTs (q9 X scope cl C (xs++ys) s H fp).nox cs tc) (he:∀ C s H fp,PE (q9 X scope cl C (xs++ys) s H fp).nox elt te)
 (hC:COk X scope cl iter xs ys js)
 {pins:List (Addr × Obj)} {s:Shared} {σ:L2.St} {H:Hp} (R:V→Hp→Prop) (use:Option (Value→Sem Unit)) (Q:Value→Shared→Prop) (I:Inv X pins σ H s) (h:wi σ H E) (hE:∀ J H1,E J H1→ke xs.length js g tc te σ R J H1)
 (fin:∀ (v:V) (u:Value) (H':Hp) (s':Shared) (C:Addr),Inv X pins σ H' s'→RelV v u→R v H'→(∃ m,s'.heap.Ns C m)→H' C=none→C≠X.env.locals→X.s₀.heap.objs.size≤C→(∀ y c,X.env.cells.lookup y=some c→c≠C)→(∀ p∈X.pn++pins,p.1≠C)→
   compPost (model X.prog X.w) X.A X.xe use Q u C (.ok .next) s'):
 wpAny (model X.prog X.w) X.A (comprehension (.ListComp elt [⟨tg,iter,cs,0⟩] scope pos) scope X.env (firstIterPos [⟨tg,iter,cs,0⟩] pos) (newList []) false (eval iter X.env) use) Q X.xe s:=by
 obtain⟨hclos,hcl,hcell,hkind,hnames,hhas,hjs,hys,hs,hnd⟩:=hC
 have hcell':∀ y∈scope.names,y.2≠ .cell:=fun y hy=>by
  have:=List.all_eq_true.mp hcell y hy
  simpa using this
 have hnm:∀ y∈scope.names,y.2= .local→scope.names.lookup y.1=some .local:=fun y hy e=>by
  have:=List.all_eq_true.mp hnames y hy
  rw [e] at this
  simpa using this
 have clX:∀ y c,cl.lookup y=some c→X.env.cells.lookup y=some c:=fun y c e=>by
  have hm:=PySem.mem_of_lookup e
  obtain⟨k,hk,e2⟩:=List.mem_iff_getElem.mp hm
  have:=congrArg (fun l=>l[k]?) hcl
  simp only [List.getElem?_map,List.getElem?_eq_getElem hk,Option.map_some,e2] at this
  exact Option.some.inj this
 have has:∀ y,((relabel scope X.env).names.lookup y=some .cell∨(relabel scope X.env).names.lookup y=some .free)→∃ c,cl.lookup y=some c:=fun y hy=>by
  have key:∀ k:NameKind,(k= .cell∨k= .free)→(relabel scope X.env).names.lookup y=some k→∃ c,cl.lookup y=some c:=fun k hk e=>by
   have:=List.all_eq_true.mp hhas _ (PySem.mem_of_lookup e)
   rcases hk with rfl | rfl <;> exact Option.isSome_iff_exists.mp (by simpa using this)
  rcases hy with e | e
  · exact key _ (.inl rfl) e
  · exact key _ (.inr rfl) e
 refine wpAny_comprehension_free (use:=use) rfl hs hclos hkind hnm (thn (hi pins s σ H _ I h) fun v s1 h1=>thn h1 fun itv s2 h2=>?_)
 obtain⟨it,fp,tn,J,H2,e,I2,T,st2,f2,hw⟩:=h2
 obtain⟨W,⟨m0,w0⟩,turn⟩:=hE J H2 hw
 subst e
 refine wpAny_newObj_type (wpAny_newFunctionEnv hcell' (by intro y hy;simp at hy) (fun h₁ hns hsb=>?_) hkind)
 dsimp only at hns hsb ⊢
 generalize hG:s2.heap.push {cls:=.type "list",dict:=none,data:=.seq ([]:List Value).toArray}=G at hns hsb ⊢
 have szG:G.objs.size=s2.heap.objs.size+1:=by rw [← hG,Heap.size_push]
 have inG:∀ b o,s2.heap.get? b=some o→G.get? b=some o:=fun b o e=>hG ▸ Heap.get?_push_of_some _ e
 have ltC:∀ b o,s2.heap.get? b=some o→b≠G.objs.size:=fun b o e=>by rw [szG];exact Nat.ne_of_lt (Nat.lt_succ_of_lt (Heap.lt_size e))
 have ltD:∀ b o,s2.heap.get? b=some o→b≠s2.heap.objs.size:=fun b o e=>Nat.ne_of_lt (Heap.lt_size e)
 have DC:s2.heap.objs.size≠G.objs.size:=by rw [szG];omega
 have old:∀ b o,s2.heap.get? b=some o→h₁.get? b=some o:=fun b o e=>hsb.extBut b o (ltC b o e) (Heap.get?_push_of_some _ (inG b o e))
 have hacc:h₁.PlainList s2.heap.objs.size #[]:=⟨_,hsb.extBut _ _ DC (Heap.get?_push_of_some _ (hG ▸ Heap.get?_push_size _ rfl))⟩
 have fpO:∀ b∈fp,∃ o,s2.heap.get? b=some o:=fun b hb=>let ⟨o,e,_⟩:=T.obj 0 _ st2 b hb;⟨o,e⟩
 have stkO:∀ b∈frs X.stack,∃ o,s2.heap.get? b=some o:=fun b hb=>by
  obtain⟨_,o,ho,_⟩:=I2.stack.mem hb
  exact⟨o,ho⟩
 have freshH:∀ a,s2.heap.objs.size≤a→H2 a=none:=fun a ha=>I2.hok.fresh ha
 have stkFp:∀ b∈fp,b ∉ frs X.stack:=fun b hb z=>by
  rcases List.mem_cons.mp (I2.stkSub b z) with q | q
  · exact(f2 b hb).2.1 q
  · exact(f2 b hb).2.2.1 q
 have okX:(q9 X scope cl G.objs.size (xs++ys) s2 H2 fp).Ok:={
  mod:=I2.ok.mod
  kind:=hkind
  glob:=I2.ok.glob
  blt:=I2.ok.blt
  above:=by show s2.heap.objs.size≤G.objs.size;rw [szG];omega
  inj:=fun y z c e1 e2=>I2.ok.inj y z c (clX y c e1) (clX z c e2)
  has:=fun y hy=>has y hy
  cab:=fun y c e _=>absurd (show false=true from e) Bool.false_ne_true
  hd:=I2.ok.hd
  frames:=I2.ok.frames
  stk:=.inl rfl
  exf:=fun b hb=>by
   obtain⟨o,e⟩:=fpO b hb
   exact⟨ltC b o e,fun y c e1=>(f2 b hb).2.2.2.2.1 y c (clX y c e1)⟩
  bs:=I2.bs
  bsz:=Nat.le_trans I2.ok.bsz I2.sz
  noex:=fun b o e hb=>by
   rcases (f2 b hb).2.2.2.1 with q | q
   · exact I2.ok.noex b o e q
   · exact Nat.lt_irrefl _ (Nat.lt_of_lt_of_le (Nat.lt_of_lt_of_le (Heap.lt_size e) I2.ok.bsz) q)
  exfs:=stkFp
  funs:=I2.stack
  frf:=I2.stkFree}
 have lenY:js.length=ys.length:=by have:=congrArg List.length hjs;simpa using this
 have I0:Inv (q9 X scope cl G.objs.size (xs++ys) s2 H2 fp) [] (List.replicate xs.length none++wl js σ) H2 {s2 with heap:=h₁,toks:=s2.toks+([]:List (Str × Value)).length}:=by
  refine⟨okX,rfl,I2.bare,Un.kept old,⟨_,hns,fun k y v e1 e2 e3=>?_⟩,fun y c e=>?_,freshH _ (by show s2.heap.objs.size≤G.objs.size;rw [szG];omega),fun y c e=>I2.freeC y c (clX y c e),fun p hp=>absurd (show p∈([]:List (Addr × Obj)) from hp) (by simp),I2.hok.kept old,?_⟩
  · obtain⟨k,e1',e2'⟩:∃ k,ys[k]? =some y∧(wl js σ)[k]? =some (some v):=by
     have e1:(xs++ys)[k]? =some y:=e1
     by_cases hk:k < xs.length
     · rw [List.getElem?_append_left (by simpa using hk),List.getElem?_replicate,if_pos hk] at e2
       cases e2
     · rw [List.getElem?_append_right (by simpa using hk),List.length_replicate] at e2
       rw [List.getElem?_append_right (Nat.le_of_not_lt hk)] at e1
       exact⟨_,e1,e2⟩
    unfold wl at e2'
    rw [List.getElem?_map] at e2'
    cases ej:js[k]? with
    | none=>rw [ej] at e2';cases e2'
    | some j=>
     rw [ej] at e2'
     have e4:(σ[j]?).join=some v:=Option.some.inj e2'
     have e5:σ[j]? =some (some v):=by
      cases q:σ[j]? with
      | none=>rw [q] at e4;cases e4
      | some o=>rw [q] at e4;exact congrArg some e4
     have e6:X.N[j]? =some y:=by
      have:=congrArg (fun l=>l[k]?) hjs
      simp only [List.getElem?_map,ej,e1',Option.map_some] at this
      exact Option.some.inj this
     have hy:=List.all_eq_true.mp hys y (List.mem_of_getElem? e1')
     simp only [Bool.and_eq_true,Bool.or_eq_true,beq_iff_eq] at hy
     obtain⟨ky,ko⟩:=hy
     obtain⟨m,hn,hl⟩:=I2.loc
     obtain⟨u,r,lk⟩:=hl j y v e6 e5 (.inr ko)
     refine⟨u,r,.inr ⟨ky,?_⟩⟩
     rcases lk with ⟨kl,_⟩ | ⟨_,c,ec,hc⟩
     · have kl':X.env.scope.names.lookup y=some .local:=kl
       rw [kl'] at ko
       rcases ko with z | z <;> cases z
     · obtain⟨c',ec'⟩:=has y ky
       have:=clX y c' ec'
       rw [ec] at this
       cases this
       obtain⟨o,ho,hd⟩:=hc
       exact⟨c,ec',o,old c o ho,hd⟩
  · obtain⟨v,o,ho,hd⟩:=I2.cell y c (clX y c e)
    exact⟨v,o,old c o ho,hd⟩
  · show (List.replicate xs.length none++wl js σ).length=(xs++ys).length
    simp [wl,lenY]
 have loop:∀ s3:Shared,s3={s2 with heap:=h₁,toks:=s2.toks+([]:List (Str × Value)).length}→
  codeAny (model X.prog X.w) X.A (.compLoop (.ListComp elt [⟨tg,iter,cs,0⟩] scope pos) 0 (.ref it) (.ref s2.heap.objs.size) (compEnvC scope cl G.objs.size X.env))
   (compPost (model X.prog X.w) X.A X.xe use Q (.ref s2.heap.objs.size) G.objs.size) s3:=by
  rintro s3 rfl
  have stat:∀ {H':Hp} (o:Obj),(∀ b∈fp,H' b=none)→∀ b∈fp,qJk (q9 X scope cl G.objs.size (xs++ys) s2 H2 fp) [(s2.heap.objs.size,o)] H' b:=fun {H'} o hn b hb=>by
   obtain⟨ob,eb⟩:=fpO b hb
   refine⟨hn b hb,ltC b ob eb,stkFp b hb,.inl hb,fun y c e1=>(f2 b hb).2.2.2.2.1 y c (clX y c e1),fun p hp=>?_⟩
   have hp':p=(s2.heap.objs.size,o):=by
    have:p∈[(s2.heap.objs.size,o)]:=hp
    simpa using this
   rw [hp']
   exact Ne.symm (ltD b ob eb)
  refine qF6 (fun n s'=>∃ i acc its H3,Inv (q9 X scope cl G.objs.size (xs++ys) s2 H2 fp) [] (List.replicate xs.length none++wl js σ) H3 s'∧tn i s'.heap∧(∀ b∈fp,H3 b=none)∧s'.heap.PlainList s2.heap.objs.size its.toArray∧Vals acc its∧H3 s2.heap.objs.size=none∧W i n acc H3)
   ?_ m0 ⟨0,[],[],H2,I0,T.keep _ _ _ st2 fun b _ o e=>old b o e,fun b hb=>(f2 b hb).1,hacc,.nil,freshH _ (Nat.le_refl _),w0⟩
  rintro n s3 ⟨i,acc,its,H3,I3,st3,fr3,⟨nn,pl3⟩,va3,hD3,w3⟩
  obtain⟨hlen,cs⟩:=turn i n acc H3 w3
  have hal:acc.length=its.length:=va3.length
  have nD:s2.heap.objs.size ∉ frs X.stack:=fun z=>by
   obtain⟨o,e⟩:=stkO _ z
   exact ltD _ o e rfl
  have I3p:Inv (q9 X scope cl G.objs.size (xs++ys) s2 H2 fp) [(s2.heap.objs.size,{cls:=.type "list",data:=.seq its.toArray nn})] (List.replicate xs.length none++wl js σ) H3 s3:=I3.pins_of fun p hp=>by
   have e:p=(s2.heap.objs.size,{cls:=.type "list",data:=.seq its.toArray nn}):=by simpa using hp
   subst e
   exact⟨pl3,hD3,DC,nD,fun v z=>nomatch z⟩
  rcases cs with ⟨stop,q⟩ | ⟨go,step⟩
  · refine thn (T.done (q9 X scope cl G.objs.size (xs++ys) s2 H2 fp) rfl rfl rfl hcm i _ s3 _ H3 _ I3p (stat _ fr3) st3 stop) fun r s4 hr=>?_
    obtain⟨hr,I4⟩:=hr
    subst hr
    have pl4:=(I4.pin (s2.heap.objs.size,{cls:=.type "list",data:=.seq its.toArray nn}) (by simp)).1
    obtain⟨m,hn,_⟩:=I4.loc
    have B:=I4.base
    have un':Un (frs X.stack) fp H2 (upd H3 s2.heap.objs.size (.lst acc)) s2.heap s4.heap:=by
     refine⟨fun b o e n hb hx=>B.keep b o e n hb hx,fun b o e n hb hx=>B.slot b o e n hb hx,fun b o e n hx=>?_,fun b o e hx=>B.there b o e hx,fun b xs e=>?_,fun b o u e=>?_,fun b ps e=>?_⟩
     · rw [qR (ltD b o e)]
       exact B.free b o e n hx
     · have z:=B.tups b xs e
       rw [qR (qU z hD3)]
       exact z
     · have z:=B.frzs b o u e
       rw [qR (qU z hD3)]
       exact z
     · obtain⟨more,z⟩:=B.tbls b ps e
       exact⟨more,by rw [qR (qU z hD3)];exact z⟩
    have freeC4:H3 G.objs.size=none:=I4.free
    have hok':HOk X.prog X.w (upd H3 s2.heap.objs.size (.lst acc)) s4.heap:=fun b u e=>by
     by_cases hb:b=s2.heap.objs.size
     · subst hb
       rw [qD] at e
       cases e
       exact⟨Nat.le_of_lt hlen,its,nn,va3,pl4⟩
     · rw [qR hb] at e
       exact(I4.hok b u e).stay (fun c v hc z=>z) (fun c z=>by rw [qR (qU z hD3)];exact z) fun c xs z=>by rw [qR (qU z hD3)];exact z
    have hch:∀ b∈fp,(b∈X.ex∨X.s₀.heap.objs.size≤b)∧b≠X.env.locals∧(∀ y c,X.env.cells.lookup y=some c→c≠b)∧∀ p∈X.pn++pins,p.1≠b:=fun b hb=>by
     obtain⟨_,z1,_,z3,z4,z5⟩:=f2 b hb
     exact⟨z3,z1,z4,z5⟩
    have I5:=I2.call' (s':=s4) (ch:=fp) I4.os un' hok' I4.bare hch
    refine fin (.ref s2.heap.objs.size) _ _ s4 G.objs.size I5 rfl (q _ hD3) ⟨m,hn⟩ ?_ ?_ ?_ (fun y c e=>?_) fun p hp=>?_
    · rw [qR (Ne.symm DC)];exact freeC4
    · rw [szG];exact Nat.ne_of_gt (Nat.lt_succ_of_lt I2.lt)
    · rw [szG];exact Nat.le_succ_of_le I2.sz
    · obtain⟨v,o,ho,_⟩:=I2.cell y c e
      exact ltC c o ho
    · exact ltC p.1 p.2 (I2.pin p hp).1
  · refine thn (T.item (q9 X scope cl G.objs.size (xs++ys) s2 H2 fp) rfl rfl rfl hcm i _ s3 _ H3 _ I3p (stat _ fr3) st3 go) fun r s4 hr=>?_
    obtain⟨u,hr,h4⟩:=hr
    subst hr
    refine thn h4 fun _ s5 h5=>?_
    obtain⟨v,H5,I5,r5,y5,st5,fr5⟩:=h5
    have I5':=I5.pinned (stat _ fr5) (T.obj _ _ st5)
    refine wpAny_mono (hg G.objs.size s2 H2 fp _ s5 _ H5 v u _ (I5'.wish _) r5 (step v H5 y5)) (fun _ s6 h6=>?_) fun _ _ z=>z.elim
    obtain⟨σ6,H6',I6',vs,eσ,hv,q5⟩:=h6
    subst eσ
    have back:∀ (H7:Hp) (s7:Shared) (σ7:L2.St) (h':Heap) (acc':List V) (its':List Value) (m':Nat),Inv (q9 X scope cl G.objs.size (xs++ys) s2 H2 fp) ([(s2.heap.objs.size,{cls:=.type "list",data:=.seq its.toArray nn})]++qCg fp s5.heap) (vs++wl js σ) H7 s7→
     Heap.SameBut s2.heap.objs.size s7.heap h'→h'.PlainList s2.heap.objs.size its'.toArray→Vals acc' its'→m' < n→W (i+1) m' acc' H7→
     ∃ m,m < n∧∃ i acc its H3,Inv (q9 X scope cl G.objs.size (xs++ys) s2 H2 fp) [] (List.replicate xs.length none++wl js σ) H3 {s7 with heap:=h'}∧tn i h'∧(∀ b∈fp,H3 b=none)∧h'.PlainList s2.heap.objs.size its.toArray∧Vals acc its∧H3 s2.heap.objs.size=none∧W i m acc H3:=by
     intro H7 s7 _ h' acc' its' m' I7 hsb' hp' va' hm' w7
     have pinD:=I7.pin (s2.heap.objs.size,{cls:=.type "list",data:=.seq its.toArray nn}) (by simp)
     have pf:∀ b∈fp,∀ o,s5.heap.get? b=some o→s7.heap.get? b=some o∧H7 b=none:=fun b hb o e=>by
      have z:=I7.pin (b,o) (List.mem_append_right _ (List.mem_append_right _ (vU hb e)))
      exact⟨z.1,z.2.1⟩
     have I8:Inv (q9 X scope cl G.objs.size (xs++ys) s2 H2 fp) [] (List.replicate xs.length none++wl js σ) H7 {s7 with heap:=h'}:=by
      have I7u:Inv (q9 X scope cl G.objs.size (xs++ys) s2 H2 fp) [] (List.replicate xs.length none++wl js σ) H7 s7:=(I7.pins_of (pins':=[]) fun p hp=>absurd hp (by simp)).weak (by simp [hv]) fun k v e=>by
       by_cases hk:k < xs.length
       · rw [List.getElem?_append_left (by simpa using hk),List.getElem?_replicate,if_pos hk] at e
         cases e
       · rw [List.getElem?_append_right (by simpa using hk),List.length_replicate] at e
         rw [List.getElem?_append_right (by rw [hv];exact Nat.le_of_not_lt hk),hv]
         exact e
      refine I7u.turned (t':=s7.toks) (it:=s2.heap.objs.size) (fun b o hb e=>hsb'.extBut b o hb e) pinD.2.1 DC (.inr (Nat.le_refl _)) (fun y c e=>?_) fun p hp=>absurd (show p∈([]:List (Addr × Obj)) from hp) (by simp)
      obtain⟨v,o,ho,_⟩:=I2.cell y c (clX y c e)
      exact ltD c o ho
     refine⟨m',hm',i+1,acc',its',H7,I8,?_,fun b hb=>?_,hp',va',pinD.2.1,w7⟩
     · refine T.keep _ _ _ st5 fun b hb o e=>hsb'.extBut b o ?_ (pf b hb o e).1
       obtain⟨ob,eb⟩:=fpO b hb
       exact ltD b ob eb
     · obtain⟨o,e,_⟩:=T.obj _ _ st5 b hb
       exact(pf b hb o e).2
    refine wpAny_mono (hc G.objs.size s2 H2 fp _ s6 _ _ _ I6' q5) (fun ok s6a h6=>?_) fun _ _ z=>z.elim
    obtain⟨H6,I6a,q6⟩:=h6
    cases ok with
    | false=>
     rw [if_neg (by decide)] at q6 ⊢
     obtain⟨m',hm',w7⟩:=q6
     have I7:=I6a.unwish
     have pinD:=I7.pin (s2.heap.objs.size,{cls:=.type "list",data:=.seq its.toArray nn}) (by simp)
     exact back H6 s6a (List.replicate xs.length none++wl js σ) s6a.heap acc its m' I7 (Heap.SameBut.refl _ _) ⟨nn,pinD.1⟩ va3 hm' w7
    | true=>
     rw [if_pos rfl] at q6 ⊢
     refine wpAny_mono (he G.objs.size s2 H2 fp _ s6a _ H6 _ I6a q6) (fun y s7 h7=>?_) fun _ _ z=>z.elim
     obtain⟨v7,H7,I7,r7,m',hm',w7⟩:=h7
     have I7:=I7.unwish
     have pinD:=I7.pin (s2.heap.objs.size,{cls:=.type "list",data:=.seq its.toArray nn}) (by simp)
     refine wpAny_list_append_plain (items:=its.toArray) ⟨nn,pinD.1⟩ (fun h' hp' hsb'=>?_) (by rw [List.size_toArray,← hal];exact Nat.le_of_lt hlen)
     have e8:its.toArray.push y=(its++[y]).toArray:=by simp
     rw [e8] at hp'
     exact back H7 s7 (List.replicate xs.length none++wl js σ) h' (acc++[v7]) (its++[y]) m' I7 hsb' hp' (va3.append (.cons r7 .nil)) hm' w7
 exact codeAny_compStart_list (loop _ rfl) (T.self _ 0 _ _ _ (T.keep _ _ _ st2 fun b _ o e=>old b o e) (loop _ rfl))
theorem qFj {X:Cx}{pins:List (Addr × Obj)}{σ:L2.St}{H:Hp}{s:Shared}{C:Addr}{h':Heap}(I:Inv X pins σ H s)(hsb:Heap.SameBut C s.heap h')(h0:H C=none)(h1:C≠X.env.locals)(h2:X.s₀.heap.objs.size≤C)
 (h3:∀ y c,X.env.cells.lookup y=some c→c≠C) (h4:∀ p∈X.pn++pins,p.1≠C):Inv X pins σ H {s with heap:=h'}:=
 I.turned (t':=s.toks) (it:=C) (fun b o hb e=>hsb.extBut b o hb e) h0 h1 (.inr h2) h3 h4
theorem qJf {X:Cx}{elt iter tg:Expr}{cs:List Expr}{scope:Scope}{cl:List (Str × Addr)}{pos:Pos}{wi:TI}{g:TG}{tc:TT}{te:TE}{xs ys:List Str}{js:List Nat}{T:L2.St→VK→It→Hp→Prop}
 (hcm:X.calm=true) (hi:PI X tg iter wi) (hg:∀ C s H fp,PG (q9 X scope cl C (xs++ys) s H fp).nox tg g) (hc:∀ C s H fp,PTs (q9 X scope cl C (xs++ys) s H fp).nox cs tc) (he:∀ C s H fp,PE (q9 X scope cl C (xs++ys) s H fp).nox elt te) (hC:COk X scope cl iter xs ys js) (hE:∀ σ Q J H1,T σ Q J H1→ke xs.length js g tc te σ Q J H1):PE X (.ListComp elt [⟨tg,iter,cs,0⟩] scope pos) (fun σ H Q=>wi σ H (T σ Q)):=by
 intro pins s σ H Q I h
 rw [eval_ListComp]
 refine qAv hcm hi hg hc he hC Q none (EP X pins σ Q) I h (hE σ Q) fun v u H' s' C I' r q hm h0 h1 h2 h3 h4=>?_
 obtain⟨m,hm⟩:=hm
 exact⟨m,hm,fun h' hsb=>⟨v,H',qFj I' hsb h0 h1 h2 h3 h4,r,q⟩⟩
theorem qFa {X:Cx}{elt iter tg:Expr}{cs:List Expr}{scope:Scope}{cl:List (Str × Addr)}{pos:Pos}{wi:TI}{g:TG}{tc:TT}{te:TE}{xs ys:List Str}{js:List Nat}{T:L2.St→VK→It→Hp→Prop}{i:Nat}{y:Str}{py spos:Pos}(hN:X.N.Nodup)(hi':X.N[i]? =some y)(hy:X.env.kindOf y=some .local)
 (hcm:X.calm=true) (hi:PI X tg iter wi) (hg:∀ C s H fp,PG (q9 X scope cl C (xs++ys) s H fp).nox tg g) (hc:∀ C s H fp,PTs (q9 X scope cl C (xs++ys) s H fp).nox cs tc) (he:∀ C s H fp,PE (q9 X scope cl C (xs++ys) s H fp).nox elt te) (hC:COk X scope cl iter xs ys js) (hE:∀ σ Q J H1,T σ Q J H1→ke xs.length js g tc te σ Q J H1) (hsw:swapsWith (.ListComp elt [⟨tg,iter,cs,0⟩] scope pos) (some (.Name y py)) spos.line X.env=pure true):PS X (.Assign [.Name y py] (.ListComp elt [⟨tg,iter,cs,0⟩] scope pos) spos) (qL4 (fun σ H Q=>wi σ H (T σ Q)) (v8 i)):=by
 intro pins s σ H D I h
 rw [exec_Assign_Name_used _ _ _ _ hsw]
 refine wpAny_bind (wpAny_standAt (wpAny_bind ?_))
 have key:=qAv (pos:=pos) hcm hi hg hc he hC (fun v H'=>D.nx (σ.set i (some v)) H') (some (assign (.Name y py) X.env)) (fun _ s'=>SP X pins D .next s') I h (hE σ _) fun v u H' s' C I' r q hm h0 h1 h2 h3 h4=>?_
 · exact wpAny_bind (thn key fun _ s' hq=>wpAny_pure (wpAny_pure hq))
 · refine wpAny_assign_Name (qCv I' hN hi' (.inl hy) r (fun s2 I2 ch=>?_) (.inr hy))
   obtain⟨b,sb,hb⟩:=ch
   obtain⟨m,hm⟩:=hm
   have nb:C≠b:=by
    rcases hb with rfl | hb
    · exact h1
    · exact Ne.symm (h3 y b hb)
   exact⟨m,hm.sameBut sb nb,fun h' hsb=>⟨_,H',qFj I2 hsb h0 h1 h2 h3 h4,q⟩⟩
def CompEnd (js:List Nat)(te:TE)(σ:L2.St)(Q:VK)(J:It)(H1:Hp):Prop:=∃ W:Nat→Nat→List V→Hp→Prop,(∃ m,W 0 m [] H1)∧∀ i m acc H2,W i m acc H2→
 acc.length < sizeLine∧((J.stop i H2∧∀ D,H2 D=none→Q (.ref D) (upd H2 D (.lst acc)))∨
  (J.go i H2∧∀ x H3,J.yld i H2 x H3→te (some x::wl js σ) H3 fun v H4=>∃ m',m' < m∧W (i+1) m' (acc++[v]) H4))
def qMt (js:List Nat)(wi:TI)(te:TE):TE:=fun σ H Q=>wi σ H (CompEnd js te σ Q)
theorem CompEnd.g {js:List Nat}{te:TE}(σ:L2.St)(Q:VK)(J:It)(H1:Hp):CompEnd js te σ Q J H1→ke 1 js (v8 0) (fun _ H Q=>Q true H) te σ Q J H1:=fun⟨W,w0,st⟩=>
 ⟨W,w0,fun i m acc H2 w=>⟨(st i m acc H2 w).1,(st i m acc H2 w).2.imp id fun⟨go,y⟩=>⟨go,fun x H3 z=>⟨[some x],rfl,rfl,(if_pos rfl).mpr (y x H3 z)⟩⟩⟩⟩
theorem qE3 {X:Cx}{elt iter:Expr}{x:Str}{px:Pos}{scope:Scope}{cl:List (Str × Addr)}{pos:Pos}{wi:TI}{te:TE}(ys:List Str)(js:List Nat)
 (hcm:X.calm=true) (hi:PI X (.Name x px) iter wi) (he:∀ C s H fp,PE (q9 X scope cl C (x::ys) s H fp).nox elt te) (hx:scope.names.lookup x=some .local:=by rfl) (hC:COk X scope cl iter [x] ys js:=by exact⟨rfl,rfl,rfl,rfl,rfl,rfl,rfl,rfl,fun _=>rfl,by decide⟩):PE X (.ListComp elt [⟨.Name x px,iter,[],0⟩] scope pos) (qMt js wi te):=
 qJf (xs:=[x]) (T:=CompEnd js te) hcm hi (fun _ _ _ _=>jR (i:=0) hC.nd rfl (.inl (lookup_relabel_local hx)) (.inr (lookup_relabel_local hx))) (fun _ _ _ _=>qI0) he hC CompEnd.g
theorem qHs {X:Cx}{elt iter:Expr}{x:Str}{px:Pos}{scope:Scope}{cl:List (Str × Addr)}{pos:Pos}{wi:TI}{te:TE}(ys:List Str)(js:List Nat){i:Nat}{y:Str}{py spos:Pos}(hN:X.N.Nodup)(hi':X.N[i]? =some y)(hy:X.env.kindOf y=some .local)
 (hcm:X.calm=true) (hi:PI X (.Name x px) iter wi) (he:∀ C s H fp,PE (q9 X scope cl C (x::ys) s H fp).nox elt te) (hx:scope.names.lookup x=some .local:=by rfl) (hC:COk X scope cl iter [x] ys js:=by exact⟨rfl,rfl,rfl,rfl,rfl,rfl,rfl,rfl,fun _=>rfl,by decide⟩) (hsw:swapsWith (.ListComp elt [⟨.Name x px,iter,[],0⟩] scope pos) (some (.Name y py)) spos.line X.env=pure true:=by rfl):PS X (.Assign [.Name y py] (.ListComp elt [⟨.Name x px,iter,[],0⟩] scope pos) spos) (qL4 (qMt js wi te) (v8 i)):=
 qFa (xs:=[x]) (T:=CompEnd js te) hN hi' hy hcm hi (fun _ _ _ _=>jR (i:=0) hC.nd rfl (.inl (lookup_relabel_local hx)) (.inr (lookup_relabel_local hx))) (fun _ _ _ _=>qI0) he hC CompEnd.g hsw
def Nxt (n i:Nat)(P:Prop):Prop:=∃ m',m' < n - i∧m'=n - (i+1)∧i+1≤n∧P
theorem Nxt.mk {n i:Nat}{P:Prop}(h:i < n)(p:P):Nxt n i P:=⟨n - (i+1),by omega,rfl,h,p⟩
theorem w9 {K:PySem.W.Frag}{a:Addr}{xs:List V}{js:List Nat}{te:TE}{σ:L2.St}{H:Hp}{Q:VK}(Pv:Nat→List V→Hp→Prop)(h0:Pv 0 [] H)(hl:∀ i acc H,i≤xs.length→Pv i acc H→SqL K H a xs∧acc.length < sizeLine)
 (hs:∀ i x acc H,i < xs.length→xs[i]? =some x→Pv i acc H→te (some x::wl js σ) H fun v H'=>Nxt xs.length i (Pv (i+1) (acc++[v]) H')) (hd:∀ acc H,Pv xs.length acc H→∀ D,H D=none→Q (.ref D) (upd H D (.lst acc))):CompEnd js te σ Q (Itl K a) H:=by
 refine⟨fun i m acc H=>m=xs.length - i∧i≤xs.length∧Pv i acc H,⟨xs.length,by simp,Nat.zero_le _,h0⟩,?_⟩
 rintro i m acc H2 ⟨rfl,hi,p⟩
 obtain⟨q,hz⟩:=hl i acc H2 hi p
 refine⟨hz,?_⟩
 by_cases hlt:i < xs.length
 · refine .inr ⟨⟨xs,xs[i],q,by simp [hlt]⟩,fun x H3 y=>?_⟩
   obtain⟨e,y⟩:=y
   subst e
   exact hs i x acc _ hlt (y xs q) p
 · have e:i=xs.length:=by omega
   subst e
   exact .inl ⟨⟨xs,q,Nat.le_refl _⟩,hd acc H2 p⟩
theorem qF5 {lo:Int}{n:Nat}{js:List Nat}{te:TE}{σ:L2.St}{H:Hp}{Q:VK}(Pv:Nat→List V→Hp→Prop)(h0:Pv 0 [] H)(hl:∀ i acc H,i≤n→Pv i acc H→acc.length < sizeLine)
 (hs:∀ i acc H,i < n→Pv i acc H→te (some (.int (lo+i))::wl js σ) H fun v H'=>Nxt n i (Pv (i+1) (acc++[v]) H')) (hd:∀ acc H,Pv n acc H→∀ D,H D=none→Q (.ref D) (upd H D (.lst acc))):CompEnd js te σ Q (Itr lo n) H:=by
 refine⟨fun i m acc H=>m=n - i∧i≤n∧Pv i acc H,⟨n,by simp,Nat.zero_le _,h0⟩,?_⟩
 rintro i m acc H2 ⟨rfl,hi,p⟩
 refine⟨hl i acc H2 hi p,?_⟩
 by_cases hlt:i < n
 · refine .inr ⟨hlt,fun x H3 y=>?_⟩
   obtain⟨e,y⟩:=y
   subst e y
   exact hs i acc _ hlt p
 · have e:i=n:=by omega
   subst e
   exact .inl ⟨Nat.le_refl _,hd acc H2 p⟩
structure Def (K:PySem.W.Frag)(mg:Str→Option Value)(x:Str)(st:Stmt)(ps:List Str)(f:Addr)(fd:FuncData):Prop where
 F:Fun K x x st f fd
 b:Binds K fd ps []
 m:mg x=some (.ref f)
section
variable {X : Cx}
theorem qI {k j:Nat}{x:Str}{st:Stmt}{ps:List Str}{f:Addr}{fd:FuncData}{sp:Sp}{e:Expr}{es:List Expr}{t:TA}{p pos:Pos}(D:Def X.K X.mg x st ps f fd)(F:FnOk X.prog X.w X.K X.mg X.base CX0 j f fd ps sp)(hr:Room k X.A)(hg:Gl X x)(ha:PA X (e::es) t)(hj:j≤k:=by decide)
 (hdb:(x == ("__debug__":Str))=false:=by decide) (he:starEach (e::es) X.env=(false,eval e X.env)::starEach es X.env:=by rfl) (hpl:(backTo pos (starEach es X.env)).any (·.1)=false:=by rfl):
 PE X (.Call (.Name x p) (e::es) [] pos) (qLi sp [] E0 t):=qHu F (hr.mono hj) hg D.m D.F.kp D.b .nil qNy ha hdb he hpl
theorem qGc {x:Str}{n:String}{pos:Pos}(hg:Gl X x)(hm:X.mg x=none)(hv:bootBuiltins x=some (.type n))(hn:x≠"__name__":=by decide)(hd:(x == ("__debug__":Str))=false:=by decide):PE X (.Name x pos) (tC (.ty n)):=
 qLj hg hm hv rfl hn hd
end
theorem qEb {X:Cx}{K:PySem.W.Frag}(h:X.K=K):IxR X (qL3 K):=h ▸ qDm
def qN5 (t:TS):TS:=fun D σ H=>∃ R:L2.St→Hp→Prop,t {D with nx:=R} σ H∧∀ σ' H',R σ' H'→D.nx σ' H'
theorem zG {X:Cx}{st:Stmt}{t:TS}(h:PS X st t):PS X st (qN5 t):=by
 rintro pins s σ H D I ⟨R,ht,hR⟩
 refine thn (h pins s σ H {D with nx:=R} I ht) fun f s' q=>?_
 cases f with
 | next=>obtain⟨σ',H',I',r⟩:=q;exact⟨σ',H',I',hR _ _ r⟩
 | brk=>exact q
 | cont=>exact q
 | ret u=>exact q
theorem qF {H:Hp}{p:Addr}(h:H p=none)(o:HO):Same H (upd H p o):=fun b u q=>by rw [qR (qU q h)];exact q
theorem Same.tup {K:PySem.W.Frag}{H H':Hp}{a:Addr}{xs:List V}(e:Same H H')(h:SqT K H a xs):SqT K H' a xs:=by
 rcases h with (h | ⟨o,h⟩) | h
 · exact .inl (.inl (e _ _ h))
 · exact .inl (.inr ⟨o,e _ _ h⟩)
 · exact .inr h
section
variable {X : Cx}
def DE1 (K:PySem.W.Frag)(H:Hp)(x y:V)(b:Bool):Prop:=(xB x=true∧xB y=true∧b=eqV x y)∨
 ∃ p q xs ys,x= .ref p∧y= .ref q∧SqT K H p xs∧SqT K H q ys∧xs.all xB=true∧ys.all xB=true∧b=qGu xs ys∧(p=q→b=true)
theorem DE1.at {pins:List (Addr × Obj)}{σ:L2.St}{H:Hp}{s:Shared}{A:Around}{x y:V}{u v:Value}{b:Bool}(I:Inv X pins σ H s)(hu:A.units < cLine)(rx:RelV x u)(ry:RelV y v)(h:DE1 X.K H x y b):SeqAt.EqAt A s u v b:=by
 rcases h with ⟨f1,f2,rfl⟩ | ⟨p,q,xs,ys,rfl,rfl,h1,h2,f1,f2,rfl,hb⟩
 · exact qCu rx ry f1 f2
 · cases rx;cases ry
   by_cases e:p=q
   · subst e
     rw [hb rfl]
     exact SeqAt.EqAt.same _
   · obtain⟨us,r1,t1,_⟩:=I.tuple h1
     obtain⟨ws,r2,t2,_⟩:=I.tuple h2
     have l1:us.toArray.size=xs.length:=by rw [List.size_toArray];exact r1.length.symm
     have l2:ws.toArray.size=ys.length:=by rw [List.size_toArray];exact r2.length.symm
     have:=SeqAt.EqAt.of_refs e (SeqAt.RcAt.tuples t1 t2 hu (qAu (A:=A.in1) (s:=s) r1 r2 f1 f2))
     rw [l1,l2] at this
     exact this
end
abbrev EC:=Value × Option Addr
def zq (h:Heap)(e:Addr)(C:EC)(hd:Option Addr):Prop:=
 ∃ (vs:Array Value) (sl:Array (Option Value)),h.get? e=some {cls:=C.1,dict:=C.2,data:=.fields vs,slots:=sl}∧
  match hd with
  | none=>vs[1]? =some .none
  | some T=>vs[1]? =some (.ref T)∧T≠e∧∃ oT ts m,h.get? T=some oT∧oT.data= .fields ts∧ts[3]? =some m
structure Noted (fs:List Addr)(e:Addr)(hd:Option Addr)(C:EC)(h h':Heap):Prop where
 keep:∀ b o,h.get? b=some o→b ∉ fs→b≠e→some b≠hd→h'.get? b=some o
 slot:∀ b o,h.get? b=some o→b∈fs→b≠e→some b≠hd→∃ sl,h'.get? b=some {o with slots:=sl}
 ent:∃ T,(h.get? T=none∨hd=some T)∧zq h' e C (some T)
theorem Noted.before {fs:List Addr}{e T:Addr}{C:EC}{h h1 h':Heap}(x:Noted fs e none C h1 h')(k:∀ b,b≠T→h1.get? b=h.get? b)(t:∃ o,h1.get? T=some o):Noted fs e (some T) C h h':=by
 refine⟨fun b o q hf he ht=>x.keep b o ?_ hf he (by simp),fun b o q hf he ht=>x.slot b o ?_ hf he (by simp),?_⟩
 · rw [k b (fun z=>ht (by rw [z]))];exact q
 · rw [k b (fun z=>ht (by rw [z]))];exact q
 · obtain⟨T',n | n,r⟩:=x.ent
   · refine⟨T',.inl ?_,r⟩
     rw [← k T' (fun z=>?_)];exact n
     obtain⟨o,q⟩:=t
     rw [z,q] at n;cases n
   · cases n
section
variable {M : Model} {A : Around} {E : Value → Shared → Prop} {s : Shared}
theorem Noted.then {fs:List Addr}{e T:Addr}{hd:Option Addr}{C:EC}{h h1 h2:Heap}(x:Noted fs e hd C h h1)(hT:h.get? T=none∨hd=some T)(y:Noted fs e (some T) C h1 h2):Noted fs e hd C h h2:=by
 have nt:∀ b o,h.get? b=some o→some b≠hd→(some b:Option Addr)≠some T:=fun b o q hb z=>by
  cases z
  rcases hT with n | n
  · rw [q] at n;cases n
  · exact hb n.symm
 have n1:∀ T',h1.get? T'=none→T'≠e→some T'≠hd→h.get? T'=none:=fun T' n he ht=>by
  cases q:h.get? T' with
  | none=>rfl
  | some o=>
   by_cases hs:T'∈fs
   · obtain⟨sl,z⟩:=x.slot T' o q hs he ht
     rw [n] at z;cases z
   · have z:=x.keep T' o q hs he ht
     rw [n] at z;cases z
 refine⟨fun b o q hf he ht=>y.keep b o (x.keep b o q hf he ht) hf he (nt b o q ht),fun b o q hf he ht=>?_,?_⟩
 · obtain⟨sl,z⟩:=x.slot b o q hf he ht
   obtain⟨sl',z'⟩:=y.slot b _ z hf he (nt b o q ht)
   exact⟨sl',z'⟩
 · obtain⟨T',n,r⟩:=y.ent
   refine⟨T',?_,r⟩
   rcases n with n | n
   · by_cases hh:hd=some T'
     · exact .inr hh
     · refine .inl (n1 T' n (fun z=>?_) (Ne.symm hh))
       obtain⟨vs,sl,q,r1,nT,_⟩:=r
       exact nT z
   · cases n
     exact hT
theorem qCj {base:Heap}{env:Env}{outer:List Env}{L e:Addr}{C:EC}{head:Value}{vs:Array Value}{sl:Array (Option Value)}{had:Bool}{Q:Unit→Shared→Prop}
 (fr:A.frames=some (env::outer)) (ff:s.heap.FunFrames base (env::outer)) (ef:env.frame=some L) (re:s.heap.get? e=some {cls:=C.1,dict:=C.2,data:=.fields vs,slots:=sl}) (v1:1 < vs.size)
 (k:∀ h',Noted (frs (env::outer)) e none C s.heap h'→Q () {s with heap:=h'}):
 wpAny M A (do let a ← frameOf env;let pl ← entryPlaceOf L had;let b ← EntryCells.newEntry head a .none (rawInt L) .none pl;setField (.ref e) 1 b) Q E s:=by
 have efs:e ∉ frs (env::outer):=fun z=>by
  obtain⟨_,o,q,nf⟩:=ff.mem z
  rw [re] at q;cases q
  exact nf vs rfl
 refine wpAny_bind (wpAny_frameOf_fun fr ff ef fun g so=>?_)
 refine wpAny_bind (wpAny_entryPlaceOf fun pl ip=>?_)
 unfold EntryCells.newEntry newFields
 refine wpAny_bind (wpAny_newObj_type ?_ (ip.sizeOk5 _ _ _ _ _))
 generalize hN:({cls:=.type "traceback",dict:=none,data:=.fields ([head,.ref L,.none,rawInt L,.none]++(if pl.isEmpty then List.replicate 6 Value.none else pl)).toArray}:Obj)=N
 have Nd:N.data= .fields ([head,.ref L,.none,rawInt L,.none]++(if pl.isEmpty then List.replicate 6 Value.none else pl)).toArray:=by rw [← hN]
 have q1:g.get? e=some {cls:=C.1,dict:=C.2,data:=.fields vs,slots:=sl}:=(so.2.1 e efs).trans re
 have q2:=Heap.get?_push_of_some (h:=g) N q1
 have ne:g.objs.size≠e:=Nat.ne_of_gt (Heap.lt_size q1)
 refine wpAny_setField q2 rfl v1 (k _ ?_)
 have q3:=Heap.get?_update_self (Obj.mapFields (·.setIfInBounds 1 (Value.ref g.objs.size))) q2 rfl
 have nf:N.isFreed=false:=Obj.isFreed_of_fields Nd
 have t3:((g.push N).update e (Obj.mapFields (·.setIfInBounds 1 (Value.ref g.objs.size)))).get? g.objs.size=some N:=
  (Heap.get?_update_other (g.push N) _ (Ne.symm ne)).trans (Heap.get?_push_size g nf)
 have oth:∀ b o,b≠e→g.get? b=some o→((g.push N).update e (Obj.mapFields (·.setIfInBounds 1 (Value.ref g.objs.size)))).get? b=some o:=fun b o hb q=>by
  rw [Heap.get?_update_other _ _ (Ne.symm hb)]
  exact Heap.get?_push_of_some _ q
 refine⟨fun b o q hf he _=>oth b o he ((so.2.1 b hf).trans q),fun b o q hf he _=>?_,g.objs.size,.inl ?_,vs.setIfInBounds 1 (.ref g.objs.size),sl,q3,by simp [v1],ne,N,_,rawInt L,t3,Nd,?_⟩
 · obtain⟨sl',q'⟩:=so.2.2 b o q
   exact⟨sl',oth b _ he q'⟩
 · rw [so.1]
   exact Heap.get?_none_of_le (Nat.le_refl _)
 · simp
theorem qJ6 {base:Heap}{env:Env}{outer:List Env}{L e:Addr}{C:EC}{hd:Option Addr}{Q:Unit→Shared→Prop}
 (fr:A.frames=some (env::outer)) (ff:s.heap.FunFrames base (env::outer)) (ef:env.frame=some L) (re:zq s.heap e C hd)
 (k:∀ h',Noted (frs (env::outer)) e hd C s.heap h'→Q () {s with heap:=h'}):wpAny M A (noteFrame (.ref e) env) Q E s:=by
 have re0:=re
 obtain⟨vs,sl,q,r⟩:=re
 unfold noteFrame
 simp only [ef]
 cases hd with
 | none=>
  refine wpAny_bind (wpAny_field q rfl r ?_)
  rw [if_neg (by decide)]
  exact qCj fr ff ef q (Array.getElem?_eq_some_iff.mp r).1 k
 | some T=>
  obtain⟨r1,nT,oT,ts,m,qT,dT,r3⟩:=r
  refine wpAny_bind (wpAny_field q rfl r1 ?_)
  rw [if_pos (by simp)]
  refine wpAny_bind (wpAny_field qT dT r3 ?_)
  by_cases hm:(m == rawInt L)=true
  · rw [if_pos hm]
    exact wpAny_pure (k s.heap ⟨fun b o q _ _ _=>q,fun b o q _ _ _=>⟨o.slots,q⟩,T,.inr rfl,re0⟩)
  rw [if_neg hm]
  refine wpAny_bind (wpAny_setField qT dT (Array.getElem?_eq_some_iff.mp r3).1 ?_)
  have oth:∀ b,b≠T→(s.heap.update T (Obj.mapFields (·.setIfInBounds 3 Value.none))).get? b=s.heap.get? b:=fun b z=>Heap.get?_update_other _ _ (Ne.symm z)
  have qT':=Heap.get?_update_self (Obj.mapFields (·.setIfInBounds 3 Value.none)) qT (Obj.isFreed_of_fields (Obj.data_mapFields dT _))
  have nf:∀ b o,s.heap.get? b=some o→(∀ vs,o.data≠ .fields vs)→b≠T:=fun b o z n w=>by
   rw [w,qT] at z;cases z
   exact n ts dT
  refine qCj (s:={s with heap:=s.heap.update T (Obj.mapFields (·.setIfInBounds 3 Value.none))}) fr (ff.of_keeps fun b o z n=>⟨o,(oth b (nf b o z n)).trans z,rfl⟩) ef ((oth e (Ne.symm nT)).trans q) (Array.getElem?_eq_some_iff.mp r1).1 fun h' x=>?_
  exact k h' (x.before oth ⟨_,qT'⟩)
theorem qF8 {e T:Addr}{C:EC}{fo:Option Addr}{Q:Unit→Shared→Prop}(re:zq s.heap e C (some T))
 (k:∀ h',(∀ fs,Noted fs e (some T) C s.heap h')→Q () {s with heap:=h'}):wpAny M A (setFlight (.ref e) fo) Q E s:=by
 obtain⟨vs,sl,q,r1,nT,oT,ts,m,qT,dT,r3⟩:=re
 unfold setFlight
 refine wpAny_bind (wpAny_field q rfl r1 ?_)
 rw [if_pos (by simp)]
 have oth:∀ b,b≠T→(s.heap.update T (Obj.mapFields (·.setIfInBounds 3 (fo.elim Value.none fun f=>rawInt f)))).get? b=s.heap.get? b:=fun b z=>Heap.get?_update_other _ _ (Ne.symm z)
 refine wpAny_setField qT dT (Array.getElem?_eq_some_iff.mp r3).1 (k _ fun fs=>⟨fun b o q _ _ z=>?_,fun b o q _ _ z=>⟨o.slots,?_⟩,T,.inr rfl,?_⟩)
 · rw [oth b fun w=>z (by rw [w])];exact q
 · rw [oth b fun w=>z (by rw [w])];exact q
 · refine⟨vs,sl,(Heap.get?_update_other _ _ nT).trans q,r1,nT,_,_,fo.elim Value.none fun f=>rawInt f,Heap.get?_update_self _ qT (Obj.isFreed_of_fields (Obj.data_mapFields dT _)),Obj.data_mapFields dT _,?_⟩
   have h3:=(Array.getElem?_eq_some_iff.mp r3).1
   simp [h3]
theorem wM {e T:Addr}{C:EC}{Q:Unit→Shared→Prop}(re:zq s.heap e C (some T))
 (k:∀ h',(∀ fs,Noted fs e (some T) C s.heap h')→Q () {s with heap:=h'}):wpAny M A (setFlight (.ref e) none) Q E s:=qF8 re k
theorem qG7 {base:Heap}{env:Env}{outer:List Env}{L e:Addr}{C:EC}{hd:Option Addr}{Q:Unit→Shared→Prop}
 (fr:A.frames=some (env::outer)) (ff:s.heap.FunFrames base (env::outer)) (ef:env.frame=some L) (re:zq s.heap e C hd)
 (k:∀ h',Noted (frs (env::outer)) e hd C s.heap h'→Q () {s with heap:=h'}):wpAny M A (noteFrame (.ref e) env) (fun _ s'=>wpAny M A (setFlight (.ref e) none) Q E s') E s:=by
 refine qJ6 fr ff ef re fun h1 N1=>?_
 obtain⟨T,hT,rT⟩:=N1.ent
 exact wM (s:={s with heap:=h1}) rT fun h2 N2=>k h2 (N1.then hT (N2 _))
end
theorem qKh {P:Program}{w:World}{H:Hp}{h:Heap}{a:Addr}{o:HO}(x:ObjOk P w H h a o):∃ ob,h.get? a=some ob:=by
 cases o with
 | lst xs=>obtain⟨_,_,_,_,e⟩:=x;exact⟨_,e⟩
 | tup xs=>obtain⟨_,_,_,ob,e,_⟩:=x;exact⟨ob,e⟩
 | dK kvs=>obtain⟨_,_,_,_,o,_,_,e,_⟩:=x;exact⟨_,e⟩
 | dT kvs=>obtain⟨_,_,_,_,o,_,_,e,_⟩:=x;exact⟨_,e⟩
 | set S n=>obtain⟨o,_,_,_,e,_⟩:=x;exact⟨_,e⟩
 | ins C dx fs=>obtain⟨_,_,_,e,_⟩:=x;exact⟨_,e⟩
 | own y=>exact x
 | xd fs=>obtain⟨_,⟨_,_,_,e,_⟩,_⟩:=x;exact⟨_,e⟩
 | rng lo hi=>obtain⟨_,_,_,e⟩:=x;exact⟨_,e⟩
 | frz ob u=>obtain⟨e,_⟩:=x;exact⟨_,e⟩
 | tbl ps=>exact⟨_,x⟩
 | met f y=>exact⟨_,x⟩
 | ext φ=>exact x.2.1
def qH3 (h₀:Heap)(H:Hp)(ps:List (Addr × Obj))(e:Addr):Prop:=h₀.get? e=none∧H e=none∧∀ p∈ps,p.1≠e
def qLf (h₀:Heap)(H:Hp)(ps:List (Addr × Obj))(h:Heap)(e:Addr)(C:EC):Prop:=
 qH3 h₀ H ps e∧∃ hd,zq h e C hd∧∀ T,hd=some T→qH3 h₀ H ps T
def CXR (P:Program)(w:World):CXT:=fun outer H s E e s'=>∃ ea C H',e= .ref ea∧s'.os=s.os∧AllBare s'.gens∧Un (frs outer) [] H H' s.heap s'.heap∧HOk P w H' s'.heap∧qLf s.heap H' [] s'.heap ea C∧E C.1 C.2 H'
def XE (X:Cx)(Ex:Value→Option Addr→Hp→Prop):Value→Shared→Prop:=fun e s'=>∃ ea C σ H',e= .ref ea∧Inv X [] σ H' s'∧qLf X.s₀.heap H' X.pn s'.heap ea C∧Ex C.1 C.2 H'
section
variable {X : Cx} {σ : L2.St} {H : Hp} {s : Shared}
theorem vA {e:Addr}{hd:Option Addr}{C:EC}{h':Heap}(I:Inv X [] σ H s)(hex:X.ex=[])(re:zq s.heap e C hd)(n1:qH3 X.s₀.heap H X.pn e)(n3:∀ T,hd=some T→qH3 X.s₀.heap H X.pn T)
 (N:Noted (frs X.stack) e hd C s.heap h'):Inv X [] σ H {s with heap:=h'}∧qLf X.s₀.heap H X.pn h' e C:=by
 have B:=I.base
 rw [hex] at B
 have ne:∀ b o,X.s₀.heap.get? b=some o→b≠e∧some b≠hd∧b≠X.env.locals:=fun b o q=>by
  refine⟨fun z=>?_,fun z=>?_,Nat.ne_of_lt (Nat.lt_of_lt_of_le (Heap.lt_size q) I.ok.above)⟩
  · rw [z,n1.1] at q;cases q
  · rw [(n3 b z.symm).1] at q;cases q
 have nin:∀ b,b ∉ ([]:List Addr):=fun b z=>nomatch z
 have nfl:∀ b o,s.heap.get? b=some o→(∀ vs,o.data≠ .fields vs)→b≠e∧some b≠hd:=fun b o q nf=>by
  obtain⟨vs,sl,qe,r⟩:=re
  refine⟨fun z=>?_,fun z=>?_⟩
  · rw [z,qe] at q;cases q
    exact nf vs rfl
  · subst z
    obtain⟨_,_,oT,ts,_,qT,dT,_⟩:=r
    rw [qT] at q;cases q
    exact nf ts dT
 have up:∀ b o,s.heap.get? b=some o→b≠e→some b≠hd→∃ sl,h'.get? b=some {o with slots:=sl}:=fun b o q z1 z2=>by
  by_cases hs:b∈frs X.stack
  · exact N.slot b o q hs z1 z2
  · exact⟨o.slots,N.keep b o q hs z1 z2⟩
 have un:Un X.fs [] X.H₀ H X.s₀.heap h':=by
  refine⟨fun b o q n hb hx=>?_,fun b o q n hb hx=>?_,fun b o q n hx=>B.free b o q n hx,fun b o q hx=>?_,B.tups,B.frzs,B.tbls⟩
  · obtain⟨z1,z2,z3⟩:=ne b o q
    refine N.keep b o (B.keep b o q n hb hx) (fun z=>?_) z1 z2
    rcases List.mem_cons.mp (I.stkSub b z) with w | w
    · exact z3 w
    · exact hb w
  · obtain⟨z1,z2,z3⟩:=ne b o q
    obtain⟨sl,q1⟩:=B.slot b o q n hb hx
    obtain⟨sl',q2⟩:=up b _ q1 z1 z2
    exact⟨sl',q2⟩
  · obtain⟨z1,z2,z3⟩:=ne b o q
    obtain⟨o',q1⟩:=B.there b o q hx
    obtain⟨sl',q2⟩:=up b _ q1 z1 z2
    exact⟨_,q2⟩
 have hok:HOk X.prog X.w H h':=fun a u q=>by
  have key:∀ c,H c=none→¬ (c=a∨H c=some (.own a)):=fun c z w=>by
   rcases w with w | w
   · rw [w,q] at z;cases z
   · rw [z] at w;cases w
  exact(I.hok a u q).stay (fun c v hc z=>N.keep c v z (fun w=>key c (I.stkFree c w) hc) (fun w=>key c (by rw [w];exact n1.2.1) hc) fun w=>key c (n3 c w.symm).2.1 hc) (fun _ z=>z) fun _ _ z=>z
 have cellK:∀ c v,s.heap.IsCell c v→h'.IsCell c v:=fun c v ⟨o,q,d⟩=>by
  obtain⟨z1,z2⟩:=nfl c o q fun vs w=>by rw [d] at w;cases w
  obtain⟨sl,q'⟩:=up c o q z1 z2
  exact⟨_,q',d⟩
 have I':Inv X [] σ H {s with heap:=h'}:=by
  refine⟨I.ok,I.os,I.bare,by rw [hex];exact un,?_,fun y c e=>?_,I.free,I.freeC,fun p hp=>?_,hok,I.len⟩
  · obtain⟨m,⟨o,es,ep,ho,hd',r⟩,hl⟩:=I.loc
    obtain⟨z1,z2⟩:=nfl _ o ho fun vs w=>by rw [hd'] at w;cases w
    obtain⟨sl,q'⟩:=up _ o ho z1 z2
    refine⟨m,⟨_,es,ep,q',hd',r⟩,fun i x v e1 e2 e3=>?_⟩
    obtain⟨u,r,l⟩:=hl i x v e1 e2 e3
    refine⟨u,r,?_⟩
    rcases l with l | ⟨k,c,ec,z⟩
    · exact .inl l
    · exact .inr ⟨k,c,ec,cellK c _ z⟩
  · obtain⟨v,z⟩:=I.cell y c e
    exact⟨v,cellK c v z⟩
  · obtain⟨q,n,nl,nf,d⟩:=I.pin p hp
    have hp':p∈X.pn:=by simpa using hp
    refine⟨N.keep p.1 p.2 q (fun z=>?_) (n1.2.2 p hp') fun z=>(n3 p.1 z.symm).2.2 p hp' rfl,n,nl,nf,d⟩
    rcases List.mem_cons.mp (I.stkSub p.1 z) with w | w
    · exact nl w
    · exact nf w
 refine⟨I',n1,?_⟩
 obtain⟨T,nT,r⟩:=N.ent
 refine⟨some T,r,fun T' e'=>?_⟩
 cases e'
 rcases nT with nT | nT
 rotate_left
 · exact n3 T nT
 refine⟨?_,?_,fun p hp z=>?_⟩
 · cases q:X.s₀.heap.get? T with
   | none=>rfl
   | some o=>
    obtain⟨o',z⟩:=B.there T o q (nin T)
    rw [nT] at z;cases z
 · cases q:H T with
   | none=>rfl
   | some u=>
    obtain⟨o',z⟩:=qKh (I.hok T u q)
    rw [nT] at z;cases z
 · have q:=(I.pin p (List.mem_append_left _ hp)).1
   rw [z,nT] at q;cases q
end
theorem qK7 {X:Cx}{E:Value→Shared→Prop}{st:List Stmt}{t:TS}(h:PSs (X.wish E) st t)(hE:∀ e s',E e s'→X.xe e s'):PSs X st t:=fun pins s σ H D I hw=>
 wpAny_mono (h pins s σ H D (I.wish E) hw) (fun _ _ q=>q.unwish) hE
section
variable {P : Program} {w : World} {K : PySem.W.Frag} {mg : Str → Option Value} {base : Heap}
theorem okX {x qual:Str}{st:Stmt}{f:Addr}{fd:FuncData}{N ps:List Str}{k:Nat}{sp:Sp}(F:Fun K x qual st f fd)(S:qL N ps (qH st))(len:∀ vs H Q E,sp vs H Q E→vs.length=ps.length)
 (hbody:∀ (cdv:Value) (A:Around) (outer:List Env) (s:Shared) (H:Hp) (vs:List V) (Q:VK) (E:XK),Room k (A.deeper (envOfC qual (qH st) s.heap.objs.size f cdv))→sp vs H Q E→
   ∃ t,PSs ((qI4 (CXR P w) P w K mg base N qual (qH st) f cdv A outer s H E).wish (XE (qI4 (CXR P w) P w K mg base N qual (qH st) f cdv A outer s H E) E)) (j6 st) t∧
    t {nx:=fun _ H'=>Q .non H',rt:=Q} (qCb N vs) H):FnOk P w K mg base (CXR P w) (k+1) f fd ps sp:=by
 obtain⟨oc,od,kV,doc,pm,an,cdv,ct,osl,rfl,lk,hcd⟩:=F.ex
 refine qMn lk hcd S len fun A outer s H vs Q E hr hsp=>?_
 obtain⟨t,h,q⟩:=hbody cdv A outer s H vs Q E hr hsp
 refine⟨t,qK7 h ?_,q⟩
 rintro e s' ⟨ea,C,σ,H',rfl,I,⟨n1,hd,r,n3⟩,z⟩
 show wpAny _ _ (leaving _ _) _ _ _
 unfold leaving
 refine wpAny_bind (qG7 I.ok.frames I.stack rfl r fun h' N'=>?_)
 obtain⟨I',x'⟩:=vA I rfl r n1 n3 N'
 exact⟨ea,C,H',rfl,I.os,I.bare,I'.base,I'.hok,x',z⟩
end
theorem qOe {X:Cx}{Ex:Value→Option Addr→Hp→Prop}(hex:X.ex=[]):qFz (CXR X.prog X.w) (X.wish (XE X Ex)) Ex:=by
 rintro pins σ H s e s' I ⟨ea,C,H',rfl,os,bare,un,hok,⟨n1,hd,r,n3⟩,q⟩
 have I0:=I.unwish
 have I1:Inv X pins σ H' s':=I0.call' (ch:=[]) os un hok bare fun b z=>nomatch z
 have old:∀ b,s.heap.get? b=none→X.s₀.heap.get? b=none:=fun b z=>by
  cases w:X.s₀.heap.get? b with
  | none=>rfl
  | some o=>
   obtain⟨o',w'⟩:=I0.base.there b o w (by rw [hex];intro y;cases y)
   rw [z] at w';cases w'
 have pn:∀ b,s.heap.get? b=none→∀ p∈X.pn,p.1≠b:=fun b z p hp w=>by
  have q:=(I0.pin p (List.mem_append_left _ hp)).1
  rw [w,z] at q;cases q
 exact⟨ea,C,σ,H',rfl,I1.pins_of (pins':=[]) fun p hp=>(nomatch hp),⟨⟨old _ n1.1,n1.2.1,pn _ n1.1⟩,hd,r,fun T e=>⟨old _ (n3 T e).1,(n3 T e).2.1,pn _ (n3 T e).1⟩⟩,q⟩
theorem zA {X:Cx}{Ex:Value→Option Addr→Hp→Prop}{k j:Nat}{x:Str}{st:Stmt}{ps:List Str}{f:Addr}{fd:FuncData}{sp:Sp}{e:Expr}{es:List Expr}{t:TA}{p pos:Pos}(D:Def X.K X.mg x st ps f fd)(F:FnOk X.prog X.w X.K X.mg X.base (CXR X.prog X.w) j f fd ps sp)(hr:Room k X.A)(hg:Gl X x)
 (ha:PA (X.wish (XE X Ex)) (e::es) t) (hj:j≤k:=by decide) (hex:X.ex=[]:=by rfl)
 (hdb:(x == ("__debug__":Str))=false:=by decide) (he:starEach (e::es) X.env=(false,eval e X.env)::starEach es X.env:=by rfl) (hpl:(backTo pos (starEach es X.env)).any (·.1)=false:=by rfl):
 PE (X.wish (XE X Ex)) (.Call (.Name x p) (e::es) [] pos) (qLi sp [] Ex t):=
 qHu (X:=X.wish (XE X Ex)) (CX:=CXR X.prog X.w) F (hr.mono hj) hg D.m D.F.kp D.b .nil (qOe hex) ha hdb he hpl
def qLv:List Value:=[.type "ValueError",.type "Exception",.type "BaseException",.type "object"]
def OwnX (K:PySem.W.Frag)(C:Addr):Prop:=PySem.W.excIn K C qLv "ValueError.__new__"=true
theorem qLs {K:PySem.W.Frag}{h:Heap}{mg:Str→Option Value}{x:Str}{C:Addr}(X:K.In h)(b:mg x=some (.ref C))(q:OwnX K C):OwnCls x C qLv "ValueError.__new__" mg h:=by
 refine⟨b,?_⟩
 unfold OwnX PySem.W.excIn at q
 split at q
 · rename_i dd cd sl ho
   split at q
   · rename_i C' bm k0 k1 k2 k3 n k5 hm hs
     simp only [Bool.and_eq_true,beq_iff_eq,Bool.not_eq_true'] at q
     obtain⟨⟨⟨⟨⟨eC,en⟩,del⟩,ht⟩,ok⟩,ni⟩:=q
     subst eC en
     obtain⟨nm,bs,mro,ns,qn,hd,sn,sub,ab,col,dl⟩:=cd
     dsimp only at hm del ok ni
     subst hm del
     have hsl:sl=#[k0,k1,k2,k3,some (.builtin "ValueError.__new__"),k5]:=by
      obtain⟨l⟩:=sl
      simp only at hs
      rw [hs]
     subst hsl
     exact⟨bm,ns,nm,qn,bs,hd,sn,sub,ab,col,dd,k0,k1,k2,k3,k5,_,X _ _ ho,.of_isNs (PySem.W.isNs_of_in X ok),PySem.W.nsMap_none_of_in X ok ni,PySem.W.tail_of_in X ht⟩
   · cases q
 · cases q
def qMw (C:Addr)(Ex:Value→Option Addr→Hp→Prop)(t:TA):TS:=fun _ σ H=>t σ H fun vs H1=>vs.length≤sizeLine∧Ex (.ref C) none H1
theorem kW {X:Cx}{Ex:Value→Option Addr→Hp→Prop}{x:Str}{C:Addr}{np cpos pos:Pos}{e₀:Expr}{rest:List Expr}{t:TA}(hcm:X.calm=true)(hg:Gl X x)(hm:X.mg x=some (.ref C))(hx:OwnX X.K C)(ha:PA (X.wish (XE X Ex)) (e₀::rest) t)
 (he:starEach (e₀::rest) X.env=(false,eval e₀ X.env)::starEach rest X.env:=by rfl) (hpl:(backTo cpos (starEach rest X.env)).any (·.1)=false:=by rfl) (hex:X.ex=[]:=by rfl) (hdb:(x == ("__debug__":Str))=false:=by decide):
 PS (X.wish (XE X Ex)) (.Raise (some (.Call (.Name x np) (e₀::rest) [] cpos)) none pos) (qMw C Ex t):=by
 intro pins s σ H D I h
 obtain⟨tl,N,nm,q,bs,hdct,sn,sub,ab,col,dd,k0,k1,k2,k3,k5,mN,hC,hN,hni,T⟩:=
  (qLs (X:=I.ok.mod.kin) hm hx).obj
 refine wpAny_Raise_call_subT (bm:=tl) (C:=C) (N:=N) (nm:=nm) (q:=q) (bs:=bs) (hdct:=hdct) (sn:=sn) (sub:=sub) (ab:=ab) (col:=col) (dd:=dd) (k5:=k5) (k0:=k0) (k1:=k1) (k2:=k2) (k3:=k3)
  PySem.F.excBase_ValueError (mN:=mN) (T.hasType PySem.F.excBase_ValueError.hasBase) (I.ok.hd hcm) (by rw [he];show (false || (backTo cpos (starEach rest X.env)).any (·.1))=false;rw [hpl];rfl) hni (wc I hg hm ⟨rfl,?_⟩ hdb)
 have z:=ha cpos pins s σ H _ I h
 rw [show (X.wish (XE X Ex)).env=X.env from rfl] at z
 rw [he] at z ⊢
 refine Calls.evalArgs_plain (wpAny_mono z (fun us s2 w=>?_) fun _ _ y=>y)
 obtain⟨vs,H1,I1,r1,hl,ex⟩:=w
 have I1':=I1.unwish
 refine⟨rfl,by rw [← r1.length];exact hl,I1.bk _ _ hC,hN.keeps I1.bk,T.keeps I1.bk,fun h' e hmk=>?_⟩
 obtain⟨tt,q1,q2,q3⟩:=hmk.there
 have I2:Inv X pins σ H1 {s2 with heap:=h'}:=I1'.kept (t':=s2.toks) hmk.keeps
 refine⟨e,(.ref C,none),σ,H1,rfl,I2.pins_of (pins':=[]) fun p hp=>(nomatch hp),⟨⟨?_,?_,fun p hp z=>?_⟩,none,⟨_,_,q1,rfl⟩,fun T e'=>nomatch e'⟩,ex⟩
 · cases w:X.s₀.heap.get? e with
   | none=>rfl
   | some o=>
    obtain⟨o',w'⟩:=I1'.base.there e o w (by rw [hex];intro y;cases y)
    rw [hmk.new] at w';cases w'
 · cases w:H1 e with
   | none=>rfl
   | some u=>
    obtain⟨o',w'⟩:=qKh (I1'.hok e u w)
    rw [hmk.new] at w';cases w'
 · have q':=(I1'.pin p (List.mem_append_left _ hp)).1
   rw [z,hmk.new] at q';cases q'
def pnX (X:Cx)(l:List (Addr × Obj)):Cx:={X with pn:=l}
def hdX (X:Cx)(ea:Addr):Cx:={X with A:=X.A.mark (some (.ref ea)),calm:=false}
section
variable {X : Cx} {pins : List (Addr × Obj)} {σ : L2.St} {H : Hp} {s : Shared}
theorem qM4 (I:Inv X pins σ H s):Inv (pnX X (X.pn++pins)) [] σ H s:=by
 obtain⟨a1,a2,a3,a4,a5,a6,a7,a8,a9,a10,a11,a12,a13,a14,a15,a16,a17,a18⟩:=I.ok
 exact⟨⟨a1,a2,a3,a4,a5,a6,a7,a8,a9,a10,a11,a12,a13,a14,a15,a16,a17,a18⟩,I.os,I.bare,I.base,I.loc,I.cell,I.free,I.freeC,fun p hp=>I.pin p (by have z:p∈(X.pn++pins)++[]:=hp;simpa using z),I.hok,I.len⟩
theorem v4 (I:Inv (pnX X (X.pn++pins)) [] σ H s):Inv X pins σ H s:=by
 obtain⟨a1,a2,a3,a4,a5,a6,a7,a8,a9,a10,a11,a12,a13,a14,a15,a16,a17,a18⟩:=I.ok
 exact⟨⟨a1,a2,a3,a4,a5,a6,a7,a8,a9,a10,a11,a12,a13,a14,a15,a16,a17,a18⟩,I.os,I.bare,I.base,I.loc,I.cell,I.free,I.freeC,fun p hp=>I.pin p (by show p∈(X.pn++pins)++[];simpa using hp),I.hok,I.len⟩
theorem qIm {ea:Addr}(I:Inv X pins σ H s):Inv (hdX X ea) pins σ H s:=by
 obtain⟨a1,a2,a3,a4,a5,a6,a7,a8,a9,a10,a11,a12,a13,a14,a15,a16,a17,a18⟩:=I.ok
 exact⟨⟨a1,a2,a3,a4,a5,a6,a7,a8,fun h=>absurd (show false=true from h) Bool.false_ne_true,a10,a11,a12,a13,a14,a15,a16,a17,a18⟩,I.os,I.bare,I.base,I.loc,I.cell,I.free,I.freeC,I.pin,I.hok,I.len⟩
theorem qCq {ea:Addr}(I:Inv (hdX X ea) pins σ H s)(hd:X.calm=true→X.A.handled=none):Inv X pins σ H s:=by
 obtain⟨a1,a2,a3,a4,a5,a6,a7,a8,a9,a10,a11,a12,a13,a14,a15,a16,a17,a18⟩:=I.ok
 exact⟨⟨a1,a2,a3,a4,a5,a6,a7,a8,hd,a10,a11,a12,a13,a14,a15,a16,a17,a18⟩,I.os,I.bare,I.base,I.loc,I.cell,I.free,I.freeC,I.pin,I.hok,I.len⟩
def qDt (e:Addr)(C:EC):HO:=.ext fun h=>∃ (vs:Array Value) (sl:Array (Option Value)),h.get? e=some {cls:=C.1,dict:=C.2,data:=.fields vs,slots:=sl}
theorem qCr {a:Addr}{C:EC}{hd:Option Addr}(I:Inv X [] σ H s)(_:X.ex=[])(n:qH3 X.s₀.heap H X.pn a)(r:zq s.heap a C hd):Inv X [] σ (upd H a (qDt a C)) s:=by
 obtain⟨vs,sl,q,_⟩:=r
 have B:=I.base
 have ne:∀ b o,X.s₀.heap.get? b=some o→b≠a:=fun b o w z=>by rw [z,n.1] at w;cases w
 refine⟨I.ok,I.os,I.bare,⟨B.keep,B.slot,fun b o w z hx=>?_,B.there,fun b xs w=>?_,fun b o u w=>?_,fun b ps w=>?_⟩,I.loc,I.cell,?_,fun y c e=>?_,fun p hp=>?_,fun b u w=>?_,I.len⟩
 · rw [qR (ne b o w)];exact B.free b o w z hx
 · have z:=B.tups b xs w
   rw [qR (qU z n.2.1)];exact z
 · have z:=B.frzs b o u w
   rw [qR (qU z n.2.1)];exact z
 · obtain⟨more,z⟩:=B.tbls b ps w
   exact⟨more,by rw [qR (qU z n.2.1)];exact z⟩
 · obtain⟨m,⟨o,es,ep,ho,hd',_⟩,_⟩:=I.loc
   rw [qR (fun z=>by rw [z,q] at ho;cases ho;cases hd')]
   exact I.free
 · obtain⟨v,o,ho,hd'⟩:=I.cell y c e
   rw [qR (fun z=>by rw [z,q] at ho;cases ho;cases hd')]
   exact I.freeC y c e
 · obtain⟨w1,w2,w3⟩:=I.pin p hp
   have hp':p∈X.pn:=by simpa using hp
   rw [qR (n.2.2 p hp')]
   exact⟨w1,w2,w3⟩
 · by_cases hb:b=a
   · subst hb
     rw [qD] at w
     cases w
     refine⟨⟨vs,sl,q⟩,⟨_,q⟩,fun h1 h2 z k=>?_⟩
     obtain⟨vs',sl',z⟩:=z
     exact⟨vs',sl',k _ z⟩
   · rw [qR hb] at w
     exact(I.hok b u w).stay (fun _ _ _ z=>z) (fun c z=>by rw [qR (qU z n.2.1)];exact z) fun c xs z=>by rw [qR (qU z n.2.1)];exact z
theorem kR {M:Model}{A:Around}{E:Value→Shared→Prop}{i:Nat}{n:Str}{pos:Pos}{Q:Unit→Shared→Prop}(I:Inv X pins σ H s)(hN:X.N.Nodup)(hi:X.N[i]? =some n)(hl:X.env.scope.names.lookup n=some .local)
 (h:∀ s',Inv X pins (σ.set i none) H s'→Q () s'):wpAny M A (do bindName X.env n .none;unbindBehindTheSuite X.env n pos) Q E s:=by
 refine wpAny_bind (wpAny_bindName (zU (v:=.non) I hN hi (.inl hl) rfl (fun s1 I1=>?_) (.inr hl)))
 unfold unbindBehindTheSuite
 refine wpAny_onRaise ?_
 have hcls:(X.env.scope.kind == .class || (X.env.scope.kind == .module && X.env.locals != X.env.globals))=false:=by rw [I1.ok.kind];rfl
 have hiσ:i < σ.length:=by rw [I.len];exact(List.getElem?_eq_some_iff.mp hi).1
 obtain⟨m,hn,hlk⟩:=I1.loc
 obtain⟨u,r,lk⟩:=hlk i n .non hi (by rw [List.getElem?_set_self hiσ]) (.inl hl)
 have hm:m n=some u:=by
  rcases lk with ⟨_,z⟩ | ⟨z,_⟩
  · exact z
  · have hl':X.env.kindOf n=some .local:=hl
    rw [hl'] at z
    rcases z with z | z <;> cases z
 obtain⟨oL,es,ep,hoL,hdL,_⟩:=id hn
 refine wpAny_unbindName_local hl hn hm hcls fun h' u' hn' hs=>h _ ?_
 have B:=I1.base
 have neL:∀ b o,X.s₀.heap.get? b=some o→b≠X.env.locals:=fun b o e=>Nat.ne_of_lt (Nat.lt_of_lt_of_le (Heap.lt_size e) I1.ok.above)
 refine⟨I1.ok,I1.os,I1.bare,⟨fun b o e n hb hx=>(hs.2 b (neL b o e)).trans (B.keep b o e n hb hx),fun b o e n hb hx=>?_,B.free,fun b o e hx=>?_,B.tups,B.frzs,B.tbls⟩,⟨_,hn',fun j y v e1 e2 e3=>?_⟩,fun y c e=>?_,I1.free,I1.freeC,fun p hp=>?_,fun b ob e=>?_,?_⟩
 · obtain⟨sl,z⟩:=B.slot b o e n hb hx
   exact⟨sl,(hs.2 b (neL b o e)).trans z⟩
 · obtain⟨o',z⟩:=B.there b o e hx
   exact⟨o',(hs.2 b (neL b o e)).trans z⟩
 · have hj:j≠i:=fun z=>by
    subst z
    rw [List.getElem?_set_self hiσ] at e2
    cases e2
   rw [List.getElem?_set_ne (Ne.symm hj)] at e2
   obtain⟨u2,r2,l2⟩:=hlk j y v e1 (by rw [List.getElem?_set_ne (Ne.symm hj)];exact e2) e3
   refine⟨u2,r2,?_⟩
   rcases l2 with ⟨k,z⟩ | ⟨k,c,ec,z⟩
   · refine .inl ⟨k,?_⟩
     have:y≠n:=fun w=>hj (qBj hN e1 (w ▸ hi))
     simp [this,z]
   · exact .inr ⟨k,c,ec,z.sameBut hs (I1.cne y c ec)⟩
 · obtain⟨w',z⟩:=I1.cell y c e
   exact⟨w',z.sameBut hs (I1.cne y c e)⟩
 · obtain⟨e,n,ne,nf,d⟩:=I1.pin p hp
   exact⟨(hs.2 p.1 ne).trans e,n,ne,nf,d⟩
 · refine(I1.hok b ob e).stay (fun c w' hc q=>(hs.2 c fun z=>?_).trans q) (fun _ q=>q) fun _ _ q=>q
   have fr:=I1.free
   rcases hc with hc | hc
   · rw [← hc,z,fr] at e;cases e
   · rw [z,fr] at hc;cases hc
 · have:=I1.len
   simpa using this
end
def qKt (D:qFy)(i:Option Nat):qFy:=
 let f:(L2.St→Hp→Prop)→L2.St→Hp→Prop:=fun q σ H=>match i with | some i=>q (σ.set i none) H | none=>q σ H
 {nx:=f D.nx,rt:=D.rt,bk:=f D.bk,ct:=f D.ct}
def qN9 (i:Option Nat)(ea:Addr)(σ:L2.St):L2.St:=match i with | some i=>σ.set i (some (.ref ea)) | none=>σ
def qOl (K:PySem.W.Frag)(Ex:Value→Option Addr→Hp→Prop)(C:Addr)(i:Option Nat)(tb ts:TS):TS:=fun D σ H=>tb D σ H∧∀ (ea:Addr) (B:EC) (σ':L2.St) (H':Hp),Ex B.1 B.2 H'→H' ea=none→σ'.length=σ.length→
 PySem.W.exmOne K B.1 (.ref C)=some true∧ts (qKt D i) (qN9 i ea σ') (upd H' ea (qDt ea B))
def qN1 (K:PySem.W.Frag)(Ex:Value→Option Addr→Hp→Prop)(C:Addr)(i:Option Nat)(tb ts te:TS):TS:=fun D σ H=>qOl K Ex C i (fun _=>tb {D with nx:=te D}) ts D σ H
inductive qD1 (X:Cx):Option Str→Option Nat→Prop where
 | none:qD1 X none none
 | some {n:Str} {i:Nat} (hi:X.N[i]? =some n) (hl:X.env.scope.names.lookup n=some .local):qD1 X (some n) (some i)
theorem qK8 {X:Cx}{body:List Stmt}{b₀:Stmt}{suite:List Stmt}{x:Str}{C:Addr}{nm:Option Str}{i:Option Nat}{np hpos pos:Pos}{oe:List Stmt}{tb ts te:TS}(Ex:Value→Option Addr→Hp→Prop)
 (hcl:qD1 X nm i) (hN:X.N.Nodup) (hg:Gl X x) (hm:X.mg x=some (.ref C))
 (hb:∀ l,PSs ((pnX X l).wish (XE (pnX X l) Ex)) body tb) (hs:∀ l ea,PSs (hdX (pnX X l) ea).nox (b₀::suite) ts) (ho:PSs X oe te)
 (hstk:X.stack=X.env::X.outer:=by rfl) (hfr:X.env.frame=some X.env.locals:=by rfl) (hex:X.ex=[]:=by rfl) (hdb:(x == ("__debug__":Str))=false:=by decide):
 PS X (.Try body [.ExceptHandler (some (.Name x np)) nm (b₀::suite) hpos] oe [] pos) (qN1 X.K Ex C i tb ts te):=by
 rintro pins s σ H D I ⟨h1,h2⟩
 have I0:=qM4 I
 refine wpAny_Try_except (wpAny_mono (hb (X.pn++pins) [] s σ H {D with nx:=te D} (I0.wish _) h1) (fun f s1 q=>?_) fun e s1 q=>?_)
 · have q:=q.unwish
   cases f with
   | next=>
    obtain⟨σ',H',J,z⟩:=q
    exact ho pins s1 σ' H' D (v4 J) z
   | brk=>
    obtain⟨σ',H',J,z⟩:=q
    exact⟨σ',H',v4 J,z⟩
   | cont=>
    obtain⟨σ',H',J,z⟩:=q
    exact⟨σ',H',v4 J,z⟩
   | ret u=>
    obtain⟨v,σ',H',J,r,z⟩:=q
    exact⟨v,σ',H',v4 J,r,z⟩
 · obtain⟨ea,B,σ',H',rfl,I1,⟨n1,hd,r,n3⟩,ex⟩:=q
   have hlen:σ'.length=σ.length:=I1.len.trans I.len.symm
   obtain⟨hx,ht⟩:=h2 ea B σ' H' ex n1.2.1 hlen
   have fr:X.A.frames=some (X.env::X.outer):=by rw [← hstk];exact I.ok.frames
   have ff:s1.heap.FunFrames X.base (X.env::X.outer):=by
    have z:=I1.stack
    rw [show (pnX X (X.pn++pins)).stack=X.env::X.outer from hstk] at z
    exact z
   refine qG7 fr ff hfr r fun h' N'=>?_
   have N':Noted (frs X.stack) ea hd B s1.heap h':=by rw [hstk];exact N'
   obtain⟨I2,n1,hd2,r2,n3⟩:=vA I1 hex r n1 n3 N'
   refine wpAny_handleBy_cons (codeAny_handlers_test (wc (X:=hdX (pnX X (X.pn++pins)) ea) (qIm I2) hg hm ?_ hdb)) (by intro z;cases z)
   have LT:PySem.W.Looks (model X.prog X.w) h' (typeOf (.ref ea)) B.1:=by
    obtain⟨vs,sl,qe,_⟩:=r2
    exact(PySem.W.Looks.ld qe).andThen .now
   refine(PySem.W.exm_one (M:=model X.prog X.w) I2.kIn LT hx).here ?_
   show codeAny _ _ _ _ _
   obtain⟨T,rfl,r3⟩:∃ T,hd2=some T∧zq h' ea B (some T):=by
    obtain⟨T,_,_⟩:=N'.ent
    cases hd2 with
    | some T=>exact⟨T,rfl,r2⟩
    | none=>
     obtain⟨T,_,rT⟩:=N'.ent
     obtain⟨vs,sl,q1,q2⟩:=r2
     obtain⟨vs',sl',q1',q2',_⟩:=rT
     rw [q1] at q1'
     cases q1'
     rw [q2] at q2'
     cases q2'
   have run:∀ (s4:Shared) (σ4:L2.St) (Q:Flow→Shared→Prop) (E:Value→Shared→Prop),Inv (hdX (pnX X (X.pn++pins)) ea) [] σ4 (upd H' ea (qDt ea B)) s4→ts (qKt D i) σ4 (upd H' ea (qDt ea B))→
    (∀ f s5,SP (hdX (pnX X (X.pn++pins)) ea) [] (qKt D i) f s5→Q f s5)→wpAny (model X.prog X.w) (X.A.mark (some (.ref ea))) (execs (b₀::suite) X.env) Q E s4:=fun s4 σ4 Q E I4 z k=>
    wpAny_mono (hs (X.pn++pins) ea [] s4 σ4 _ _ (I4.wish _) z) (fun f s5 q=>k f s5 q.unwish) fun _ _ z=>z.elim
   have hdn:(pnX X (X.pn++pins)).calm=true→(pnX X (X.pn++pins)).A.handled=none:=I2.ok.hd
   cases hcl with
   | none=>
    refine codeAny_handlers_suite (wM r3 fun h3 N3=>?_)
    obtain⟨I3,n1,hd3,r4,n3⟩:=vA I2 hex r3 n1 n3 (N3 _)
    refine run _ _ _ _ (qIm (qCr I3 hex n1 r4)) ht fun f s5 q=>?_
    cases f with
    | next=>obtain⟨σ5,H5,J,z⟩:=q;exact⟨σ5,H5,v4 (qCq J hdn),z⟩
    | brk=>obtain⟨σ5,H5,J,z⟩:=q;exact⟨σ5,H5,v4 (qCq J hdn),z⟩
    | cont=>obtain⟨σ5,H5,J,z⟩:=q;exact⟨σ5,H5,v4 (qCq J hdn),z⟩
    | ret u=>obtain⟨v,σ5,H5,J,rv,z⟩:=q;exact⟨v,σ5,H5,v4 (qCq J hdn),rv,z⟩
   | some hi hl=>
    refine codeAny_handlers_suite_as (wM r3 fun h3 N3=>?_)
    obtain⟨I3,n1,hd3,r4,n3⟩:=vA I2 hex r3 n1 n3 (N3 _)
    refine zU (X:=hdX (pnX X (X.pn++pins)) ea) (v:=.ref ea) (qIm (qCr I3 hex n1 r4)) hN hi (.inl hl) rfl (fun s4 I4=>?_) (.inr hl)
    refine run _ _ _ _ I4 ht fun f s5 q=>?_
    cases f with
    | next=>obtain⟨σ5,H5,J,z⟩:=q;exact kR (X:=pnX X (X.pn++pins)) (qCq J hdn) hN hi hl fun s6 J6=>⟨_,H5,v4 J6,z⟩
    | brk=>obtain⟨σ5,H5,J,z⟩:=q;exact kR (X:=pnX X (X.pn++pins)) (qCq J hdn) hN hi hl fun s6 J6=>⟨_,H5,v4 J6,z⟩
    | cont=>obtain⟨σ5,H5,J,z⟩:=q;exact kR (X:=pnX X (X.pn++pins)) (qCq J hdn) hN hi hl fun s6 J6=>⟨_,H5,v4 J6,z⟩
    | ret u=>obtain⟨v,σ5,H5,J,rv,z⟩:=q;exact kR (X:=pnX X (X.pn++pins)) (qCq J hdn) hN hi hl fun s6 J6=>⟨v,_,H5,v4 J6,rv,z⟩
theorem qMz {X:Cx}{body:List Stmt}{b₀:Stmt}{suite:List Stmt}{x:Str}{C:Addr}{nm:Option Str}{i:Option Nat}{np hpos pos:Pos}{tb ts:TS}(Ex:Value→Option Addr→Hp→Prop)
 (hcl:qD1 X nm i) (hN:X.N.Nodup) (hg:Gl X x) (hm:X.mg x=some (.ref C))
 (hb:∀ l,PSs ((pnX X l).wish (XE (pnX X l) Ex)) body tb) (hs:∀ l ea,PSs (hdX (pnX X l) ea).nox (b₀::suite) ts)
 (hstk:X.stack=X.env::X.outer:=by rfl) (hfr:X.env.frame=some X.env.locals:=by rfl) (hex:X.ex=[]:=by rfl) (hdb:(x == ("__debug__":Str))=false:=by decide):
 PS X (.Try body [.ExceptHandler (some (.Name x np)) nm (b₀::suite) hpos] [] [] pos) (qOl X.K Ex C i tb ts):=
 qK8 Ex hcl hN hg hm hb hs qP hstk hfr hex hdb
end L3
set_option maxRecDepth 100000
namespace L3
open PySem PySem.Spec PySem.Calls PyProof.Rows PySem.W
section
variable {prog : Program} {w : World} {A : Around} {E : Value → Shared → Prop} {K : Frag} {h : Heap} {g : Array GenState} {d : Drawn} {t : Nat} {os : OsState} {a D : Addr} {ox : Obj} {od : Option Obj}
structure ExcK (K:Frag)(D:Addr):Prop where
 ga:findIn K (.ref D) "__getattribute__"=some (some (.builtin "BaseException.__getattribute__"))
 gt:findIn K (.ref D) "__getattr__"=some none
 ca:findIn K (.ref D) "__class__"=some (some (.builtin "object.__class__"))
 sg:specialIn K (.builtin "object.__class__") "__get__"=some (some (.builtin "getset_descriptor.__get__"))
 tk:takesIn K (.builtin "object.__class__")=some true
 mo:mroIn K D (.type "object")=some true
 mb:mroIn K D (.type "BaseException")=some true
end
end L3
namespace L3
open PySem PySem.Spec PyProof.Rows L2
end L3
set_option maxRecDepth 100000
namespace L3
open PySem PySem.Spec PySem.Calls PySem.Builtin PySem.Builtin.ObjectAttr PyProof.Rows
def exOver (K:PySem.W.Frag)(C D:Addr):Bool:=(PySem.W.clsIn K C).any fun cd=>cd.mro == .ref C:: .ref D::qLv
section
variable {prog : Program} {w : World} {A : Around} {E : Value → Shared → Prop} {K : PySem.W.Frag} {s : Shared} {x C D : Addr} {vs : Array Value} {sl : Array (Option Value)} {R : Result → Shared → Prop}
open PySem.W in
theorem qIv {ox:Obj}{od:Option Obj}{name:Str}{tk:Tok}{v:Value}(X:K.In s.heap)(I:InstAt s.heap x ox C od)(hp:exOver K C D=true)(ht:takerIn K C name=some none)
 (h:∀ b,wpAny (model prog w) A.in1 (storeInOwnDict (.ref x) (.ref C) (.str name tk) name v b)
   (fun fin s'=>match fin with | .done f=>R (.ok f) s' | .again c'=>c'.quiet=true∧codeAny (model prog w) A c' R s') (fun e s'=>R (.error e) s') s):
 codeAny (model prog w) A (.call (.builtin "object.__setattr__") ⟨[.ref x,.str name tk,v],[]⟩) R s:=by
 have SF:=PySem.F.store_object
 obtain⟨cd,hc,ho⟩:=any_some hp
 have ho:cd.mro= .ref C:: .ref D::qLv:=beq_iff_eq.mp ho
 have sub:Looks (model prog w) s.heap (isInstance (.ref x) (.type "object")) true:=I.type.andThen (looks_mroIn X (by unfold mroIn;rw [hc,Option.bind_some,ho];rfl))
 refine codeAny_call_builtin SF.slot.plain SF.entry (@check_slot (model prog w) _ _ s "object.__setattr__" "object" "__setattr__" (.ref x) [.str name tk,v] [] _ SF.kind SF.split sub (SF.args (.ref x) (.str name tk) v) ?_)
 obtain⟨attr,ha,hr⟩:=Option.bind_eq_some_iff.mp ht
 have hm:Looks (model prog w) s.heap (mroOf (.ref C)) cd.mro:=(looks_clsIn X hc).andThen .now
 have L3:Looks (model prog w) s.heap (storeTaker? attr) none:=by
  cases attr with
  | none=>cases hr;exact .now
  | some a=>
   obtain⟨b,hb,hb2⟩:=Option.map_eq_some_iff.mp hr
   refine(looks_takesIn X hb).andThen ?_
   cases b
   · exact .now
   · cases hb2
 rw [osa_eq,refuse_eq]
 refine wpAny_bind (wpAny_bind (I.type.here (wpAny_bind (hm.here ?_))))
 rw [ho,refuseLoop_ref,refuseLoop_ref]
 rw [show refuseLoop (.ref x) "__setattr__" qLv=pure () from PySem.F.store_ValueError.passes (.ref x)]
 refine wpAny_pure (wpAny_bind (I.type.here (wpAny_bind ((looks_findIn X ha).here (wpAny_bind (L3.here ?_))))))
 exact h _
open PySem.W in
theorem qKx {name:Str}{v:Value}{Q:Unit→Shared→Prop}(X:K.In s.heap)(hx:s.heap.get? x=some {cls:=.ref C,dict:=none,data:=.fields vs,slots:=sl})
 (hs:findIn K (.ref C) "__setattr__"=some (some (.builtin "object.__setattr__"))) (hp:exOver K C D=true) (ht:takerIn K C name=some none) (hh:hasDictIn K C=true)
 (h:∀ h' tk,h'.get? x=some {cls:=.ref C,dict:=some s.heap.objs.size,data:=.fields vs,slots:=sl}→h'.Ns1 s.heap.objs.size (fun y=>if y=name then some v else none)→(∀ b o,b≠x→s.heap.get? b=some o→h'.get? b=some o)→Q () {s with heap:=h',toks:=tk}):
 wpAny (model prog w) A (setAttr (.ref x) name v) Q E s:=by
 have J:InstAt s.heap x {cls:=.ref C,dict:=none,data:=.fields vs,slots:=sl} C none:=⟨hx,rfl,rfl,trivial⟩
 refine PySem.W.set_plain X J hs (qIv (s:={s with toks:=s.toks+1}) X J hp ht fun b=>?_)
 obtain⟨cd,hc,hd'⟩:=PySem.W.any_some hh
 refine wpAny_bind (wpAny_pure (wpAny_bind (wpAny_bind (wpAny_loadPart hx (wpAny_bind (PySem.W.Looks.here (s:={s with toks:=s.toks+1}) (PySem.W.looks_clsIn X hc) ?_))))))
 rw [hd']
 have hx₁:(s.heap.push {cls:=.type "dict",data:=.dict #[]}).get? x=some {cls:=.ref C,dict:=none,data:=.fields vs,slots:=sl}:=Heap.get?_push_of_some _ hx
 have hxs:x≠s.heap.objs.size:=Nat.ne_of_lt (Heap.lt_size hx)
 refine wpAny_bind (wpAny_alloc' ?_)
 refine wpAny_bind (wpAny_update' hx₁ ?_)
 refine wpAny_pure ?_
 have hgd:((s.heap.push {cls:=.type "dict",data:=.dict #[]}).update x fun o=>{o with dict:=some s.heap.objs.size}).get? s.heap.objs.size=some {cls:=.type "dict",data:=.dict #[]}:=
  (Heap.get?_update_ne _ _ _ _ hxs.symm).trans (Heap.get?_push_at rfl rfl)
 have hnd:((s.heap.push {cls:=.type "dict",data:=.dict #[]}).update x fun o=>{o with dict:=some s.heap.objs.size}).Ns s.heap.objs.size (fun _=>none):=
  ⟨_,#[],_,hgd,rfl,fun e he=>absurd he (by simp),fun _=>rfl⟩
 refine wpAny_bind (wpAny_pure (wpAny_bind ?_))
 refine wpAny_nsSet1 (s:={s with heap:=_,toks:=s.toks+1}) (Heap.Ns1.of_empty hnd) fun h' hn' hs2=>?_
 obtain⟨oD,esD,epD,hoD,hdD,hcD⟩:=hn'.count (Within.cons name v Within.nil)
 refine wpAny_bind (wpAny_lookBehind hoD (by rw [hdD];exact pastItsLine_dict (Nat.le_trans hcD (by rw [List.length_cons,List.length_nil,sizeLine_eq];omega))) ?_)
 refine wpAny_pure (h _ _ ?_ hn' ?_)
 · refine(hs2.2 x hxs).trans (Heap.get?_update_self _ hx₁ rfl)
 · intro b o hb ho
   exact(hs2.2 b (Nat.ne_of_lt (Heap.lt_size ho))).trans ((Heap.get?_update_ne _ _ _ _ hb).trans (Heap.get?_push_of_some _ ho))
end
section
variable {prog : Program} {w : World} {A : Around} {E : Value → Shared → Prop} {h : Heap} {g : Array GenState} {d : Drawn} {t : Nat} {os : OsState}
variable {nm q : Str} {C N : Addr} {bs bm bmB : List Value} {hdct : Bool} {sn : List Str} {sub : List Value} {ab : Bool} {col : Option Bool} {dd : Option Addr} {k0 k1 k2 k3 k5 : Option Value} {B newId initId : String}
theorem wO (F:ExcBaseFacts B newId initId bmB)(T:OwnTail h bmB bm){mN:Str→Option Value}{rest:List Value}{fI:Addr}{oI:Obj}{Q:PySem.Fin→Shared→Prop}
 (hC:h.get? C=some (excClassObj nm q C N bs bm hdct sn sub ab col dd k0 k1 k2 k3 k5 newId)) (hn:h.Ns N mN) (hi:mN "__init__"=some (.ref fI))
 (hfI:h.get? fI=some oI) (hfc:oI.cls= .type "function")
 (hq:∀ h' e,Heap.MadeExcOf h h' e (.ref C) rest→h'.objs.size=h.objs.size+2→e=h.objs.size+1→
   wpAny (model prog w) A (call (.ref fI) (.ref e::rest)) (fun r s'=>r= .none∧Q (.done (.ret (.ref e))) s') E ⟨h',g,d,t,os⟩) (hrest:rest.length≤sizeLine:=by size_fits):
 wpAny (model prog w) A (Builtin.«type.__call__» ⟨.ref C::rest,[]⟩) Q E ⟨h,g,d,t,os⟩:=by
 repeat (first | with_reducible refine wpAny_loadPart_at hC ?_ | with_reducible refine wpAny_madeBy_exc hC ?_ | wp_step)
 refine codeAny_call_builtin_code (Code.quiet_builtin _ F.quiet) (wpAny_check_new_subT F T hC ?_)
 refine codeAny_exc_new_subT F T hC ?_ hrest
 show wpAny _ _ _ _ _ _
 have hC₁:=Heap.get?_push_of_some {cls:=.ref C,data:=.fields #[.ref h.objs.size,.none,.none,.none,.bool false,.none]}
  (Heap.get?_push_of_some {cls:=.type "tuple",data:=.seq rest.toArray} hC)
 have hfI₁:=Heap.get?_push_of_some {cls:=.ref C,data:=.fields #[.ref h.objs.size,.none,.none,.none,.bool false,.none]}
  (Heap.get?_push_of_some {cls:=.type "tuple",data:=.seq rest.toArray} hfI)
 have hn₁:((h.push {cls:=.type "tuple",data:=.seq rest.toArray}).push {cls:=.ref C,data:=.fields #[.ref h.objs.size,.none,.none,.none,.bool false,.none]}).Ns N mN:=
  let ⟨o,es,ep,e,r⟩:=hn;⟨o,es,ep,Heap.get?_push_of_some _ (Heap.get?_push_of_some _ e),r⟩
 have hget:((h.push {cls:=.type "tuple",data:=.seq rest.toArray}).push
  {cls:=.ref C,data:=.fields #[.ref h.objs.size,.none,.none,.none,.bool false,.none]}).get? (h.objs.size+1)=some
  {cls:=.ref C,data:=.fields #[.ref h.objs.size,.none,.none,.none,.bool false,.none]}:=by heap_get
 have hcC:(Value.ref C::bm).contains (.ref C)=true:=by simp
 have T₁:=T.keeps (h':=(h.push {cls:=.type "tuple",data:=.seq rest.toArray}).push {cls:=.ref C,data:=.fields #[.ref h.objs.size,.none,.none,.none,.bool false,.none]})
  fun b o e=>Heap.get?_push_of_some _ (Heap.get?_push_of_some _ e)
 unfold isInstance
 repeat (first | with_reducible refine wpAny_loadPart_at hget ?_ | (with_reducible refine wpAny_isSubtype_exc hC₁ ?_;rw [hcC]) | wp_step)
 show wpAny _ _ (typeLookup (.ref C) _) _ _ _
 refine wpAny_typeLookup_tail hC₁ hn₁ T₁ F.mroIs F.init.lookup ?_
 rw [hi]
 refine wpAny_holding (wpAny_bind ?_)
 unfold bindSpecial
 refine wpAny_bind (wpAny_typeOf (T:="function") ⟨_,hfI₁,hfc⟩ ?_)
 rw [if_pos (by decide)]
 refine wpAny_pure (wpAny_bind (wpAny_mono (hq _ (h.objs.size+1) ⟨fun b o hb=>Heap.get?_push_of_some _ (Heap.get?_push_of_some _ hb),Heap.get?_none_of_le (Nat.le_succ _),h.objs.size,hget,Heap.get?_none_of_le (Nat.le_refl _),?_⟩ (by simp only [Heap.size_push]) rfl) (fun r s' hr=>?_) fun _ _ x=>x))
 · exact Heap.get?_push_of_some _ (Heap.get?_push_at rfl rfl)
 · obtain⟨rfl,hQ⟩:=hr
   wp_walk
   exact hQ
theorem qF7 (F:ExcBaseFacts B newId initId bmB)(T:OwnTail h bmB bm){mN:Str→Option Value}{rest:List Value}{fI:Addr}{oI:Obj}{Q:Value→Shared→Prop}
 (hC:h.get? C=some (excClassObj nm q C N bs bm hdct sn sub ab col dd k0 k1 k2 k3 k5 newId)) (hn:h.Ns N mN) (hi:mN "__init__"=some (.ref fI))
 (hfI:h.get? fI=some oI) (hfc:oI.cls= .type "function")
 (hq:∀ h' e,Heap.MadeExcOf h h' e (.ref C) rest→h'.objs.size=h.objs.size+2→e=h.objs.size+1→
   wpAny (model prog w) (A.under (.builtin "type.__call__" ⟨.ref C::rest,[]⟩)) (call (.ref fI) (.ref e::rest)) (fun r s'=>r= .none∧Q (.ref e) s') E ⟨h',g,d,t,os⟩) (hrest:rest.length≤sizeLine:=by size_fits):
 wpAny (model prog w) A (call (.ref C) rest) Q E ⟨h,g,d,t,os⟩:=by
 have f1:=tc_lookup
 have f2:=tc_bind (.ref C)
 have hT:(⟨h,g,d,t,os⟩:Shared).TypeIs (.ref C) "type":=⟨_,hC,rfl⟩
 refine wpAny_call (codeAny_of_tree ?_)
 show wpAny _ _ (callAny (.ref C) _) _ _ _
 repeat (any_goals (first | assumption | with_reducible refine wpAny_loadPart_at hC ?_ | wp_step))
 refine⟨rfl,?_⟩
 refine codeAny_call_builtin_at (Code.quiet_builtin _ (by decide+kernel)) entry_typeCall (wpAny_check_type_call_sub hC (wO (hrest:=hrest) F T hC hn hi hfI hfc fun h' e hm h1 h2=>?_))
 exact hq h' e hm h1 h2
end
section
variable {prog : Program} {w : World} {A : Around} {E : Value → Shared → Prop} {s : Shared} {env : Env}
variable {nm q : Str} {C N : Addr} {bs bm bmB : List Value} {hdct : Bool} {sn : List Str} {sub : List Value} {ab : Bool} {col : Option Bool} {dd : Option Addr} {k0 k1 k2 k3 k5 : Option Value} {B newId initId : String}
theorem qGr {M:Model}{x:Sem Value}{Q:Flow→Shared→Prop}(hbase:bm.contains (.type "BaseException")=true)(hh:A.handled=none)
 (h:wpAny M A x (fun v s₁=>∃ e od vs sl,v= .ref e∧s₁.heap.get? C=some (excClassObj nm q C N bs bm hdct sn sub ab col dd k0 k1 k2 k3 k5 newId)∧
   s₁.heap.get? e=some {cls:=.ref C,dict:=od,data:=.fields vs,slots:=sl}∧vs[1]? =some .none∧E (.ref e) s₁) E s):
 wpAny M A (raiseStmt env (some x) none) Q E s:=by
 have hcB:(Value.ref C::bm).contains (.type "BaseException")=true:=by rw [List.contains_cons,hbase,Bool.or_true]
 unfold raiseStmt
 refine wpAny_bind (wpAny_mono h (fun v s₁ h₁=>?_) fun _ _ x=>x)
 obtain⟨e,od,vs,sl,rfl,hC,he,hv,hE⟩:=h₁
 obtain⟨hp,g,d,tk,os⟩:=s₁
 repeat (first | with_reducible refine wpAny_loadPart_at he ?_ | with_reducible refine wpAny_loadPart_at hC ?_ | (with_reducible refine wpAny_isSubtype_exc hC ?_;rw [hcB]) | wp_step)
 rw [hv]
 refine wpAny_pure ?_
 rw [if_neg (by decide)]
 refine wpAny_pure ?_
 exact wpAny_raiseNew_none hh hE
theorem qEk (F:ExcBaseFacts B newId initId bmB){mN:Str→Option Value}{x:Str}{np cpos pos:Pos}{args:List Expr}{fI:Addr}{oI:Obj}{Q:Flow→Shared→Prop}
 (hbase:bm.contains (.type "BaseException")=true) (hh:A.handled=none) (hplain:(backTo cpos (starEach args env)).any (·.1)=false) (hi:mN "__init__"=some (.ref fI)) (hfc:oI.cls= .type "function")
 (h:wpAny (model prog w) A (eval (.Name x np) env) (fun f s₁=>f= .ref C∧wpAny (model prog w) A (evalArgs (.ref C) true (backTo cpos (starEach args env)) [])
   (fun a s₂=>a.kw=[]∧a.pos.length≤sizeLine∧s₂.heap.get? C=some (excClassObj nm q C N bs bm hdct sn sub ab col dd k0 k1 k2 k3 k5 newId)∧s₂.heap.Ns N mN∧OwnTail s₂.heap bmB bm∧s₂.heap.get? fI=some oI∧
     ∀ h' e,Heap.MadeExcOf s₂.heap h' e (.ref C) a.pos→h'.objs.size=s₂.heap.objs.size+2→e=s₂.heap.objs.size+1→
      wpAny (model prog w) (A.under (.builtin "type.__call__" ⟨.ref C::a.pos,[]⟩)) (call (.ref fI) (.ref e::a.pos))
       (fun r s'=>r= .none∧s'.heap.get? C=some (excClassObj nm q C N bs bm hdct sn sub ab col dd k0 k1 k2 k3 k5 newId)∧(∃ od vs sl,s'.heap.get? e=some {cls:=.ref C,dict:=od,data:=.fields vs,slots:=sl}∧vs[1]? =some .none)∧E (.ref e) s') E {s₂ with heap:=h'}) E s₁) E s):
 wpAny (model prog w) A (exec (.Raise (some (.Call (.Name x np) args [] cpos)) none pos) env) Q E s:=by
 rw [arm_exec_Raise]
 refine wpAny_bind (wpAny_standAt (qGr (C:=C) (nm:=nm) (q:=q) (N:=N) (bs:=bs) (bm:=bm) (hdct:=hdct) (sn:=sn) (sub:=sub) (ab:=ab) (col:=col) (dd:=dd) (k0:=k0) (k1:=k1) (k2:=k2) (k3:=k3) (k5:=k5) (newId:=newId) hbase hh (wpAny_bind (wpAny_mono (wpAny_Call_ofName (wpAny_mono h (fun f s₁ h₁=>?_) fun _ _ x=>x)) (fun v s₃ h₃=>wpAny_bind (wpAny_standAt (wpAny_pure h₃))) fun _ _ x=>x))))
 obtain⟨rfl,h₁⟩:=h₁
 unfold callWith
 refine wpAny_bind (wpAny_holding (wpAny_mono h₁ (fun a s₂ h₂=>wpAny_bind (wpAny_standAt ?_)) fun _ _ x=>x))
 obtain⟨apos,akw⟩:=a
 obtain⟨hkw,hlen,hC,hn,T,hfI,h₂⟩:=h₂
 obtain rfl:akw=[]:=hkw
 obtain⟨hp,g,d,tk,os⟩:=s₂
 simp only [hplain]
 refine wpAny_bind (wpAny_keeperOf_exc hC ?_)
 refine wpAny_bind (qF7 (hrest:=hlen) F T hC hn hi hfI hfc fun h' e hm h1 h2=>wpAny_mono (h₂ h' e hm h1 h2) (fun r s' z=>⟨z.1,?_⟩) fun _ _ x=>x)
 obtain⟨_,hC',⟨od,vs,sl,he,hv⟩,hE⟩:=z
 refine wpAny_bind (wpAny_holding (wpAny_point (wpAny_pure ?_)))
 exact⟨e,od,vs,sl,rfl,hC',he,hv,hE⟩
end
end L3
namespace L3
open PySem PySem.Spec PyProof.Rows L2
def wI (e:Addr)(C:Value):HO:=.ext fun h=>∃ (vs:Array Value) (sl:Array (Option Value)),h.get? e=some {cls:=C,dict:=none,data:=.fields vs,slots:=sl}∧vs[1]? =some .none
def wr (e:Addr)(C:EC):HO:=.ext fun h=>zq h e C none
def excInitIn (K:PySem.W.Frag)(C f:Addr):Bool:=match K.lookup C with
 | some ⟨.type "type",_,.cls cd,sl⟩=>(match cd.mro,sl.toList with
  | .ref C'::bm,[_,_,_,_,some (.builtin n),_]=>C' == C && n == "ValueError.__new__" && !cd.hasDel && PySem.W.tailIn K qLv bm && PySem.W.nsOkIn K cd.ns && PySem.W.nsIn K cd.ns "__init__" == some (some (.ref f))
  | _,_=>false)
 | _=>false
structure XMk (K:PySem.W.Frag)(C D f:Addr):Prop where
 ov:exOver K C D=true
 hd:PySem.W.hasDictIn K C=true
 sa:PySem.W.findIn K (.ref C) "__setattr__"=some (some (.builtin "object.__setattr__"))
 ex:excInitIn K C f=true
 fn:PySem.W.isFn K (.ref f)=true
theorem qGp {K:PySem.W.Frag}{h:Heap}{N:Addr}{mg:Str→Option Value}{n:Str}{v:Value}(X:K.In h)(G:h.Ns N mg)(e:PySem.W.nsIn K N n=some (some v)):mg n=some v:=by
 obtain⟨o,es,ep,ho,hd,_,hf⟩:=G
 unfold PySem.W.nsIn at e
 split at e
 · rename_i c d es' n' sl q
   have:=X _ _ q
   rw [ho] at this
   cases this
   cases hd
   split at e
   · rename_i en he
     cases e
     rw [← hf]
     unfold nsFind findBy
     rw [← Array.find?_toList,he]
     rfl
   · split at e <;> cases e
 · cases e
theorem qI6 {K:PySem.W.Frag}{h:Heap}{C f:Addr}(X:K.In h)(q:excInitIn K C f=true):
 ∃ bm N nm qn bs hdct sn sub ab col dd k0 k1 k2 k3 k5 mN,h.get? C=some (excClassObj nm qn C N bs bm hdct sn sub ab col dd k0 k1 k2 k3 k5 "ValueError.__new__")∧h.Ns N mN∧mN "__init__"=some (.ref f)∧OwnTail h qLv bm:=by
 unfold excInitIn at q
 split at q
 · rename_i dd cd sl ho
   split at q
   · rename_i C' bm k0 k1 k2 k3 n k5 hm hs
     simp only [Bool.and_eq_true,beq_iff_eq,Bool.not_eq_true'] at q
     obtain⟨⟨⟨⟨⟨eC,en⟩,del⟩,ht⟩,ok⟩,ni⟩:=q
     subst eC en
     obtain⟨nm,bs,mro,ns,qn,hd,sn,sub,ab,col,dl⟩:=cd
     dsimp only at hm del ok ni
     subst hm del
     have hsl:sl=#[k0,k1,k2,k3,some (.builtin "ValueError.__new__"),k5]:=by
      obtain⟨l⟩:=sl
      simp only at hs
      rw [hs]
     subst hsl
     have N1:h.Ns ns (h.nsMap ns):=.of_isNs (PySem.W.isNs_of_in X ok)
     refine⟨bm,ns,nm,qn,bs,hd,sn,sub,ab,col,dd,k0,k1,k2,k3,k5,_,X _ _ ho,N1,qGp X N1 ni,PySem.W.tail_of_in X ht⟩
   · cases q
 · cases q
section
variable {X : Cx} {pins : List (Addr × Obj)} {σ : L2.St} {H : Hp} {s : Shared}
theorem qI7 {e:Addr}{φ:Heap→Prop}(I:Inv X pins σ (upd H e (.ext φ)) s)(h0:H e=none)(hs:X.s₀.heap.get? e=none):Inv X pins σ H s:=by
 have B:=I.base
 have nn:∀ b u,upd H e (.ext φ) b=some u→(∀ ψ,u≠ .ext ψ)→H b=some u:=fun b u z n=>by
  by_cases hb:b=e
  · subst hb
    rw [qD] at z
    cases z
    exact absurd rfl (n φ)
  · rwa [qR hb] at z
 have n0:∀ b,upd H e (.ext φ) b=none→H b=none:=fun b z=>by
  by_cases hb:b=e
  · rw [hb,qD] at z;cases z
  · rwa [qR hb] at z
 refine⟨I.ok,I.os,I.bare,⟨B.keep,B.slot,fun b o w z hx=>n0 _ (B.free b o w z hx),B.there,fun b xs w=>nn _ _ (B.tups b xs w) (fun _ z=>nomatch z),fun b o u w=>nn _ _ (B.frzs b o u w) (fun _ z=>nomatch z),fun b ps w=>?_⟩,I.loc,I.cell,n0 _ I.free,fun y c z=>n0 _ (I.freeC y c z),fun p hp=>?_,fun b u w=>?_,I.len⟩
 · obtain⟨more,z⟩:=B.tbls b ps w
   exact⟨more,nn _ _ z (fun _ z=>nomatch z)⟩
 · obtain⟨w1,w2,w3⟩:=I.pin p hp
   exact⟨w1,n0 _ w2,w3⟩
 · have hb:b≠e:=fun z=>by rw [z,h0] at w;cases w
   refine(I.hok b u (by rw [qR hb];exact w)).stay (fun _ _ _ z=>z) (fun c z=>nn _ _ z (fun _ z=>nomatch z)) fun c xs z=>nn _ _ z (fun _ z=>nomatch z)
end
theorem qGt {X:Cx}{pins:List (Addr × Obj)}{σ:L2.St}{H:Hp}{s:Shared}{dx:Addr}{fs:List (Str × V)}(I:Inv X pins σ H s)(h0:H dx=none)(hs0:X.s₀.heap.get? dx=none)(hp:∀ p∈X.pn++pins,p.1≠dx)
 (hl:dx≠X.env.locals) (hc:∀ y c,X.env.cells.lookup y=some c→c≠dx) (ok:∃ mA,s.heap.Ns1 dx mA∧∀ f,RelO (fs.lookup f) (mA f)):Inv X pins σ (upd H dx (.xd fs)) s:=by
 have B:=I.base
 have ne:∀ b o,X.s₀.heap.get? b=some o→b≠dx:=fun b o w z=>by rw [z,hs0] at w;cases w
 refine⟨I.ok,I.os,I.bare,⟨B.keep,B.slot,fun b o w z hx=>?_,B.there,fun b xs w=>?_,fun b o u w=>?_,fun b ps w=>?_⟩,I.loc,I.cell,?_,fun y c e=>?_,fun p hp'=>?_,fun b u w=>?_,I.len⟩
 · rw [qR (ne b o w)];exact B.free b o w z hx
 · have z:=B.tups b xs w
   rw [qR (qU z h0)];exact z
 · have z:=B.frzs b o u w
   rw [qR (qU z h0)];exact z
 · obtain⟨more,z⟩:=B.tbls b ps w
   exact⟨more,by rw [qR (qU z h0)];exact z⟩
 · rw [qR (Ne.symm hl)];exact I.free
 · rw [qR (hc y c e)];exact I.freeC y c e
 · obtain⟨w1,w2,w3⟩:=I.pin p hp'
   rw [qR (hp p hp')]
   exact⟨w1,w2,w3⟩
 · by_cases hb:b=dx
   · subst hb
     rw [qD] at w
     cases w
     exact ok
   · rw [qR hb] at w
     exact(I.hok b u w).stay (fun _ _ _ z=>z) (fun c z=>by rw [qR (qU z h0)];exact z) fun c xs z=>by rw [qR (qU z h0)];exact z
def qNe (K:PySem.W.Frag)(ta tv:TE)(f:Str):TS:=fun D σ H=>tv σ H fun y H1=>ta σ H1 fun x H2=>∃ a C B,x= .ref a∧H2 a=some (wI a (.ref C))∧exOver K C B=true∧PySem.W.hasDictIn K C=true∧
 PySem.W.findIn K (.ref C) "__setattr__"=some (some (.builtin "object.__setattr__"))∧PySem.W.takerIn K C f=some none∧∀ dx,H2 dx=none→D.nx σ (upd (upd H2 a (wr a (.ref C,some dx))) dx (.xd [(f,y)]))
theorem qLx {X:Cx}{o value:Expr}{f:Str}{pos pos':Pos}{ta tv:TE}(ha:PE X o ta)(hv:PE X value tv)(hs:swapsWith value (some (.Attribute o f pos')) pos.line X.env=pure false:=by rfl):
 PS X (.Assign [.Attribute o f pos'] value pos) (qNe X.K ta tv f):=by
 intro pins s σ H D I h
 refine plainObj_wpAny_Assign_Attribute (thn (hv pins s σ H _ I h) fun u s1 ⟨y,H1,I1,ry,q⟩=>thn (ha pins s1 σ H1 _ I1 q) fun ov s2 ⟨x,H2,I2,rx,a,C,B,ex,ea,o1,o2,o3,o4,q2⟩=>?_) hs
 subst ex
 obtain rfl:ov=Value.ref a:=rx
 obtain⟨⟨vs,sl,he,hv1⟩,_,_⟩:=I2.hok a _ ea
 have hf:H2 s2.heap.objs.size=none:=I2.hok.fresh (Nat.le_refl _)
 refine qKx I2.kIn he o3 o1 o4 o2 fun h' tk he' hn k=>⟨σ,_,?_,q2 _ hf⟩
 have I3:Inv X pins σ (upd H2 a (wr a (.ref C,some s2.heap.objs.size))) {s2 with heap:=h',toks:=tk}:=by
  refine I2.write (x:=a) (e:=a) (by rw [ea];exact True.intro) (.inl rfl) k ⟨_,he'⟩ ?_
  refine⟨⟨vs,sl,he',hv1⟩,⟨_,he'⟩,fun h1 h2 z k=>?_⟩
  obtain⟨vs',sl',z,z2⟩:=z
  exact⟨vs',sl',k _ z,z2⟩
 have na:s2.heap.objs.size≠a:=fun z=>by rw [z,ea] at hf;cases hf
 refine qGt I3 (by rw [qR na];exact hf) ?_ (fun p hp=>Nat.ne_of_lt (Heap.lt_size (I2.pin p hp).1)) (Nat.ne_of_gt I2.lt) (fun y c e=>?_) ⟨_,hn,fun g=>?_⟩
 · cases w:X.s₀.heap.get? s2.heap.objs.size with
   | none=>rfl
   | some o=>exact absurd (Nat.lt_of_lt_of_le (Heap.lt_size w) I2.sz) (Nat.lt_irrefl _)
 · obtain⟨v,o,ho,_⟩:=I2.cell y c e
   exact Nat.ne_of_lt (Heap.lt_size ho)
 · by_cases hg:g=f
   · subst hg
     simp [List.lookup]
     exact ry
   · have e1:([(f,y)]:List (Str × V)).lookup g=none:=by
      rw [List.lookup_cons]
      have:(g == f)=false:=beq_eq_false_iff_ne.mpr hg
      rw [this]
      rfl
     rw [e1,if_neg hg]
     trivial
inductive qE4 (C:Addr)(f:Str)(vs:List V)(H:Hp)(Q:VK)(_:XK):Prop
| mk (e:Addr) (v:V) (_:vs=[.ref e,v]) (_:H e=some (wI e (.ref C))) (_:∀ dx,H dx=none→Q .non (upd (upd H e (wr e (.ref C,some dx))) dx (.xd [(f,v)])))
def qK3 (C:Addr)(fn:Str)(Ex:Value→Option Addr→Hp→Prop)(t:TA):TS:=fun _ σ H=>t σ H fun vs H1=>∃ v,vs=[v]∧∀ dx,H1 dx=none→Ex (.ref C) (some dx) (upd H1 dx (.xd [(fn,v)]))
theorem qHp {X:Cx}{Ex:Value→Option Addr→Hp→Prop}{fn:Str}{k:Nat}{x:Str}{C B f:Addr}{fd:FuncData}{ps:List Str}{np cpos pos:Pos}{e₀:Expr}{rest:List Expr}{t:TA}(M:XMk X.K C B f)
 (F:FnOk X.prog X.w X.K X.mg X.base CX0 k f fd ps (qE4 C fn)) (hb:Binds X.K fd ps []) (hr:Room (k+1) X.A) (hcm:X.calm=true) (hg:Gl X x) (hm:X.mg x=some (.ref C)) (ha:PA (X.wish (XE X Ex)) (e₀::rest) t)
 (he:starEach (e₀::rest) X.env=(false,eval e₀ X.env)::starEach rest X.env:=by rfl) (hpl:(backTo cpos (starEach rest X.env)).any (·.1)=false:=by rfl) (hex:X.ex=[]:=by rfl) (hdb:(x == ("__debug__":Str))=false:=by decide):
 PS (X.wish (XE X Ex)) (.Raise (some (.Call (.Name x np) (e₀::rest) [] cpos)) none pos) (qK3 C fn Ex t):=by
 intro pins s σ H D I h
 obtain⟨tl,N,nm,q,bs,hdct,sn,sub,ab,col,dd,k0,k1,k2,k3,k5,mN,hC,hN,hni,T⟩:=qI6 (K:=X.K) I.ok.mod.kin M.ex
 have hfn:PySem.W.typeIn X.K (.ref f)=some (.type "function"):=beq_iff_eq.mp M.fn
 have hfo:∃ oI:Obj,X.base.get? f=some oI∧oI.cls= .type "function":=by
  replace hfn:(X.K.lookup f).map (·.cls)=some (.type "function"):=hfn
  cases hl:X.K.lookup f with
  | none=>rw [hl] at hfn;cases hfn
  | some o=>
   rw [hl] at hfn
   exact⟨o,I.ok.mod.kin _ _ hl,by simpa using hfn⟩
 obtain⟨oI,hfI,hfc⟩:=hfo
 refine qEk (bm:=tl) (C:=C) (N:=N) (nm:=nm) (q:=q) (bs:=bs) (hdct:=hdct) (sn:=sn) (sub:=sub) (ab:=ab) (col:=col) (dd:=dd) (k5:=k5) (k0:=k0) (k1:=k1) (k2:=k2) (k3:=k3)
  PySem.F.excBase_ValueError (mN:=mN) (fI:=f) (oI:=oI) (T.hasType PySem.F.excBase_ValueError.hasBase) (I.ok.hd hcm) (by rw [he];show (false || (backTo cpos (starEach rest X.env)).any (·.1))=false;rw [hpl];rfl) hni hfc (wc I hg hm ⟨rfl,?_⟩ hdb)
 have z:=ha cpos pins s σ H _ I h
 rw [show (X.wish (XE X Ex)).env=X.env from rfl] at z
 rw [he] at z ⊢
 refine Calls.evalArgs_plain (wpAny_mono z (fun us s2 w=>?_) fun _ _ y=>y)
 obtain⟨vs,H1,I1,r1,v,rfl,ex⟩:=w
 have I1':=I1.unwish
 have hl1:us.length=1:=r1.length.symm
 refine⟨rfl,by rw [hl1,sizeLine_eq];decide,I1.bk _ _ hC,hN.keeps I1.bk,T.keeps I1.bk,I1.bk _ _ hfI,fun h' e hmk hsz hes=>?_⟩
 obtain⟨tt,q1,q2,q3⟩:=hmk.there
 have hle:s2.heap.objs.size≤e:=by rw [hes];exact Nat.le_succ _
 have e0:H1 e=none:=I1'.hok.fresh hle
 have I2:Inv X pins σ (upd H1 e (wI e (.ref C))) {s2 with heap:=h'}:=I1'.laid (t':=s2.toks) hmk.keeps hle ⟨⟨_,_,q1,rfl⟩,⟨_,q1⟩,fun h1 h2 z k=>by
  obtain⟨vs',sl',z,z2⟩:=z
  exact⟨vs',sl',k _ z,z2⟩⟩
 have r2:Vals [V.ref e,v] (Value.ref e::us):=.cons rfl r1
 have hsp:qE4 C fn [V.ref e,v] (upd H1 e (wI e (.ref C))) (fun u H2=>u= .non∧∃ dx,H1 dx=none∧dx≠e∧H2=upd (upd H1 dx (.xd [(fn,v)])) e (wr e (.ref C,some dx))) E0:=⟨e,v,rfl,qD,fun dx hdx=>⟨rfl,dx,?_⟩⟩
 rotate_left
 · have hne:dx≠e:=fun z=>by rw [z,qD] at hdx;cases hdx
   refine⟨by rwa [qR hne] at hdx,hne,?_⟩
   funext b
   by_cases hb:b=e
   · subst hb
     rw [qD,qR (Ne.symm hne),qD]
   · rw [qR hb (o:=wr e (.ref C,some dx)) (H:=upd H1 dx (.xd [(fn,v)]))]
     by_cases hb2:b=dx
     · subst hb2
       rw [qD,qD]
     · rw [qR hb2,qR hb,qR hb,qR hb2]
 have hl:((Value.ref e::us)++[]).length=ps.length:=by
  have:=F.len _ _ _ _ hsp
  rw [List.append_nil,List.length_cons,hl1]
  simpa using this
 have hbb:=hb _ (Value.ref e::us) I2.kIn hl
 rw [List.append_nil] at hbb
 refine wpAny_call (codeAny_mono (F.run _ X.stack _ _ ⟨Value.ref e::us,[]⟩ (Value.ref e::us) _ _ E0 (hr.make C us []) (I2.env0.make C us []) hbb r2 hsp) fun r s' hq'=>?_)
 cases r with
 | error e=>exact False.elim hq'
 | ok fl=>
  cases fl with
  | ret u=>
   obtain⟨v',H',I3,rv,ev,dx,hdx,hne,rfl⟩:=I2.after hq'
   subst ev
   cases rv
   obtain⟨⟨vs',sl',g1,g2⟩,_,_⟩:=I3.hok e _ qD
   have e0':(upd H1 dx (.xd [(fn,v)])) e=none:=by rw [qR (Ne.symm hne)];exact e0
   have hs0:X.s₀.heap.get? e=none:=by
    cases w:X.s₀.heap.get? e with
    | none=>rfl
    | some o=>
     obtain⟨o',w'⟩:=I1'.base.there e o w (by rw [hex];intro y;cases y)
     rw [hmk.new] at w';cases w'
   refine⟨rfl,I3.bk _ _ hC,⟨some dx,vs',sl',g1,g2⟩,e,(.ref C,some dx),σ,upd H1 dx (.xd [(fn,v)]),rfl,(qI7 I3 e0' hs0).pins_of (pins':=[]) fun p hp=>(nomatch hp),⟨⟨hs0,e0',fun p hp z=>?_⟩,none,⟨vs',sl',g1,g2⟩,fun T e'=>nomatch e'⟩,ex dx hdx⟩
   have q':=(I1'.pin p (List.mem_append_left _ hp)).1
   rw [z,hmk.new] at q';cases q'
  | next=>exact False.elim hq'
  | brk=>exact False.elim hq'
  | cont=>exact False.elim hq'
end L3
set_option maxRecDepth 100000
namespace L3
open PySem PySem.Spec PySem.Calls PyProof.Rows PySem.W
section
variable {prog : Program} {w : World} {A : Around} {E : Value → Shared → Prop} {K : Frag} {h : Heap} {g : Array GenState} {d : Drawn} {t : Nat} {os : OsState} {a D : Addr} {ox o : Obj} {name : Str} {v : Value}
theorem qGn {tk:Tok}{Q:PySem.Fin→Shared→Prop}(X:K.In h)(I:InstAt h a ox D (some o))(hf:findObj K D (some o) name=some (.value v))(hq:Q (.done (.ret v)) ⟨h,g,d,t,os⟩):
 wpAny (model prog w) A (Builtin.«object.__getattribute__» ⟨[.ref a,.str name tk],[]⟩) Q E ⟨h,g,d,t,os⟩:=by
 have L0:=I.type (M:=model prog w)
 have L2:=looks_find (M:=model prog w) X I hf
 unfold Builtin.«object.__getattribute__»
 repeat (any_goals (first | assumption | (with_reducible refine wpAny_bind (L0.at ?_)) | (with_reducible refine wpAny_bind (L2.at ?_)) | wp_step))
theorem qIz {tk:Tok}{R:Result→Shared→Prop}(c:ExcK K D)(X:K.In h)(I:InstAt h a ox D (some o))(hf:findObj K D (some o) name=some (.value v))(hq:R (.ok (.ret v)) ⟨h,g,d,t,os⟩):
 codeAny (model prog w) A (.call (.builtin "BaseException.__getattribute__") ⟨[.ref a,.str name tk],[]⟩) R ⟨h,g,d,t,os⟩:=by
 refine codeAny_call_builtin F.attr_ValueError.ga.plain F.entry_bexc_ga ?_
 have bkd:builtinKind "BaseException.__getattribute__"=some .slot:=by decide+kernel
 have hsp:splitId "BaseException.__getattribute__"=some ("BaseException","__getattribute__"):=by decide+kernel
 have ha:=F.args_bexc_ga (.ref a) (.str name tk)
 have L0:=I.type (M:=model prog w)
 have L1:Looks (model prog w) h (isInstance (.ref a) (.type "BaseException")) true:=L0.andThen (looks_mroIn X c.mb)
 simp only [checkBuiltinCall,bkd,hsp]
 refine wpAny_bind (L1.at ?_)
 repeat (first | assumption | (with_reducible refine qGn X I hf ?_) | exact hq | wp_step)
theorem qKw {tk:Tok}{fill ex:Bool}{Q:Value→Shared→Prop}(c:ExcK K D)(X:K.In h)(I:InstAt h a ox D (some o))(hf:findObj K D (some o) name=some (.value v))(hv:handedIn v=true)(hq:Q v ⟨h,g,d,t,os⟩):
 wpAny (model prog w) A (getAttrBy (.ref a) (.str name tk) fill ex) Q E ⟨h,g,d,t,os⟩:=by
 have L0:=I.type (M:=model prog w)
 have L1:=looks_findIn (M:=model prog w) X c.ga
 have L2:=looks_findIn (M:=model prog w) X c.gt
 have f3:=F.attr_ValueError.ga.bind (.ref a)
 have no2:(Value.builtin "BaseException.__getattribute__" == Value.builtin "object.__getattribute__")=false:=by decide+kernel
 have no1:(onTheHeap (Value.ref D) && Value.builtin "BaseException.__getattribute__" == Value.builtin "object.__getattribute__")=false:=by rw [no2];rfl
 have hho:=handedOut_of hv
 repeat (any_goals (first | assumption | (with_reducible refine wpAny_bind (L0.at ?_)) | (with_reducible refine wpAny_bind (L1.at ?_)) | (with_reducible refine wpAny_bind (L2.at ?_)) | (with_reducible refine L1.at ?_) | (with_reducible refine L2.at ?_) | wp_step))
 have no3:(ex && onTheHeap (Value.builtin "BaseException.__getattribute__"))=false:=by
  rw [show onTheHeap (Value.builtin "BaseException.__getattribute__")=false from rfl,Bool.and_false]
 rw [if_neg (by rw [no3];decide)]
 repeat (any_goals (first | assumption | (with_reducible refine wpAny_bind (L0.at ?_)) | (with_reducible refine wpAny_bind (L1.at ?_)) | (with_reducible refine wpAny_bind (L2.at ?_)) | (with_reducible refine L1.at ?_) | (with_reducible refine L2.at ?_) | wp_step))
 refine qIz c X I hf ?_
 show wpAny _ _ (handedOut v) Q E _
 rw [hho]
 exact wpAny_pure hq
end
end L3
namespace L3
open PySem PySem.Spec PyProof.Rows L2
theorem qH4 {o:Obj}{es:Array DictEntry}{ep:Nat}{name:Str}{v:Value}(hd:o.data= .dict es ep)(hf:nsFind es name=some v):PySem.W.lookIn name o=some (some v):=by
 unfold PySem.W.lookIn
 rw [hd]
 dsimp only
 unfold nsFind findBy at hf
 rw [← Array.find?_toList] at hf
 cases he:es.toList.find? (fun e=>e.key.isStr name) with
 | none=>rw [he] at hf;cases hf
 | some en=>
  rw [he] at hf
  have:en.val=v:=by simpa using hf
  subst this
  rfl
inductive qMk (K:PySem.W.Frag)(f:Str)(Q:VK)(x:V)(H1:Hp):Prop
| mk a D dx fs i (_:x= .ref a) (_:H1 a=some (qDt a (.ref D,some dx))) (_:H1 dx=some (.xd fs)) (_:fs.lookup f=some (.int i)) (_:ExcK K D) (_:PySem.W.hasDictIn K D=true) (_:PySem.W.findIn K (.ref D) f=some none) (_:Q (.int i) H1)
def qMc (K:PySem.W.Frag)(ta:TE)(f:Str):TE:=fun σ H Q=>ta σ H fun x H1=>qMk K f Q x H1
theorem qLa {X:Cx}{e:Expr}{f:Str}{pos:Pos}{ta:TE}(he:PE X e ta)(hb:attributeBase e f X.env (eval e X.env)=eval e X.env:=by rfl):PE X (.Attribute e f pos) (qMc X.K ta f):=by
 intro pins s σ H Q I h
 refine qLy hb (thn (he pins s σ H _ I h) fun u s1 ⟨x,H1,I1,rx,a,D,dx,fs,i,ex,ea,ed,el,c,hh,hn,q⟩=>?_)
 subst ex
 obtain rfl:u=Value.ref a:=rx
 obtain⟨⟨vs,sl,qe⟩,_⟩:=I1.hok a _ ea
 obtain⟨mA,⟨o,es,ep,eo,hd,_,_,hm⟩,r⟩:=I1.hok dx _ ed
 have J:PySem.W.InstAt s1.heap a {cls:=.ref D,dict:=some dx,data:=.fields vs,slots:=sl} D (some o):=⟨qe,rfl,rfl,eo⟩
 have rf:=r f
 rw [el] at rf
 cases hmf:mA f with
 | none=>rw [hmf] at rf;exact False.elim rf
 | some u=>
  rw [hmf] at rf
  obtain⟨tk,rfl⟩:RelV (.int i) u:=rf
  have hl:=qH4 hd ((hm f).trans hmf)
  have hf:PySem.W.findObj X.K D (some o) f=some (.value (.int i tk)):=PySem.W.findObj_own hh hn rfl hl
  unfold getAttr
  obtain⟨hp,g,d,t,os⟩:=s1
  refine wpAny_bind ?_
  refine wpAny_mkText ?_
  refine qKw c I1.kIn J hf rfl ?_
  exact⟨.int i,H1,I1.tok _,⟨_,rfl⟩,q⟩
end L3
set_option maxRecDepth 100000
namespace L3
open PySem PySem.Spec PyProof.Rows L2
inductive PHs (X:Cx):List ExceptHandler→List (Addr × Option Nat × TS)→Prop where
 | nil:PHs X [] []
 | cons {x:Str} {np hpos:Pos} {nm:Option Str} {i:Option Nat} {b₀:Stmt} {suite:List Stmt} {C:Addr} {ts:TS} {hs:List ExceptHandler} {cs:List (Addr × Option Nat × TS)} (hcl:qD1 X nm i) (hg:Gl X x) (hm:X.mg x=some (.ref C))
  (h:∀ l ea,PSs (hdX (pnX X l) ea).nox (b₀::suite) ts) (r:PHs X hs cs) (hdb:(x == ("__debug__":Str))=false:=by decide):PHs X (.ExceptHandler (some (.Name x np)) nm (b₀::suite) hpos::hs) ((C,i,ts)::cs)
section
variable {X : Cx}
theorem qJo {bs:List Bool}{its:List Value}{P:Program}{w:World}{A:Around}(r:Vals (bs.map V.bl) its):TruthOf P w A (fun i v=>its.toArray[i]? =some v) (fun i=>(bs[i]?).getD false):=by
 intro i v s Q E hv hq
 have hv':its[i]? =some v:=by simpa using hv
 have hl:=r.length
 have hi:i < bs.length:=by
  have:=(List.getElem?_eq_some_iff.mp hv').1
  rw [List.length_map] at hl
  omega
 obtain⟨u,e1,q1⟩:=r.get (i:=i) (x:=.bl bs[i]) (by rw [List.getElem?_map,List.getElem?_eq_getElem hi];rfl)
 rw [hv'] at e1
 cases e1
 cases q1
 have e:(bs[i]?).getD false=bs[i]:=by rw [List.getElem?_eq_getElem hi];rfl
 have hq':Q ((bs[i]?).getD false) s:=hq
 rw [e] at hq'
 exact wpAny_truthy_bool hq'
theorem qIt (bs:List Bool):(List.range bs.length).any (fun i=>(bs[i]?).getD false)=bs.any id:=by
 rw [Bool.eq_iff_iff,List.any_eq_true,List.any_eq_true]
 constructor
 · rintro ⟨i,hi,h⟩
   have hi:i < bs.length:=by simpa using hi
   rw [List.getElem?_eq_getElem hi] at h
   exact⟨_,List.getElem_mem hi,h⟩
 · rintro ⟨x,hx,h⟩
   obtain⟨i,hi,e⟩:=List.mem_iff_getElem.mp hx
   exact⟨i,by simpa using hi,by rw [List.getElem?_eq_getElem hi,e];exact h⟩
theorem qIi (hc:X.calm=true):wg X (.builtin "any") (fun xs H Q=>∃ (p:Addr) (bs:List Bool),xs=[.ref p]∧SqL X.K H p (bs.map V.bl)∧Q (.bl (bs.any id)) H):=by
 intro pins s σ H xs us Q I r h
 obtain⟨p,bs,rfl,hq,q⟩:=h
 obtain⟨u,rfl,rx⟩:=qF9 r
 cases rx
 obtain⟨its,rv,pl,hz⟩:=I.list hq
 have hp:p≠s.heap.objs.size:=by
  obtain⟨o,n,e,_⟩:=pl
  exact Nat.ne_of_lt (Heap.lt_size e)
 have hh:X.A.in1.handled=none:=I.ok.hd hc
 have hl:its.toArray.size=bs.length:=by rw [List.size_toArray,← rv.length,List.length_map]
 refine call_any_walk (wpAny_pyIter_list pl.isList ?_)
 refine⟨s.heap.objs.size,_,_,_,_,_,_,rfl,Walks.list hh _ p hp its.toArray,⟨⟨_,Heap.get?_push_size _ rfl,rfl,rfl⟩,pl.isList.at fun o e=>Heap.get?_push_of_some _ e⟩,qJo rv,fun h' tk hk=>?_⟩
 rw [hl,qIt]
 refine⟨.bl _,H,I.kept fun b o e=>hk b o (fun z=>?_) (Heap.get?_push_of_some _ e),rfl,q⟩
 have z':b=s.heap.objs.size:=by simpa using z
 exact absurd (Heap.lt_size e) (by rw [z'];exact Nat.lt_irrefl _)
end
theorem qKs {X:Cx}{K:PySem.W.Frag}(h:X.K=K):SlR X (qOi K):=h ▸ qKo
theorem qJn {X:Cx}{K:PySem.W.Frag}(h:X.K=K):OpR X (binaryOp .Add) (qM7 K):=h ▸ qH0
section
variable {X : Cx}
end
inductive D where
 | leaf (v:V)
 | tup (xs:List D)
 | lst (xs:List D)
mutual
def Rep (K:PySem.W.Frag)(H:Hp):D→V→Prop
 | .leaf v,x=>x=v∧xB v=true
 | .tup ds,x=>∃ p xs,x= .ref p∧SqT K H p xs∧Reps K H ds xs
 | .lst ds,x=>∃ p xs,x= .ref p∧SqL K H p xs∧Reps K H ds xs
def Reps (K:PySem.W.Frag)(H:Hp):List D→List V→Prop
 | [],[]=>True
 | d::ds,x::xs=>Rep K H d x∧Reps K H ds xs
 | _,_=>False
end
mutual
def eqD:D→D→Bool
 | .leaf v,.leaf w=>eqV v w
 | .tup xs,.tup ys=>wK xs ys
 | .lst xs,.lst ys=>wK xs ys
 | _,_=>false
def wK:List D→List D→Bool
 | [],[]=>true
 | x::xs,y::ys=>eqD x y && wK xs ys
 | _,_=>false
end
mutual
def dep:D→Nat
 | .leaf _=>0
 | .tup xs=>qD4 xs+1
 | .lst xs=>qD4 xs+1
def qD4:List D→Nat
 | []=>0
 | x::xs=>max (dep x) (qD4 xs)
end
theorem Reps.length {K:PySem.W.Frag}{H:Hp}:∀ {ds:List D} {xs:List V},Reps K H ds xs→ds.length=xs.length
 | [],[],_=>rfl
 | _::_,_::_,h=>by
  unfold Reps at h
  rw [List.length_cons,List.length_cons,h.2.length]
 | [],_::_,h=>by unfold Reps at h;exact h.elim
 | _::_,[],h=>by unfold Reps at h;exact h.elim
theorem qJ7 {v:V}(h:xB v=true):eqV v v=true:=by
 cases v <;> simp_all [xB,eqV]
theorem wH:∀ {xs ys:List D},wK xs ys=true→xs.length=ys.length
 | [],[],_=>rfl
 | x::xs,y::ys,h=>by
  unfold wK at h
  rw [Bool.and_eq_true] at h
  rw [List.length_cons,List.length_cons,wH h.2]
 | [],_::_,h=>by simp [wK] at h
 | _::_,[],h=>by simp [wK] at h
def itE (xs ys:List D)(j:Nat):Bool:=match xs[j]?,ys[j]? with
 | some a,some b=>eqD a b
 | _,_=>false
theorem qDq:∀ (xs ys:List D),((List.range (min xs.length ys.length)).all (itE xs ys) && xs.length == ys.length)=wK xs ys
 | [],[]=>by simp [wK]
 | [],y::ys=>by simp [wK]
 | x::xs,[]=>by simp [wK]
 | x::xs,y::ys=>by
  have ih:=qDq xs ys
  have e:min (x::xs).length (y::ys).length=min xs.length ys.length+1:=by simp only [List.length_cons];omega
  rw [e,List.range_succ_eq_map,List.all_cons,List.all_map]
  have e2:(itE (x::xs) (y::ys)) ∘ Nat.succ=itE xs ys:=by
   funext j
   simp [itE]
  have e3:itE (x::xs) (y::ys) 0=eqD x y:=by simp [itE]
  have e4:((x::xs).length == (y::ys).length)=(xs.length == ys.length):=by
   rw [Bool.eq_iff_iff];simp
  rw [e2,e3,e4,Bool.and_assoc,ih]
  conv=>rhs;unfold wK
theorem qEd {xs ys:List D}(h:xs.length=ys.length):(List.range xs.length).all (itE xs ys)=wK xs ys:=by
 have:=qDq xs ys
 rw [← h,Nat.min_self] at this
 simpa using this
section
variable {X : Cx} {pins : List (Addr × Obj)} {σ : L2.St} {H : Hp} {s : Shared}
mutual
theorem qBh (I:Inv X pins σ H s):∀ (d e:D) {x:V},Rep X.K H d x→Rep X.K H e x→eqD d e=true
 | .leaf v,.leaf w,x,h1,h2=>by
  unfold Rep at h1 h2
  obtain⟨rfl,f⟩:=h1
  obtain⟨rfl,_⟩:=h2
  unfold eqD
  exact qJ7 f
 | .leaf v,.tup ds,x,h1,h2=>by
  unfold Rep at h1 h2
  obtain⟨rfl,f⟩:=h1
  obtain⟨p,xs,rfl,_⟩:=h2
  cases f
 | .leaf v,.lst ds,x,h1,h2=>by
  unfold Rep at h1 h2
  obtain⟨rfl,f⟩:=h1
  obtain⟨p,xs,rfl,_⟩:=h2
  cases f
 | .tup ds,.leaf w,x,h1,h2=>by
  unfold Rep at h1 h2
  obtain⟨rfl,f⟩:=h2
  obtain⟨p,xs,rfl,_⟩:=h1
  cases f
 | .lst ds,.leaf w,x,h1,h2=>by
  unfold Rep at h1 h2
  obtain⟨rfl,f⟩:=h2
  obtain⟨p,xs,rfl,_⟩:=h1
  cases f
 | .tup ds,.tup es,x,h1,h2=>by
  unfold Rep at h1 h2
  obtain⟨p,xs,rfl,t1,r1⟩:=h1
  obtain⟨q,ys,e,t2,r2⟩:=h2
  cases e
  rw [I.tuple_inj t1 t2] at r1
  unfold eqD
  exact wP I ds es r1 r2
 | .lst ds,.lst es,x,h1,h2=>by
  unfold Rep at h1 h2
  obtain⟨p,xs,rfl,t1,r1⟩:=h1
  obtain⟨q,ys,e,t2,r2⟩:=h2
  cases e
  rw [I.list_inj t1 t2] at r1
  unfold eqD
  exact wP I ds es r1 r2
 | .tup ds,.lst es,x,h1,h2=>by
  unfold Rep at h1 h2
  obtain⟨p,xs,rfl,t1,r1⟩:=h1
  obtain⟨q,ys,e,t2,r2⟩:=h2
  cases e
  obtain⟨_,_,i1,_⟩:=I.tuple t1
  obtain⟨_,_,i2,_⟩:=I.list t2
  exact(SeqAt.ne_of_list_tuple i2.isList i1 rfl).elim
 | .lst ds,.tup es,x,h1,h2=>by
  unfold Rep at h1 h2
  obtain⟨p,xs,rfl,t1,r1⟩:=h1
  obtain⟨q,ys,e,t2,r2⟩:=h2
  cases e
  obtain⟨_,_,i1,_⟩:=I.list t1
  obtain⟨_,_,i2,_⟩:=I.tuple t2
  exact(SeqAt.ne_of_list_tuple i1.isList i2 rfl).elim
theorem wP (I:Inv X pins σ H s):∀ (ds es:List D) {xs:List V},Reps X.K H ds xs→Reps X.K H es xs→wK ds es=true
 | [],[],_,_,_=>by simp [wK]
 | d::ds,e::es,[],h1,_=>by unfold Reps at h1;exact h1.elim
 | d::ds,e::es,x::xs,h1,h2=>by
  unfold Reps at h1 h2
  unfold wK
  rw [qBh I d e h1.1 h2.1,wP I ds es h1.2 h2.2]
  rfl
 | [],e::es,[],_,h2=>by unfold Reps at h2;exact h2.elim
 | [],e::es,_::_,h1,_=>by unfold Reps at h1;exact h1.elim
 | d::ds,[],[],h1,_=>by unfold Reps at h1;exact h1.elim
 | d::ds,[],_::_,_,h2=>by unfold Reps at h2;exact h2.elim
end
theorem zd {A:Around}{x:V}{u:Value}{p:Addr}{its:Array Value}(f:xB x=true)(r:RelV x u)(hu:A.units < cLine)(h:s.heap.IsTuple p its∨s.heap.IsList p its):SeqAt.EqAt A s u (.ref p) false∧SeqAt.EqAt A s (.ref p) u false:=by
 cases x with
 | non=>cases r;rcases h with h | h <;> exact⟨by first | exact SeqAt.EqAt.none_tuple h hu | exact SeqAt.EqAt.none_list h hu,by first | exact SeqAt.EqAt.tuple_none h hu | exact SeqAt.EqAt.list_none h hu⟩
 | bl b=>cases r;rcases h with h | h <;> exact⟨by first | exact SeqAt.EqAt.bool_tuple _ h hu | exact SeqAt.EqAt.bool_list _ h hu,by first | exact SeqAt.EqAt.tuple_bool _ h hu | exact SeqAt.EqAt.list_bool _ h hu⟩
 | int i=>obtain⟨t,rfl⟩:=r;rcases h with h | h <;> exact⟨by first | exact SeqAt.EqAt.int_tuple _ _ h hu | exact SeqAt.EqAt.int_list _ _ h hu,by first | exact SeqAt.EqAt.tuple_int _ _ h hu | exact SeqAt.EqAt.list_int _ _ h hu⟩
 | str i=>obtain⟨t,rfl⟩:=r;rcases h with h | h <;> exact⟨by first | exact SeqAt.EqAt.str_tuple _ _ h hu | exact SeqAt.EqAt.str_list _ _ h hu,by first | exact SeqAt.EqAt.tuple_str _ _ h hu | exact SeqAt.EqAt.list_str _ _ h hu⟩
 | _=>cases f
theorem Reps.get {K:PySem.W.Frag}{H:Hp}:∀ {ds:List D} {xs:List V},Reps K H ds xs→∀ (j:Nat) (d:D),ds[j]? =some d→∃ x,xs[j]? =some x∧Rep K H d x
 | [],[],_,j,d,e=>by simp at e
 | a::ds,x::xs,h,0,d,e=>by
  unfold Reps at h
  have:a=d:=by simpa using e
  subst this
  exact⟨x,rfl,h.1⟩
 | a::ds,x::xs,h,j+1,d,e=>by
  unfold Reps at h
  exact h.2.get j d (by simpa using e)
 | [],_::_,h,_,_,_=>by unfold Reps at h;exact h.elim
 | _::_,[],h,_,_,_=>by unfold Reps at h;exact h.elim
theorem qB0:∀ {ds:List D} {j:Nat} {d:D},ds[j]? =some d→dep d≤qD4 ds
 | a::ds,0,d,e=>by
  have:a=d:=by simpa using e
  subst this
  unfold qD4
  exact Nat.le_max_left _ _
 | a::ds,j+1,d,e=>by
  have:=qB0 (ds:=ds) (j:=j) (d:=d) (by simpa using e)
  unfold qD4
  exact Nat.le_trans this (Nat.le_max_right _ _)
 | [],_,_,e=>by simp at e
theorem qHq {A:Around}{ds es:List D}{xs ys:List V}{us ws:List Value}(r1:Reps X.K H ds xs)(r2:Reps X.K H es ys)(v1:Vals xs us)(v2:Vals ys ws)
 (ih:∀ d e x y u w,d∈ds→Rep X.K H d x→Rep X.K H e y→RelV x u→RelV y w→SeqAt.EqAt A s u w (eqD d e)):
 ∀ j (h1:j < us.toArray.size) (h2:j < ws.toArray.size),SeqAt.EqAt A s us.toArray[j] ws.toArray[j] (itE ds es j):=by
 intro j h1 h2
 have l1:=v1.length
 have l2:=v2.length
 have m1:=r1.length
 have m2:=r2.length
 rw [List.size_toArray] at h1 h2
 have g1:ds[j]? =some ds[j]:=List.getElem?_eq_getElem (by omega)
 have g2:es[j]? =some es[j]:=List.getElem?_eq_getElem (by omega)
 obtain⟨x,ex,rx⟩:=r1.get j _ g1
 obtain⟨y,ey,ry⟩:=r2.get j _ g2
 obtain⟨u,eu,qu⟩:=v1.get ex
 obtain⟨w,ew,qw⟩:=v2.get ey
 have c1:us.toArray[j]=u:=by
  have:=(List.getElem?_eq_some_iff.mp eu).2
  simpa using this
 have c2:ws.toArray[j]=w:=by
  have:=(List.getElem?_eq_some_iff.mp ew).2
  simpa using this
 have e:itE ds es j=eqD ds[j] es[j]:=by unfold itE;rw [g1,g2]
 rw [c1,c2,e]
 exact ih _ _ _ _ _ _ (List.getElem_mem _) rx ry qu qw
theorem qMj (I:Inv X pins σ H s):∀ (n:Nat) (A:Around) (d e:D) (x y:V) (u w:Value),dep d≤n→A.units+n < cLine→Rep X.K H d x→Rep X.K H e y→RelV x u→RelV y w→SeqAt.EqAt A s u w (eqD d e):=by
 intro n
 induction n with
 | zero=>
  intro A d e x y u w hd hu r1 r2 q1 q2
  cases d with
  | leaf v=>
   unfold Rep at r1
   obtain⟨rfl,f1⟩:=r1
   cases e with
   | leaf v'=>
    unfold Rep at r2
    obtain⟨rfl,f2⟩:=r2
    unfold eqD
    exact qCu q1 q2 f1 f2
   | tup es=>
    unfold Rep at r2
    obtain⟨p,ys,rfl,t,_⟩:=r2
    cases q2
    obtain⟨_,_,i,_⟩:=I.tuple t
    unfold eqD
    exact(zd f1 q1 hu (.inl i)).1
   | lst es=>
    unfold Rep at r2
    obtain⟨p,ys,rfl,t,_⟩:=r2
    cases q2
    obtain⟨_,_,i,_⟩:=I.list t
    unfold eqD
    exact(zd f1 q1 hu (.inr i.isList)).1
  | tup ds=>unfold dep at hd;omega
  | lst ds=>unfold dep at hd;omega
 | succ n ih=>
  intro A d e x y u w hd hu r1 r2 q1 q2
  have hu0:A.units < cLine:=by omega
  have hu1:A.in1.units+n < cLine:=by show A.units+1+n < cLine;omega
  cases d with
  | leaf v=>
   unfold Rep at r1
   obtain⟨rfl,f1⟩:=r1
   cases e with
   | leaf v'=>
    unfold Rep at r2
    obtain⟨rfl,f2⟩:=r2
    unfold eqD
    exact qCu q1 q2 f1 f2
   | tup es=>
    unfold Rep at r2
    obtain⟨p,ys,rfl,t,_⟩:=r2
    cases q2
    obtain⟨_,_,i,_⟩:=I.tuple t
    unfold eqD
    exact(zd f1 q1 hu0 (.inl i)).1
   | lst es=>
    unfold Rep at r2
    obtain⟨p,ys,rfl,t,_⟩:=r2
    cases q2
    obtain⟨_,_,i,_⟩:=I.list t
    unfold eqD
    exact(zd f1 q1 hu0 (.inr i.isList)).1
  | tup ds=>
   have r1':=r1
   unfold Rep at r1
   obtain⟨p,xs,rfl,t1,s1⟩:=r1
   cases q1
   obtain⟨us,v1,i1,_⟩:=I.tuple t1
   cases e with
   | leaf v'=>
    unfold Rep at r2
    obtain⟨rfl,f2⟩:=r2
    unfold eqD
    exact(zd f2 q2 hu0 (.inl i1)).2
   | lst es=>
    unfold Rep at r2
    obtain⟨q,ys,rfl,t2,_⟩:=r2
    cases q2
    obtain⟨_,_,i2,_⟩:=I.list t2
    unfold eqD
    exact SeqAt.EqAt.tuple_list i1 i2.isList hu0
   | tup es=>
    have r2':=r2
    unfold Rep at r2
    obtain⟨q,ys,rfl,t2,s2⟩:=r2
    cases q2
    by_cases pq:p=q
    · subst pq
      rw [qBh I _ _ r1' r2']
      exact SeqAt.EqAt.same _
    obtain⟨ws,v2,i2,_⟩:=I.tuple t2
    have hdd:qD4 ds≤n:=by unfold dep at hd;omega
    have:=SeqAt.EqAt.of_refs pq (SeqAt.RcAt.tuples i1 i2 hu0 (qHq s1 s2 v1 v2 fun d e x y u w hm ra rb qa qb=>by
     obtain⟨j,hj,ej⟩:=List.mem_iff_getElem.mp hm
     have hde:dep d≤qD4 ds:=qB0 (j:=j) (by rw [List.getElem?_eq_getElem hj,ej])
     exact ih A.in1 d e x y u w (by omega) hu1 ra rb qa qb))
    rw [List.size_toArray,List.size_toArray,← v1.length,← v2.length,← s1.length,← s2.length,qDq] at this
    unfold eqD
    exact this
  | lst ds=>
   have r1':=r1
   unfold Rep at r1
   obtain⟨p,xs,rfl,t1,s1⟩:=r1
   cases q1
   obtain⟨us,v1,i1,_⟩:=I.list t1
   cases e with
   | leaf v'=>
    unfold Rep at r2
    obtain⟨rfl,f2⟩:=r2
    unfold eqD
    exact(zd f2 q2 hu0 (.inr i1.isList)).2
   | tup es=>
    unfold Rep at r2
    obtain⟨q,ys,rfl,t2,_⟩:=r2
    cases q2
    obtain⟨_,_,i2,_⟩:=I.tuple t2
    unfold eqD
    exact SeqAt.EqAt.list_tuple i1.isList i2 hu0
   | lst es=>
    have r2':=r2
    unfold Rep at r2
    obtain⟨q,ys,rfl,t2,s2⟩:=r2
    cases q2
    by_cases pq:p=q
    · subst pq
      rw [qBh I _ _ r1' r2']
      exact SeqAt.EqAt.same _
    obtain⟨ws,v2,i2,_⟩:=I.list t2
    have hdd:qD4 ds≤n:=by unfold dep at hd;omega
    unfold eqD
    by_cases hl:ds.length=es.length
    · have hsz:us.toArray.size=ws.toArray.size:=by rw [List.size_toArray,List.size_toArray,← v1.length,← v2.length,← s1.length,← s2.length];exact hl
      have:=SeqAt.EqAt.of_refs pq (SeqAt.RcAt.lists i1.isList i2.isList hsz hu0 (qHq s1 s2 v1 v2 fun d e x y u w hm ra rb qa qb=>by
       obtain⟨j,hj,ej⟩:=List.mem_iff_getElem.mp hm
       have hde:dep d≤qD4 ds:=qB0 (j:=j) (by rw [List.getElem?_eq_getElem hj,ej])
       exact ih A.in1 d e x y u w (by omega) hu1 ra rb qa qb))
      rw [List.size_toArray,← v1.length,← s1.length,qEd hl] at this
      exact this
    · have hsz:(us.toArray.size != ws.toArray.size)=true:=by
       rw [List.size_toArray,List.size_toArray,← v1.length,← v2.length,← s1.length,← s2.length]
       simpa using hl
      have e:wK ds es=false:=by
       rw [Bool.eq_false_iff]
       intro z
       exact hl (wH z)
      rw [e]
      exact SeqAt.EqAt.of_refs pq (SeqAt.RcAt.lists_lengths i1.isList i2.isList hsz hu0)
def kin:D→D→Bool
 | .tup _,.tup _=>true
 | .lst _,.lst _=>true
 | _,_=>false
inductive qNd (K:PySem.W.Frag)(neg:Bool)(x:V)(y:V)(H:Hp)(Q:VK):Prop
| mk (d e:D) (_:Rep K H d x) (_:Rep K H e y) (_:kin d e=true) (_:dep d≤60) (_:Q (.bl (if neg then !eqD d e else eqD d e)) H)
theorem zf {A:Around}(I:Inv X pins σ H s)(hu:A.units+64 < cLine){ds es:List D}{xs ys:List V}{us ws:List Value}(hd:qD4 ds≤60)(s1:Reps X.K H ds xs)(s2:Reps X.K H es ys)(v1:Vals xs us)(v2:Vals ys ws):
 ∀ j (h1:j < us.toArray.size) (h2:j < ws.toArray.size),SeqAt.EqAt A.in1 s us.toArray[j] ws.toArray[j] (itE ds es j):=
 qHq s1 s2 v1 v2 fun d e x y u w hm ra rb qa qb=>by
  obtain⟨j,hj,ej⟩:=List.mem_iff_getElem.mp hm
  have hde:dep d≤qD4 ds:=qB0 (j:=j) (by rw [List.getElem?_eq_getElem hj,ej])
  exact qMj I 60 A.in1 d e x y u w (by omega) (by show A.units+1+60 < cLine;omega) ra rb qa qb
theorem op_eqR (hu:X.A.units+64 < cLine):OpR X (compareOp .Eq) (qNd X.K false):=by
 intro pins s σ H x y v u Q I rx ry h
 obtain⟨d,e,r1,r2,hk,hd,q⟩:=h
 have hu0:X.A.units < cLine:=by omega
 cases d with
 | leaf a=>cases e <;> cases hk
 | tup ds=>
  cases e with
  | leaf b=>cases hk
  | lst es=>cases hk
  | tup es=>
   unfold Rep at r1 r2
   obtain⟨p,xs,rfl,t1,s1⟩:=r1
   obtain⟨p',ys,rfl,t2,s2⟩:=r2
   cases rx;cases ry
   obtain⟨us,v1,i1,_⟩:=I.tuple t1
   obtain⟨ws,v2,i2,_⟩:=I.tuple t2
   refine SeqAt.eq_tupleAt i1 i2 hu0 (zf I hu (by unfold dep at hd;omega) s1 s2 v1 v2) ?_
   rw [List.size_toArray,List.size_toArray,← v1.length,← v2.length,← s1.length,← s2.length,qDq]
   refine⟨.bl _,H,I,rfl,?_⟩
   unfold eqD at q
   exact q
 | lst ds=>
  cases e with
  | leaf b=>cases hk
  | tup es=>cases hk
  | lst es=>
   unfold Rep at r1 r2
   obtain⟨p,xs,rfl,t1,s1⟩:=r1
   obtain⟨p',ys,rfl,t2,s2⟩:=r2
   cases rx;cases ry
   obtain⟨us,v1,i1,_⟩:=I.list t1
   obtain⟨ws,v2,i2,_⟩:=I.list t2
   unfold eqD at q
   by_cases hl:ds.length=es.length
   · have hsz:us.toArray.size=ws.toArray.size:=by rw [List.size_toArray,List.size_toArray,← v1.length,← v2.length,← s1.length,← s2.length];exact hl
     refine SeqAt.eq_listAt i1.isList i2.isList hsz hu0 (zf I hu (by unfold dep at hd;omega) s1 s2 v1 v2) ?_
     rw [List.size_toArray,← v1.length,← s1.length,qEd hl]
     exact⟨.bl _,H,I,rfl,q⟩
   · have hsz:(us.toArray.size != ws.toArray.size)=true:=by
      rw [List.size_toArray,List.size_toArray,← v1.length,← v2.length,← s1.length,← s2.length]
      simpa using hl
     have e:wK ds es=false:=by
      rw [Bool.eq_false_iff]
      intro z
      exact hl (wH z)
     rw [e] at q
     exact SeqAt.eq_list_lengthsAt i1.isList i2.isList hsz hu0 ⟨.bl _,H,I,rfl,q⟩
theorem qKf (hu:X.A.units+64 < cLine):OpR X (compareOp .NotEq) (qNd X.K true):=by
 intro pins s σ H x y v u Q I rx ry h
 obtain⟨d,e,r1,r2,hk,hd,q⟩:=h
 have hu0:X.A.units < cLine:=by omega
 cases d with
 | leaf a=>cases e <;> cases hk
 | tup ds=>
  cases e with
  | leaf b=>cases hk
  | lst es=>cases hk
  | tup es=>
   unfold Rep at r1 r2
   obtain⟨p,xs,rfl,t1,s1⟩:=r1
   obtain⟨p',ys,rfl,t2,s2⟩:=r2
   cases rx;cases ry
   obtain⟨us,v1,i1,_⟩:=I.tuple t1
   obtain⟨ws,v2,i2,_⟩:=I.tuple t2
   refine SeqAt.RcNeAt.tuples i1 i2 hu0 (zf I hu (by unfold dep at hd;omega) s1 s2 v1 v2) _ _ _ _ ?_
   rw [List.size_toArray,List.size_toArray,← v1.length,← v2.length,← s1.length,← s2.length,qDq]
   refine⟨.bl _,H,I,rfl,?_⟩
   unfold eqD at q
   exact q
 | lst ds=>
  cases e with
  | leaf b=>cases hk
  | tup es=>cases hk
  | lst es=>
   unfold Rep at r1 r2
   obtain⟨p,xs,rfl,t1,s1⟩:=r1
   obtain⟨p',ys,rfl,t2,s2⟩:=r2
   cases rx;cases ry
   obtain⟨us,v1,i1,_⟩:=I.list t1
   obtain⟨ws,v2,i2,_⟩:=I.list t2
   unfold eqD at q
   by_cases hl:ds.length=es.length
   · have hsz:us.toArray.size=ws.toArray.size:=by rw [List.size_toArray,List.size_toArray,← v1.length,← v2.length,← s1.length,← s2.length];exact hl
     refine SeqAt.RcNeAt.lists i1.isList i2.isList hsz hu0 (zf I hu (by unfold dep at hd;omega) s1 s2 v1 v2) _ _ _ _ ?_
     rw [List.size_toArray,← v1.length,← s1.length,qEd hl]
     exact⟨.bl _,H,I,rfl,q⟩
   · have hsz:(us.toArray.size != ws.toArray.size)=true:=by
      rw [List.size_toArray,List.size_toArray,← v1.length,← v2.length,← s1.length,← s2.length]
      simpa using hl
     have e:wK ds es=false:=by
      rw [Bool.eq_false_iff]
      intro z
      exact hl (wH z)
     rw [e] at q
     exact SeqAt.RcNeAt.lists_lengths i1.isList i2.isList hsz hu0 _ _ _ _ ⟨.bl _,H,I,rfl,q⟩
end
end L3
namespace L3
open PySem PySem.Spec PyProof.Rows L2
theorem qIs {X:Cx}{pins:List (Addr × Obj)}{σ:L2.St}{H:Hp}{s:Shared}{h':Heap}{t':Nat}{ch:List Addr}(I:Inv X pins σ H s)(hf:∀ b∈ch,qJk X pins H b)
 (k:∀ b o,b ∉ ch→s.heap.get? b=some o→h'.get? b=some o):Inv X pins σ H {s with heap:=h',toks:=t'}:=by
 have nit:∀ b u,H b=some u→b ∉ ch:=fun b u e z=>by rw [(hf b z).1] at e;cases e
 refine I.step (g':=s.gens) (d':=s.drawn) (ch:=ch) (fun b hb=>?_) (fun b o _ _ hc e _=>k b o hc e) (fun b o _ _ hc e _=>⟨o.slots,k b o hc e⟩) (fun _ _ _ _ n=>n)
  (fun b o hc e=>⟨o,k b o hc e⟩) (fun _ _ e=>e) (fun _ _ _ e=>e) (fun b ps e=>⟨#[],by rw [e];simp⟩) (fun m hm=>?_) (fun b u e=>?_) I.bare
 · obtain⟨_,f1,_,f3,f4,f5⟩:=hf b hb
   exact⟨f3,f1,f4,f5⟩
 · obtain⟨o,es,ep,ho,r⟩:=hm
   exact⟨o,es,ep,k _ o (fun z=>(hf _ z).2.1 rfl) ho,r⟩
 · refine(I.hok b u e).stay (fun c v hc q=>k c v ?_ q) (fun _ q=>q) fun _ _ q=>q
   rcases hc with z | z
   · rw [z];exact nit b u e
   · exact nit c _ z
theorem qKq {X:Cx}{pins:List (Addr × Obj)}{σ:L2.St}{H:Hp}{s:Shared}{h':Heap}{t':Nat}{ch:List Addr}{xs:List V}{us:Array Value}(I:Inv X pins σ H s)(hf:∀ b∈ch,qJk X pins H b)(hlt:∀ b∈ch,b < s.heap.objs.size)
 (k:∀ b o,b ∉ ch→s.heap.get? b=some o→h'.get? b=some o) (hT:h'.get? s.heap.objs.size=some {cls:=.type "tuple",data:=.seq us}) (r:Vals xs us.toList) (hz:xs.length≤sizeLine):
 Inv X pins σ (upd H s.heap.objs.size (.tup xs)) {s with heap:=h',toks:=t'}∧∀ b∈ch,upd H s.heap.objs.size (.tup xs) b=none:=by
 have hn:∀ b∈ch,upd H s.heap.objs.size (.tup xs) b=none:=fun b hb=>by
  rw [qR (Nat.ne_of_lt (hlt b hb))];exact(hf b hb).1
 have I1:Inv X pins σ (upd H s.heap.objs.size (.tup xs)) {s with heap:=s.heap.push {cls:=.type "tuple",data:=.seq us},toks:=t'}:=
  I.laid (t':=t') (fun b o e=>Heap.get?_push_of_some _ e) (Nat.le_refl _) ⟨hz,us.toList,r,⟨_,Heap.get?_push_size _ rfl,rfl,_,rfl⟩⟩
 have I2:=qIs (h':=h') (t':=t') (ch:=ch) I1 (fun b hb=>⟨hn b hb,(hf b hb).2⟩) (fun b o hb e=>?_)
 · exact⟨I2,hn⟩
 rcases Heap.get?_push_cases e with ⟨e1,e2⟩ | e1
 · rw [e1,e2];exact hT
 · exact k b o hb e1
def Ite (K:PySem.W.Frag)(a:Addr):It:=
 ⟨fun i H=>∃ xs x,SqL K H a xs∧xs[i]? =some x,fun i H x H'=>∃ p v,H p=none∧x= .ref p∧(∀ xs,SqL K H a xs→xs[i]? =some v)∧H'=upd H p (.tup [.int i,v]),fun i H=>∃ xs,SqL K H a xs∧xs.length≤i⟩
theorem qG4 {P:Program}{w:World}{K:PySem.W.Frag}{elts:List Expr}{k1:Nat}{pos:Pos}(a e it:Addr)(hne:e≠it):
 qL2 P w K (.Tuple elts k1 pos) (Ite K a) [e,it] e (fun i h=>(∃ old,IsEnum h e it (i:Nat) old)∧h.IsListIter it a i) where
 mem:=by simp
 obj:=fun i h st b hb=>by
  obtain⟨⟨old,he⟩,o,ho,c,d⟩:=st
  rcases List.mem_cons.mp hb with rfl | hb
  · exact⟨_,he,fun v z=>by cases z⟩
  · have e:b=it:=by simpa using hb
    subst e
    exact⟨o,ho,fun v z=>by rw [d] at z;cases z⟩
 keep:=fun i h h' st k=>by
  obtain⟨⟨old,he⟩,hi⟩:=st
  exact⟨⟨old,k e (by simp) _ he⟩,hi.at fun o q=>k it (by simp) o q⟩
 item:=by
  intro X hP hw hK hc i pins s σ H E I hf st hg
  subst hP hw hK
  obtain⟨⟨old,he⟩,hit⟩:=st
  obtain⟨xs,x,hq,hx⟩:=hg
  obtain⟨its,rv,p,hz⟩:=I.list hq
  obtain⟨u,hu,ru⟩:=rv.get hx
  refine wpAny_pyNext_enum_item he hit p.isList (x:=u) (by simpa using hu) hne fun h' heo hit' hT hsz hk=>?_
  refine⟨_,rfl,wpAny_letOwnedTupleGo_enum heo fun h'' he'' hs''=>?_⟩
  have hel:e < s.heap.objs.size:=Heap.lt_size he
  have hil:it < s.heap.objs.size:=by obtain⟨_,q,_⟩:=hit;exact Heap.lt_size q
  have T:=qKq (h':=h'') (t':=s.toks+1) (ch:=[e,it]) (xs:=[.int i,x]) (us:=#[.int i s.toks,u]) I hf (fun b hb=>by
   rcases List.mem_cons.mp hb with rfl | hb
   · exact hel
   · have z:b=it:=by simpa using hb
     subst z;exact hil)
   (fun b o hb q=>(hs''.2 b (fun z=>hb (by simp [z]))).trans (hk b o (fun z=>hb (by simp [z])) (fun z=>hb (by simp [z])) q))
   ((hs''.2 _ (Nat.ne_of_gt hel)).trans hT) (.cons ⟨_,rfl⟩ (.cons ru .nil)) (by show 2≤sizeLine;decide)
  refine⟨.ref s.heap.objs.size,_,T.1,rfl,⟨_,x,I.hok.fresh (Nat.le_refl _),rfl,fun ys hy=>by rw [I.list_inj hy hq];exact hx,rfl⟩,⟨⟨u,by simpa using he''⟩,hit'.at fun o q=>(hs''.2 it hne.symm).trans q⟩,T.2⟩
 done:=by
  intro X hP hw hK hc i pins s σ H E I hf st hg
  subst hP hw hK
  obtain⟨⟨old,he⟩,hit⟩:=st
  obtain⟨xs,hq,hx⟩:=hg
  obtain⟨its,rv,p,hz⟩:=I.list hq
  obtain⟨f0,f1,f2,f3,f4,f5⟩:=hf it (by simp)
  have hl:=rv.length
  exact wpAny_pyNext_enum_end (I.ok.hd hc) he hit p.isList (by simp;omega) fun h' eb=>⟨rfl,I.turned (t':=s.toks) (fun b o hb e=>eb b o hb e) f0 f1 f3 f4 f5⟩
 self:=fun _ _ _ _ _ st h=>by
  obtain⟨⟨old,he⟩,_⟩:=st
  exact wpAny_pyIter_enum he h
inductive qL5 (K:PySem.W.Frag)(R:It→Hp→Prop)(vs:List V)(H1:Hp):Prop
| mk a (_:vs=[.ref a]) (_:(∃ xs,SqL K H1 a xs)) (_:R (Ite K a) H1)
def qOa (K:PySem.W.Frag)(t:TA):TI:=fun σ H R=>t σ H fun vs H1=>qL5 K R vs H1
theorem qIu {X:Cx}{l:Expr}{tl:TA}{elts:List Expr}{k1:Nat}{tpos p pos:Pos}(hg:Gl X "enumerate")(hm:X.mg "enumerate"=none)(hl:PA X [l] tl)(hs:starEach [l] X.env=[(false,eval l X.env)]:=by rfl):
 PI X (.Tuple elts k1 tpos) (.Call (.Name "enumerate" p) [l] [] pos) (qOa X.K tl):=by
 intro pins s σ H R I h
 refine Call_ (qA4 I hg hm boot_enumerate (PyProof.Rows.callWith_type1 (thn (hl pos pins s σ H _ I h) fun us s1 ⟨vs,H1,I1,r1,q1⟩=>?_) hs rfl))
 obtain⟨a,e,⟨xs,hq⟩,q⟩:=q1
 subst e
 cases r1 with
 | cons r rr=>
  cases rr
  cases r
  obtain⟨its,rv,pl,hz⟩:=I1.list hq
  refine call_enumerate_list pl.isList fun h' he hit hsz hk=>?_
  refine wpAny_pyIter_enum he ?_
  refine⟨s1.heap.objs.size+1,[s1.heap.objs.size+1,s1.heap.objs.size],_,_,H1,rfl,I1.kept (t':=s1.toks) fun b o e=>hk b o e,qG4 a _ _ (Nat.succ_ne_self _),⟨⟨_,he⟩,hit⟩,fun b hb=>?_,q⟩
  rcases List.mem_cons.mp hb with rfl | hb
  · exact I1.fpOk (Nat.le_succ _) (I1.hok.fresh (Nat.le_succ _))
  · have e:b=s1.heap.objs.size:=by simpa using hb
    subst e
    exact I1.fpOk (Nat.le_refl _) (I1.hok.fresh (Nat.le_refl _))
theorem qJc {K:PySem.W.Frag}{a:Addr}{xs:List V}{g:TG}{tb:TS}{D:qFy}{σ:L2.St}{H:Hp}(Pv:Nat→L2.St→Hp→Prop)(h0:Pv 0 σ H)(hl:∀ i σ H,i≤xs.length→Pv i σ H→SqL K H a xs)
 (hs:∀ i x σ H p,xs[i]? =some x→Pv i σ H→H p=none→g (.ref p) σ (upd H p (.tup [.int i,x])) fun σ2 H2=>tb {D with nx:=Pv (i+1),ct:=Pv (i+1),bk:=D.nx} σ2 H2) (hd:∀ σ H,Pv xs.length σ H→D.nx σ H):
 ∃ W:Nat→Nat→L2.St→Hp→Prop,(∃ m,W 0 m σ H)∧∀ i m σ H,W i m σ H→
  ((Ite K a).stop i H∧D.nx σ H)∨((Ite K a).go i H∧∃ N:L2.St→Hp→Prop,(∀ σ' H',N σ' H'→∃ m',m' < m∧W (i+1) m' σ' H')∧∀ x H',(Ite K a).yld i H x H'→g x σ H' fun σ2 H2=>tb {D with nx:=N,ct:=N,bk:=D.nx} σ2 H2):=by
 refine⟨fun i m σ H=>m=xs.length - i∧i≤xs.length∧Pv i σ H,⟨xs.length,by simp,Nat.zero_le _,h0⟩,?_⟩
 rintro i m σ H ⟨rfl,hi,p⟩
 have q:=hl i σ H hi p
 by_cases hlt:i < xs.length
 · refine .inr ⟨⟨xs,xs[i],q,by simp [hlt]⟩,Pv (i+1),fun σ' H' p'=>⟨xs.length - (i+1),by omega,rfl,hlt,p'⟩,fun x H' y=>?_⟩
   obtain⟨z,v,hz,rfl,y,rfl⟩:=y
   exact hs i v σ _ z (y xs q) p hz
 · have e:i=xs.length:=by omega
   subst e
   exact .inl ⟨⟨xs,q,Nat.le_refl _⟩,hd σ H p⟩
theorem qI2:∀ {ns:List Int} {us:List Value},Vals (ns.map V.int) us→∃ xs:List (Int × Tok),us.toArray=intItems xs.toArray∧xs.map (·.1)=ns
 | [],us,r=>by cases r;exact⟨[],by simp [intItems],rfl⟩
 | n::ns,us,r=>by
  rw [List.map_cons] at r
  cases r with
  | cons h t=>
   obtain⟨xs,e1,e2⟩:=qI2 t
   obtain⟨tk,rfl⟩:=h
   refine⟨(n,tk)::xs,?_,by rw [List.map_cons,e2]⟩
   have e3:=congrArg Array.toList e1
   simp only [intItems,List.map_toArray] at e3 ⊢
   rw [e3]
   rfl
theorem qDg {X:Cx}(hc:X.calm=true):wg X (.builtin "sum") (fun xs H Q=>∃ (p:Addr) (ns:List Int),xs=[.ref p]∧SqL X.K H p (ns.map V.int)∧Q (.int ns.sum) H):=by
 intro pins s σ H xs us Q I r h
 obtain⟨p,ns,rfl,hq,q⟩:=h
 obtain⟨u,rfl,rx⟩:=qF9 r
 cases rx
 obtain⟨its,rv,pl,hz⟩:=I.list hq
 obtain⟨ys,e1,e2⟩:=qI2 rv
 have pl':=pl.isList
 rw [e1] at pl'
 refine sum_intListG (I.ok.hd hc) pl' fun h' tk t' hk=>?_
 rw [preSum_eq,List.take_of_length_le (by simp)]
 have e3:ys.toArray.toList.map (·.1)=ns:=by simpa using e2
 rw [e3]
 exact⟨.int ns.sum,H,I.kept fun b o e=>hk b o e,⟨_,rfl⟩,q⟩
def CompEndP (K:PySem.W.Frag)(js:List Nat)(tc:TT)(te:TE)(σ:L2.St)(Q:VK)(J:It)(H1:Hp):Prop:=∃ W:Nat→Nat→List V→Hp→Prop,(∃ m,W 0 m [] H1)∧∀ i m acc H2,W i m acc H2→
 acc.length < sizeLine∧((J.stop i H2∧∀ D,H2 D=none→Q (.ref D) (upd H2 D (.lst acc)))∨
  (J.go i H2∧∀ x H3,J.yld i H2 x H3→∃ p va vb,x= .ref p∧SqT K H3 p [va,vb]∧tc (some va::some vb::wl js σ) H3 fun ok H4=>if ok=true then te (some va::some vb::wl js σ) H4 fun v H5=>∃ m',m' < m∧W (i+1) m' (acc++[v]) H5 else ∃ m',m' < m∧W (i+1) m' acc H4))
def qM9 (K:PySem.W.Frag)(js:List Nat)(wi:TI)(tc:TT)(te:TE):TE:=fun σ H Q=>wi σ H (CompEndP K js tc te σ Q)
theorem CompEndP.g {K:PySem.W.Frag}{js:List Nat}{tc:TT}{te:TE}(σ:L2.St)(Q:VK)(J:It)(H1:Hp):CompEndP K js tc te σ Q J H1→ke 2 js (qNn K 2 (qIk (v8 0) (qIk (v8 1) qNo))) tc te σ Q J H1:=fun⟨W,w0,st⟩=>
 ⟨W,w0,fun i m acc H2 w=>⟨(st i m acc H2 w).1,(st i m acc H2 w).2.imp id fun⟨go,y⟩=>⟨go,fun x H3 z=>let ⟨p,va,vb,e,q,r⟩:=y x H3 z;⟨p,_,e,q,rfl,va,_,rfl,vb,_,rfl,rfl,[some va,some vb],rfl,rfl,r⟩⟩⟩⟩
theorem qLk {X:Cx}{scope:Scope}{cl:List (Str × Addr)}{x1 x2:Str}{px1 px2:Pos}{tk:Nat}{tpos:Pos}{ys:List Str}(hcm:X.calm=true)(hnd:([x1,x2]++ys).Nodup)(hx1:scope.names.lookup x1=some .local)(hx2:scope.names.lookup x2=some .local)(C:Addr)(s:Shared)(H:Hp)(fp:List Addr):PG (q9 X scope cl C ([x1,x2]++ys) s H fp).nox (.Tuple [.Name x1 px1,.Name x2 px2] tk tpos) (qNn X.K 2 (qIk (v8 0) (qIk (v8 1) qNo))):=
 qIy (X:=(q9 X scope cl C ([x1,x2]++ys) s H fp).nox) hcm (zV (jR (i:=0) hnd rfl (.inl (lookup_relabel_local hx1)) (.inr (lookup_relabel_local hx1))) (zV (jR (i:=1) hnd rfl (.inl (lookup_relabel_local hx2)) (.inr (lookup_relabel_local hx2))) qEs))
theorem qKc {X:Cx}{elt iter cnd:Expr}{x1 x2:Str}{px1 px2:Pos}{tk:Nat}{tpos:Pos}{scope:Scope}{cl:List (Str × Addr)}{pos:Pos}{wi:TI}{tc:TT}{te:TE}(ys:List Str)(js:List Nat){i:Nat}{y:Str}{py spos:Pos}(hN:X.N.Nodup)(hi':X.N[i]? =some y)(hy:X.env.kindOf y=some .local)
 (hcm:X.calm=true) (hi:PI X (.Tuple [.Name x1 px1,.Name x2 px2] tk tpos) iter wi) (hc:∀ C s H fp,PT (q9 X scope cl C (x1::x2::ys) s H fp).nox cnd tc) (he:∀ C s H fp,PE (q9 X scope cl C (x1::x2::ys) s H fp).nox elt te) (hx1:scope.names.lookup x1=some .local:=by rfl) (hx2:scope.names.lookup x2=some .local:=by rfl) (hC:COk X scope cl iter [x1,x2] ys js:=by exact⟨rfl,rfl,rfl,rfl,rfl,rfl,rfl,rfl,fun _=>rfl,by decide⟩) (hsw:swapsWith (.ListComp elt [⟨.Tuple [.Name x1 px1,.Name x2 px2] tk tpos,iter,[cnd],0⟩] scope pos) (some (.Name y py)) spos.line X.env=pure true:=by rfl):PS X (.Assign [.Name y py] (.ListComp elt [⟨.Tuple [.Name x1 px1,.Name x2 px2] tk tpos,iter,[cnd],0⟩] scope pos) spos) (qL4 (qM9 X.K js wi tc te) (v8 i)):=
 qFa (xs:=[x1,x2]) (T:=CompEndP X.K js tc te) hN hi' hy hcm hi (qLk hcm hC.nd hx1 hx2) (fun C s H fp=>qLh (hc C s H fp)) he hC CompEndP.g hsw
theorem qGw {K:PySem.W.Frag}{a:Addr}{xs:List V}{js:List Nat}{tc:TT}{te:TE}{σ:L2.St}{H:Hp}{Q:VK}(Pv:Nat→List V→Hp→Prop)(h0:Pv 0 [] H)(hl:∀ i acc H,i≤xs.length→Pv i acc H→SqL K H a xs∧acc.length < sizeLine)
 (hs:∀ i x acc H p,i < xs.length→xs[i]? =some x→Pv i acc H→H p=none→tc (some (.int i)::some x::wl js σ) (upd H p (.tup [.int i,x])) fun ok H'=>if ok=true then te (some (.int i)::some x::wl js σ) H' fun v H''=>Nxt xs.length i (Pv (i+1) (acc++[v]) H'') else Nxt xs.length i (Pv (i+1) acc H')) (hd:∀ acc H,Pv xs.length acc H→∀ D,H D=none→Q (.ref D) (upd H D (.lst acc))):CompEndP K js tc te σ Q (Ite K a) H:=by
 refine⟨fun i m acc H=>m=xs.length - i∧i≤xs.length∧Pv i acc H,⟨xs.length,by simp,Nat.zero_le _,h0⟩,?_⟩
 rintro i m acc H2 ⟨rfl,hi,p⟩
 obtain⟨q,hz⟩:=hl i acc H2 hi p
 refine⟨hz,?_⟩
 by_cases hlt:i < xs.length
 · refine .inr ⟨⟨xs,xs[i],q,by simp [hlt]⟩,fun x H3 y=>?_⟩
   obtain⟨z,v,hz,rfl,y,rfl⟩:=y
   exact⟨z,_,_,rfl,SqT.of qD,hs i v acc _ z hlt (y xs q) p hz⟩
 · have e:i=xs.length:=by omega
   subst e
   exact .inl ⟨⟨xs,q,Nat.le_refl _⟩,hd acc H2 p⟩
def Itz (K:PySem.W.Frag)(a b:Addr):It:=
 ⟨fun i H=>∃ xs ys x y,SqL K H a xs∧SqL K H b ys∧xs[i]? =some x∧ys[i]? =some y,
  fun i H x H'=>∃ p v u,H p=none∧x= .ref p∧(∀ xs,SqL K H a xs→xs[i]? =some v)∧(∀ ys,SqL K H b ys→ys[i]? =some u)∧H'=upd H p (.tup [v,u]),
  fun i H=>∃ xs ys,SqL K H a xs∧SqL K H b ys∧(xs.length≤i∨ys.length≤i)⟩
theorem qI8 {P:Program}{w:World}{K:PySem.W.Frag}{elts:List Expr}{k1:Nat}{pos:Pos}(z TI TO i1 i2 a b:Addr)(n0:z≠TI∧z≠TO∧z≠i1∧z≠i2∧TI≠TO∧TI≠i1∧TI≠i2∧TO≠i1∧TO≠i2∧i1≠i2):
 qL2 P w K (.Tuple elts k1 pos) (Itz K a b) [z,TI,TO,i1,i2] z (fun i h=>IsZip h z TI TO .none∧IsPair h TI (.ref i1) (.ref i2)∧(∃ u v,IsPair h TO u v)∧h.IsListIter i1 a i∧h.IsListIter i2 b i) where
 mem:=by simp
 obj:=fun i h st c hc=>by
  obtain⟨hz,hTI,⟨u,v,hTO⟩,⟨o1,e1,_,d1⟩,o2,e2,_,d2⟩:=st
  simp only [List.mem_cons,List.not_mem_nil,or_false] at hc
  rcases hc with rfl | rfl | rfl | rfl | rfl
  · exact⟨_,hz,fun v z=>by cases z⟩
  · exact⟨_,hTI,fun v z=>by cases z⟩
  · exact⟨_,hTO,fun v z=>by cases z⟩
  · exact⟨o1,e1,fun v z=>by rw [d1] at z;cases z⟩
  · exact⟨o2,e2,fun v z=>by rw [d2] at z;cases z⟩
 keep:=fun i h h' st k=>by
  obtain⟨hz,hTI,⟨u,v,hTO⟩,h1,h2⟩:=st
  exact⟨k z (by simp) _ hz,k TI (by simp) _ hTI,⟨u,v,k TO (by simp) _ hTO⟩,h1.at fun o q=>k i1 (by simp) o q,h2.at fun o q=>k i2 (by simp) o q⟩
 item:=by
  intro X hP hw hK hc i pins s σ H E I hf st hg
  subst hP hw hK
  obtain⟨hz,hTI,⟨u0,v0,hTO⟩,h1,h2⟩:=st
  obtain⟨xs,ys,x,y,hq1,hq2,hx,hy⟩:=hg
  obtain⟨its1,rv1,p1,hz1⟩:=I.list hq1
  obtain⟨its2,rv2,p2,hz2⟩:=I.list hq2
  obtain⟨u,hu,ru⟩:=rv1.get hx
  obtain⟨u',hu',ru'⟩:=rv2.get hy
  have free:∀ c∈[z,TI,TO,i1,i2],H c=none:=fun c hc=>(hf c hc).1
  have nl:∀ (l:Addr) (zs:List V),SqL X.K H l zs→∀ c∈[z,TI,TO,i1,i2],l≠c:=fun l zs hl c hc e=>by
   subst e
   rcases hl with (q | ⟨o,q⟩) | ⟨o,its,n,q,_⟩
   · rw [free _ hc] at q;cases q
   · rw [free _ hc] at q;cases q
   · have q1:=(I.bs l o (I.ok.mod.kin l o q)).1
     have:=hf l hc
     rcases this.2.2.2.1 with q2 | q2
     · exact I.ok.noex l o (I.ok.mod.kin l o q) q2
     · exact Nat.lt_irrefl _ (Nat.lt_of_lt_of_le (Nat.lt_of_lt_of_le (Heap.lt_size (I.ok.mod.kin l o q)) I.ok.bsz) q2)
  obtain⟨n1,n2,n3,n4,n5,n6,n7,n8,n9,n10⟩:=n0
  have D:ZipApart z TI TO i1 i2 a b:=⟨n1.symm,n2.symm,n3.symm,n4.symm,n5,n6,n7,n8,n9,n10,nl a xs hq1 z (by simp),nl a xs hq1 TO (by simp),nl a xs hq1 i1 (by simp),nl a xs hq1 i2 (by simp),nl b ys hq2 z (by simp),nl b ys hq2 TO (by simp),nl b ys hq2 i1 (by simp),nl b ys hq2 i2 (by simp)⟩
  refine wpAny_pyNext_zip_item D hz hTI hTO h1 h2 p1.isList p2.isList (x:=u) (y:=u') (by simpa using hu) (by simpa using hu') fun h' hz' hTO' h1' h2' hT hsz hk=>?_
  refine⟨_,rfl,wpAny_letOwnedTupleGo_zip hz' fun h'' hz'' hs''=>?_⟩
  have lt:∀ c∈[z,TI,TO,i1,i2],c < s.heap.objs.size:=fun c hc=>by
   simp only [List.mem_cons,List.not_mem_nil,or_false] at hc
   rcases hc with rfl | rfl | rfl | rfl | rfl
   · exact Heap.lt_size hz
   · exact Heap.lt_size hTI
   · exact Heap.lt_size hTO
   · obtain⟨_,q,_⟩:=h1;exact Heap.lt_size q
   · obtain⟨_,q,_⟩:=h2;exact Heap.lt_size q
  have up:∀ c o,c≠z→h'.get? c=some o→h''.get? c=some o:=fun c o hc q=>(hs''.2 c hc).trans q
  have T:=qKq (h':=h'') (t':=s.toks) (ch:=[z,TI,TO,i1,i2]) (xs:=[x,y]) (us:=#[u,u']) I hf lt
   (fun c o hc q=>up c o (fun e=>hc (by simp [e])) (hk c o (fun e=>hc (by simp [e])) (fun e=>hc (by simp [e])) (fun e=>hc (by simp [e])) (fun e=>hc (by simp [e])) q))
   (up _ _ (Nat.ne_of_gt (lt z (by simp))) hT) (.cons ru (.cons ru' .nil)) (by show 2≤sizeLine;decide)
  refine⟨.ref s.heap.objs.size,_,T.1,rfl,⟨_,x,y,I.hok.fresh (Nat.le_refl _),rfl,fun zs hzs=>by rw [I.list_inj hzs hq1];exact hx,fun zs hzs=>by rw [I.list_inj hzs hq2];exact hy,rfl⟩,?_,T.2⟩
  exact⟨hz'',up _ _ n1.symm (hk _ _ n1.symm n5 n6 n7 hTI),⟨_,_,up _ _ n2.symm hTO'⟩,h1'.at fun o q=>up _ o n3.symm q,h2'.at fun o q=>up _ o n4.symm q⟩
 done:=by
  intro X hP hw hK hc i pins s σ H E I hf st hg
  subst hP hw hK
  obtain⟨hz,hTI,⟨u0,v0,hTO⟩,h1,h2⟩:=st
  obtain⟨xs,ys,hq1,hq2,hend⟩:=hg
  obtain⟨its1,rv1,p1,hz1⟩:=I.list hq1
  obtain⟨its2,rv2,p2,hz2⟩:=I.list hq2
  have free:∀ c∈[z,TI,TO,i1,i2],H c=none:=fun c hc=>(hf c hc).1
  have nl:∀ (l:Addr) (zs:List V),SqL X.K H l zs→∀ c∈[z,TI,TO,i1,i2],l≠c:=fun l zs hl c hc e=>by
   subst e
   rcases hl with (q | ⟨o,q⟩) | ⟨o,its,n,q,_⟩
   · rw [free _ hc] at q;cases q
   · rw [free _ hc] at q;cases q
   · rcases (hf l hc).2.2.2.1 with q2 | q2
     · exact I.ok.noex l o (I.ok.mod.kin l o q) q2
     · exact Nat.lt_irrefl _ (Nat.lt_of_lt_of_le (Nat.lt_of_lt_of_le (Heap.lt_size (I.ok.mod.kin l o q)) I.ok.bsz) q2)
  obtain⟨n1,n2,n3,n4,n5,n6,n7,n8,n9,n10⟩:=n0
  have D:ZipApart z TI TO i1 i2 a b:=⟨n1.symm,n2.symm,n3.symm,n4.symm,n5,n6,n7,n8,n9,n10,nl a xs hq1 z (by simp),nl a xs hq1 TO (by simp),nl a xs hq1 i1 (by simp),nl a xs hq1 i2 (by simp),nl b ys hq2 z (by simp),nl b ys hq2 TO (by simp),nl b ys hq2 i1 (by simp),nl b ys hq2 i2 (by simp)⟩
  have l1:=rv1.length
  have l2:=rv2.length
  refine wpAny_pyNext_zip_end (I.ok.hd hc) D hz hTI hTO h1 h2 p1.isList p2.isList ?_ fun h' hk=>⟨rfl,qIs (t':=s.toks) (ch:=[z,TI,TO,i1,i2]) I hf fun c o hc q=>hk c o (fun e=>hc (by simp [e])) (fun e=>hc (by simp [e])) (fun e=>hc (by simp [e])) (fun e=>hc (by simp [e])) q⟩
  rcases hend with q | q
  · exact .inl (by simp;omega)
  · exact .inr (by simp;omega)
 self:=fun _ _ _ _ _ st h=>wpAny_pyIter_zip st.1 h
theorem qGh (n:Nat):n+4≠n+2∧n+4≠n+3∧n+4≠n∧n+4≠n+1∧n+2≠n+3∧n+2≠n∧n+2≠n+1∧n+3≠n∧n+3≠n+1∧n≠n+1:=by omega
def qO0 (K:PySem.W.Frag)(t:TA):TI:=fun σ H R=>t σ H fun vs H1=>∃ a b,vs=[.ref a,.ref b]∧(∃ xs,SqL K H1 a xs)∧(∃ ys,SqL K H1 b ys)∧R (Itz K a b) H1
theorem qL7 {X:Cx}{l l':Expr}{tl:TA}{elts:List Expr}{k1:Nat}{tpos p pos:Pos}(hg:Gl X "zip")(hm:X.mg "zip"=none)(hl:PA X [l,l'] tl)(hs:starEach [l,l'] X.env=[(false,eval l X.env),(false,eval l' X.env)]:=by rfl)(hs2:starEach [l'] X.env=[(false,eval l' X.env)]:=by rfl):
 PI X (.Tuple elts k1 tpos) (.Call (.Name "zip" p) [l,l'] [] pos) (qO0 X.K tl):=by
 intro pins s σ H R I h
 refine Call_ (qA4 I hg hm boot_zip (PyProof.Rows.callWith_type1 (thn (hl pos pins s σ H _ I h) fun us s1 ⟨vs,H1,I1,r1,q1⟩=>?_) (by rw [hs,hs2]) (by rw [hs2];rfl)))
 obtain⟨a,b,e,⟨xs,hq1⟩,⟨ys,hq2⟩,q⟩:=q1
 subst e
 cases r1 with
 | cons r rr=>
  cases rr with
  | cons r' rr=>
   cases rr
   cases r
   cases r'
   obtain⟨its1,rv1,p1,hz1⟩:=I1.list hq1
   obtain⟨its2,rv2,p2,hz2⟩:=I1.list hq2
   refine call_zip_2 p1.isList p2.isList fun h' hz hTI hTO h1 h2 hsz hk=>?_
   refine wpAny_pyIter_zip hz ?_
   refine⟨s1.heap.objs.size+4,[s1.heap.objs.size+4,s1.heap.objs.size+2,s1.heap.objs.size+3,s1.heap.objs.size,s1.heap.objs.size+1],_,_,H1,rfl,I1.kept (t':=s1.toks) fun c o e=>hk c o e,qI8 _ _ _ _ _ a b (qGh _),⟨hz,hTI,⟨_,_,hTO⟩,h1,h2⟩,fun c hc=>?_,q⟩
   have hle:s1.heap.objs.size≤c:=by
    simp only [List.mem_cons,List.not_mem_nil,or_false] at hc
    rcases hc with rfl | rfl | rfl | rfl | rfl <;> omega
   exact I1.fpOk hle (I1.hok.fresh hle)
theorem qLz {K:PySem.W.Frag}{a b:Addr}{xs ys:List V}{g:TG}{tb:TS}{D:qFy}{σ:L2.St}{H:Hp}(Pv:Nat→L2.St→Hp→Prop)(hlen:xs.length=ys.length)(h0:Pv 0 σ H)(hl:∀ i σ H,i≤xs.length→Pv i σ H→SqL K H a xs∧SqL K H b ys)
 (hs:∀ i x y σ H p,xs[i]? =some x→ys[i]? =some y→Pv i σ H→H p=none→g (.ref p) σ (upd H p (.tup [x,y])) fun σ2 H2=>tb {D with nx:=Pv (i+1),ct:=Pv (i+1),bk:=D.nx} σ2 H2) (hd:∀ σ H,Pv xs.length σ H→D.nx σ H):
 ∃ W:Nat→Nat→L2.St→Hp→Prop,(∃ m,W 0 m σ H)∧∀ i m σ H,W i m σ H→
  ((Itz K a b).stop i H∧D.nx σ H)∨((Itz K a b).go i H∧∃ N:L2.St→Hp→Prop,(∀ σ' H',N σ' H'→∃ m',m' < m∧W (i+1) m' σ' H')∧∀ x H',(Itz K a b).yld i H x H'→g x σ H' fun σ2 H2=>tb {D with nx:=N,ct:=N,bk:=D.nx} σ2 H2):=by
 refine⟨fun i m σ H=>m=xs.length - i∧i≤xs.length∧Pv i σ H,⟨xs.length,by simp,Nat.zero_le _,h0⟩,?_⟩
 rintro i m σ H ⟨rfl,hi,p⟩
 obtain⟨q1,q2⟩:=hl i σ H hi p
 by_cases hlt:i < xs.length
 · have hlt2:i < ys.length:=by omega
   refine .inr ⟨⟨xs,ys,xs[i],ys[i],q1,q2,by simp [hlt],by simp [hlt2]⟩,Pv (i+1),fun σ' H' p'=>⟨xs.length - (i+1),by omega,rfl,hlt,p'⟩,fun x H' y=>?_⟩
   obtain⟨z,v,u,hz,rfl,y1,y2,rfl⟩:=y
   exact hs i v u σ _ z (y1 xs q1) (y2 ys q2) p hz
 · have e:i=xs.length:=by omega
   subst e
   exact .inl ⟨⟨xs,ys,q1,q2,.inl (Nat.le_refl _)⟩,hd σ H p⟩
theorem qLp {k:Key}{v:Value}(h:qEy k v=true):RelV (kV k) v:=by
 rcases qx h with ⟨i,t,rfl,rfl⟩ | ⟨x,t,rfl,rfl⟩
 · exact⟨t,rfl⟩
 · exact⟨t,rfl⟩
section
variable {P : Program} {w : World} {K : PySem.W.Frag}
end
def EqIn (P:Program)(w:World)(A:Around)(s:Shared)(y x:Value):Prop:=∀ (E:Value→Shared→Prop) (Q:Bool→Shared→Prop),Q true s→wpAny (model P w) A (eqBool y x) Q E s
theorem EqIn.rc {P:Program}{w:World}{A:Around}{s:Shared}{l b:Addr}(h:∀ (E:Value→Shared→Prop) (Q:Value→Shared→Prop),Q (.bool true) s→wpAny (model P w) A (richCompare .Eq (.ref l) (.ref b)) Q E s):EqIn P w A s (.ref l) (.ref b):=by
 by_cases e:l=b
 · subst e
   exact fun E Q hq=>SeqAt.EqAt.same _ P w E Q hq
 · intro E Q hq
   unfold eqBool
   refine wpAny_holding (wpAny_ite_split (fun z=>?_) (fun _=>?_))
   · have:=eq_of_beq z
     injection this with this
     exact absurd this e
   · exact wpAny_bind (h E _ (wpAny_truthy_bool hq))
section
variable {X : Cx} {pins : List (Addr × Obj)} {σ : L2.St} {H : Hp} {s : Shared}
end
theorem qBv {X:Cx}{K:PySem.W.Frag}(h:X.K=K):wg X (.type "list") (fun xs H Q=>∃ p ys,xs=[.ref p]∧(SqL K H p ys∨SqT K H p ys)∧∀ l,H l=none→Q (.ref l) (upd H l (.lst ys))):=h ▸ j5
end L3
set_option maxRecDepth 100000
namespace L3
open PySem PySem.Spec PyProof.Rows L2
theorem qJm {K:PySem.W.Frag}{a:Addr}{xs:List V}{js:List Nat}{te:TE}{σ:L2.St}{H:Hp}{Q:VK}(Pv:Nat→List V→Hp→Prop)(h0:Pv 0 [] H)(hl:∀ i acc H,i≤xs.length→Pv i acc H→SqT K H a xs∧acc.length < sizeLine)
 (hs:∀ i x acc H,i < xs.length→xs[i]? =some x→Pv i acc H→te (some x::wl js σ) H fun v H'=>Nxt xs.length i (Pv (i+1) (acc++[v]) H')) (hd:∀ acc H,Pv xs.length acc H→∀ D,H D=none→Q (.ref D) (upd H D (.lst acc))):CompEnd js te σ Q (Itt K a) H:=by
 refine⟨fun i m acc H=>m=xs.length - i∧i≤xs.length∧Pv i acc H,⟨xs.length,by simp,Nat.zero_le _,h0⟩,?_⟩
 rintro i m acc H2 ⟨rfl,hi,p⟩
 obtain⟨q,hz⟩:=hl i acc H2 hi p
 refine⟨hz,?_⟩
 by_cases hlt:i < xs.length
 · refine .inr ⟨⟨xs,xs[i],q,by simp [hlt]⟩,fun x H3 y=>?_⟩
   obtain⟨e,y⟩:=y
   subst e
   exact hs i x acc _ hlt (y xs q) p
 · have e:i=xs.length:=by omega
   subst e
   exact .inl ⟨⟨xs,q,Nat.le_refl _⟩,hd acc H2 p⟩
theorem KV.keys {kvs:List (Key × V)}{vs:List (Key × Value)}(r:KV kvs vs):vs.map (·.1)=kvs.map (·.1):=by
 induction r with
 | nil=>rfl
 | cons h _ ih=>rw [List.map_cons,List.map_cons,ih,h.1]
theorem qLe {xs:List V}{us:List Value}(hl:xs.length=us.length)(h:∀ (j:Nat) (x:V) (u:Value),xs[j]? =some x→us[j]? =some u→RelV x u):Vals xs us:=by
 induction xs generalizing us with
 | nil=>
  cases us with
  | nil=>exact .nil
  | cons _ _=>simp at hl
 | cons x xs ih=>
  cases us with
  | nil=>simp at hl
  | cons u us=>exact .cons (h 0 x u rfl rfl) (ih (by simpa using hl) fun j y v e1 e2=>h (j+1) y v (by simpa using e1) (by simpa using e2))
theorem qAj {X:Cx}(hc:X.calm=true):wg X (.type "list") (fun xs H Q=>∃ d kvs,xs=[.ref d]∧Rd H d (.dK kvs)∧∀ l,H l=none→Q (.ref l) (upd H l (.lst (kvs.map fun p=>kV p.1)))):=by
 intro pins s σ H xs us Q I r h
 obtain⟨d,kvs,rfl,hd,q⟩:=h
 obtain⟨u,rfl,rx⟩:=qF9 r
 cases rx
 obtain⟨hz,hs,vs,rk,o,es,ep,ho,rest⟩:=hd.ok I.hok
 have hk:=KV.keys rk
 have hlen:vs.length=kvs.length:=by have:=congrArg List.length hk;simpa using this
 refine PySem.W.kdl_call (PySem.W.kdl_dict (knd:=jO X.prog X.w) (kvs:=vs) (ep:=ep) hs) (I.ok.hd hc) ⟨o,es,ho,rest⟩ (by omega) fun h' tk acc c kp hS hi=>?_
 refine⟨.ref s.heap.objs.size,_,I.laid (t':=tk) kp (Nat.le_refl _) (show ObjOk X.prog X.w _ h' _ (.lst (kvs.map fun p=>kV p.1)) from ⟨by simpa using hz,acc.toList,c,?_,by simpa using hS⟩),rfl,q _ (I.hok.fresh (Nat.le_refl _))⟩
 refine qLe (by rw [List.length_map];have:=hi.1;have:=Array.length_toList (xs:=acc);omega) fun j x u e1 e2=>?_
 obtain⟨k,y,e3,e4⟩:=hi.2 j u (by rw [← Array.getElem?_toList];exact e2)
 have e5:(vs.map (·.1))[j]? =some k:=by rw [List.getElem?_map,e3];rfl
 rw [hk,List.getElem?_map] at e5
 rw [List.getElem?_map] at e1
 cases e6:kvs[j]? with
 | none=>rw [e6] at e5;cases e5
 | some p=>
  rw [e6] at e1 e5
  cases e1
  cases e5
  exact qLp e4
variable {X : Cx}
end L3
namespace L3
open PySem PySem.Spec PyProof.Rows L2 PySem.NumText PySem.Builtin.Str
def qNj (l:List Nat):List Nat:=if l.head?=some 45 then l.tail else l
def qO4 (c:Nat):Bool:=!(occurrences "0123456789" ⟨#[c]⟩ 0 ("0123456789":Str).length 1).isEmpty
structure Fig (l:List Nat):Prop where
 ne:qNj l≠[]
 len:(qNj l).length≤60
 all:(qNj l).all qO4=true
end L3
namespace L3
open PySem PySem.Spec PyProof.Rows L2 PySem.NumText PySem.Builtin.Str
inductive qJ9 (l:List Nat):List Str→Prop where
 | none (h:l=[]):qJ9 l []
 | one {p:Str} (h:l=p.cps.toList) (hf:47 ∉ l):qJ9 l [p]
 | two {p q:Str} (h:l=p.cps.toList++47::q.cps.toList) (hp:47 ∉ p.cps.toList) (hq:47 ∉ q.cps.toList):qJ9 l [p,q]
 | more {p q r:Str} {t:List Str} (rest:List Nat) (h:l=p.cps.toList++47::rest) (hp:47 ∉ p.cps.toList) (hq:47∈rest):qJ9 l (p::q::r::t)
theorem qJy {X:Cx}{K:PySem.W.Frag}{e:Expr}{f:Str}{pos:Pos}{ta:TE}(h:X.K=K)(he:PE X e ta)(hb:attributeBase e f X.env (eval e X.env)=eval e X.env:=by rfl):PE X (.Attribute e f pos) (qMc K ta f):=h ▸ qLa he hb
theorem qM {G:Prop}(k:∀ X:Prop,(G→X)→X):G:=k G id
section
variable {X : Cx}
theorem qN {a:Expr}{ta:TE}{i:Int}{j}{p pos:Pos}(ha:PE X a ta):PE X (.Subscript a (.Constant (.int i) j p) pos) (tOp (qL3 X.K) ta (tC (.int i))):=ql qDm ha qG (fun _ _=>rfl)
theorem qX (i:Nat){x:Str}{e:Expr}{te:TE}{pos pos':Pos}(hN:X.N.Nodup)(he:PE X e te)(hi:X.N[i]? =some x:=by rfl)(hx:Loc X.env.scope x:=by exact Or.inl rfl)(hs:swapsWith e (some (.Name x pos')) pos.line X.env=pure false:=by rfl)(hf:X.fn x=true∨X.env.scope.names.lookup x=some .local:=by first | exact .inl rfl | exact .inr rfl | assumption):
 PS X (.Assign [.Name x pos'] e pos) (qL4 te (v8 i)):=qF0 hN hi hx he hs hf
end
end L3
set_option maxRecDepth 100000
namespace L3
open PySem PySem.Spec PyProof.Rows L2
end L3
set_option maxRecDepth 100000
namespace Lw
open PySem L2 L3 Mt
seal L2.PSs L2.PS L2.PE L2.PA L2.PT L2.PW L2.PC L2.PI L2.PG L2.PGs L2.PO
def top (i:Nat):Stmt:=PySem.Challenge.pw_reelcut_k43_whole_the_most.main.body.getD i (.Pass ⟨0,0,0,0⟩)
theorem scA {N P:List Str}{sc:Scope}(h1:sc.kind= .function:=by rfl)(h2:sc.isCoroutine=false:=by rfl)(h3:sc.isGenerator=false:=by rfl)(h4:N.Nodup:=by decide+kernel)(h5:N.take P.length=P:=by rfl)(h6:∀ x∈P,sc.names.lookup x=some .local∨sc.names.lookup x=some .cell:=by decide+kernel)(h7:∀ y∈sc.names,y.2≠ .free:=by decide+kernel):qL N P sc:=⟨h1,h2,h3,h4,h5,h6,h7⟩
abbrev vW:Stmt:=top 8
abbrev jl:Stmt:=top 9
abbrev vG:Stmt:=top 10
abbrev vg:Stmt:=top 11
abbrev qBp:Stmt:=top 12
abbrev wv:Stmt:=top 13
abbrev ve:Stmt:=top 14
abbrev vX:Stmt:=top 15
abbrev z6:Stmt:=top 16
abbrev vQ:Stmt:=top 17
abbrev qDo:Stmt:=top 23
abbrev jw:Stmt:=top 24
abbrev vd:Stmt:=top 25
abbrev xr:Stmt:=top 26
abbrev vI:Stmt:=top 27
abbrev vq:Stmt:=top 28
abbrev z9:Stmt:=top 29
abbrev qDu:Stmt:=top 30
abbrev jt:Stmt:=top 31
abbrev z7:Stmt:=top 32
abbrev kF:Stmt:=top 33
abbrev wZ:Stmt:=top 35
abbrev zC:Stmt:=top 36
abbrev xt:Stmt:=top 37
abbrev qA5:Stmt:=top 38
abbrev wb:Stmt:=top 39
abbrev wf:Stmt:=top 40
abbrev wm:Stmt:=top 41
abbrev xO:Stmt:=top 42
abbrev xD:Stmt:=top 43
abbrev ju:Stmt:=top 44
abbrev jc:Stmt:=top 45
abbrev kQ:Stmt:=top 46
abbrev w8:Stmt:=top 47
abbrev xy:Stmt:=top 48
abbrev xx:Stmt:=top 50
abbrev xT:Stmt:=top 51
abbrev kH:Stmt:=top 52
abbrev zB:Stmt:=top 53
abbrev qBr:Stmt:=top 54
abbrev xR:Stmt:=top 55
abbrev xZ:Stmt:=top 56
abbrev zp:Stmt:=top 57
abbrev qA3:Stmt:=top 58
abbrev xX:Stmt:=top 61
abbrev vY:Stmt:=top 62
abbrev zQ:Stmt:=top 63
abbrev jn:Stmt:=top 64
abbrev xC:Stmt:=top 65
abbrev qAd:Stmt:=top 66
abbrev xQ:Stmt:=top 67
abbrev kJ:Stmt:=top 68
abbrev kE:Stmt:=top 69
abbrev wj:Stmt:=top 70
abbrev jV:Stmt:=top 71
abbrev zL:Stmt:=top 72
abbrev qBy:Stmt:=top 73
abbrev vv:Stmt:=top 79
abbrev qCo:Stmt:=top 80
abbrev zw:Stmt:=top 81
abbrev xf:Stmt:=top 82
abbrev zT:Stmt:=top 83
abbrev vH:Stmt:=top 84
abbrev kX:Stmt:=top 85
abbrev j9:Stmt:=top 86
abbrev zx:Stmt:=top 87
abbrev qAz:Stmt:=top 88
abbrev qF2:Stmt:=top 89
abbrev qHo:Stmt:=top 90
abbrev qCy:Stmt:=top 91
abbrev qFh:Stmt:=top 92
abbrev qDb:Stmt:=top 93
abbrev kL:Stmt:=top 94
abbrev wU:Stmt:=top 97
abbrev kx:Stmt:=top 98
abbrev j8:Stmt:=top 100
abbrev xz:Stmt:=top 101
abbrev zO:Stmt:=top 102
abbrev kG:Stmt:=top 103
abbrev jv:Stmt:=top 104
abbrev zM:Stmt:=top 105
abbrev kI:Stmt:=top 106
abbrev xp:Stmt:=top 107
abbrev xN:Stmt:=top 108
abbrev z8:Stmt:=top 109
abbrev zR:Stmt:=top 110
abbrev je:Stmt:=top 111
abbrev zK:Stmt:=top 112
abbrev vJ:Stmt:=top 113
abbrev jb:Stmt:=top 114
abbrev wu:Stmt:=top 115
abbrev qKz:Stmt:=top 116
theorem qAb:qL ["x"] ["x"] (qH vW):=scA
theorem jK:qL ["one","other","rest"] ["one","other"] (qH jl):=scA
theorem kA:qL ["top","bottom","divisor"] ["top","bottom"] (qH vg):=scA
theorem qG9:qL ["one","other"] ["one","other"] (qH qBp):=scA
theorem qGk:qL ["one","other"] ["one","other"] (qH wv):=scA
theorem qEi:qL ["one","other"] ["one","other"] (qH ve):=scA
theorem qEj:qL ["one","other"] ["one","other"] (qH vX):=scA
theorem qC4:qL ["one","other"] ["one","other"] (qH z6):=scA
theorem qE2:qL ["one"] ["one"] (qH vQ):=scA
theorem sc_has_clip_form:qL ["item"] ["item"] (qH jw):=scA
theorem qEq:qL ["clip","k"] ["clip","k"] (qH vd):=scA
theorem qBs:qL ["clip","k"] ["clip","k"] (qH xr):=scA
theorem qE0:qL ["picture","many"] ["picture","many"] (qH vI):=scA
theorem qCw:qL ["clip","low","high"] ["clip","low","high"] (qH z9):=scA
theorem jm:qL ["first","step","many","room"] ["first","step","many"] (qH jt):=scA
theorem qCh:qL ["clip","reels"] ["clip","reels"] (qH z7):=scA
theorem qDd:qL ["clip","reels"] ["clip","reels"] (qH kF):=scA
theorem qBo:qL ["item"] ["item"] (qH xt):=scA
theorem jr:qL ["track","moment","begin","place","item","end"] ["track","moment"] (qH wf):=scA
theorem qGy:qL ["track","place"] ["track","place"] (qH wm):=scA
theorem qAe:qL ["track","place"] ["track","place"] (qH xO):=scA
theorem wY:qL ["track","place"] ["track","place"] (qH xD):=scA
theorem xh:qL ["track","moment","found"] ["track","moment"] (qH ju):=scA
theorem j3:qL ["track","moment","places"] ["track","moment"] (qH jc):=scA
theorem qCa:qL ["length"] ["length"] (qH xx):=scA
theorem qAl:qL ["length"] ["length"] (qH xT):=scA
theorem jk:qL ["track","spans","border","item"] ["track"] (qH kH):=scA
theorem qCe:qL ["length","j"] ["length","j"] (qH zB):=scA
theorem kN:qL ["track","moment","places","place","span"] ["track","moment"] (qH qBr):=scA
theorem qo:qL ["track","place","j","length","ahead","behind","shares","from_border","first","second"] ["track","place","j"] (qH xR):=scA
theorem qAp:qL ["table","number","moment"] ["table","number","moment"] (qH xX):=scA
theorem qD9:qL ["by"] ["by"] (qH vY):=scA
theorem kh:qL ["track","moment","found"] ["track","moment"] (qH zQ):=scA
theorem jJ:qL ["track","moment","found","left","right"] ["track","moment"] (qH jn):=scA
theorem wS:qL ["track","deed"] ["track","deed"] (qH xC):=scA
theorem qGz:qL ["track","place"] ["track","place"] (qH qAd):=scA
theorem qAh:qL ["most","by"] ["most","by"] (qH xQ):=scA
theorem qDn:qL ["clip","by","reels"] ["clip","by","reels"] (qH kJ):=scA
theorem qCn:qL ["left","right","by","reels"] ["left","right","by","reels"] (qH kE):=scA
theorem vk:qL ["track","place","by","reels","clip","changed"] ["track","place","by","reels"] (qH wj):=scA
theorem jC:qL ["track","first","last","by","reels","left","right","changed"] ["track","first","last","by","reels"] (qH jV):=scA
theorem vC:qL ["table","number","track","tracks"] ["table","number","track"] (qH zL):=scA
theorem wy:qL ["table","deed","reels","track","places"] ["table","deed","reels"] (qH qBy):=scA
theorem sc_check_change:qL ["table","deed","reels"] ["table","deed","reels"] (qH j9):=scA
theorem qCl:qL ["table","deed","reels"] ["table","deed","reels"] (qH kL):=scA
theorem zW:qL ["track","moment","room","mixed","found","item"] ["track","moment","room"] (qH wU):=scA
theorem xI:qL ["room","name","moment","tracks","track","told"] ["room","name","moment"] (qH kx):=scA
theorem we:qL ["_law_script","_law_k"] ["_law_script","_law_k"] (qH j8):=scA
theorem kO:qL ["_law_cell","_law_k","_law_number"] ["_law_cell","_law_k"] (qH xz):=scA
theorem km:qL ["_law_script","_law_first"] ["_law_script"] (qH zO):=scA
theorem zI:qL ["_law_draws_here","_law_found","_law_number"] ["_law_draws_here"] (qH kG):=scA
theorem jQ:qL ["_law_top","_law_bottom","_law_one","_law_other"] ["_law_top","_law_bottom"] (qH jv):=scA
theorem kz:qL ["_law_clip_here","_law_k","_law_reels_here","_law_value"] ["_law_clip_here","_law_k","_law_reels_here"] (qH zM):=scA
theorem jA:qL ["_law_draws_here","_law_reels_here","_law_names","_law_name","_law_step","_law_bottom","_law_start","_law_length"] ["_law_draws_here","_law_reels_here"] (qH kI):=scA
theorem jY:qL ["_law_draws_here","_law_names","_law_far","_law_reels_here","_law_name"] ["_law_draws_here"] (qH xp):=scA
theorem j7:qL ["_law_track","_law_found","_law_item"] ["_law_track"] (qH xN):=scA
theorem vx:qL ["_law_table","_law_deed","_law_by_here","_law_reels_here","e"] ["_law_table","_law_deed","_law_by_here","_law_reels_here"] (qH z8):=scA
theorem qB6:qL ["_law_found"] ["_law_found"] (qH zR):=scA
theorem qt:qL ["_law_table","_law_deed","_law_most","_law_reels_here","_law_by_here","_law_way","_law_other"] ["_law_table","_law_deed","_law_most","_law_reels_here"] (qH je):=scA
theorem qB5:qL ["_law_clip_here","_law_k"] ["_law_clip_here","_law_k"] (qH zK):=scA
theorem xM:qL ["_law_track","_law_deed","_law_place","_law_moment","_law_begins_here","_law_word","_law_by_here"] ["_law_track","_law_deed","_law_place","_law_moment"] (qH vJ):=scA
theorem qg:qL ["_law_track","_law_found","_law_deed","_law_place","_law_reels_here","_law_room","_law_items","_law_moment","_law_due_here"] ["_law_track","_law_found","_law_deed","_law_place","_law_reels_here"] (qH jb):=scA
theorem vN:qL ["_law_draws_here","_law_by_here"] ["_law_draws_here"] (qH wu):=scA
theorem ja:qL ["_law_script","_law_draws_here","_law_word","_law_by_here","_law_reels_here","_law_track","_law_place","_law_moment","_law_deed","_law_table","_law_found","_law_other","_law_nearer"] ["_law_script"] (qH qKz):=scA
abbrev zh:Stmt:=qKy (top 6) 0
theorem qIp:qL ["self","most"] ["self","most"] (qH zh):=⟨rfl,rfl,rfl,by decide+kernel,rfl,by decide+kernel,by decide+kernel⟩
set_option genInjectivity false
set_option genSizeOf false
structure Ads where
 A0:Addr
 B0:FuncData
 A1:Addr
 B1:FuncData
 A2:Addr
 B2:FuncData
 A3:Addr
 B3:FuncData
 A4:Addr
 B4:FuncData
 A5:Addr
 B5:FuncData
 A6:Addr
 B6:FuncData
 A7:Addr
 B7:FuncData
 A8:Addr
 B8:FuncData
 A9:Addr
 B9:FuncData
 A10:Addr
 B10:FuncData
 A11:Addr
 B11:FuncData
 A12:Addr
 B12:FuncData
 A13:Addr
 B13:FuncData
 A14:Addr
 B14:FuncData
 A15:Addr
 B15:FuncData
 A16:Addr
 B16:FuncData
 A17:Addr
 B17:FuncData
 A18:Addr
 B18:FuncData
 A19:Addr
 B19:FuncData
 A20:Addr
 B20:FuncData
 A21:Addr
 B21:FuncData
 A22:Addr
 B22:FuncData
 A23:Addr
 B23:FuncData
 A24:Addr
 B24:FuncData
 A25:Addr
 B25:FuncData
 A26:Addr
 B26:FuncData
 A27:Addr
 B27:FuncData
 A28:Addr
 B28:FuncData
 A29:Addr
 B29:FuncData
 A30:Addr
 B30:FuncData
 A31:Addr
 B31:FuncData
 A32:Addr
 B32:FuncData
 A33:Addr
 B33:FuncData
 A34:Addr
 B34:FuncData
 A35:Addr
 B35:FuncData
 A36:Addr
 B36:FuncData
 A37:Addr
 B37:FuncData
 A38:Addr
 B38:FuncData
 A39:Addr
 B39:FuncData
 A40:Addr
 B40:FuncData
 A41:Addr
 B41:FuncData
 A42:Addr
 B42:FuncData
 A43:Addr
 B43:FuncData
 A44:Addr
 B44:FuncData
 A45:Addr
 B45:FuncData
 A46:Addr
 B46:FuncData
 A47:Addr
 B47:FuncData
 A48:Addr
 B48:FuncData
 A49:Addr
 B49:FuncData
 A50:Addr
 B50:FuncData
 A51:Addr
 B51:FuncData
 A52:Addr
 B52:FuncData
 A53:Addr
 B53:FuncData
 A54:Addr
 B54:FuncData
 A55:Addr
 B55:FuncData
 A56:Addr
 B56:FuncData
 A57:Addr
 B57:FuncData
 A58:Addr
 B58:FuncData
 A59:Addr
 B59:FuncData
 A60:Addr
 B60:FuncData
 A61:Addr
 B61:FuncData
 A62:Addr
 B62:FuncData
 A63:Addr
 B63:FuncData
 A64:Addr
 B64:FuncData
 A65:Addr
 B65:FuncData
 A66:Addr
 B66:FuncData
 A67:Addr
 B67:FuncData
 A68:Addr
 B68:FuncData
 A69:Addr
 B69:FuncData
 A70:Addr
 B70:FuncData
 A71:Addr
 B71:FuncData
 A72:Addr
 B72:FuncData
 A73:Addr
 B73:FuncData
 A74:Addr
 B74:FuncData
 A75:Addr
 B75:FuncData
 A76:Addr
 B76:FuncData
 A77:Addr
 B77:FuncData
 A78:Addr
 B78:FuncData
 A79:Addr
 B79:FuncData
 A80:Addr
 B80:FuncData
 A81:Addr
 B81:FuncData
 A82:Addr
 B82:FuncData
 A83:Addr
 B83:FuncData
 A84:Addr
 B84:FuncData
 A85:Addr
 B85:FuncData
 A86:Addr
 B86:FuncData
 A87:Addr
 B87:FuncData
 A88:Addr
 B88:FuncData
 A89:Addr
 B89:FuncData
 A90:Addr
 B90:FuncData
 A91:Addr
 B91:FuncData
 k_CutError:Addr
 k_NoNumber:Addr
 k_NoClip:Addr
 k_NoPlace:Addr
 k_Mixed:Addr
 k_Short:Addr
 t_LETTERS:Tok
 t_LONGEST_NAME:Tok
 t_MOST_ROOM:Tok
 n_NOUGHT:Addr
 t_MOST_BY:Tok
 n_ROLLS:Addr
 n_LAYS:Addr
 n_PUSHES:Addr
 n_CHANGES:Addr
 n_WHOLE_SHARE:Addr
 fi_Short:Addr
 gi_Short:FuncData
structure Tx (K:PySem.W.Frag)(mg:Str→Option Value)(a:Ads):Prop where
 D0:L3.Def K mg "is_whole" vW ["x"] a.A0 a.B0
 D1:L3.Def K mg "common_divisor" jl ["one","other"] a.A1 a.B1
 D2:L3.Def K mg "is_fraction" vG ["x"] a.A2 a.B2
 D3:L3.Def K mg "fraction" vg ["top","bottom"] a.A3 a.B3
 D4:L3.Def K mg "sum_of" qBp ["one","other"] a.A4 a.B4
 D5:L3.Def K mg "less_by" wv ["one","other"] a.A5 a.B5
 D6:L3.Def K mg "times_of" ve ["one","other"] a.A6 a.B6
 D7:L3.Def K mg "quotient" vX ["one","other"] a.A7 a.B7
 D8:L3.Def K mg "is_before" z6 ["one","other"] a.A8 a.B8
 D9:L3.Def K mg "floor_of" vQ ["one"] a.A9 a.B9
 D10:L3.Def K mg "is_name" qDo ["thing"] a.A10 a.B10
 D11:L3.Def K mg "has_clip_form" jw ["item"] a.A11 a.B11
 D12:L3.Def K mg "place_at" vd ["clip","k"] a.A12 a.B12
 D13:L3.Def K mg "picture_at" xr ["clip","k"] a.A13 a.B13
 D14:L3.Def K mg "is_there" vI ["picture","many"] a.A14 a.B14
 D15:L3.Def K mg "check_clip" vq ["item","reels"] a.A15 a.B15
 D16:L3.Def K mg "clip_part" z9 ["clip","low","high"] a.A16 a.B16
 D17:L3.Def K mg "goes_on" qDu ["one","other"] a.A17 a.B17
 D18:L3.Def K mg "moments_there" jt ["first","step","many"] a.A18 a.B18
 D19:L3.Def K mg "head_room" z7 ["clip","reels"] a.A19 a.B19
 D20:L3.Def K mg "tail_room" kF ["clip","reels"] a.A20 a.B20
 D21:L3.Def K mg "is_length" wZ ["thing"] a.A21 a.B21
 D22:L3.Def K mg "has_nest_form" zC ["item"] a.A22 a.B22
 D23:L3.Def K mg "moments_of" xt ["item"] a.A23 a.B23
 D24:L3.Def K mg "one_form" qA5 ["some"] a.A24 a.B24
 D25:L3.Def K mg "length_of" wb ["track"] a.A25 a.B25
 D26:L3.Def K mg "item_at" wf ["track","moment"] a.A26 a.B26
 D27:L3.Def K mg "kind_at" wm ["track","place"] a.A27 a.B27
 D28:L3.Def K mg "place_ahead" xO ["track","place"] a.A28 a.B28
 D29:L3.Def K mg "place_behind" xD ["track","place"] a.A29 a.B29
 D30:L3.Def K mg "neighbours_at" ju ["track","moment"] a.A30 a.B30
 D31:L3.Def K mg "clips_at_border" jc ["track","moment"] a.A31 a.B31
 D32:L3.Def K mg "lies_within" kQ ["track","moment"] a.A32 a.B32
 D33:L3.Def K mg "item_part" w8 ["item","low","high"] a.A33 a.B33
 D34:L3.Def K mg "part_of_track" xy ["track","low","high"] a.A34 a.B34
 D35:L3.Def K mg "part_ahead" xx ["length"] a.A35 a.B35
 D36:L3.Def K mg "part_behind" xT ["length"] a.A36 a.B36
 D37:L3.Def K mg "mix_spans" kH ["track"] a.A37 a.B37
 D38:L3.Def K mg "mix_shares" zB ["length","j"] a.A38 a.B38
 D39:L3.Def K mg "mix_at" qBr ["track","moment"] a.A39 a.B39
 D40:L3.Def K mg "told_in_mix" xR ["track","place","j"] a.A40 a.B40
 D41:L3.Def K mg "taken_at_begin" xZ ["track","place"] a.A41 a.B41
 D42:L3.Def K mg "taken_at_end" zp ["track","place"] a.A42 a.B42
 D43:L3.Def K mg "most_mix" qA3 ["track","moment","reels"] a.A43 a.B43
 D44:L3.Def K mg "check_place" xX ["table","number","moment"] a.A44 a.B44
 D45:L3.Def K mg "check_by" vY ["by"] a.A45 a.B45
 D46:L3.Def K mg "clip_there" zQ ["track","moment"] a.A46 a.B46
 D47:L3.Def K mg "clip_and_sides" jn ["track","moment"] a.A47 a.B47
 D48:L3.Def K mg "places_named" xC ["track","deed"] a.A48 a.B48
 D49:L3.Def K mg "has_mix" qAd ["track","place"] a.A49 a.B49
 D50:L3.Def K mg "check_short" xQ ["most","by"] a.A50 a.B50
 D51:L3.Def K mg "most_slip" kJ ["clip","by","reels"] a.A51 a.B51
 D52:L3.Def K mg "most_roll" kE ["left","right","by","reels"] a.A52 a.B52
 D53:L3.Def K mg "slipped" wj ["track","place","by","reels"] a.A53 a.B53
 D54:L3.Def K mg "with_rolled_ends" jV ["track","first","last","by","reels"] a.A54 a.B54
 D55:L3.Def K mg "table_with" zL ["table","number","track"] a.A55 a.B55
 D56:L3.Def K mg "rolled" qBy ["table","deed","reels"] a.A56 a.B56
 D57:L3.Def K mg "stretch_of" vv ["deed"] a.A57 a.B57
 D58:L3.Def K mg "laid_by" qCo ["deed"] a.A58 a.B58
 D59:L3.Def K mg "laid_on_tied" zw ["deed"] a.A59 a.B59
 D60:L3.Def K mg "tracks_changed" xf ["table","deed"] a.A60 a.B60
 D61:L3.Def K mg "check_numbers" zT ["deed"] a.A61 a.B61
 D62:L3.Def K mg "touches_mix" vH ["track","low","high"] a.A62 a.B62
 D63:L3.Def K mg "check_mixes" kX ["table","deed"] a.A63 a.B63
 D64:L3.Def K mg "check_change" j9 ["table","deed","reels"] a.A64 a.B64
 D65:L3.Def K mg "nest_goes_on" zx ["one","other"] a.A65 a.B65
 D66:L3.Def K mg "can_heal" qAz ["track","places"] a.A66 a.B66
 D67:L3.Def K mg "healed" qF2 ["table","deed"] a.A67 a.B67
 D68:L3.Def K mg "mixed" qHo ["table","deed","reels"] a.A68 a.B68
 D69:L3.Def K mg "unmixed" qCy ["table","deed"] a.A69 a.B69
 D70:L3.Def K mg "relaid" qFh ["track","low","high","laid"] a.A70 a.B70
 D71:L3.Def K mg "changed" qDb ["table","deed"] a.A71 a.B71
 D72:L3.Def K mg "deed_done" kL ["table","deed","reels"] a.A72 a.B72
 D73:L3.Def K mg "told_on" wU ["track","moment","room"] a.A73 a.B73
 D74:L3.Def K mg "told_at" kx ["room","name","moment"] a.A74 a.B74
 D75:L3.Def K mg "_law_cell_at" j8 ["_law_script","_law_k"] a.A75 a.B75
 D76:L3.Def K mg "_law_mixed" xz ["_law_cell","_law_k"] a.A76 a.B76
 D77:L3.Def K mg "_law_draws" zO ["_law_script"] a.A77 a.B77
 D78:L3.Def K mg "_law_next" kG ["_law_draws_here"] a.A78 a.B78
 D79:L3.Def K mg "_law_fraction" jv ["_law_top","_law_bottom"] a.A79 a.B79
 D80:L3.Def K mg "_law_there" zM ["_law_clip_here","_law_k","_law_reels_here"] a.A80 a.B80
 D81:L3.Def K mg "_law_clip" kI ["_law_draws_here","_law_reels_here"] a.A81 a.B81
 D82:L3.Def K mg "_law_reels" xp ["_law_draws_here"] a.A82 a.B82
 D83:L3.Def K mg "_law_begins" xN ["_law_track"] a.A83 a.B83
 D84:L3.Def K mg "_law_done" z8 ["_law_table","_law_deed","_law_by_here","_law_reels_here"] a.A84 a.B84
 D85:L3.Def K mg "_law_whole" zR ["_law_found"] a.A85 a.B85
 D86:L3.Def K mg "_law_most_right" je ["_law_table","_law_deed","_law_most","_law_reels_here"] a.A86 a.B86
 D87:L3.Def K mg "_law_shown" zK ["_law_clip_here","_law_k"] a.A87 a.B87
 D88:L3.Def K mg "_law_due" vJ ["_law_track","_law_deed","_law_place","_law_moment"] a.A88 a.B88
 D89:L3.Def K mg "_law_told_right" jb ["_law_track","_law_found","_law_deed","_law_place","_law_reels_here"] a.A89 a.B89
 D90:L3.Def K mg "_law_by" wu ["_law_draws_here"] a.A90 a.B90
 D91:L3.Def K mg "law" qKz ["_law_script"] a.A91 a.B91
 c_CutError:mg "CutError"=some (.ref a.k_CutError)
 c_NoNumber:mg "NoNumber"=some (.ref a.k_NoNumber)
 c_NoClip:mg "NoClip"=some (.ref a.k_NoClip)
 c_NoPlace:mg "NoPlace"=some (.ref a.k_NoPlace)
 c_Mixed:mg "Mixed"=some (.ref a.k_Mixed)
 c_Short:mg "Short"=some (.ref a.k_Short)
 b_isinstance:mg "isinstance"=none
 b_int:mg "int"=none
 b_bool:mg "bool"=none
 b_abs:mg "abs"=none
 b_tuple:mg "tuple"=none
 b_len:mg "len"=none
 b_all:mg "all"=none
 b_str:mg "str"=none
 b_min:mg "min"=none
 b_sum:mg "sum"=none
 b_enumerate:mg "enumerate"=none
 b_max:mg "max"=none
 b_zip:mg "zip"=none
 b_list:mg "list"=none
 b_any:mg "any"=none
 b_range:mg "range"=none
 g_LETTERS:mg "LETTERS"=some (.str "abcdefghijklmnopqrstuvwxyz" a.t_LETTERS)
 g_LONGEST_NAME:mg "LONGEST_NAME"=some (.int 8 a.t_LONGEST_NAME)
 g_MOST_ROOM:mg "MOST_ROOM"=some (.int 1000000 a.t_MOST_ROOM)
 g_NOUGHT:mg "NOUGHT"=some (.ref a.n_NOUGHT)
 sq_NOUGHT:∀ H,SqT K H a.n_NOUGHT [.int 0,.int 1]
 g_MOST_BY:mg "MOST_BY"=some (.int 1000000 a.t_MOST_BY)
 g_ROLLS:mg "ROLLS"=some (.ref a.n_ROLLS)
 sq_ROLLS:∀ H,SqT K H a.n_ROLLS [.str "roll",.str "slip",.str "slide"]
 g_LAYS:mg "LAYS"=some (.ref a.n_LAYS)
 sq_LAYS:∀ H,SqT K H a.n_LAYS [.str "lay_in",.str "lay_over"]
 g_PUSHES:mg "PUSHES"=some (.ref a.n_PUSHES)
 sq_PUSHES:∀ H,SqT K H a.n_PUSHES [.str "lay_in",.str "open",.str "close"]
 g_CHANGES:mg "CHANGES"=some (.ref a.n_CHANGES)
 sq_CHANGES:∀ H,SqT K H a.n_CHANGES [.str "cut",.str "lay_in",.str "open",.str "close",.str "lift",.str "lay_over"]
 g_WHOLE_SHARE:mg "WHOLE_SHARE"=some (.ref a.n_WHOLE_SHARE)
 sq_WHOLE_SHARE:∀ H,SqT K H a.n_WHOLE_SHARE [.int 1,.int 1]
 x_NoPlace:L3.OwnX K a.k_NoPlace
 x_Mixed:L3.OwnX K a.k_Mixed
 ySS:PySem.W.exmOne K (.ref a.k_Short) (.ref a.k_Short)=some true
 e_Short:L3.ExcK K a.k_Short
 f_most:PySem.W.findIn K (.ref a.k_Short) "most"=some none
 i_Short:Fun K "__init__" "Short.__init__" zh a.fi_Short a.gi_Short
 ib_Short:Binds K a.gi_Short ["self","most"] []
 m_Short:L3.XMk K a.k_Short a.k_CutError a.fi_Short
 tk_Short:PySem.W.takerIn K a.k_Short "most"=some none
inductive qJs (K:PySem.W.Frag)(vs:List V)(H:Hp)(Q:VK)(_:XK):Prop
| mk (a:Addr) (ns:List Int) (_:vs=[.ref a]) (_:SqL K H a (ns.map V.int)) (_:ns.length≤63) (_:∀ H',Q (.bl true) H')
def qKb (H:Hp)(Q:VK)(p q:Int):Prop:=∀ z,H z=none→Q (.ref z) (upd H z (.tup [.int p,.int q]))
theorem jS {CX:CXT}{P:Program}{w:World}{K:PySem.W.Frag}{mg:Str→Option Value}{base:Heap}{ns:List Str}{n:Str}{sc:Scope}{ad:Addr}{cdv:Value}{A:Around}{outer:List Env}{s:Shared}{H:Hp}{E:XK}:(qI4 CX P w K mg base ns n sc ad cdv A outer s H E).K=K:=rfl
theorem qc {CX:CXT}{P:Program}{w:World}{K:PySem.W.Frag}{mg:Str→Option Value}{base:Heap}{ns:List Str}{n:Str}{sc:Scope}{ad:Addr}{cdv:Value}{A:Around}{outer:List Env}{s:Shared}{H:Hp}{E:XK}:(qI4 CX P w K mg base ns n sc ad cdv A outer s H E).nox.K=K:=rfl
theorem sL0:(0:Nat)≤sizeLine:=by decide
theorem sL1:(1:Nat)≤sizeLine:=by decide
theorem sL2:(2:Nat)≤sizeLine:=by decide
theorem sL3:(3:Nat)≤sizeLine:=by decide
theorem sL4:(4:Nat)≤sizeLine:=by decide
theorem sL5:(5:Nat)≤sizeLine:=by decide
theorem glt {α:Type}{xs:List α}{i:Nat}{x:α}(h:xs[i]? =some x):i < xs.length:=(List.getElem?_eq_some_iff.mp h).1
theorem ixT {K:PySem.W.Frag}{σ:St}{H:Hp}{p:Addr}{xs:List V}{i:Int}{v:V}{Q:VK}(h:SqT K H p xs)(a:atI xs i=some v)(q:Q v H):tC (.int i) σ H (fun y H2=>qL3 K (.ref p) y H2 Q):=⟨p,xs,i,v,rfl,rfl,h,a,q⟩
theorem xo {K:PySem.W.Frag}{σ:St}{H:Hp}{p:Addr}{xs:List V}{i:Int}{v:V}{Q:VK}{j:Nat}(e:σ[j]? =some (some (.ref p)))(h:SqT K H p xs)(a:atI xs i=some v)(q:Q v H):tOp (qL3 K) (qM5 j) (tC (.int i)) σ H Q:=⟨.ref p,e,p,xs,i,v,rfl,rfl,h,a,q⟩
theorem ixO {K:PySem.W.Frag}{σ:St}{H:Hp}{p:Addr}{xs:List V}{i:Int}{v:V}{Q:VK}{j:Nat}(h:H p=some (.tup xs))(a:atI xs i=some v)(q:Q v H)(e:σ[j]? =some (some (.ref p)):=by rfl):tOp (qL3 K) (qM5 j) (tC (.int i)) σ H Q:=xo e (SqT.of h) a q
section
variable {P : Program} {w : World} {K : W.Frag} {mg : Str → Option Value} {base : Heap} {a : Ads}
inductive qD7 (vs:List V)(H:Hp)(Q:VK)(_:XK):Prop
| mk (i:Int) (_:vs=[.int i]) (_:Q (.bl true) H)
theorem wN (T:Tx K mg a):FnOk P w K mg base CX0 1 a.A0 a.B0 ["x"] qD7:=by
 refine T.D0.F.ok qAb (fun vs H Q E h=>?_) (fun cdv A outer s H vs Q E hr h=>?_)
 · obtain⟨i,rfl,_⟩:=h
   rfl
 refine qM fun _ Y=>?_
 obtain⟨i,rfl,q⟩:=h
 apply Y
 refine⟨_,(qE (qK (qA6 (qZ jd rfl T.b_isinstance rfl (qA (pv 0) (qA (qGc rfl T.b_int rfl) qC))) (wo (qFs (qZ jd rfl T.b_isinstance rfl (qA (pv 0) (qA (qGc rfl T.b_bool rfl) qC)))))))),?_⟩
 try dsimp only [jS,qc]
 refine⟨_,rfl,_,_,_,true,rfl,.int i,⟨_,.inl ⟨rfl,rfl⟩⟩,true,rfl,xn ?_⟩
 refine⟨_,rfl,_,_,_,false,rfl,.int i,⟨_,.inl ⟨rfl,by kernel_rfl⟩⟩,false,rfl,?_⟩
 exact q
inductive vO (vs:List V)(H:Hp)(Q:VK)(_:XK):Prop
| mk (i j:Int) (_:vs=[.int i,.int j]) (_:Q (.int ((Int.gcd i j:Nat):Int)) H)
theorem vM (T:Tx K mg a):FnOk P w K mg base CX0 1 a.A1 a.B1 ["one","other"] vO:=by
 refine T.D1.F.ok jK (fun vs H Q E h=>?_) (fun cdv A outer s H vs Q E hr h=>?_)
 · obtain⟨i,j,rfl,_⟩:=h
   rfl
 refine qM fun _ Y=>?_
 obtain⟨i,j,rfl,q⟩:=h
 apply Y
 refine⟨_,(qB (wG PassesOwn.never (qO qA8 (pv 1) qG (qS _)) (qB (qX 2 jK.nd (qJ qi (pv 0) (pv 1)))
  (qB (qX 0 jK.nd (pv 1))
  (qE (qX 1 jK.nd (pv 2))))))
  (qE (qK (qZ jg rfl T.b_abs rfl (qA (pv 0) qC))))),?_⟩
 try dsimp only [jS,qc]
 refine wE (fun σ H'=>H'=H∧∃ (x y:Int) (v:Option V),σ=[some (.int x),some (.int y),v]∧Int.gcd x y=Int.gcd i j)
  (fun σ _=>match σ with | [_,some (.int y),_]=>y.natAbs | _=>0) ⟨rfl,i,j,none,rfl,rfl⟩ ?_ ?_
 · rintro σ H1 ⟨rfl,x,y,v,rfl,e⟩
   refine⟨_,rfl,rfl,_,rfl,?_⟩
   refine jN (fun c=>?_) (fun c=>?_)
   · have hy:y≠0:=by simpa using c
     refine⟨_,rfl,_,rfl,_,_,rfl,rfl,hy,_,rfl,_,rfl,⟨rfl,y,x.fmod y,_,rfl,?_⟩,?_⟩
     · rw [qFn];exact e
     · exact qH2 x y hy
   · have hy:y=0:=by simpa using c
     subst hy
     refine⟨_,rfl,x,rfl,?_⟩
     have e2:(if x < 0 then -x else x)=((Int.gcd i j:Nat):Int):=by
      rw [← e,Int.gcd_zero_right]
      split <;> omega
     rw [e2]
     exact q
 · rintro σ H1 Q1 Q2 hq h
   refine qM fun _ Y=>?_
   obtain⟨v,e,s,k,hk,z⟩:=h
   apply Y
   exact⟨v,e,s,k,hk,hq _ _ z⟩
theorem qFx {t b:Int}(h:b≠0)(hb:b.natAbs < 2 ^ 8000):CDivB t (sg t b)∧CDivB b (sg t b):=by
 have h1:=qN6 (t:=t) h
 have h2:(sg t b).natAbs < 2 ^ 8000:=by
  rw [qFt]
  exact Nat.lt_of_le_of_lt (Nat.le_of_dvd (by omega) (Int.gcd_dvd_natAbs_right ..)) hb
 exact⟨⟨h1,h2⟩,⟨h1,h2⟩⟩
inductive qD6 (vs:List V)(H:Hp)(Q:VK)(_:XK):Prop
| mk (t b:Int) (_:vs=[.int t,.int b]) (_:b≠0) (_:b.natAbs < 2 ^ 8000) (_:qKb H Q (jP t b) (jF t b))
theorem jH (T:Tx K mg a):FnOk P w K mg base CX0 2 a.A3 a.B3 ["top","bottom"] qD6:=by
 refine T.D3.F.ok kA (fun vs H Q E h=>?_) (fun cdv A outer s H vs Q E hr h=>?_)
 · obtain⟨t,b,rfl,_⟩:=h
   rfl
 refine qM fun _ Y=>?_
 obtain⟨t,b,rfl,hb,hs,q⟩:=h
 apply Y
 refine⟨_,(qB (qf (PW.pt (vF (kT (jx (qI T.D0 (wN T) hr rfl (qA (pv 0) qC)))) (zr (kT (jx (qI T.D0 (wN T) hr rfl (qA (pv 1) qC))))))) wX qP)
  (qB (qf (qO jj (pv 1) qG (qS _)) wX qP)
  (qB (qX 2 kA.nd (qI T.D1 (vM T) hr rfl (qA (pv 0) (qA (pv 1) qC))))
  (qB (qf (qO xL (pv 1) qG (qS _)) (qE (qX 2 kA.nd (v5 xg (pv 2)))) qP)
  (qE (qK (jI (qA (qJ jG (pv 0) (pv 2)) (qA (qJ jG (pv 1) (pv 2)) qC))))))))),?_⟩
 try dsimp only [jS,qc]
 refine⟨_,rfl,t,rfl,true,rfl,xY ?_⟩
 refine⟨_,rfl,b,rfl,true,rfl,xY ?_⟩
 refine⟨_,rfl,rfl,_,rfl,?_⟩
 refine jN (fun c=>absurd (by simpa using c) hb) (fun _=>?_)
 refine⟨_,rfl,_,rfl,t,b,rfl,?_⟩
 refine⟨_,rfl,_,_,rfl,rfl,_,rfl,?_⟩
 obtain⟨d1,d2⟩:=qFx (t:=t) hb hs
 refine jN (fun c=>?_) (fun c=>?_)
 · have c':b < 0:=by simpa using c
   have e:-((Int.gcd t b:Nat):Int)=sg t b:=by unfold sg;rw [if_pos c']
   have q':qKb H Q (t.fdiv (-((Int.gcd t b:Nat):Int))) (b.fdiv (-((Int.gcd t b:Nat):Int))):=by rw [e];exact q
   exact⟨_,rfl,_,rfl,_,rfl,_,rfl,_,_,rfl,rfl,(by rw [e];exact d1),_,rfl,_,rfl,_,_,rfl,rfl,(by rw [e];exact d2),sL2,q'⟩
 · have c':¬ b < 0:=by simpa using c
   have e:((Int.gcd t b:Nat):Int)=sg t b:=by unfold sg;rw [if_neg c']
   have q':qKb H Q (t.fdiv ((Int.gcd t b:Nat):Int)) (b.fdiv ((Int.gcd t b:Nat):Int)):=by rw [e];exact q
   exact⟨_,rfl,_,rfl,_,_,rfl,rfl,(by rw [e];exact d1),_,rfl,_,rfl,_,_,rfl,rfl,(by rw [e];exact d2),sL2,q'⟩
def Pr (K:W.Frag)(H:Hp)(v:V)(p q:Int):Prop:=∃ z,v= .ref z∧SqT K H z [.int p,.int q]
def Sm (i:Int):Prop:=i.natAbs < 2 ^ 3000
theorem Sm.mul {i j:Int}(h1:Sm i)(h2:Sm j):CMulB i j:=by
 unfold Sm at h1 h2
 have:(2:Nat) ^ 3000≤2 ^ 60000:=Nat.pow_le_pow_right (by decide) (by decide)
 exact .inr ⟨by omega,by omega⟩
theorem Sm.prod {i j:Int}(h1:Sm i)(h2:Sm j):(i*j).natAbs < 2 ^ 8000:=by
 unfold Sm at h1 h2
 rw [Int.natAbs_mul]
 have h3:i.natAbs*j.natAbs < 2 ^ 3000*2 ^ 3000:=Nat.mul_lt_mul'' h1 h2
 rw [← Nat.pow_add] at h3
 exact Nat.lt_of_lt_of_le h3 (Nat.pow_le_pow_right (by decide) (by decide))
theorem at0 {x y:V}:atI [x,y] 0=some x:=rfl
theorem at1 {x y:V}:atI [x,y] 1=some y:=rfl
inductive qIf (K:W.Frag)(vs:List V)(H:Hp)(Q:VK)(_:XK):Prop
| mk (x y:V) (p q r s:Int) (_:vs=[x,y]) (_:Pr K H x p q) (_:Pr K H y r s) (_:q≠0) (_:s≠0) (_:Sm p) (_:Sm q) (_:Sm r) (_:Sm s) (_:qKb H Q (jP (p*s+r*q) (q*s)) (jF (p*s+r*q) (q*s)))
theorem qIx (T:Tx K mg a):FnOk P w K mg base CX0 3 a.A4 a.B4 ["one","other"] (qIf K):=by
 refine T.D4.F.ok qG9 (fun vs H Q E h=>?_) (fun cdv A outer s H vs Q E hr h=>?_)
 · obtain⟨x,y,p,q,r,s,rfl,_⟩:=h
   rfl
 refine qM fun _ Y=>?_
 obtain⟨x,y,p,q,r,s',rfl,⟨z1,rfl,h1⟩,⟨z2,rfl,h2⟩,hq,hs,bp,bq,br,bs,k⟩:=h
 apply Y
 refine⟨_,(qE (qK (qI T.D3 (jH T) hr rfl (qA (qJ qY (qJ qm (qN (pv 0)) (qN (pv 1))) (qJ qm (qN (pv 1)) (qN (pv 0)))) (qA (qJ qm (qN (pv 0)) (qN (pv 1))) qC))))),?_⟩
 try dsimp only [jS,qc]
 refine(xo rfl h1 at0 (xo rfl h2 at1 ⟨_,_,rfl,rfl,bp.mul bs,?_⟩))
 refine(xo rfl h2 at0 (xo rfl h1 at1 ⟨_,_,rfl,rfl,br.mul bq,_,_,rfl,rfl,?_⟩))
 refine(xo rfl h1 at1 (xo rfl h2 at1 ⟨_,_,rfl,rfl,bq.mul bs,?_⟩))
 exact⟨_,_,rfl,Int.mul_ne_zero hq hs,bq.prod bs,k⟩
inductive qEa (K:W.Frag)(vs:List V)(H:Hp)(Q:VK)(_:XK):Prop
| mk (x:V) (p q:Int) (_:vs=[x]) (_:Pr K H x p q) (_:q≠0) (_:q.natAbs < 2 ^ 8000) (_:Q (.int (p.fdiv q)) H)
theorem xK (T:Tx K mg a):FnOk P w K mg base CX0 1 a.A9 a.B9 ["one"] (qEa K):=by
 refine T.D9.F.ok qE2 (fun vs H Q E h=>?_) (fun cdv A outer s H vs Q E hr h=>?_)
 · obtain⟨x,p,q,rfl,_⟩:=h
   rfl
 refine qM fun _ Y=>?_
 obtain⟨x,p,q,rfl,⟨z1,rfl,h1⟩,hq,bq,k⟩:=h
 apply Y
 refine⟨_,(qE (qK (qJ jG (qN (pv 0)) (qN (pv 0))))),?_⟩
 try dsimp only [jS,qc]
 exact(xo rfl h1 at0 (xo rfl h1 at1 ⟨_,_,rfl,rfl,⟨hq,bq⟩,k⟩))
theorem nz {j:Int}(h:j≠0:=by decide):j≠0:=h
theorem cdB {i j:Int}(h0:j≠0)(h:j.natAbs < 18446744073709551616):CDivB i j:=
 ⟨h0,Nat.lt_of_lt_of_le h (Nat.le_trans (by decide:18446744073709551616≤2 ^ 64) (Nat.pow_le_pow_right (by decide) (by decide)))⟩
theorem cmR {i j:Int}(h1:-(18446744073709551616:Int) < j)(h2:j < 18446744073709551616):CMulB i j:=.inl (.inr ⟨h1,h2⟩)
theorem cmL {i j:Int}(h1:-(18446744073709551616:Int) < i)(h2:i < 18446744073709551616):CMulB i j:=.inl (.inl ⟨h1,h2⟩)
theorem at3 {x y z:V}{i:Int}(h0:0≤i)(h1:i < 3):∃ v,atI [x,y,z] i=some v∧(v=x∨v=y∨v=z):=by
 have:i=0∨i=1∨i=2:=by omega
 rcases this with rfl | rfl | rfl
 · exact⟨x,rfl,.inl rfl⟩
 · exact⟨y,rfl,.inr (.inl rfl)⟩
 · exact⟨z,rfl,.inr (.inr rfl)⟩
theorem fm (i:Int){j:Int}(h:0 < j):0≤i.fmod j∧i.fmod j < j:=⟨Int.fmod_nonneg_of_pos i h,Int.fmod_lt_of_pos i h⟩
theorem cpw {n:Nat}(h:n≤1000000):qOg 10 (n:Int):=⟨by omega,by omega,by decide⟩
def qJz (n:Nat)(p q:Int):Prop:=0 < q∧Int.gcd p q=1∧p.natAbs < 2 ^ n∧q.natAbs < 2 ^ n
theorem Sm.of200 {i:Int}(h:i.natAbs < 2 ^ 200):Sm i:=Nat.lt_of_lt_of_le h (Nat.pow_le_pow_right (by decide) (by decide))
theorem qF3 {n:Nat}{t b:Int}(hb:0 < b)(h1:t.natAbs < 2 ^ n)(h2:b.natAbs < 2 ^ n):qJz n (jP t b) (jF t b):=
 ⟨jz (by omega),qEe (by omega),Nat.lt_of_le_of_lt (wF (by omega)) h1,Nat.lt_of_le_of_lt (xP (by omega)) h2⟩
inductive qE8 (K:W.Frag)(vs:List V)(H:Hp)(Q:VK)(_:XK):Prop
| mk (x y:V) (p q r s:Int) (_:vs=[x,y]) (_:Pr K H x p q) (_:Pr K H y r s) (_:q≠0) (_:s≠0) (_:Sm p) (_:Sm q) (_:Sm r) (_:Sm s) (_:qKb H Q (jP (p*r) (q*s)) (jF (p*r) (q*s)))
theorem qEc (T:Tx K mg a):FnOk P w K mg base CX0 3 a.A6 a.B6 ["one","other"] (qE8 K):=by
 refine T.D6.F.ok qEi (fun vs H Q E h=>?_) (fun cdv A outer s H vs Q E hr h=>?_)
 · obtain⟨x,y,p,q,r,s,rfl,_⟩:=h
   rfl
 refine qM fun _ Y=>?_
 obtain⟨x,y,p,q,r,s',rfl,⟨z1,rfl,h1⟩,⟨z2,rfl,h2⟩,hq,hs,bp,bq,br,bs,k⟩:=h
 apply Y
 refine⟨_,(qE (qK (qI T.D3 (jH T) hr rfl (qA (qJ qm (qN (pv 0)) (qN (pv 1))) (qA (qJ qm (qN (pv 0)) (qN (pv 1))) qC))))),?_⟩
 try dsimp only [jS,qc]
 refine(xo rfl h1 at0 (xo rfl h2 at0 ⟨_,_,rfl,rfl,bp.mul br,?_⟩))
 refine(xo rfl h1 at1 (xo rfl h2 at1 ⟨_,_,rfl,rfl,bq.mul bs,?_⟩))
 exact⟨_,_,rfl,Int.mul_ne_zero hq hs,bq.prod bs,k⟩
inductive qGs (K:W.Frag)(vs:List V)(H:Hp)(Q:VK)(_:XK):Prop
| mk (x y:V) (p q r s:Int) (_:vs=[x,y]) (_:Pr K H x p q) (_:Pr K H y r s) (_:q≠0) (_:s≠0) (_:Sm p) (_:Sm q) (_:Sm r) (_:Sm s) (_:qKb H Q (jP (p*s - r*q) (q*s)) (jF (p*s - r*q) (q*s)))
theorem vS (T:Tx K mg a):FnOk P w K mg base CX0 3 a.A5 a.B5 ["one","other"] (qGs K):=by
 refine T.D5.F.ok qGk (fun vs H Q E h=>?_) (fun cdv A outer s H vs Q E hr h=>?_)
 · obtain⟨x,y,p,q,r,s,rfl,_⟩:=h
   rfl
 refine qM fun _ Y=>?_
 obtain⟨x,y,p,q,r,s',rfl,⟨z1,rfl,h1⟩,⟨z2,rfl,h2⟩,hq,hs,bp,bq,br,bs,k⟩:=h
 apply Y
 refine⟨_,(qE (qK (qI T.D3 (jH T) hr rfl (qA (qJ qp (qJ qm (qN (pv 0)) (qN (pv 1))) (qJ qm (qN (pv 1)) (qN (pv 0)))) (qA (qJ qm (qN (pv 0)) (qN (pv 1))) qC))))),?_⟩
 try dsimp only [jS,qc]
 refine(xo rfl h1 at0 (xo rfl h2 at1 ⟨_,_,rfl,rfl,bp.mul bs,?_⟩))
 refine(xo rfl h2 at0 (xo rfl h1 at1 ⟨_,_,rfl,rfl,br.mul bq,_,_,rfl,rfl,?_⟩))
 refine(xo rfl h1 at1 (xo rfl h2 at1 ⟨_,_,rfl,rfl,bq.mul bs,?_⟩))
 exact⟨_,_,rfl,Int.mul_ne_zero hq hs,bq.prod bs,k⟩
inductive qEf (K:W.Frag)(vs:List V)(H:Hp)(Q:VK)(_:XK):Prop
| mk (x y:V) (p q r s:Int) (_:vs=[x,y]) (_:Pr K H x p q) (_:Pr K H y r s) (_:q≠0) (_:r≠0) (_:Sm p) (_:Sm q) (_:Sm r) (_:Sm s) (_:qKb H Q (jP (p*s) (q*r)) (jF (p*s) (q*r)))
theorem wz (T:Tx K mg a):FnOk P w K mg base CX0 3 a.A7 a.B7 ["one","other"] (qEf K):=by
 refine T.D7.F.ok qEj (fun vs H Q E h=>?_) (fun cdv A outer s H vs Q E hr h=>?_)
 · obtain⟨x,y,p,q,r,s,rfl,_⟩:=h
   rfl
 refine qM fun _ Y=>?_
 obtain⟨x,y,p,q,r,s',rfl,⟨z1,rfl,h1⟩,⟨z2,rfl,h2⟩,hq,hr',bp,bq,br,bs,k⟩:=h
 apply Y
 refine⟨_,(qE (qK (qI T.D3 (jH T) hr rfl (qA (qJ qm (qN (pv 0)) (qN (pv 1))) (qA (qJ qm (qN (pv 0)) (qN (pv 1))) qC))))),?_⟩
 try dsimp only [jS,qc]
 refine(xo rfl h1 at0 (xo rfl h2 at1 ⟨_,_,rfl,rfl,bp.mul bs,?_⟩))
 refine(xo rfl h1 at1 (xo rfl h2 at0 ⟨_,_,rfl,rfl,bq.mul br,?_⟩))
 exact⟨_,_,rfl,Int.mul_ne_zero hq hr',bq.prod br,k⟩
inductive NoW (H:Hp):V→Prop where
 | non:NoW H .non
 | bl (b:Bool):NoW H (.bl b)
 | str (z:Str):NoW H (.str z)
 | lst {a:Addr} {xs:List V} (e:H a=some (.lst xs)):NoW H (.ref a)
 | tup {a:Addr} {xs:List V} (e:H a=some (.tup xs)):NoW H (.ref a)
def WhB (H:Hp)(x:V)(b:Bool):Prop:=(∃ i:Int,x= .int i∧b=true)∨(NoW H x∧b=false)
theorem WhB.int {H:Hp}(i:Int):WhB H (.int i) true:=.inl ⟨i,rfl,rfl⟩
theorem WhB.no {H:Hp}{x:V}(h:NoW H x):WhB H x false:=.inr ⟨h,rfl⟩
theorem WhB.ty {H:Hp}{x:V}{b:Bool}(h:WhB H x b):∃ t i c,qFe K H x t∧W.kitOne K t (.type "int")=some i∧W.kitOne K t (.type "bool")=some c∧b=(i && !c):=by
 rcases h with ⟨i,rfl,rfl⟩ | ⟨h,rfl⟩
 · exact⟨_,true,false,.int i,by kernel_rfl,by kernel_rfl,rfl⟩
 · cases h with
   | non=>exact⟨_,false,false,.non,by kernel_rfl,by kernel_rfl,rfl⟩
   | bl b=>exact⟨_,true,true,.bl b,by kernel_rfl,by kernel_rfl,rfl⟩
   | str z=>exact⟨_,false,false,.str z,by kernel_rfl,by kernel_rfl,rfl⟩
   | lst e=>exact⟨_,false,false,.lst e,by kernel_rfl,by kernel_rfl,rfl⟩
   | tup e=>exact⟨_,false,false,.tup e,by kernel_rfl,by kernel_rfl,rfl⟩
inductive qBi (vs:List V)(H:Hp)(Q:VK)(_:XK):Prop
| mk (x:V) (b:Bool) (_:vs=[x]) (_:WhB H x b) (_:Q (.bl b) H)
theorem xV (T:Tx K mg a):FnOk P w K mg base CX0 1 a.A0 a.B0 ["x"] qBi:=by
 refine T.D0.F.ok qAb (fun vs H Q E h=>?_) (fun cdv A outer s H vs Q E hr h=>?_)
 · obtain⟨x,b,rfl,_⟩:=h
   rfl
 refine qM fun _ Y=>?_
 obtain⟨x,b,rfl,hx,q⟩:=h
 apply Y
 refine⟨_,(qE (qK (qA6 (qZ jd rfl T.b_isinstance rfl (qA (pv 0) (qA (qGc rfl T.b_int rfl) qC))) (wo (qFs (qZ jd rfl T.b_isinstance rfl (qA (pv 0) (qA (qGc rfl T.b_bool rfl) qC)))))))),?_⟩
 try dsimp only [jS,qc]
 refine qM fun _ Y=>?_
 obtain⟨t,i,c,ty,e1,e2,rfl⟩:=hx.ty (K:=K)
 apply Y
 refine⟨_,rfl,_,_,_,i,rfl,ty,⟨_,.inl ⟨rfl,e1⟩⟩,i,rfl,?_⟩
 cases i with
 | false=>exact xY q
 | true=>exact xn ⟨_,rfl,_,_,_,c,rfl,ty,⟨_,.inl ⟨rfl,e2⟩⟩,c,rfl,q⟩
inductive qDh (K:W.Frag)(vs:List V)(H:Hp)(Q:VK)(_:XK):Prop
| mk (x y:V) (p q r s:Int) (_:vs=[x,y]) (_:Pr K H x p q) (_:Pr K H y r s) (_:Sm p) (_:Sm q) (_:Sm r) (_:Sm s) (_:Q (.bl (decide (p*s < r*q))) H)
theorem qC1 (T:Tx K mg a):FnOk P w K mg base CX0 1 a.A8 a.B8 ["one","other"] (qDh K):=by
 refine T.D8.F.ok qC4 (fun vs H Q E h=>?_) (fun cdv A outer s H vs Q E hr h=>?_)
 · obtain⟨x,y,p,q,r,s,rfl,_⟩:=h
   rfl
 refine qM fun _ Y=>?_
 obtain⟨x,y,p,q,r,s',rfl,⟨z1,rfl,h1⟩,⟨z2,rfl,h2⟩,bp,bq,br,bs,k⟩:=h
 apply Y
 refine⟨_,(qE (qK (zF xL (qJ qm (qN (pv 0)) (qN (pv 1))) (qJ qm (qN (pv 1)) (qN (pv 0))) (qS _)))),?_⟩
 try dsimp only [jS,qc]
 refine(xo rfl h1 at0 (xo rfl h2 at1 ⟨_,_,rfl,rfl,bp.mul bs,?_⟩))
 exact(xo rfl h2 at0 (xo rfl h1 at1 ⟨_,_,rfl,rfl,br.mul bq,_,_,rfl,rfl,k⟩))
structure Cp (K:W.Frag)(H:Hp)(v:V)(n:Str)(p q r s len:Int):Prop where
 ex:∃ z z1 z2,v= .ref z∧SqT K H z [.str "clip",.str n,.ref z1,.ref z2,.int len]∧SqT K H z1 [.int p,.int q]∧SqT K H z2 [.int r,.int s]
theorem Cp.same {H H':Hp}{v:V}{n:Str}{p q r s len:Int}(e:Same H H')(h:Cp K H v n p q r s len):Cp K H' v n p q r s len:=
 let ⟨z,z1,z2,h1,h2,h3,h4⟩:=h.ex;⟨z,z1,z2,h1,L3.Same.tup e h2,L3.Same.tup e h3,L3.Same.tup e h4⟩
theorem qJw {x0 x1 x2 x3 x4:V}:atI [x0,x1,x2,x3,x4] 2=some x2:=rfl
theorem qEn {x0 x1 x2 x3 x4:V}:atI [x0,x1,x2,x3,x4] 3=some x3:=rfl
theorem qJu {p q r s k:Int}(hq:0 < q)(hs:0 < s):
 jP (p*jF (k*r) (1*s)+jP (k*r) (1*s)*q) (q*jF (k*r) (1*s))=jP (p*s+k*r*q) (q*s)∧
 jF (p*jF (k*r) (1*s)+jP (k*r) (1*s)*q) (q*jF (k*r) (1*s))=jF (p*s+k*r*q) (q*s):=by
 rw [Int.one_mul]
 have c:=xE (k*r) s
 have n0:=jz (t:=k*r) (b:=s) (by omega)
 generalize jP (k*r) s=m at c ⊢
 generalize jF (k*r) s=n at c n0 ⊢
 have b1:q*s≠0:=Int.mul_ne_zero (by omega) (by omega)
 have b2:q*n≠0:=Int.mul_ne_zero (by omega) (by omega)
 refine qFl b2 (jz b1) (qEe b1) ?_
 have e:=xE (p*s+k*r*q) (q*s)
 generalize jP (p*s+k*r*q) (q*s)=u at e ⊢
 generalize jF (p*s+k*r*q) (q*s)=v at e ⊢
 have h:(u*(q*n))*s=((p*n+m*q)*v)*s:=by
  calc (u*(q*n))*s=(u*(q*s))*n:=by rw [Int.mul_assoc,Int.mul_assoc,Int.mul_assoc,Int.mul_assoc,Int.mul_comm n s]
   _=((p*s+k*r*q)*v)*n:=by rw [e]
   _=(p*n*s+(k*r*n)*q)*v:=by
    have h1:(p*s+k*r*q)*v*n=(p*s+k*r*q)*n*v:=by rw [Int.mul_assoc,Int.mul_comm v n,← Int.mul_assoc]
    have h2:(p*s+k*r*q)*n=p*n*s+k*r*n*q:=by
     rw [Int.add_mul,Int.mul_assoc p s n,Int.mul_comm s n,← Int.mul_assoc,Int.mul_assoc (k*r) q n,Int.mul_comm q n,← Int.mul_assoc]
    rw [h1,h2]
   _=(p*n*s+(m*s)*q)*v:=by rw [← c]
   _=((p*n+m*q)*v)*s:=by
    have h3:p*n*s+m*s*q=(p*n+m*q)*s:=by rw [Int.add_mul,Int.mul_assoc m s q,Int.mul_comm s q,← Int.mul_assoc]
    rw [h3,Int.mul_assoc,Int.mul_comm s v,← Int.mul_assoc]
 exact Int.eq_of_mul_eq_mul_right (by omega) h
def Sm2 (i:Int):Prop:=i.natAbs < 2 ^ 700
theorem Sm2.sm {i:Int}(h:Sm2 i):Sm i:=Nat.lt_of_lt_of_le h (Nat.pow_le_pow_right (by decide) (by decide))
theorem qz {i j:Int}{n m:Nat}(h1:i.natAbs < 2 ^ n)(h2:j.natAbs < 2 ^ m):(i*j).natAbs < 2 ^ (n+m):=by
 rw [Int.natAbs_mul,Nat.pow_add]
 exact Nat.mul_lt_mul'' h1 h2
inductive qEp (K:W.Frag)(vs:List V)(H:Hp)(Q:VK)(_:XK):Prop
| mk (v:V) (n:Str) (p q r s len k:Int) (_:vs=[v,.int k]) (_:Cp K H v n p q r s len) (_:0 < q) (_:0 < s) (_:Sm2 p) (_:Sm2 q) (_:Sm2 r) (_:Sm2 s) (_:Sm2 k) (_:∀ z H',Same H H'→H' z=some (.tup [.int (jP (p*s+k*r*q) (q*s)),.int (jF (p*s+k*r*q) (q*s))])→Q (.ref z) H')
theorem xJ (T:Tx K mg a):FnOk P w K mg base CX0 4 a.A12 a.B12 ["clip","k"] (qEp K):=by
 refine T.D12.F.ok qEq (fun vs H Q E h=>?_) (fun cdv A outer s H vs Q E hr h=>?_)
 · obtain⟨v,n,p,q,r,s,len,k,rfl,_⟩:=h
   rfl
 refine qM fun _ Y=>?_
 obtain⟨v,n,p,q,r,s',len,k,rfl,⟨z,z1,z2,rfl,hc,h1,h2⟩,hq,hs,bp,bq,br,bs,bk,kk⟩:=h
 apply Y
 refine⟨_,(qE (qK (qI T.D4 (qIx T) hr rfl (qA (qN (pv 0)) (qA (qI T.D6 (qEc T) hr rfl (qA (qI T.D3 (jH T) hr rfl (qA (pv 1) (qA qG qC))) (qA (qN (pv 0)) qC))) qC))))),?_⟩
 try dsimp only [jS,qc]
 refine⟨_,rfl,z,_,_,_,rfl,rfl,hc,qJw,_,rfl,k,1,rfl,by decide,Nat.lt_of_lt_of_le (m:=2 ^ 1) (by decide) (Nat.pow_le_pow_right (by decide) (by decide)),fun y hy=>?_⟩
 have s1:=qF hy (.tup [.int (jP k 1),.int (jF k 1)])
 obtain⟨l1,l2⟩:=qFu (p:=k) (q:=1) (by decide) (Int.gcd_one_right ..)
 refine⟨_,rfl,z,_,_,_,rfl,rfl,L3.Same.tup s1 hc,qEn,?_⟩
 have one:Sm 1:=Nat.lt_of_lt_of_le (m:=2 ^ 1) (by decide) (Nat.pow_le_pow_right (by decide) (by decide))
 refine⟨_,_,k,1,r,s',rfl,⟨y,rfl,?_⟩,⟨z2,rfl,L3.Same.tup s1 h2⟩,by decide,by omega,bk.sm,one,br.sm,bs.sm,fun x hx=>?_⟩
 · have e:SqT K (upd H y (.tup [.int (jP k 1),.int (jF k 1)])) y [.int (jP k 1),.int (jF k 1)]:=SqT.of qD
   rw [l1,l2] at e ⊢
   exact e
 have s2:=s1.trans (qF hx (.tup [.int (jP (k*r) (1*s')),.int (jF (k*r) (1*s'))]))
 have b1:(1*s')≠0:=by omega
 have n0:=jz (t:=k*r) b1
 have bm:Sm (jP (k*r) (1*s')):=by
  refine Nat.lt_of_le_of_lt (wF b1) (Nat.lt_of_lt_of_le (qz bk br) (Nat.pow_le_pow_right (by decide) (by decide)))
 have bn:Sm (jF (k*r) (1*s')):=by
  refine Nat.lt_of_le_of_lt (xP b1) ?_
  rw [Int.one_mul]
  exact bs.sm
 refine⟨_,_,p,q,_,_,rfl,⟨z1,rfl,L3.Same.tup s2 h1⟩,⟨x,rfl,SqT.of qD⟩,by omega,by omega,bp.sm,bq.sm,bm,bn,fun u hu=>?_⟩
 obtain⟨e1,e2⟩:=qJu (p:=p) (r:=r) (k:=k) hq hs
 refine kk u _ (s2.trans (qF hu _)) ?_
 rw [qD,e1,e2]
theorem wV {t b:Int}(hb:0 < b):(jP t b).fdiv (jF t b)=t.fdiv b:=by
 have e1:=qJ2 t b
 have e2:=qHg t b
 have sp:0 < sg t b:=by
  have g:=vT (t:=t) (b:=b) (by omega)
  unfold sg
  rw [if_neg (by omega)]
  omega
 have q0:=jz (t:=t) (b:=b) (by omega)
 obtain⟨h1,h2⟩:=qk (p:=jP t b) q0
 obtain⟨h3,h4⟩:=qk (p:=t) hb
 generalize (jP t b).fdiv (jF t b)=f at h1 h2 ⊢
 generalize t.fdiv b=g at h3 h4 ⊢
 generalize jP t b=u at e1 h1 h2
 generalize jF t b=v at e2 h1 h2 q0
 generalize sg t b=w at e1 e2 sp
 subst e1 e2
 have k1:g*v≤u:=by
  rw [← Int.mul_assoc] at h3
  exact Int.le_of_mul_le_mul_right h3 sp
 have k2:u < (g+1)*v:=by
  rw [← Int.mul_assoc] at h4
  exact Int.lt_of_mul_lt_mul_right h4 (by omega)
 have k3:f < g+1:=Int.lt_of_mul_lt_mul_right (a:=v) (by omega) (by omega)
 have k4:g < f+1:=Int.lt_of_mul_lt_mul_right (a:=v) (by omega) (by omega)
 omega
inductive qBz (K:W.Frag)(vs:List V)(H:Hp)(Q:VK)(_:XK):Prop
| mk (v:V) (n:Str) (p q r s len k:Int) (_:vs=[v,.int k]) (_:Cp K H v n p q r s len) (_:0 < q) (_:0 < s) (_:Sm2 p) (_:Sm2 q) (_:Sm2 r) (_:Sm2 s) (_:Sm2 k) (_:∀ H',Same H H'→Q (.int ((p*s+k*r*q).fdiv (q*s))) H')
theorem jo (T:Tx K mg a):FnOk P w K mg base CX0 5 a.A13 a.B13 ["clip","k"] (qBz K):=by
 refine T.D13.F.ok qBs (fun vs H Q E h=>?_) (fun cdv A outer s H vs Q E hr h=>?_)
 · obtain⟨v,n,p,q,r,s,len,k,rfl,_⟩:=h
   rfl
 refine qM fun _ Y=>?_
 obtain⟨v,n,p,q,r,s',len,k,rfl,hc,hq,hs,bp,bq,br,bs,bk,kk⟩:=h
 apply Y
 refine⟨_,(qE (qK (qI T.D9 (xK T) hr rfl (qA (qI T.D12 (xJ T) hr rfl (qA (pv 0) (qA (pv 1) qC))) qC)))),?_⟩
 try dsimp only [jS,qc]
 refine⟨_,rfl,_,rfl,v,n,p,q,r,s',len,k,rfl,hc,hq,hs,bp,bq,br,bs,bk,fun z H' sH hz=>?_⟩
 have b1:q*s'≠0:=Int.mul_ne_zero (by omega) (by omega)
 refine⟨_,_,_,rfl,⟨z,rfl,SqT.of hz⟩,?_,?_,?_⟩
 · have:=jz (t:=p*s'+k*r*q) b1;omega
 · exact Nat.lt_of_le_of_lt (xP b1) (Nat.lt_of_lt_of_le (qz bq bs) (Nat.pow_le_pow_right (by decide) (by decide)))
 · rw [wV (Int.mul_pos hq hs)]
   exact kk H' sH
theorem qC2 {x0 x1 x2 x3 x4:V}:atI [x0,x1,x2,x3,x4] 1=some x1:=rfl
theorem qCk {x0 x1 x2 x3 x4:V}:atI [x0,x1,x2,x3,x4] 4=some x4:=rfl
theorem eq2 (a b c d:Int):qGu [.int a,.int b] [.int c,.int d]=(a == c && b == d):=by
 simp [qGu,eqV,List.range_succ]
structure Bn (n:Nat)(p q r s:Int):Prop where
 q0:0 < q
 s0:0 < s
 bp:p.natAbs < 2 ^ n
 bq:q.natAbs < 2 ^ n
 br:r.natAbs < 2 ^ n
 bs:s.natAbs < 2 ^ n
theorem zo {i:Int}{n m:Nat}(h:i.natAbs < 2 ^ n)(l:n≤m:=by decide):i.natAbs < 2 ^ m:=Nat.lt_of_lt_of_le h (Nat.pow_le_pow_right (by decide) l)
theorem Bn.mono {n m:Nat}{p q r s:Int}(h:Bn n p q r s)(l:n≤m:=by decide):Bn m p q r s:=⟨h.q0,h.s0,zo h.bp l,zo h.bq l,zo h.br l,zo h.bs l⟩
theorem Bn.part {p q r s k:Int}(h:Bn 110 p q r s)(hk:k.natAbs < 2 ^ 30):Bn 340 (plP p q r s k) (plQ p q r s k) r s:=by
 obtain⟨hq,hs,bp,bq,br,bs⟩:=h
 refine⟨qHh hq hs,hs,Nat.lt_of_le_of_lt (qK6 hq hs) ?_,Nat.lt_of_le_of_lt (qLg hq hs) (zo (qz bq bs)),zo br,zo bs⟩
 have h1:=qz bp bs
 have h2:=qz (qz hk br) bq
 have e:(2:Nat) ^ (110+110)+2 ^ (30+110+110)≤2 ^ 340:=by decide
 omega
inductive wB (vs:List V)(H:Hp)(Q:VK)(_:XK):Prop
| mk (t b:Int) (_:vs=[.int t,.int b]) (_:0 < b) (_:b.natAbs < 2 ^ 8000) (_:qKb H Q (jP t b) (jF t b))
theorem xk (T:Tx K mg a):FnOk P w K mg base CX0 1 a.A79 a.B79 ["_law_top","_law_bottom"] wB:=by
 refine T.D79.F.ok jQ (fun vs H Q E h=>?_) (fun cdv A outer s H vs Q E hr h=>?_)
 · obtain⟨t,b,rfl,_⟩:=h
   rfl
 refine qM fun _ Y=>?_
 obtain⟨t,b,rfl,hb,hb2,k⟩:=h
 apply Y
 refine⟨_,(qB (qX 2 jQ.nd (qZ jg rfl T.b_abs rfl (qA (pv 0) qC)))
  (qB (qX 3 jQ.nd (pv 1))
  (qB (wG PassesOwn.never (qO qA8 (pv 3) qG (qS _)) (qE (qM2 (i:=2) (j:=3) rfl jQ.nd rfl rfl (by decide) rfl rfl (qA (pv 3) (qA (qJ qi (pv 2) (pv 3)) qC)) rfl)))
  (qE (qK (jI (qA (qJ jG (pv 0) (pv 2)) (qA (qJ jG (pv 1) (pv 2)) qC)))))))),?_⟩
 try dsimp only [jS,qc]
 refine⟨_,rfl,t,rfl,_,rfl,?_⟩
 refine wE (fun σ H'=>H'=H∧∃ x y:Int,σ=[some (.int t),some (.int b),some (.int x),some (.int y)]∧0≤x∧0≤y∧Int.gcd x y=Int.gcd t b)
  (fun σ _=>match σ with | [_,_,_,some (.int y)]=>y.natAbs | _=>0) ⟨rfl,_,_,rfl,?_,by omega,?_⟩ ?_ ?_
 · split <;> omega
 · have e1:(if t < 0 then -t else t)=((t.natAbs:Nat):Int):=by split <;> omega
   rw [e1]
   rfl
 · rintro σ H1 ⟨rfl,x,y,rfl,h0,h1,e⟩
   refine⟨_,rfl,rfl,_,rfl,?_⟩
   refine jN (fun c=>?_) (fun c=>?_)
   · have hy:y≠0:=by simpa using c
     refine⟨_,rfl,_,rfl,_,rfl,_,_,rfl,rfl,hy,_,_,rfl,⟨rfl,y,x.fmod y,rfl,h1,Int.fmod_nonneg_of_pos x (by omega),?_⟩,?_⟩
     · rw [qFn];exact e
     · exact qH2 x y hy
   · have hy:y=0:=by simpa using c
     refine qM fun _ Y=>?_
     subst hy
     have e2:x=sg t b:=by
      unfold sg
      rw [if_neg (by omega),← e,Int.gcd_zero_right]
      omega
     obtain⟨d1,d2⟩:=qFx (t:=t) (b:=b) (by omega) hb2
     apply Y
     have q':qKb H1 Q (t.fdiv x) (b.fdiv x):=by rw [e2];exact k
     exact⟨_,rfl,_,rfl,_,_,rfl,rfl,(by rw [e2];exact d1),_,rfl,_,rfl,_,_,rfl,rfl,(by rw [e2];exact d2),sL2,q'⟩
 · rintro σ H1 Q1 Q2 hq h
   refine qM fun _ Y=>?_
   obtain⟨v,e,s,k,hk,z⟩:=h
   apply Y
   exact⟨v,e,s,k,hk,hq _ _ z⟩
theorem qEo {i:Int}{n:Nat}(h:i.natAbs < 2 ^ n)(l:n≤8000:=by decide):i.natAbs < 2 ^ 8000:=zo h l
inductive wk (K:W.Frag)(vs:List V)(H:Hp)(Q:VK)(_:XK):Prop
| mk (z:Addr) (ns:List Int) (i:Int) (_:vs=[.ref z,.int i]) (_:SqL K H z (ns.map V.int)) (_:ns.length≤63) (_:0≤i) (_:∀ c:Int,Q (.int c) H)
theorem zD (T:Tx K mg a):FnOk P w K mg base CX0 1 a.A75 a.B75 ["_law_script","_law_k"] (wk K):=by
 refine T.D75.F.ok we (fun vs H Q E h=>?_) (fun cdv A outer s H vs Q E hr h=>?_)
 · obtain⟨z,ns,i,rfl,_⟩:=h
   rfl
 refine qM fun _ Y=>?_
 obtain⟨z,ns,i,rfl,hS,hl,h0,k⟩:=h
 apply Y
 refine⟨_,(qB (qf (qO xL (pv 1) (qZ jB rfl T.b_len rfl (qA (pv 0) qC)) (qS _)) (qE (qK (ql qV (pv 0) (pv 1) (fun _ _=>rfl)))) qP)
  (qE (qK qG))),?_⟩
 try dsimp only [jS,qc]
 have hml:(ns.map V.int).length=ns.length:=List.length_map _
 refine⟨_,rfl,_,rfl,z,_,rfl,.inl hS,_,_,rfl,rfl,_,rfl,?_⟩
 refine jN (fun c=>?_) (fun _=>?_)
 · have c':i < ((ns.map V.int).length:Int):=of_decide_eq_true c
   rw [hml] at c'
   have hi:i.toNat < ns.length:=by omega
   have e:i=((i.toNat:Nat):Int):=by omega
   have hat:atI (ns.map V.int) ((i.toNat:Nat):Int)=some (.int ns[i.toNat]):=jX (by rw [List.getElem?_map,List.getElem?_eq_getElem hi];rfl)
   rw [← e] at hat
   exact⟨_,rfl,_,rfl,z,_,_,.int ns[i.toNat],rfl,rfl,hS,hat,k _⟩
 · exact k 0
inductive qBq (vs:List V)(H:Hp)(Q:VK)(_:XK):Prop
| mk (c i:Int) (_:vs=[.int c,.int i]) (_:-1000≤i) (_:i≤1000) (_:∀ n:Int,0≤n→n < 2147483647→Q (.int n) H)
theorem kS (T:Tx K mg a):FnOk P w K mg base CX0 1 a.A76 a.B76 ["_law_cell","_law_k"] qBq:=by
 refine T.D76.F.ok kO (fun vs H Q E h=>?_) (fun cdv A outer s H vs Q E hr h=>?_)
 · obtain⟨c,i,rfl,_⟩:=h
   rfl
 refine qM fun _ Y=>?_
 obtain⟨c,i,rfl,h0,h1,k⟩:=h
 apply Y
 refine⟨_,(qB (qX 2 kO.nd (qJ qi (qJ qm (qJ qY (qJ qY (pv 0) (qJ qm qG (pv 1))) qG) qG) qG))
  (qE (qK (qJ qi (qJ qm (pv 2) (qJ qY (qJ jG (pv 2) qG) qG)) qG)))),?_⟩
 try dsimp only [jS,qc]
 refine⟨_,rfl,_,rfl,_,_,rfl,rfl,cmL (by decide) (by decide),_,_,rfl,rfl,_,_,rfl,rfl,_,_,rfl,rfl,cmR (by decide) (by decide),_,_,rfl,rfl,nz,?_⟩
 have f:=fm ((c+7919*i+1)*48271) (show (0:Int) < 2147483647 by decide)
 refine⟨_,rfl,_,rfl,_,_,rfl,rfl,cdB (by decide) (by decide),_,_,rfl,rfl,_,_,rfl,rfl,cmL (by omega) (by omega),_,_,rfl,rfl,nz,?_⟩
 have g:=fm ((((c+7919*i+1)*48271).fmod 2147483647)*((((c+7919*i+1)*48271).fmod 2147483647).fdiv 1009+69621)) (show (0:Int) < 2147483647 by decide)
 exact k _ g.1 g.2
def thB (i m:Int):Bool:=decide (0≤i) && decide (i < m)
theorem qIl {N D m:Int}(hD:0 < D):thB (N.fdiv D) m=true↔InR N D m:=by
 rw [wR hD]
 simp [thB]
inductive qE5 (vs:List V)(H:Hp)(Q:VK)(_:XK):Prop
| mk (i m:Int) (_:vs=[.int i,.int m]) (_:Q (.bl (thB i m)) H)
theorem qEw (T:Tx K mg a):FnOk P w K mg base CX0 1 a.A14 a.B14 ["picture","many"] qE5:=by
 refine T.D14.F.ok qE0 (fun vs H Q E h=>?_) (fun cdv A outer s H vs Q E hr h=>?_)
 · obtain⟨i,m,rfl,_⟩:=h
   rfl
 refine qM fun _ Y=>?_
 obtain⟨i,m,rfl,q⟩:=h
 apply Y
 refine⟨_,(qE (qK (qA6 (zF qAm qG (pv 0) (qS _)) (wo (zF xL (pv 0) (pv 1) (qS _)))))),?_⟩
 try dsimp only [jS,qc]
 refine⟨_,rfl,_,_,rfl,rfl,_,rfl,?_⟩
 unfold thB at q
 by_cases h0:0≤i
 · rw [decide_eq_true h0] at q ⊢
   exact xn ⟨_,rfl,_,rfl,_,_,rfl,rfl,q⟩
 · rw [decide_eq_false h0] at q ⊢
   exact xY q
theorem qBg {c d:Int}(hd:0 < d)(g:Int.gcd c d=1):jP (0*d - c*1) (1*d)= -c∧jF (0*d - c*1) (1*d)=d:=by
 refine qFl (by omega) hd (by rw [Int.neg_gcd];exact g) ?_
 grind
inductive wC (K:W.Frag)(vs:List V)(H:Hp)(Q:VK)(_:XK):Prop
| mk (x y:V) (A B c d m:Int) (_:vs=[x,y,.int m]) (_:Pr K H x A B) (_:Pr K H y c d) (_:0 < B) (_:0 < d) (_:Int.gcd c d=1) (_:A.natAbs < 2 ^ 700) (_:B.natAbs < 2 ^ 700) (_:c.natAbs < 2 ^ 700) (_:d.natAbs < 2 ^ 700) (_:m.natAbs < 2 ^ 700) (_:∀ H',Same H H'→Q (.int (zk (A*d) (c*B) (B*d) m)) H')
theorem xc (T:Tx K mg a):FnOk P w K mg base CX0 4 a.A18 a.B18 ["first","step","many"] (wC K):=by
 refine T.D18.F.ok jm (fun vs H Q E h=>?_) (fun cdv A outer s H vs Q E hr h=>?_)
 · obtain⟨x,y,A,B,c,d,m,rfl,_⟩:=h
   rfl
 refine qM fun _ Y=>?_
 obtain⟨x,y,A',B,c,d,m,rfl,⟨z1,rfl,h1⟩,⟨z2,rfl,h2⟩,hB,hd,hg,bA,bB,bc,bd,bm,kk⟩:=h
 apply Y
 have hu:=hr.units0
 refine⟨_,(qB (qf (qO (qM3 hu) (pv 1) (xS (v:=.ref a.n_NOUGHT) rfl T.g_NOUGHT rfl) (qS _)) (qE (qK (xS (v:=.int 1000000) rfl T.g_MOST_ROOM ⟨_,rfl⟩))) qP)
  (qB (qf (kT (jx (qI T.D14 (qEw T) hr rfl (qA (qI T.D9 (xK T) hr rfl (qA (pv 0) qC)) (qA (pv 2) qC))))) (qE (qK qG)) qP)
  (qB (zG (qf (jx (qI T.D8 (qC1 T) hr rfl (qA (pv 1) (qA (xS (v:=.ref a.n_NOUGHT) rfl T.g_NOUGHT rfl) qC)))) (qE (qX 3 jm.nd (qJ qY (qI T.D9 (xK T) hr rfl (qA (qI T.D7 (wz T) hr rfl (qA (pv 0) (qA (qI T.D5 (vS T) hr rfl (qA (xS (v:=.ref a.n_NOUGHT) rfl T.g_NOUGHT rfl) (qA (pv 1) qC))) qC))) qC)) qG))) (qE (qX 3 jm.nd (v5 xg (qI T.D9 (xK T) hr rfl (qA (qI T.D7 (wz T) hr rfl (qA (qI T.D5 (vS T) hr rfl (qA (pv 0) (qA (qI T.D3 (jH T) hr rfl (qA (pv 2) (qA qG qC))) qC))) (qA (pv 1) qC))) qC)))))))
  (qE (qK (qZ (wT rfl) rfl T.b_min rfl (qA (pv 3) (qA (xS (v:=.int 1000000) rfl T.g_MOST_ROOM ⟨_,rfl⟩) qC)))))))),?_⟩
 try dsimp only [jS,qc]
 have S:∀ {i:Int},i.natAbs < 2 ^ 700→Sm i:=fun h=>zo h
 have one:Sm 1:=Sm.of200 (by decide)
 have nul:Sm 0:=Sm.of200 (by decide)
 have hBd:=Int.mul_pos hB hd
 have H1:∀ {H':Hp},Same H H'→SqT K H' z1 [.int A',.int B]:=fun e=>L3.Same.tup e h1
 have H2:∀ {H':Hp},Same H H'→SqT K H' z2 [.int c,.int d]:=fun e=>L3.Same.tup e h2
 refine⟨_,rfl,_,_,_,_,rfl,rfl,h2,T.sq_NOUGHT _,rfl,rfl,_,rfl,?_⟩
 rw [if_neg (by decide:¬ (false=true)),eq2]
 by_cases hc:c=0
 · have d1:d=1:=by
    subst hc
    rw [Int.gcd_zero_left] at hg
    omega
   rw [show (c == 0 && d == 1)=true by simp [hc,d1]]
   refine xn ?_
   have:=kk H (Same.refl _)
   unfold zk at this
   rw [if_pos (by rw [hc,Int.zero_mul])] at this
   exact this
 rw [show (c == 0 && d == 1)=false by simp [hc]]
 refine xY ?_
 have hcB:¬ (c*B=0):=Int.mul_ne_zero hc (by omega)
 have ef:A'.fdiv B=(A'*d).fdiv (B*d):=zX hB hBd (by grind)
 refine⟨_,rfl,_,A',B,rfl,⟨z1,rfl,h1⟩,by omega,qEo bB,_,rfl,_,_,rfl,_,rfl,?_⟩
 by_cases ht:0≤A'.fdiv B∧A'.fdiv B < m
 rotate_left
 · rw [show thB (A'.fdiv B) m=false by unfold thB;rw [Bool.eq_false_iff];simpa using ht]
   refine xn ?_
   have:=kk H (Same.refl _)
   unfold zk at this
   rw [if_neg hcB,if_pos (by rw [← ef];exact ht)] at this
   exact this
 rw [show thB (A'.fdiv B) m=true by simp [thB,ht]]
 refine xY ?_
 have res:∀ H',Same H H'→Q (.int (if 1000000 < (if c*B < 0 then (A'*d).fdiv (-(c*B))+1 else -((A'*d - m*(B*d)).fdiv (c*B))) then 1000000 else (if c*B < 0 then (A'*d).fdiv (-(c*B))+1 else -((A'*d - m*(B*d)).fdiv (c*B))))) H':=fun H' e=>by
  have:=kk H' e
  unfold zk at this
  rw [if_neg hcB,if_neg (by rw [← ef];simpa using ht)] at this
  exact this
 generalize hgg:(if c*B < 0 then (A'*d).fdiv (-(c*B))+1 else -((A'*d - m*(B*d)).fdiv (c*B)))=g at res
 refine⟨fun σ' H'=>σ'=[some (.ref z1),some (.ref z2),some (.int m),some (.int g)]∧Same H H',?_,?_⟩
 · refine⟨_,rfl,_,_,c,d,0,1,rfl,⟨z2,rfl,h2⟩,⟨_,rfl,T.sq_NOUGHT _⟩,S bc,S bd,nul,one,_,rfl,?_⟩
   by_cases hn:c*1 < 0*d
   · rw [decide_eq_true hn]
     refine xn ?_
     have c0:c < 0:=by omega
     refine⟨_,rfl,_,rfl,_,_,0,1,c,d,rfl,⟨_,rfl,T.sq_NOUGHT _⟩,⟨z2,rfl,h2⟩,by decide,by omega,nul,one,S bc,S bd,fun u hu'=>?_⟩
     rw [(qBg hd hg).1,(qBg hd hg).2]
     have w1:=qF hu' (.tup [.int (-c),.int d])
     have bnc:(-c).natAbs < 2 ^ 700:=by rw [Int.natAbs_neg];exact bc
     have hpos:0 < B*(-c):=Int.mul_pos hB (by omega)
     refine⟨_,_,A',B,-c,d,rfl,⟨z1,rfl,H1 w1⟩,⟨u,rfl,SqT.of qD⟩,by omega,by omega,S bA,S bB,S bnc,S bd,fun v hv=>?_⟩
     have w2:=w1.trans (qF hv (.tup [.int (jP (A'*d) (B*(-c))),.int (jF (A'*d) (B*(-c)))]))
     have lq:=jz (t:=A'*d) (b:=B*(-c)) (by omega)
     refine⟨_,_,_,rfl,⟨v,rfl,SqT.of qD⟩,by omega,Nat.lt_of_le_of_lt (xP (by omega)) (qEo (qz bB bnc)),?_⟩
     rw [wV hpos]
     refine⟨_,_,rfl,rfl,?_,w2⟩
     have e:g=(A'*d).fdiv (B* -c)+1:=by
      rw [← hgg,if_pos (by have:=Int.mul_neg_of_neg_of_pos c0 hB;exact this)]
      rw [show -(c*B)=B* -c by grind]
     rw [e]
     rfl
   · rw [decide_eq_false hn]
     refine xY ?_
     have c0:0 < c:=by omega
     obtain⟨l1,l2⟩:=qFu (p:=m) (q:=1) (by decide) (Int.gcd_one_right ..)
     refine⟨_,rfl,_,rfl,m,1,rfl,by decide,qEo (n:=1) (by decide),fun u hu'=>?_⟩
     rw [l1,l2]
     have w1:=qF hu' (.tup [.int m,.int 1])
     refine⟨_,_,A',B,m,1,rfl,⟨z1,rfl,H1 w1⟩,⟨u,rfl,SqT.of qD⟩,by omega,by decide,S bA,S bB,S bm,one,fun v hv=>?_⟩
     have hb1:B*1≠0:=by omega
     have cr:=xE (A'*1 - m*B) (B*1)
     have lq:=jz (t:=A'*1 - m*B) hb1
     have aP:=wF (t:=A'*1 - m*B) hb1
     have aQ:=xP (t:=A'*1 - m*B) hb1
     have w2:=w1.trans (qF hv (.tup [.int (jP (A'*1 - m*B) (B*1)),.int (jF (A'*1 - m*B) (B*1))]))
     have ev:=qD (H:=upd H u (.tup [.int m,.int 1])) (a:=v) (o:=.tup [.int (jP (A'*1 - m*B) (B*1)),.int (jF (A'*1 - m*B) (B*1))])
     generalize upd (upd H u (.tup [.int m,.int 1])) v (.tup [.int (jP (A'*1 - m*B) (B*1)),.int (jF (A'*1 - m*B) (B*1))])=H3 at w2 ev ⊢
     generalize jP (A'*1 - m*B) (B*1)=P' at cr aP ev ⊢
     generalize jF (A'*1 - m*B) (B*1)=Q' at cr aQ lq ev ⊢
     have sP:Sm P':=by
      have t:=qz bm bB
      have:(A'*1 - m*B).natAbs < 2 ^ 1500:=by
       have e:(2:Nat) ^ 700+2 ^ (700+700)≤2 ^ 1500:=by decide
       rw [Int.mul_one]
       exact Nat.lt_of_lt_of_le (Nat.lt_of_le_of_lt (Int.natAbs_sub_le _ _) (Nat.add_lt_add bA t)) e
      exact Nat.lt_of_le_of_lt aP (zo this)
     have bQ:Q'.natAbs < 2 ^ 700:=by rw [Int.mul_one] at aQ;omega
     refine⟨_,rfl,_,_,P',Q',c,d,rfl,⟨v,rfl,SqT.of ev⟩,⟨z2,rfl,H2 w2⟩,by omega,hc,sP,S bQ,S bc,S bd,fun x hx=>?_⟩
     have hpos:0 < Q'*c:=Int.mul_pos lq c0
     have w3:=w2.trans (qF hx (.tup [.int (jP (P'*d) (Q'*c)),.int (jF (P'*d) (Q'*c))]))
     have lq2:=jz (t:=P'*d) (b:=Q'*c) (by omega)
     refine⟨_,_,_,rfl,⟨x,rfl,SqT.of qD⟩,by omega,Nat.lt_of_le_of_lt (xP (by omega)) (qEo (qz bQ bc)),?_⟩
     rw [wV hpos]
     refine⟨_,rfl,?_,w3⟩
     have e:g= -(P'*d).fdiv (Q'*c):=by
      have hcB':=Int.mul_pos c0 hB
      rw [← hgg,if_neg (by omega)]
      rw [zX hcB' hpos (by grind:(A'*d - m*(B*d))*(Q'*c)=P'*d*(c*B))]
     rw [e]
     rfl
 rintro σ' H' ⟨rfl,sH⟩
 exact⟨_,rfl,_,_,rfl,res H' sH⟩
theorem qHy {H H':Hp}(e:Same H H'){a:Addr}{u:HO}(h:Rd H a u):Rd H' a u:=by
 rcases h with h | ⟨o,h⟩
 · exact .inl (e _ _ h)
 · exact .inr ⟨o,e _ _ h⟩
def Reel (H:Hp)(rd:Addr)(n:Str)(m:Int):Prop:=∃ kvs,Rd H rd (.dK kvs)∧qAg kvs (Sum.inr n)=some (.int m)
theorem Reel.same {H H':Hp}{rd:Addr}{n:Str}{m:Int}(e:Same H H')(h:Reel H rd n m):Reel H' rd n m:=let ⟨k,h1,h2⟩:=h;⟨k,qHy e h1,h2⟩
theorem Reel.get {H:Hp}{rd:Addr}{n:Str}{m:Int}(h:Reel H rd n m):DGet H rd (.str n) (some (.int m)):=let ⟨k,h1,h2⟩:=h;.inl ⟨k,Sum.inr n,h1,rfl,h2.symm⟩
def Vk (p q r s k:Int):Int:=p*s+k*r*q
structure Ch (H:Hp)(z:Addr)(n:Str)(p q r s len:Int):Prop where
 ex:∃ z1 z2,H z=some (.tup [.str "clip",.str n,.ref z1,.ref z2,.int len])∧H z1=some (.tup [.int p,.int q])∧H z2=some (.tup [.int r,.int s])
theorem qH5 {p q r s k0 e m:Int}(hq:0 < q)(hs:0 < s)(he:e=1∨e= -1)(h0:r=0→InR (Vk p q r s 0) (q*s) m):
 let g:=zk (plP p q r s k0*s) (e*r*plQ p q r s k0) (plQ p q r s k0*s) m
 0≤g∧g≤1000000∧(∀ j,0≤j→j < g→InR (Vk p q r s (k0+e*j)) (q*s) m)∧(g < 1000000→¬ InR (Vk p q r s (k0+e*g)) (q*s) m)∧(r=0→g=1000000):=by
 intro g
 have c:=qFi p q r s k0
 have hb:=qHh (p:=p) (r:=r) (k:=k0) hq hs
 have hbs:=Int.mul_pos hb hs
 have hqs:=Int.mul_pos hq hs
 have cross:∀ j:Int,InR (plP p q r s k0*s+j*(e*r*plQ p q r s k0)) (plQ p q r s k0*s) m↔InR (Vk p q r s (k0+e*j)) (q*s) m:=fun j=>by
  refine qG6 hbs hqs ?_
  unfold Vk
  generalize plP p q r s k0=u at c ⊢
  generalize plQ p q r s k0=v at c ⊢
  grind
 have key:=qLt (N:=plP p q r s k0*s) (R:=e*r*plQ p q r s k0) (D:=plQ p q r s k0*s) (m:=m) hbs (fun z=>by
  have r0:r=0:=by
   rcases Int.mul_eq_zero.mp z with z | z
   · rcases Int.mul_eq_zero.mp z with z | z
     · omega
     · exact z
   · omega
  have:=h0 r0
  have e0:=(cross 0).mpr (by
   have e:Vk p q r s (k0+e*0)=Vk p q r s 0:=by unfold Vk;rw [r0];grind
   rw [e];exact this)
  rw [Int.zero_mul,Int.add_zero] at e0
  exact e0)
 obtain⟨k1,k2,k3,k4,k5⟩:=key
 refine⟨k1,k2,fun j a b=>(cross j).mp (k3 j a b),fun z w=>k4 z ((cross _).mpr w),fun z=>k5 ?_⟩
 rw [z]
 grind
inductive qCz (K:W.Frag)(vs:List V)(H:Hp)(Q:VK)(_:XK):Prop
| mk (v:V) (n:Str) (p q r s len m:Int) (rd:Addr) (_:vs=[v,.ref rd]) (_:Cp K H v n p q r s len) (_:qJz 110 p q) (_:qJz 110 r s) (_:Reel H rd n m) (_:m.natAbs < 2 ^ 700) (_:∀ H',Same H H'→Q (.int (zk (plP p q r s (-1)*s) (-1*r*plQ p q r s (-1)) (plQ p q r s (-1)*s) m)) H')
theorem v3 (T:Tx K mg a):FnOk P w K mg base CX0 5 a.A19 a.B19 ["clip","reels"] (qCz K):=by
 refine T.D19.F.ok qCh (fun vs H Q E h=>?_) (fun cdv A outer s H vs Q E hr h=>?_)
 · obtain⟨v,n,p,q,r,s,len,m,rd,rfl,_⟩:=h
   rfl
 refine qM fun _ Y=>?_
 obtain⟨v,n,p,q,r,s',len,m,rd,rfl,hc,g1,g2,hrd,bm,kk⟩:=h
 apply Y
 have hu1:=qE6 hr
 refine⟨_,(qE (qK (qI T.D18 (xc T) hr rfl (qA (qI T.D12 (xJ T) hr rfl (qA (pv 0) (qA (v5 xg qG) qC))) (qA (qI T.D5 (vS T) hr rfl (qA (xS (v:=.ref a.n_NOUGHT) rfl T.g_NOUGHT rfl) (qA (qN (pv 0)) qC))) (qA (qv hu1 (pv 1) (qN (pv 0)) (fun _ _=>rfl)) qC)))))),?_⟩
 try dsimp only [jS,qc]
 have hb:Bn 110 p q r s':=⟨g1.1,g2.1,g1.2.2.1,g1.2.2.2,g2.2.2.1,g2.2.2.2⟩
 have hb7:=hb.mono (m:=700)
 have hp:=(hb.part (k:=-1) (by decide)).mono (m:=700)
 refine⟨_,rfl,_,rfl,v,n,p,q,r,s',len,-1,rfl,hc,hb7.q0,hb7.s0,hb7.bp,hb7.bq,hb7.br,hb7.bs,zo (n:=30) (by decide),fun y H1 s1 e1=>?_⟩
 refine qM fun _ Y=>?_
 obtain⟨z,z1,z2,e,h0,h1,h2⟩:=(hc.same s1).ex
 subst e
 apply Y
 have S:∀ {i:Int},i.natAbs < 2 ^ 700→Sm i:=fun h=>zo h
 refine(xo rfl h0 qEn ?_)
 refine⟨_,_,0,1,r,s',rfl,⟨_,rfl,T.sq_NOUGHT _⟩,⟨z2,rfl,h2⟩,by decide,by have:=hb.s0;omega,Sm.of200 (by decide),Sm.of200 (by decide),S hb7.br,S hb7.bs,fun u hu'=>?_⟩
 rw [(qBg hb.s0 g2.2.1).1,(qBg hb.s0 g2.2.1).2]
 have w1:=qF hu' (.tup [.int (-r),.int s'])
 refine⟨_,rfl,_,rfl,z,_,_,_,rfl,rfl,L3.Same.tup w1 h0,qC2,rd,_,rfl,(hrd.same (s1.trans w1)).get,?_⟩
 refine⟨_,_,_,_,-r,s',m,rfl,⟨y,rfl,SqT.of (w1 _ _ e1)⟩,⟨u,rfl,SqT.of qD⟩,hp.q0,hb.s0,by rw [Int.neg_gcd];exact g2.2.1,hp.bp,hp.bq,by rw [Int.natAbs_neg];exact hb7.br,hb7.bs,bm,fun H' sH=>?_⟩
 have:=kk H' (s1.trans (w1.trans sH))
 rw [show -1*r*plQ p q r s' (-1)= -r*plQ p q r s' (-1) by grind] at this
 exact this
inductive qD2 (K:W.Frag)(vs:List V)(H:Hp)(Q:VK)(_:XK):Prop
| mk (v:V) (n:Str) (p q r s len m:Int) (rd:Addr) (_:vs=[v,.ref rd]) (_:Cp K H v n p q r s len) (_:qJz 110 p q) (_:qJz 110 r s) (_:len.natAbs < 2 ^ 30) (_:Reel H rd n m) (_:m.natAbs < 2 ^ 700) (_:∀ H',Same H H'→Q (.int (zk (plP p q r s len*s) (1*r*plQ p q r s len) (plQ p q r s len*s) m)) H')
theorem vy (T:Tx K mg a):FnOk P w K mg base CX0 5 a.A20 a.B20 ["clip","reels"] (qD2 K):=by
 refine T.D20.F.ok qDd (fun vs H Q E h=>?_) (fun cdv A outer s H vs Q E hr h=>?_)
 · obtain⟨v,n,p,q,r,s,len,m,rd,rfl,_⟩:=h
   rfl
 refine qM fun _ Y=>?_
 obtain⟨v,n,p,q,r,s',len,m,rd,rfl,hc,g1,g2,bl,hrd,bm,kk⟩:=h
 apply Y
 have hu1:=qE6 hr
 refine⟨_,(qE (qK (qI T.D18 (xc T) hr rfl (qA (qI T.D12 (xJ T) hr rfl (qA (pv 0) (qA (qN (pv 0)) qC))) (qA (qN (pv 0)) (qA (qv hu1 (pv 1) (qN (pv 0)) (fun _ _=>rfl)) qC)))))),?_⟩
 try dsimp only [jS,qc]
 have hb:Bn 110 p q r s':=⟨g1.1,g2.1,g1.2.2.1,g1.2.2.2,g2.2.2.1,g2.2.2.2⟩
 have hb7:=hb.mono (m:=700)
 have hp:=(hb.part (k:=len) bl).mono (m:=700)
 have hc0:=hc
 refine qM fun _ Y=>?_
 obtain⟨z,z1,z2,e,h0,h1,h2⟩:=hc0.ex
 subst e
 apply Y
 refine⟨_,rfl,xo rfl h0 qCk ⟨_,n,p,q,r,s',len,len,rfl,hc,hb7.q0,hb7.s0,hb7.bp,hb7.bq,hb7.br,hb7.bs,zo bl,fun y H1 s1 e1=>?_⟩⟩
 refine⟨_,rfl,z,_,_,_,rfl,rfl,L3.Same.tup s1 h0,qEn,?_⟩
 refine⟨_,rfl,_,rfl,z,_,_,_,rfl,rfl,L3.Same.tup s1 h0,qC2,rd,_,rfl,(hrd.same s1).get,?_⟩
 refine⟨_,_,_,_,r,s',m,rfl,⟨y,rfl,SqT.of e1⟩,⟨z2,rfl,L3.Same.tup s1 h2⟩,hp.q0,hb.s0,g2.2.1,hp.bp,hp.bq,hb7.br,hb7.bs,bm,fun H' sH=>?_⟩
 have:=kk H' (s1.trans sH)
 rw [Int.one_mul] at this
 exact this
theorem qN7 {c A B:Prop} [Decidable c] (hc:¬ c)(h:A):if (!decide c)=true then A else B:=by
 rw [decide_eq_false hc]
 exact xn h
inductive Im where
 | clip (n:Str) (p q r s l:Int)
 | nest (n:Str) (b l:Int)
 | gap (l:Int)
 | mix (l:Int)
def Im.d:Im→D
 | .clip n p q r s l=>.tup [.leaf (.str "clip"),.leaf (.str n),.tup [.leaf (.int p),.leaf (.int q)],.tup [.leaf (.int r),.leaf (.int s)],.leaf (.int l)]
 | .nest n b l=>.tup [.leaf (.str "nest"),.leaf (.str n),.leaf (.int b),.leaf (.int l)]
 | .gap l=>.tup [.leaf (.str "gap"),.leaf (.int l)]
 | .mix l=>.tup [.leaf (.str "mix"),.leaf (.int l)]
def Im.wd:Im→Str
 | .clip .. =>"clip"
 | .nest .. =>"nest"
 | .gap _=>"gap"
 | .mix _=>"mix"
def Im.l:Im→Int
 | .clip _ _ _ _ _ l=>l
 | .nest _ _ l=>l
 | .gap l=>l
 | .mix l=>l
def TS (H H':Hp):Prop:=∀ b xs,H b=some (.tup xs)→H' b=some (.tup xs)
theorem TS.trans {H H1 H2:Hp}(a:TS H H1)(b:TS H1 H2):TS H H2:=fun c o h=>b c o (a c o h)
theorem qh {H H':Hp}(e:Same H H'):TS H H':=fun _ _ h=>e _ _ h
theorem qB9 {H:Hp}{l:Addr}{xs:List V}{o:HO}(h:H l=some (.lst xs)):TS H (upd H l o):=fun b ys hb=>by
 rw [qR (qL6 hb h (by intro z;cases z))];exact hb
theorem zS {H H':Hp}{y:Addr}{o:HO}(e:Same H H')(h:H y=none):Same H (upd H' y o):=fun b u hb=>by
 rw [qR (qU hb h)];exact e b u hb
def IsI (H:Hp):Im→V→Prop
 | .clip n p q r s l,v=>∃ z x y:Addr,v= .ref z∧H z=some (.tup [.str "clip",.str n,.ref x,.ref y,.int l])∧H x=some (.tup [.int p,.int q])∧H y=some (.tup [.int r,.int s])
 | .nest n b l,v=>∃ z:Addr,v= .ref z∧H z=some (.tup [.str "nest",.str n,.int b,.int l])
 | .gap l,v=>∃ z:Addr,v= .ref z∧H z=some (.tup [.str "gap",.int l])
 | .mix l,v=>∃ z:Addr,v= .ref z∧H z=some (.tup [.str "mix",.int l])
theorem IsI.ts {H H':Hp}(e:TS H H'):∀ {m:Im} {v:V},IsI H m v→IsI H' m v
 | .clip ..,_,⟨z,x,y,h,hz,hx,hy⟩=>⟨z,x,y,h,e _ _ hz,e _ _ hx,e _ _ hy⟩
 | .nest ..,_,⟨z,h,hz⟩=>⟨z,h,e _ _ hz⟩
 | .gap _,_,⟨z,h,hz⟩=>⟨z,h,e _ _ hz⟩
 | .mix _,_,⟨z,h,hz⟩=>⟨z,h,e _ _ hz⟩
theorem IsI.opn {H:Hp}{m:Im}{v:V}(h:IsI H m v):∃ (z:Addr) (xs:List V),v= .ref z∧H z=some (.tup xs)∧atI xs 0=some (.str m.wd)∧atI xs (-1)=some (.int m.l):=by
 cases m with
 | clip n p q r s l=>obtain⟨z,x,y,h,hz,_⟩:=h;exact⟨z,_,h,hz,rfl,rfl⟩
 | nest n b l=>obtain⟨z,h,hz⟩:=h;exact⟨z,_,h,hz,rfl,rfl⟩
 | gap l=>obtain⟨z,h,hz⟩:=h;exact⟨z,_,h,hz,rfl,rfl⟩
 | mix l=>obtain⟨z,h,hz⟩:=h;exact⟨z,_,h,hz,rfl,rfl⟩
theorem qFo {H:Hp}:∀ {xs:List V},xs.all xB=true→Reps K H (xs.map D.leaf) xs
 | [],_=>by simp [Reps]
 | x::xs,h=>by
  rw [List.all_cons,Bool.and_eq_true] at h
  rw [List.map_cons];unfold Reps Rep
  exact⟨⟨rfl,h.1⟩,qFo h.2⟩
def IsIs (H:Hp):List Im→List V→Prop
 | [],[]=>True
 | m::ms,v::vs=>IsI H m v∧IsIs H ms vs
 | _,_=>False
theorem IsIs.len {H:Hp}:∀ {ms:List Im} {vs:List V},IsIs H ms vs→vs.length=ms.length
 | [],[],_=>rfl
 | _::_,_::_,h=>by rw [List.length_cons,List.length_cons,IsIs.len h.2]
 | [],_::_,h=>h.elim
 | _::_,[],h=>h.elim
theorem IsIs.ts {H H':Hp}(e:TS H H'):∀ {ms:List Im} {vs:List V},IsIs H ms vs→IsIs H' ms vs
 | [],[],_=>trivial
 | _::_,_::_,h=>⟨IsI.ts e h.1,IsIs.ts e h.2⟩
 | [],_::_,h=>h.elim
 | _::_,[],h=>h.elim
theorem IsIs.get {H:Hp}:∀ {ms:List Im} {vs:List V} {i:Nat} {v:V},IsIs H ms vs→vs[i]? =some v→∃ m,ms[i]? =some m∧IsI H m v
 | [],[],_,_,_,h=>by simp at h
 | m::_,x::_,0,v,h,e=>by
  have e':x=v:=by simpa using e
  subst e'
  exact⟨m,rfl,h.1⟩
 | _::ms,_::vs,i+1,v,h,e=>by
  obtain⟨m,h1,h2⟩:=IsIs.get (i:=i) h.2 (by simpa using e)
  exact⟨m,by simpa using h1,h2⟩
 | [],_::_,_,_,h,_=>h.elim
 | _::_,[],_,_,h,_=>h.elim
theorem IsIs.get' {H:Hp}{ms:List Im}{vs:List V}{i:Nat}{m:Im}(h:IsIs H ms vs)(e:ms[i]? =some m):∃ v,vs[i]? =some v∧IsI H m v:=by
 have hi:i < vs.length:=by rw [h.len];exact(glt e)
 have ev:vs[i]? =some vs[i]:=List.getElem?_eq_getElem hi
 obtain⟨m',h1,h2⟩:=h.get ev
 rw [e] at h1
 cases h1
 exact⟨_,ev,h2⟩
theorem IsIs.app {H:Hp}:∀ {ms:List Im} {vs:List V} {ms':List Im} {vs':List V},IsIs H ms vs→IsIs H ms' vs'→IsIs H (ms++ms') (vs++vs')
 | [],[],_,_,_,h'=>h'
 | _::_,_::_,_,_,h,h'=>⟨h.1,h.2.app h'⟩
 | [],_::_,_,_,h,_=>h.elim
 | _::_,[],_,_,h,_=>h.elim
theorem IsIs.one {H:Hp}{m:Im}{v:V}(h:IsI H m v):IsIs H [m] [v]:=⟨h,trivial⟩
def Tr (H:Hp)(z:Addr)(ms:List Im):Prop:=∃ vs,H z=some (.lst vs)∧IsIs H ms vs
theorem Tr.same {H H':Hp}{z:Addr}{ms:List Im}(e:Same H H')(h:Tr H z ms):Tr H' z ms:=let ⟨vs,h1,h2⟩:=h;⟨vs,e _ _ h1,h2.ts (qh e)⟩
theorem IsIs.dl {H:Hp}:∀ {ms:List Im} {vs:List V},IsIs H ms vs→IsIs H ms.dropLast vs.dropLast
 | [],[],_=>trivial
 | [_],[_],_=>trivial
 | _::_::_,_::_::_,h=>⟨h.1,IsIs.dl h.2⟩
 | [],_::_,h=>h.elim
 | _::_,[],h=>h.elim
 | [_],_::_::_,h=>h.2.elim
 | _::_::_,[_],h=>h.2.elim
theorem IsIs.last {H:Hp}{ms:List Im}{vs:List V}(h:IsIs H ms vs)(hne:ms≠[]):∃ v m,vs[vs.length - 1]? =some v∧ms.getLast?=some m∧m∈ms∧IsI H m v:=by
 have hl:0 < ms.length:=List.length_pos_iff.mpr hne
 have hi:vs.length - 1 < vs.length:=by rw [h.len];omega
 have ev:vs[vs.length - 1]? =some vs[vs.length - 1]:=List.getElem?_eq_getElem hi
 obtain⟨m,h1,h2⟩:=h.get ev
 refine⟨_,m,ev,?_,List.mem_of_getElem? h1,h2⟩
 rw [h.len] at h1
 rw [List.getLast?_eq_getElem?]
 exact h1
def Im.mo:Im→Int
 | .mix _=>0
 | .clip _ _ _ _ _ l=>l
 | .nest _ _ l=>l
 | .gap l=>l
theorem qC9 {m:Im}(h:m.wd="mix"):∃ l,m= .mix l:=by
 cases m with
 | mix l=>exact⟨l,rfl⟩
 | clip=>exact absurd (show ("clip":Str)="mix" from h) (by decide+kernel)
 | nest=>exact absurd (show ("nest":Str)="mix" from h) (by decide+kernel)
 | gap=>exact absurd (show ("gap":Str)="mix" from h) (by decide+kernel)
theorem qOw {m:Im}(h:m.wd≠"mix"):m.mo=m.l:=by
 cases m with
 | mix l=>exact absurd rfl h
 | _=>rfl
theorem qDz {x y:Str}:decide (V.str x=V.str y)=decide (x=y):=by
 rw [Bool.eq_iff_iff];simp
inductive qBx (vs:List V)(H:Hp)(Q:VK)(_:XK):Prop
| mk (v:V) (m:Im) (_:vs=[v]) (_:IsI H m v) (_:Q (.int m.mo) H)
theorem kY (T:Tx K mg a):FnOk P w K mg base CX0 1 a.A23 a.B23 ["item"] qBx:=by
 refine T.D23.F.ok qBo (fun vs H Q E h=>?_) (fun cdv A outer s H vs Q E hr h=>?_)
 · obtain⟨v,m,rfl,_⟩:=h
   rfl
 refine qM fun _ Y=>?_
 obtain⟨v,m,rfl,hI,kk⟩:=h
 apply Y
 refine⟨_,(qE (qK (vD (qO jj (qN (pv 0)) qQ (qS _)) qG (ql qDm (pv 0) (v5 xg qG) (fun _ _=>rfl))))),?_⟩
 try dsimp only [jS,qc]
 refine qM fun _ Y=>?_
 obtain⟨z,xs,rfl,hz,h0,h1⟩:=hI.opn
 apply Y
 refine⟨_,rfl,z,xs,_,_,rfl,rfl,SqT.of hz,h0,rfl,_,rfl,jN (fun c=>?_) (fun c=>?_)⟩
 · obtain⟨l,rfl⟩:=qC9 (by simpa using c)
   exact kk
 · rw [qOw (by simpa using c)] at kk
   exact⟨_,rfl,_,rfl,z,xs,_,_,rfl,rfl,SqT.of hz,h1,kk⟩
def jp:Int→Nat→List Im→Int→Option (Nat × Int)
 | _,_,[],_=>none
 | b,i,m::ms,t=>if b≤t∧t < b+m.mo then some (i,t - b) else jp (b+m.mo) (i+1) ms t
def AtR (H:Hp)(Q:VK)(r:Option (Nat × Int)):Prop:=match r with
 | none=>∀ H',Same H H'→Q .non H'
 | some (i,d)=>∀ (p:Addr) (H':Hp),Same H H'→H' p=some (.tup [.int (i:Int),.int d])→Q (.ref p) H'
theorem zJ {α:Type}{xs:List α}{i:Nat}{x:α}(h:xs[i]? =some x):xs.drop i=x::xs.drop (i+1):=by
 have hi:i < xs.length:=(glt h)
 rw [List.drop_eq_getElem_cons hi]
 rw [List.getElem?_eq_getElem hi] at h
 cases h
 rfl
inductive qGo (vs:List V)(H:Hp)(Q:VK)(_:XK):Prop
| mk (z:Addr) (ms:List Im) (t:Int) (_:vs=[.ref z,.int t]) (_:Tr H z ms) (_:AtR H Q (jp 0 0 ms t))
theorem vo (T:Tx K mg a):FnOk P w K mg base CX0 3 a.A26 a.B26 ["track","moment"] qGo:=by
 refine T.D26.F.ok jr (fun vs H Q E h=>?_) (fun cdv A outer s H vs Q E hr h=>?_)
 · obtain⟨z,ms,t,rfl,_⟩:=h
   rfl
 refine qM fun _ Y=>?_
 obtain⟨z,ms,t,rfl,⟨xs,hz,his⟩,kk⟩:=h
 apply Y
 refine⟨_,(qB (qX 2 jr.nd qG)
  (qB (kj PassesOwn.never rfl (qIu rfl T.b_enumerate (qA (pv 0) qC)) (qIy rfl (zV (jR (i:=3) jr.nd rfl (Or.inl rfl)) (zV (jR (i:=4) jr.nd rfl (Or.inl rfl)) qEs))) (qB (qX 5 jr.nd (qJ qY (pv 2) (qI T.D23 (kY T) hr rfl (qA (pv 4) qC))))
  (qB (qf (PW.pt (vE (qO qAm (pv 2) (pv 1) (qS _)) (zN (qO xL (pv 1) (pv 5) (qS _))))) (qE (qK (jI (qA (pv 3) (qA (qJ qp (pv 1) (pv 2)) qC))))) qP)
  (qE (qX 2 jr.nd (pv 5))))))
  (qE (qK ku)))),?_⟩
 try dsimp only [jS,qc]
 refine⟨_,rfl,z,rfl,⟨_,SqL.of hz⟩,qJc (K:=K) (a:=z) (xs:=xs) (fun i σ H'=>∃ (b:Int) (o1 o2 o3:Option V),σ=[some (.ref z),some (.int t),some (.int b),o1,o2,o3]∧jp b i (ms.drop i) t=jp 0 0 ms t∧Same H H')
  ⟨0,none,none,none,rfl,rfl,Same.refl _⟩ ?_ ?_ ?_⟩
 · rintro i σ H' hi ⟨b,o1,o2,o3,rfl,_,e⟩
   exact SqL.of (e _ _ hz)
 · rintro i x σ H' p hx ⟨b,o1,o2,o3,rfl,hap,e⟩ hp
   refine qM fun _ Y=>?_
   obtain⟨m,hm,hIx⟩:=his.get hx
   apply Y
   have w1:=qF hp (.tup [.int (i:Int),x])
   have e1:=e.trans w1
   have hI:=hIx.ts (qh e1)
   rw [zJ hm,jp] at hap
   refine⟨p,_,rfl,SqT.of qD,rfl,_,_,rfl,_,_,rfl,rfl,?_⟩
   generalize upd H' p (.tup [.int (i:Int),x])=H1 at e1 hI ⊢
   refine⟨_,rfl,_,rfl,x,m,rfl,hI,_,_,rfl,rfl,?_⟩
   refine⟨_,rfl,_,rfl,_,_,rfl,rfl,_,rfl,?_⟩
   refine jN (fun c1=>?_) (fun c1=>?_)
   · refine⟨_,rfl,_,rfl,_,_,rfl,rfl,_,rfl,?_⟩
     refine jN (fun c2=>?_) (fun c2=>?_)
     · rw [if_pos ⟨by simpa using c1,by simpa using c2⟩] at hap
       rw [← hap] at kk
       refine⟨_,rfl,_,rfl,_,rfl,_,_,rfl,rfl,sL2,fun q hq=>?_⟩
       exact kk q _ (e1.trans (qF hq _)) qD
     · rw [if_neg (fun c=>c2 (by simpa using c.2))] at hap
       exact⟨_,rfl,_,_,_,_,rfl,hap,e1⟩
   · rw [if_neg (fun c=>c1 (by simpa using c.1))] at hap
     exact xY ⟨_,rfl,_,_,_,_,rfl,hap,e1⟩
 · rintro σ H' ⟨b,o1,o2,o3,rfl,hap,e⟩
   rw [his.len,List.drop_length,jp] at hap
   rw [← hap] at kk
   exact kk H' e
def Sh (H:Hp)(z:Addr)(p q r s:Int):Prop:=∃ x y:Addr,H z=some (.tup [.ref x,.ref y])∧H x=some (.tup [.int p,.int q])∧H y=some (.tup [.int r,.int s])
inductive qBb (vs:List V)(H:Hp)(Q:VK)(_:XK):Prop
| mk (l j:Int) (_:vs=[.int l,.int j]) (_:0≤j) (_:j < l) (_:l < 2 ^ 60) (_:∀ (z:Addr) (H':Hp),Same H H'→Sh H' z (jP (l - j) (l+1)) (jF (l - j) (l+1)) (jP (j+1) (l+1)) (jF (j+1) (l+1))→Q (.ref z) H')
theorem p60 {b:Int}(h0:0 < b)(h:b < 2 ^ 61):b.natAbs < 2 ^ 8000:=by
 have e:b.natAbs < 2 ^ 61:=by omega
 exact Nat.lt_of_lt_of_le e (Nat.pow_le_pow_right (by decide) (by decide))
theorem qB4 (T:Tx K mg a):FnOk P w K mg base CX0 3 a.A38 a.B38 ["length","j"] qBb:=by
 refine T.D38.F.ok qCe (fun vs H Q E h=>?_) (fun cdv A outer s H vs Q E hr h=>?_)
 · obtain⟨l,j,rfl,_⟩:=h
   rfl
 refine qM fun _ Y=>?_
 obtain⟨l,j,rfl,j0,j1,l1,kk⟩:=h
 apply Y
 refine⟨_,(qE (qK (jI (qA (qI T.D3 (jH T) hr rfl (qA (qJ qp (pv 0) (pv 1)) (qA (qJ qY (pv 0) qG) qC))) (qA (qI T.D3 (jH T) hr rfl (qA (qJ qY (pv 1) qG) (qA (qJ qY (pv 0) qG) qC))) qC))))),?_⟩
 try dsimp only [jS,qc]
 refine⟨_,rfl,_,rfl,_,_,rfl,rfl,_,rfl,_,_,rfl,rfl,_,_,rfl,by omega,p60 (by omega) (by omega),fun x hx=>?_⟩
 refine⟨_,rfl,_,_,rfl,rfl,_,rfl,_,_,rfl,rfl,_,_,rfl,by omega,p60 (by omega) (by omega),fun y hy=>?_⟩
 refine⟨sL2,fun z hz=>?_⟩
 have w1:=qF hx (.tup [.int (jP (l - j) (l+1)),.int (jF (l - j) (l+1))])
 have w2:=qF hy (.tup [.int (jP (j+1) (l+1)),.int (jF (j+1) (l+1))])
 have w3:=qF hz (.tup [.ref x,.ref y])
 exact kk z _ ((w1.trans w2).trans w3) ⟨x,y,qD,w3 _ _ (w2 _ _ qD),w3 _ _ qD⟩
def jE (ms:List Im)(i:Int):Str:=if i < 0 then "" else match ms[i.toNat]? with
 | some m=>m.wd
 | none=>""
theorem qDw {ms:List Im}{i:Nat}{m:Im}(h:ms[i]? =some m){k:Int}(hk:k=(i:Int)):jE ms k=m.wd:=by
 subst hk
 unfold jE
 rw [if_neg (by omega)]
 have e:((i:Int)).toNat=i:=by omega
 rw [e,h]
inductive qG0 (vs:List V)(H:Hp)(Q:VK)(_:XK):Prop
| mk (z:Addr) (ms:List Im) (i:Int) (_:vs=[.ref z,.int i]) (_:Tr H z ms) (_:Q (.str (jE ms i)) H)
theorem jL (T:Tx K mg a):FnOk P w K mg base CX0 1 a.A27 a.B27 ["track","place"] qG0:=by
 refine T.D27.F.ok qGy (fun vs H Q E h=>?_) (fun cdv A outer s H vs Q E hr h=>?_)
 · obtain⟨z,ms,i,rfl,_⟩:=h
   rfl
 refine qM fun _ Y=>?_
 obtain⟨z,ms,i,rfl,⟨vs,hz,his⟩,q⟩:=h
 apply Y
 refine⟨_,(qB (qf (PW.pt (vF (qO xL (pv 1) qG (qS _)) (zr (qO qJj (pv 1) (qZ jB rfl T.b_len rfl (qA (pv 0) qC)) (qS _))))) (qE (qK qQ)) qP)
  (qE (qK (qN (ql qV (pv 0) (pv 1) (fun _ _=>rfl)))))),?_⟩
 try dsimp only [jS,qc]
 have hl:=his.len
 refine⟨_,rfl,_,_,rfl,rfl,_,rfl,?_⟩
 by_cases h0:i < 0
 · rw [decide_eq_true h0]
   have e:jE ms i="":=by unfold jE;rw [if_pos h0]
   rw [e] at q
   exact xn (xn q)
 rw [decide_eq_false h0]
 refine xY ⟨_,rfl,_,rfl,z,_,rfl,.inl (SqL.of hz),_,_,rfl,rfl,_,rfl,?_⟩
 by_cases h1:((vs.length:Nat):Int)≤i
 · rw [decide_eq_true (show i ≥ ((vs.length:Nat):Int) from h1)]
   have e:jE ms i="":=by
    unfold jE
    rw [if_neg h0,List.getElem?_eq_none (by omega)]
   rw [e] at q
   exact xn q
 · rw [decide_eq_false (show ¬ i ≥ ((vs.length:Nat):Int) from h1)]
   refine xY ?_
   have hi:i.toNat < ms.length:=by omega
   have hm:ms[i.toNat]? =some ms[i.toNat]:=List.getElem?_eq_getElem hi
   refine qM fun _ Y=>?_
   obtain⟨v,hv,hI⟩:=his.get' hm
   obtain⟨zi,xi,rfl,hzi,q0,_⟩:=hI.opn
   apply Y
   have ei:i=((i.toNat:Nat):Int):=by omega
   have hat:atI vs i=some (.ref zi):=by
    rw [ei];exact jX hv
   have e:jE ms i=ms[i.toNat].wd:=qDw hm ei
   rw [e] at q
   exact⟨_,rfl,_,rfl,z,_,_,_,rfl,rfl,SqL.of hz,hat,zi,xi,_,_,rfl,rfl,SqT.of hzi,q0,q⟩
def qd (ms:List Im)(i:Nat):Int:=((ms.take i).map Im.mo).sum
inductive qAq (vs:List V)(H:Hp)(Q:VK)(_:XK):Prop
| mk (z:Addr) (ms:List Im) (i:Int) (_:vs=[.ref z,.int i]) (_:Tr H z ms) (_:Q (.int (if jE ms (i - 1)="mix" then i - 2 else i - 1)) H)
theorem zy (T:Tx K mg a):FnOk P w K mg base CX0 2 a.A28 a.B28 ["track","place"] qAq:=by
 refine T.D28.F.ok qAe (fun vs H Q E h=>?_) (fun cdv A outer s H vs Q E hr h=>?_)
 · obtain⟨z,ms,i,rfl,_⟩:=h
   rfl
 refine qM fun _ Y=>?_
 obtain⟨z,ms,i,rfl,tT,q⟩:=h
 apply Y
 refine⟨_,(qE (qK (vD (qO jj (qI T.D27 (jL T) hr rfl (qA (pv 0) (qA (qJ qp (pv 1) qG) qC))) qQ (qS _)) (qJ qp (pv 1) qG) (qJ qp (pv 1) qG)))),?_⟩
 try dsimp only [jS,qc]
 refine⟨_,rfl,_,rfl,_,_,rfl,rfl,z,ms,_,rfl,tT,rfl,_,rfl,jN (fun c=>?_) (fun c=>?_)⟩
 · rw [if_pos (by simpa using c)] at q
   exact⟨_,rfl,_,_,rfl,rfl,q⟩
 · rw [if_neg (by simpa using c)] at q
   exact⟨_,rfl,_,_,rfl,rfl,q⟩
def nbF (ms:List Im)(t:Int):Option (Int × Int):=match jp 0 0 ms t with
 | some (i,d)=>if d≠0∨(i:Int)=0 then none else some (if jE ms ((i:Int) - 1)="mix" then (i:Int) - 2 else (i:Int) - 1,(i:Int))
 | none=>none
def cbF (ms:List Im)(t:Int):Option (Int × Int):=match nbF ms t with
 | some (i,j)=>if jE ms i="clip"∧jE ms j="clip" then some (i,j) else none
 | none=>none
def PrR (H:Hp)(Q:VK)(r:Option (Int × Int)):Prop:=match r with
 | none=>∀ H',Same H H'→Q .non H'
 | some (i,j)=>∀ (p:Addr) (H':Hp),Same H H'→H' p=some (.tup [.int i,.int j])→Q (.ref p) H'
inductive v6 (vs:List V)(H:Hp)(Q:VK)(_:XK):Prop
| mk (z:Addr) (ms:List Im) (t:Int) (_:vs=[.ref z,.int t]) (_:Tr H z ms) (_:PrR H Q (nbF ms t))
theorem v9 (T:Tx K mg a):FnOk P w K mg base CX0 4 a.A30 a.B30 ["track","moment"] v6:=by
 refine T.D30.F.ok xh (fun vs H Q E h=>?_) (fun cdv A outer s H vs Q E hr h=>?_)
 · obtain⟨z,ms,t,rfl,_⟩:=h
   rfl
 refine qM fun _ Y=>?_
 obtain⟨z,ms,t,rfl,tT,kk⟩:=h
 apply Y
 refine⟨_,(qB (qX 2 xh.nd (qI T.D26 (vo T) hr rfl (qA (pv 0) (qA (pv 1) qC))))
  (qB (qf (PW.pt (vF (vp (ww (pv 2))) (vF (qO qA8 (qN (pv 2)) qG (qS _)) (zr (qO jj (qN (pv 2)) qG (qS _)))))) (qE (qK ku)) qP)
  (qE (qK (jI (qA (qI T.D28 (zy T) hr rfl (qA (pv 0) (qA (qN (pv 2)) qC))) (qA (qN (pv 2)) qC))))))),?_⟩
 try dsimp only [jS,qc]
 refine⟨_,rfl,_,rfl,z,ms,_,rfl,tT,?_⟩
 unfold nbF at kk
 cases hit:jp 0 0 ms t with
 | none=>
  rw [hit] at kk
  intro H1 e1
  exact⟨_,rfl,_,rfl,xn (kk H1 e1)⟩
 | some x=>
  obtain⟨i,d⟩:=x
  rw [hit] at kk
  dsimp only at kk
  intro p H1 e1 hp
  refine⟨_,rfl,_,rfl,jN (fun c=>absurd c (by simp)) (fun _=>?_)⟩
  refine(ixO hp at1 ?_)
  refine⟨rfl,_,rfl,jN (fun c=>?_) (fun c=>?_)⟩
  · rw [if_pos (.inl (by simpa using c))] at kk
    exact kk H1 e1
  · refine(ixO hp at0 ?_)
    refine⟨rfl,_,rfl,jN (fun c2=>?_) (fun c2=>?_)⟩
    · rw [if_pos (.inr (by simpa using c2))] at kk
      exact kk H1 e1
    · rw [if_neg (fun z=>z.elim (fun z=>c (by simpa using z)) (fun z=>c2 (by simpa using z)))] at kk
      refine⟨_,rfl,ixO hp at0 ⟨z,ms,_,rfl,tT.same e1,?_⟩⟩
      refine(ixO hp at0 ⟨sL2,fun q hq=>?_⟩)
      exact kk q _ (e1.trans (qF hq _)) qD
inductive kf (vs:List V)(H:Hp)(Q:VK)(_:XK):Prop
| mk (z:Addr) (ms:List Im) (t:Int) (_:vs=[.ref z,.int t]) (_:Tr H z ms) (_:PrR H Q (cbF ms t))
theorem vB (T:Tx K mg a):FnOk P w K mg base CX0 5 a.A31 a.B31 ["track","moment"] kf:=by
 refine T.D31.F.ok j3 (fun vs H Q E h=>?_) (fun cdv A outer s H vs Q E hr h=>?_)
 · obtain⟨z,ms,t,rfl,_⟩:=h
   rfl
 refine qM fun _ Y=>?_
 obtain⟨z,ms,t,rfl,tT,kk⟩:=h
 apply Y
 refine⟨_,(qB (qX 2 j3.nd (qI T.D30 (v9 T) hr rfl (qA (pv 0) (qA (pv 1) qC))))
  (qB (qf (PW.pt (vF (vp (ww (pv 2))) (vF (qO qA8 (qI T.D27 (jL T) hr rfl (qA (pv 0) (qA (qN (pv 2)) qC))) qQ (qS _)) (zr (qO qA8 (qI T.D27 (jL T) hr rfl (qA (pv 0) (qA (qN (pv 2)) qC))) qQ (qS _)))))) (qE (qK ku)) qP)
  (qE (qK (pv 2))))),?_⟩
 try dsimp only [jS,qc]
 refine⟨_,rfl,_,rfl,z,ms,_,rfl,tT,?_⟩
 unfold cbF at kk
 cases hit:nbF ms t with
 | none=>
  rw [hit] at kk
  intro H1 e1
  exact⟨_,rfl,_,rfl,xn (kk H1 e1)⟩
 | some x=>
  obtain⟨i,j⟩:=x
  rw [hit] at kk
  dsimp only at kk
  intro p H1 e1 hp
  refine⟨_,rfl,_,rfl,jN (fun c=>absurd c (by simp)) (fun _=>?_)⟩
  refine⟨_,rfl,ixO hp at0 ⟨z,ms,_,rfl,tT.same e1,?_⟩⟩
  refine⟨rfl,_,rfl,jN (fun c=>?_) (fun c=>?_)⟩
  · rw [if_neg (fun z=>absurd c (by simpa using z.1))] at kk
    exact kk H1 e1
  · refine⟨_,rfl,ixO hp at1 ⟨z,ms,_,rfl,tT.same e1,?_⟩⟩
    refine⟨rfl,_,rfl,jN (fun c2=>?_) (fun c2=>?_)⟩
    · rw [if_neg (fun z=>absurd c2 (by simpa using z.2))] at kk
      exact kk H1 e1
    · rw [if_pos ⟨by simpa using c,by simpa using c2⟩] at kk
      exact⟨_,rfl,kk p H1 e1 hp⟩
def TrsAt (H:Hp):List (List Im)→List V→Prop
 | [],[]=>True
 | ms::r,v::vs=>(∃ z:Addr,v= .ref z∧Tr H z ms)∧TrsAt H r vs
 | _,_=>False
theorem TrsAt.same {H H':Hp}(e:Same H H'):∀ {ts:List (List Im)} {vs:List V},TrsAt H ts vs→TrsAt H' ts vs
 | [],[],_=>trivial
 | _::_,_::_,⟨⟨z,h1,h2⟩,h⟩=>⟨⟨z,h1,h2.same e⟩,TrsAt.same e h⟩
 | [],_::_,h=>h.elim
 | _::_,[],h=>h.elim
theorem TrsAt.len {H:Hp}:∀ {ts:List (List Im)} {vs:List V},TrsAt H ts vs→vs.length=ts.length
 | [],[],_=>rfl
 | _::_,_::_,h=>by rw [List.length_cons,List.length_cons,TrsAt.len h.2]
 | [],_::_,h=>h.elim
 | _::_,[],h=>h.elim
theorem TrsAt.get {H:Hp}:∀ {ts:List (List Im)} {vs:List V} {i:Nat} {v:V},TrsAt H ts vs→vs[i]? =some v→∃ (ms:List Im) (z:Addr),ts[i]? =some ms∧v= .ref z∧Tr H z ms
 | [],[],_,_,_,h=>by simp at h
 | ms::_,u::_,0,v,h,e=>by
  have e':u=v:=by simpa using e
  subst e'
  obtain⟨⟨z,h1,h2⟩,_⟩:=h
  exact⟨ms,z,rfl,h1,h2⟩
 | _::_,_::_,i+1,v,h,e=>by
  obtain⟨ms,z,h1,h2⟩:=TrsAt.get (i:=i) h.2 (by simpa using e)
  exact⟨ms,z,by simpa using h1,h2⟩
 | [],_::_,_,_,h,_=>h.elim
 | _::_,[],_,_,h,_=>h.elim
def TabAt (H:Hp)(v:V)(ts:List (List Im)):Prop:=∃ (tt tl ti:Addr) (zs:List V),v= .ref tt∧H tt=some (.tup [.ref tl,.ref ti])∧H tl=some (.lst zs)∧TrsAt H ts zs
theorem TabAt.same {H H':Hp}(e:Same H H'){v:V}{ts:List (List Im)}(h:TabAt H v ts):TabAt H' v ts:=
 let ⟨tt,tl,ti,zs,h1,h2,h3,h4⟩:=h;⟨tt,tl,ti,zs,h1,e _ _ h2,e _ _ h3,h4.same e⟩
theorem qBk {H:Hp}{v:V}{n:Str}{p q r s l:Int}(h:IsI H (.clip n p q r s l) v):Cp K H v n p q r s l:=by
 obtain⟨z,x,y,h0,hz,hx,hy⟩:=h
 exact⟨z,x,y,h0,SqT.of hz,SqT.of hx,SqT.of hy⟩
def TabF (H:Hp)(v:V)(ts:List (List Im))(tie:List Int):Prop:=∃ (tt tl ti:Addr) (zs:List V),v= .ref tt∧H tt=some (.tup [.ref tl,.ref ti])∧H tl=some (.lst zs)∧TrsAt H ts zs∧H ti=some (.lst (tie.map V.int))
theorem TabF.tab {H:Hp}{v:V}{ts:List (List Im)}{tie:List Int}(h:TabF H v ts tie):TabAt H v ts:=let ⟨tt,tl,ti,zs,h1,h2,h3,h4,_⟩:=h;⟨tt,tl,ti,zs,h1,h2,h3,h4⟩
theorem TabF.same {H H':Hp}(e:Same H H'){v:V}{ts:List (List Im)}{tie:List Int}(h:TabF H v ts tie):TabF H' v ts tie:=
 let ⟨tt,tl,ti,zs,h1,h2,h3,h4,h5⟩:=h;⟨tt,tl,ti,zs,h1,e _ _ h2,e _ _ h3,h4.same e,e _ _ h5⟩
theorem qG5 {H:Hp}:∀ {ts:List (List Im)} {vs:List V} {ms:List Im} {z:Addr},TrsAt H ts vs→Tr H z ms→TrsAt H (ts++[ms]) (vs++[.ref z])
 | [],[],_,z,_,h=>⟨⟨z,rfl,h⟩,trivial⟩
 | _::_,_::_,_,_,⟨h1,h2⟩,h=>⟨h1,qG5 h2 h⟩
 | [],_::_,_,_,h,_=>h.elim
 | _::_,[],_,_,h,_=>h.elim
theorem vZ {b:Bool}{A B:Prop}(h:b=false)(q:B):if b=true then A else B:=by subst h;exact q
theorem qE9 {b:Bool}{A B:Prop}(h:b=true)(q:A):if b=true then A else B:=by subst h;exact q
abbrev Rls:=Str→Option Int
def ReelsAt (H:Hp)(rd:Addr)(rl:Rls):Prop:=∀ n N,rl n=some N→Reel H rd n N
theorem ReelsAt.same {H H':Hp}{rd:Addr}{rl:Rls}(e:Same H H')(h:ReelsAt H rd rl):ReelsAt H' rd rl:=fun n N q=>(h n N q).same e
theorem qB1 (T:Tx K mg a):FnOk P w K mg base CX0 1 a.fi_Short a.gi_Short ["self","most"] (qE4 a.k_Short "most"):=by
 refine T.i_Short.ok qIp (fun vs H Q E h=>?_) (fun cdv A outer s H vs Q E hr h=>?_)
 · obtain⟨e,v,rfl,_⟩:=h
   rfl
 refine qM fun _ Y=>?_
 obtain⟨e,v,rfl,he,kk⟩:=h
 apply Y
 refine⟨_,qE (qLx (pv 0) (pv 1)),?_⟩
 exact⟨_,rfl,_,rfl,e,_,_,rfl,he,T.m_Short.ov,T.m_Short.hd,T.m_Short.sa,T.tk_Short,kk⟩
inductive Nu (H:Hp):V→Option Int→Prop where
 | int (i:Int):Nu H (.int i) (some i)
 | no {x:V} (h:NoW H x):Nu H x none
def qGe (L:Nat)(n t:Option Int):Bool:=match n,t with
 | some i,some m=>decide (0≤i) && decide (i < L) && decide (0≤m)
 | _,_=>false
inductive wp (N:Addr)(vs:List V)(H:Hp)(Q:VK)(E:XK):Prop
| mk (tz tl td:Addr) (zs:List V) (n t:V) (on ot:Option Int) (_:vs=[.ref tz,n,t]) (_:H tz=some (.tup [.ref tl,.ref td])) (_:H tl=some (.lst zs)) (_:Nu H n on) (_:Nu H t ot) (_:(qGe zs.length on ot=false→E (.ref N) none H)) (_:(qGe zs.length on ot=true→Q .non H))
theorem wx (T:Tx K mg a):FnOk P w K mg base (CXR P w) 2 a.A44 a.B44 ["table","number","moment"] (wp a.k_NoPlace):=by
 refine okX T.D44.F qAp (fun vs H Q E h=>?_) (fun cdv A outer s H vs Q E hr h=>?_)
 · obtain⟨tz,tl,td,zs,n,t,on,ot,rfl,_⟩:=h
   rfl
 refine qM fun _ Y=>?_
 obtain⟨tz,tl,td,zs,n,t,on,ot,rfl,htz,htl,hn,ht,kb,kg⟩:=h
 apply Y
 refine⟨_,(qB (qf (PW.pt (vF (kT (jx (qI T.D0 (xV T) hr rfl (qA (pv 1) qC)))) (vF (qO xL (pv 1) qG (qS _)) (zr (qO qJj (pv 1) (qZ jB rfl T.b_len rfl (qA (qN (pv 0)) qC)) (qS _)))))) (qE (kW rfl rfl T.c_NoPlace T.x_NoPlace (qA qQ qC))) qP)
  (qE (qf (PW.pt (vF (kT (jx (qI T.D0 (xV T) hr rfl (qA (pv 2) qC)))) (zr (qO xL (pv 2) qG (qS _))))) (qE (kW rfl rfl T.c_NoPlace T.x_NoPlace (qA qQ qC))) qP))),?_⟩
 try dsimp only [jS,qc]
 have one:(1:Nat)≤sizeLine:=by decide
 cases hn with
 | no h=>
  have kb:=kb (by unfold qGe;cases ot <;> rfl)
  exact⟨_,rfl,n,false,rfl,.no h,false,rfl,xn (xn ⟨one,kb⟩)⟩
 | int n=>
 refine⟨_,rfl,_,true,rfl,.int n,true,rfl,xY ?_⟩
 refine⟨_,rfl,_,_,rfl,rfl,_,rfl,jN (fun c=>?_) (fun c=>?_)⟩
 · have hc:n < 0:=by simpa using c
   have kb:=kb (by
    unfold qGe
    cases ot with
    | none=>rfl
    | some m=>dsimp only;rw [decide_eq_false (show ¬ 0≤n by omega)];rfl)
   exact xn ⟨one,kb⟩
 have h0:¬ n < 0:=by simpa using c
 refine⟨_,rfl,ixO htz at0 ⟨tl,_,rfl,.inl (SqL.of htl),_,_,rfl,rfl,_,rfl,jN (fun c=>?_) (fun c=>?_)⟩⟩
 · have hc:(zs.length:Int)≤n:=by simpa using c
   have kb:=kb (by
    unfold qGe
    cases ot with
    | none=>rfl
    | some m=>dsimp only;rw [decide_eq_false (show ¬ n < zs.length by omega),Bool.and_false];rfl)
   exact⟨one,kb⟩
 have h1:¬ (zs.length:Int)≤n:=by simpa using c
 cases ht with
 | no h=>
  have kb:=kb rfl
  exact⟨_,rfl,t,false,rfl,.no h,false,rfl,xn (xn ⟨one,kb⟩)⟩
 | int m=>
 refine⟨_,rfl,_,true,rfl,.int m,true,rfl,xY ?_⟩
 have e:qGe zs.length (some n) (some m)=decide (0≤m):=by
  unfold qGe
  dsimp only
  rw [decide_eq_true (show 0≤n by omega),decide_eq_true (show n < zs.length by omega)]
  rfl
 rw [e] at kb kg
 refine⟨_,rfl,_,_,rfl,rfl,_,rfl,jN (fun c=>?_) (fun c=>?_)⟩
 · have hc:m < 0:=by simpa using c
   exact⟨one,kb (decide_eq_false (by omega))⟩
 · have hc:¬ m < 0:=by simpa using c
   exact kg (decide_eq_true (by omega))
def byB (b:Option Int):Bool:=match b with
 | some i=>decide (i.natAbs≤1000000)
 | none=>false
inductive qDs (N:Addr)(vs:List V)(H:Hp)(Q:VK)(E:XK):Prop
| mk (b:V) (ob:Option Int) (_:vs=[b]) (_:Nu H b ob) (_:(byB ob=false→E (.ref N) none H)) (_:(byB ob=true→Q .non H))
theorem qDi (T:Tx K mg a):FnOk P w K mg base (CXR P w) 2 a.A45 a.B45 ["by"] (qDs a.k_NoPlace):=by
 refine okX T.D45.F qD9 (fun vs H Q E h=>?_) (fun cdv A outer s H vs Q E hr h=>?_)
 · obtain⟨b,ob,rfl,_⟩:=h
   rfl
 refine qM fun _ Y=>?_
 obtain⟨b,ob,rfl,hb,kb,kg⟩:=h
 apply Y
 refine⟨_,(qE (qf (PW.pt (vF (kT (jx (qI T.D0 (xV T) hr rfl (qA (pv 0) qC)))) (zr (qO qG2 (qZ jg rfl T.b_abs rfl (qA (pv 0) qC)) (xS (v:=.int 1000000) rfl T.g_MOST_BY ⟨_,rfl⟩) (qS _))))) (qE (kW rfl rfl T.c_NoPlace T.x_NoPlace (qA qQ qC))) qP)),?_⟩
 try dsimp only [jS,qc]
 have one:(1:Nat)≤sizeLine:=by decide
 cases hb with
 | no h=>exact⟨_,rfl,b,false,rfl,.no h,false,rfl,xn (xn ⟨one,kb rfl⟩)⟩
 | int b=>
 refine⟨_,rfl,_,true,rfl,.int b,true,rfl,xY ?_⟩
 refine⟨_,rfl,b,rfl,_,_,rfl,rfl,_,rfl,jN (fun c=>?_) (fun c=>?_)⟩
 · have hc:(if b < 0 then -b else b) > 1000000:=by simpa using c
   exact⟨one,kb (decide_eq_false (by split at hc <;> omega))⟩
 · have hc:¬ (if b < 0 then -b else b) > 1000000:=by simpa using c
   exact kg (decide_eq_true (by split at hc <;> omega))
def hmB (ms:List Im)(i:Int):Bool:=decide (jE ms (i - 1)="mix") || decide (jE ms (i+1)="mix")
inductive qF4 (vs:List V)(H:Hp)(Q:VK)(_:XK):Prop
| mk (z:Addr) (ms:List Im) (i:Int) (_:vs=[.ref z,.int i]) (_:Tr H z ms) (_:Q (.bl (hmB ms i)) H)
theorem qGx (T:Tx K mg a):FnOk P w K mg base CX0 2 a.A49 a.B49 ["track","place"] qF4:=by
 refine T.D49.F.ok qGz (fun vs H Q E h=>?_) (fun cdv A outer s H vs Q E hr h=>?_)
 · obtain⟨z,ms,i,rfl,_⟩:=h
   rfl
 refine qM fun _ Y=>?_
 obtain⟨z,ms,i,rfl,tT,q⟩:=h
 apply Y
 refine⟨_,(qE (qK (qNr (zF jj (qI T.D27 (jL T) hr rfl (qA (pv 0) (qA (qJ qp (pv 1) qG) qC))) qQ (qS _)) (wo (zF jj (qI T.D27 (jL T) hr rfl (qA (pv 0) (qA (qJ qY (pv 1) qG) qC))) qQ (qS _)))))),?_⟩
 try dsimp only [jS,qc]
 refine⟨_,rfl,_,rfl,_,_,rfl,rfl,z,ms,_,rfl,tT,rfl,_,rfl,?_⟩
 unfold hmB at q
 rw [qDz]
 by_cases h1:jE ms (i - 1)="mix"
 · rw [decide_eq_true h1] at q ⊢
   exact xn q
 rw [decide_eq_false h1] at q ⊢
 refine xY ⟨_,rfl,_,rfl,_,_,rfl,rfl,z,ms,_,rfl,tT,rfl,?_⟩
 rw [qDz]
 exact q
def j2 (b:Int):Int:=if b < 0 then -b else b
def sgM (b m:Int):Int:=if 0 < b then m else -m
inductive wt (S:Addr)(vs:List V)(H:Hp)(Q:VK)(E:XK):Prop
| mk (m b:Int) (_:vs=[.int m,.int b]) (_:(j2 b≤m→Q .non H)) (_:(¬ j2 b≤m→∀ (dx:Addr) (H':Hp),Same H H'→H' dx=some (.xd [("most",.int (sgM b m))])→E (.ref S) (some dx) H'))
theorem zP (T:Tx K mg a):FnOk P w K mg base (CXR P w) 3 a.A50 a.B50 ["most","by"] (wt a.k_Short):=by
 refine okX T.D50.F qAh (fun vs H Q E h=>?_) (fun cdv A outer s H vs Q E hr h=>?_)
 · obtain⟨m,b,rfl,_⟩:=h
   rfl
 refine qM fun _ Y=>?_
 obtain⟨m,b,rfl,kg,kb⟩:=h
 apply Y
 refine⟨_,(qE (qf (qO qG2 (qZ jg rfl T.b_abs rfl (qA (pv 1) qC)) (pv 0) (qS _)) (qE (qHp T.m_Short (qB1 T) T.ib_Short (hr.mono (by decide)) rfl rfl T.c_Short (qA (vD (qO qG2 (pv 1) qG (qS _)) (pv 0) (v5 xg (pv 0))) qC))) qP)),?_⟩
 try dsimp only [jS,qc]
 refine⟨_,rfl,b,rfl,_,rfl,_,_,rfl,rfl,_,rfl,jN (fun c=>?_) (fun c=>?_)⟩
 · have c':¬ j2 b≤m:=by
    have:(if b < 0 then -b else b) > m:=by simpa using c
    unfold j2
    omega
   refine⟨_,rfl,_,_,rfl,rfl,_,rfl,jN (fun cb=>?_) (fun cb=>?_)⟩
   · have e:sgM b m=m:=by unfold sgM;exact if_pos (by simpa using cb)
     rw [e] at kb
     exact⟨_,rfl,_,rfl,fun dx hdx=>kb c' dx _ (qF hdx _) qD⟩
   · have e:sgM b m= -m:=by unfold sgM;exact if_neg (by simpa using cb)
     rw [e] at kb
     exact⟨_,rfl,_,rfl,_,rfl,fun dx hdx=>kb c' dx _ (qF hdx _) qD⟩
 · refine kg ?_
   have:¬ (if b < 0 then -b else b) > m:=by simpa using c
   unfold j2
   omega
inductive qC8 (K:W.Frag)(vs:List V)(H:Hp)(Q:VK)(_:XK):Prop
| mk (v:V) (n:Str) (p q r s len lo hi:Int) (_:vs=[v,.int lo,.int hi]) (_:IsI H (.clip n p q r s len) v) (_:Bn 700 p q r s) (_:lo.natAbs < 2 ^ 700) (_:∀ (u:V) (H':Hp),Same H H'→IsI H' (.clip n (plP p q r s lo) (plQ p q r s lo) r s (hi - lo)) u→Q u H')
theorem xw (T:Tx K mg a):FnOk P w K mg base CX0 5 a.A16 a.B16 ["clip","low","high"] (qC8 K):=by
 refine T.D16.F.ok qCw (fun vs H Q E h=>?_) (fun cdv A outer s H vs Q E hr h=>?_)
 · obtain⟨v,n,p,q,r,s,len,lo,hi,rfl,_⟩:=h
   rfl
 refine qM fun _ Y=>?_
 obtain⟨v,n,p,q,r,s',len,lo,hi,rfl,hI,⟨hq,hs,bp,bq,br,bs⟩,bl,kk⟩:=h
 apply Y
 refine⟨_,(qE (qK (jI (qA qQ (qA (qN (pv 0)) (qA (qI T.D12 (xJ T) hr rfl (qA (pv 0) (qA (pv 1) qC))) (qA (qN (pv 0)) (qA (qJ qp (pv 2) (pv 1)) qC)))))))),?_⟩
 try dsimp only [jS,qc]
 refine qM fun _ Y=>?_
 obtain⟨z,z1,z2,rfl,h0,h1,h2⟩:=id hI
 apply Y
 refine(ixO h0 qC2 ⟨_,rfl,_,rfl,_,n,p,q,r,s',len,lo,rfl,qBk hI,hq,hs,bp,bq,br,bs,bl,fun y H1 s1 e1=>?_⟩)
 refine(ixO (s1 _ _ h0) qEn ⟨_,rfl,_,rfl,_,_,rfl,rfl,sL5,fun t ht=>?_⟩)
 have s2:=qF ht (.tup [.str "clip",.str n,.ref y,.ref z2,.int (hi - lo)])
 exact kk _ _ (s1.trans s2) ⟨t,y,z2,rfl,qD,s2 _ _ e1,s2 _ _ (s1 _ _ h2)⟩
def vL (p q r s l N:Int):Int:=zk (plP p q r s l*s) (1*r*plQ p q r s l) (plQ p q r s l*s) N
def vR (p q r s N:Int):Int:=zk (plP p q r s (-1)*s) (-1*r*plQ p q r s (-1)) (plQ p q r s (-1)*s) N
structure Rc (n:Str)(p q r s l:Int)(rl:Rls)(N:Int):Prop where
 g1:qJz 110 p q
 g2:qJz 110 r s
 bl:l.natAbs < 2 ^ 30
 l1:1≤l
 rn:rl n=some N
 bN:N.natAbs < 2 ^ 700
theorem Rc.bn {n:Str}{p q r s l N:Int}{rl:Rls}(h:Rc n p q r s l rl N):Bn 110 p q r s:=⟨h.g1.1,h.g2.1,h.g1.2.2.1,h.g1.2.2.2,h.g2.2.2.1,h.g2.2.2.2⟩
def qAr (b tl hd l l':Int):Int:=if 0 < b then (if l' - 1 < tl then l' - 1 else tl) else (if hd < l - 1 then hd else l - 1)
inductive qDp (K:W.Frag)(vs:List V)(H:Hp)(Q:VK)(_:XK):Prop
| mk (v u:V) (b:Int) (rd:Addr) (rl:Rls) (n n':Str) (p q r s l N p' q' r' s' l' N':Int) (_:vs=[v,u,.int b,.ref rd]) (_:IsI H (.clip n p q r s l) v) (_:IsI H (.clip n' p' q' r' s' l') u) (_:Rc n p q r s l rl N) (_:Rc n' p' q' r' s' l' rl N') (_:ReelsAt H rd rl) (_:∀ H',Same H H'→Q (.int (qAr b (vL p q r s l N) (vR p' q' r' s' N') l l')) H')
theorem qCi (T:Tx K mg a):FnOk P w K mg base CX0 6 a.A52 a.B52 ["left","right","by","reels"] (qDp K):=by
 refine T.D52.F.ok qCn (fun vs H Q E h=>?_) (fun cdv A outer s H vs Q E hr h=>?_)
 · obtain⟨v,u,b,rd,rl,n,n',p,q,r,s,l,N,p',q',r',s',l',N',rfl,_⟩:=h
   rfl
 refine qM fun _ Y=>?_
 obtain⟨v,u,b,rd,rl,n,n',p,q,r,s1,l,N,p',q',r',s2,l',N',rfl,hv,hu,c1,c2,hrl,kk⟩:=h
 apply Y
 refine⟨_,(qB (qf (qO qG2 (pv 2) qG (qS _)) (qE (qK (qZ (wT rfl) rfl T.b_min rfl (qA (qI T.D20 (vy T) hr rfl (qA (pv 0) (qA (pv 3) qC))) (qA (qJ qp (qN (pv 1)) qG) qC))))) qP)
  (qE (qK (qZ (wT rfl) rfl T.b_min rfl (qA (qJ qp (qN (pv 0)) qG) (qA (qI T.D19 (v3 T) hr rfl (qA (pv 1) (qA (pv 3) qC))) qC)))))),?_⟩
 try dsimp only [jS,qc]
 unfold qAr at kk
 refine⟨_,rfl,_,_,rfl,rfl,_,rfl,jN (fun c=>?_) (fun c=>?_)⟩
 · rw [if_pos (by simpa using c)] at kk
   refine qM fun _ Y=>?_
   obtain⟨zu,xu,yu,rfl,hzu,_⟩:=id hu
   apply Y
   refine⟨_,rfl,_,rfl,v,n,p,q,r,s1,l,N,rd,rfl,qBk hv,c1.g1,c1.g2,c1.bl,hrl _ _ c1.rn,c1.bN,fun H1 e1=>?_⟩
   exact(ixO (e1 _ _ hzu) qCk ⟨_,_,rfl,rfl,_,_,rfl,kk H1 e1⟩)
 · rw [if_neg (by simpa using c)] at kk
   refine qM fun _ Y=>?_
   obtain⟨zv,xv,yv,rfl,hzv,_⟩:=id hv
   apply Y
   refine(ixO hzv qCk ⟨_,_,rfl,rfl,?_⟩)
   refine⟨_,rfl,_,rfl,u,n',p',q',r',s2,l',N',rd,rfl,qBk hu,c2.g1,c2.g2,hrl _ _ c2.rn,c2.bN,fun H1 e1=>?_⟩
   exact⟨_,_,rfl,kk H1 e1⟩
theorem IsIs.set {H:Hp}:∀ {ms:List Im} {vs:List V} {i:Nat} {m:Im} {v:V},IsIs H ms vs→IsI H m v→IsIs H (ms.set i m) (vs.set i v)
 | [],[],_,_,_,_,_=>trivial
 | _::_,_::_,0,_,_,h,h'=>⟨h',h.2⟩
 | _::_,_::_,_+1,_,_,h,h'=>⟨h.1,h.2.set h'⟩
 | [],_::_,_,_,_,h,_=>h.elim
 | _::_,[],_,_,_,h,_=>h.elim
theorem qBf {n i:Nat}(h:i < n):ixN n (i:Int)=some i:=by
 unfold ixN
 rw [if_pos (by omega),if_pos (by omega)]
 congr 1
def qC5 (ms:List Im)(i j:Nat)(b:Int)(n:Str)(p q r s l:Int)(n':Str)(p' q' r' s' l':Int):List Im:=(ms.set i (.clip n p q r s (l+b))).set j (.clip n' (plP p' q' r' s' b) (plQ p' q' r' s' b) r' s' (l' - b))
inductive zn (S:Addr)(vs:List V)(H:Hp)(Q:VK)(E:XK):Prop
| mk (z rd:Addr) (ms:List Im) (i j:Nat) (b:Int) (rl:Rls) (n n':Str) (p q r s l N p' q' r' s' l' N':Int) (_:vs=[.ref z,.int (i:Int),.int (j:Int),.int b,.ref rd]) (_:Tr H z ms) (_:ms.length≤300) (_:ms[i]? =some (.clip n p q r s l)) (_:ms[j]? =some (.clip n' p' q' r' s' l')) (_:Rc n p q r s l rl N) (_:Rc n' p' q' r' s' l' rl N') (_:ReelsAt H rd rl) (_:b.natAbs≤1000000) (_:(j2 b≤qAr b (vL p q r s l N) (vR p' q' r' s' N') l l'→∀ (y:Addr) (H':Hp),Same H H'→H y=none→Tr H' y (qC5 ms i j b n p q r s l n' p' q' r' s' l')→Q (.ref y) H')) (_:(¬ j2 b≤qAr b (vL p q r s l N) (vR p' q' r' s' N') l l'→∀ (dx:Addr) (H':Hp),Same H H'→H' dx=some (.xd [("most",.int (sgM b (qAr b (vL p q r s l N) (vR p' q' r' s' N') l l')))])→E (.ref S) (some dx) H'))
theorem zl (T:Tx K mg a):FnOk P w K mg base (CXR P w) 7 a.A54 a.B54 ["track","first","last","by","reels"] (zn a.k_Short):=by
 refine okX T.D54.F jC (fun vs H Q E h=>?_) (fun cdv A outer s H vs Q E hr h=>?_)
 · obtain⟨z,rd,ms,i,j,b,rl,n,n',p,q,r,s,l,N,p',q',r',s',l',N',rfl,_⟩:=h
   rfl
 refine qM fun _ Y=>?_
 obtain⟨z,rd,ms,i,j,b,rl,n,n',p,q,r,s1,l,N,p',q',r',s2,l',N',rfl,tT,hln,hi,hj,c1,c2,hrl,hb,kg,kb⟩:=h
 apply Y
 refine⟨_,(qB (qX 5 jC.nd (ql qV (pv 0) (pv 1) (fun _ _=>rfl)))
  (qB (qX 6 jC.nd (ql qV (pv 0) (pv 2) (fun _ _=>rfl)))
  (qB (vK (zA T.D50 (zP T) hr rfl (qA (qI T.D52 (qCi T) hr rfl (qA (pv 5) (qA (pv 6) (qA (pv 3) (qA (pv 4) qC))))) (qA (pv 3) qC))))
  (qB (qX 7 jC.nd (x5 j5 rfl T.b_list rfl (qA (pv 0) qC)))
  (qB (qF1 (qI T.D16 (xw T) hr rfl (qA (pv 5) (qA qG (qA (qJ qY (qN (pv 5)) (pv 3)) qC)))) (qFb (pv 7) (pv 1) wD))
  (qB (qF1 (qI T.D16 (xw T) hr rfl (qA (pv 6) (qA (pv 3) (qA (qN (pv 6)) qC)))) (qFb (pv 7) (pv 2) wD))
  (qE (qK (pv 7))))))))),?_⟩
 try dsimp only [jS,qc]
 refine qM fun _ Y=>?_
 obtain⟨vs,hz,his⟩:=id tT
 obtain⟨va,hva,Ia⟩:=his.get' hi
 obtain⟨vb,hvb,Ib⟩:=his.get' hj
 apply Y
 have hlv:=his.len
 have li:i < vs.length:=(glt hva)
 have lj:j < vs.length:=(glt hvb)
 refine⟨_,rfl,_,rfl,z,_,_,_,rfl,rfl,SqL.of hz,jX hva,?_⟩
 refine⟨_,rfl,_,rfl,z,_,_,_,rfl,rfl,SqL.of hz,jX hvb,?_⟩
 refine⟨_,rfl,_,rfl,_,rfl,_,rfl,va,vb,b,rd,rl,n,n',p,q,r,s1,l,N,p',q',r',s2,l',N',rfl,Ia,Ib,c1,c2,hrl,fun H1 e1=>?_⟩
 refine⟨_,rfl,_,b,rfl,fun hc=>?_,fun hc dx H' e' hdx=>kb hc dx H' (e1.trans e') hdx⟩
 refine⟨_,rfl,z,vs,rfl,.inl (SqL.of (e1 _ _ hz)),fun y hy=>?_⟩
 have w2:=qF hy (.lst vs)
 have e2:=e1.trans w2
 have hy0:H y=none:=by
  cases q0:H y with
  | none=>rfl
  | some o=>rw [e1 _ _ q0] at hy;cases hy
 refine qM fun _ Y=>?_
 obtain⟨za,xa,ya,rfl,hza,hxa,hya⟩:=id Ia
 apply Y
 have b1:=c1.bn.mono (m:=700)
 have b2:=c2.bn.mono (m:=700)
 have bb7:b.natAbs < 2 ^ 700:=Nat.lt_of_le_of_lt hb (by decide)
 have hy2:upd H1 y (.lst vs) y=some (.lst vs):=qD
 generalize upd H1 y (.lst vs)=H2 at w2 e2 hy2 ⊢
 refine⟨_,rfl,ixO (e2 _ _ hza) qCk ⟨_,rfl,_,_,rfl,rfl,_,n,p,q,r,s1,l,0,_,rfl,Ia.ts (qh e2),b1,by decide,fun u H3 e3 I3=>?_⟩⟩
 rw [(qHd c1.bn.q0 c1.bn.s0 c1.g1.2.1).1,(qHd c1.bn.q0 c1.bn.s0 c1.g1.2.1).2,Int.sub_zero] at I3
 refine⟨_,rfl,_,rfl,y,vs,_,i,rfl,rfl,e3 _ _ hy2,qBf li,?_⟩
 have e4:Same H (upd H3 y (.lst (vs.set i u))):=zS (e2.trans e3) hy0
 have t4:TS H3 (upd H3 y (.lst (vs.set i u))):=qB9 (e3 _ _ hy2)
 have hy4:upd H3 y (.lst (vs.set i u)) y=some (.lst (vs.set i u)):=qD
 have I4:=I3.ts t4
 have is4:=(his.ts (qh e4)).set (i:=i) I4
 generalize upd H3 y (.lst (vs.set i u))=H4 at e4 hy4 I4 is4 ⊢
 refine qM fun _ Y=>?_
 obtain⟨zb,xb,yb,rfl,hzb,hxb,hyb⟩:=id Ib
 apply Y
 refine⟨_,rfl,_,rfl,ixO (e4 _ _ hzb) qCk ⟨_,n',p',q',r',s2,l',b,_,rfl,Ib.ts (qh e4),b2,bb7,fun u' H5 e5 I5=>?_⟩⟩
 refine⟨_,rfl,_,rfl,y,_,_,j,rfl,rfl,e5 _ _ hy4,qBf (by rw [List.length_set];exact lj),?_⟩
 have e6:Same H (upd H5 y (.lst ((vs.set i u).set j u'))):=zS (e4.trans e5) hy0
 have t6:TS H5 (upd H5 y (.lst ((vs.set i u).set j u'))):=qB9 (e5 _ _ hy4)
 exact⟨_,rfl,kg hc y _ e6 hy0 ⟨_,qD,((is4.ts (qh e5)).ts t6).set (I5.ts t6)⟩⟩
structure NewTab (H H':Hp)(t:Addr)(ts:List (List Im))(tie:List Int):Prop where
 ex:∃ (tl ti:Addr) (zs:List V),H' t=some (.tup [.ref tl,.ref ti])∧H' tl=some (.lst zs)∧TrsAt H' ts zs∧H' ti=some (.lst (tie.map V.int))∧H tl=none∧H ti=none∧tl≠ti∧∀ b,V.ref b∈zs→H b=none∧b≠tl∧b≠ti
theorem NewTab.tab {H H':Hp}{t:Addr}{ts:List (List Im)}{tie:List Int}(h:NewTab H H' t ts tie):TabF H' (.ref t) ts tie:=let ⟨tl,ti,zs,h1,h2,h3,h4,_⟩:=h.ex;⟨t,tl,ti,zs,rfl,h1,h2,h3,h4⟩
theorem TrsAt.set {H:Hp}:∀ {ts:List (List Im)} {vs:List V} {i:Nat} {ms:List Im} {z:Addr},TrsAt H ts vs→Tr H z ms→TrsAt H (ts.set i ms) (vs.set i (.ref z))
 | [],[],_,_,_,_,_=>trivial
 | _::_,_::_,0,_,z,h,h'=>⟨⟨z,rfl,h'⟩,h.2⟩
 | _::_,_::_,_+1,_,_,h,h'=>⟨h.1,h.2.set h'⟩
 | [],_::_,_,_,_,h,_=>h.elim
 | _::_,[],_,_,_,h,_=>h.elim
theorem TrsAt.refs {H:Hp}:∀ {ts:List (List Im)} {vs:List V} {b:Addr},TrsAt H ts vs→V.ref b∈vs→∃ xs,H b=some (.lst xs)
 | [],[],_,_,h=>by simp at h
 | _::_,_::_,b,⟨⟨z,h1,⟨xs,h2,_⟩⟩,r⟩,h=>by
  rcases List.mem_cons.mp h with h | h
  · rw [h1] at h
    cases h
    exact⟨xs,h2⟩
  · exact TrsAt.refs r h
 | [],_::_,_,h,_=>h.elim
 | _::_,[],_,h,_=>h.elim
inductive qCc (vs:List V)(H:Hp)(Q:VK)(_:XK):Prop
| mk (tz y:Addr) (n:Nat) (ts:List (List Im)) (tie:List Int) (ms:List Im) (_:vs=[.ref tz,.int (n:Int),.ref y]) (_:TabF H (.ref tz) ts tie) (_:Tr H y ms) (_:n < ts.length) (_:ts.length≤300) (_:∀ (t:Addr) (H':Hp),Same H H'→(∀ H0:Hp,Same H0 H→H0 y=none→NewTab H0 H' t (ts.set n ms) tie)→Q (.ref t) H')
theorem kc (T:Tx K mg a):FnOk P w K mg base CX0 1 a.A55 a.B55 ["table","number","track"] qCc:=by
 refine T.D55.F.ok vC (fun vs H Q E h=>?_) (fun cdv A outer s H vs Q E hr h=>?_)
 · obtain⟨tz,y,n,ts,tie,ms,rfl,_⟩:=h
   rfl
 refine qM fun _ Y=>?_
 obtain⟨tz,y,n,ts,tie,ms,rfl,⟨tt,tl,ti,zs,e0,h2,h3,h4,h5⟩,hy,hn,hl,kk⟩:=h
 cases e0
 apply Y
 have hzl:=h4.len
 refine⟨_,(qB (qHs (i:=3) [] [] vC.nd rfl rfl rfl (xU (qN (pv 0))) (fun _ _ _ _=>(x5 (qBv (K:=K) rfl) rfl T.b_list rfl (qA (pv 0) qC))))
  (qB (qF1 (pv 2) (qFb (pv 3) (pv 1) wD))
  (qE (qK (jI (qA (pv 3) (qA (x5 j5 rfl T.b_list rfl (qA (qN (pv 0)) qC)) qC))))))),?_⟩
 try dsimp only [jS,qc]
 refine(ixO h2 at0 ⟨tl,rfl,⟨_,SqL.of h3⟩,w9 (K:=K) (a:=tl) (xs:=zs) (fun j acc H2=>TrsAt H2 (ts.take j) acc∧Same H H2∧∀ b,V.ref b∈acc→H b=none) ⟨trivial,Same.refl _,fun b z=>absurd z (by simp)⟩ ?_ ?_ ?_⟩)
 · rintro j acc H2 hj ⟨ht,e2,_⟩
   exact⟨SqL.of (e2 _ _ h3),jT (by rw [ht.len,List.length_take];omega)⟩
 · rintro j x acc H2 hj hx ⟨ht,e2,fr⟩
   refine qM fun _ Y=>?_
   obtain⟨ms1,z,hms,rfl,us,hz,his⟩:=h4.get hx
   apply Y
   refine⟨_,rfl,z,us,rfl,.inl (SqL.of (e2 _ _ hz)),fun l hl'=>Nxt.mk hj ⟨?_,e2.trans (qF hl' _),fun b hb=>?_⟩⟩
   · have w3:=qF hl' (.lst us)
     have etk:ts.take (j+1)=ts.take j++[ms1]:=by rw [List.take_add_one,hms];rfl
     rw [etk]
     exact qG5 (ht.same w3) ⟨us,qD,his.ts (qh (e2.trans w3))⟩
   · rcases List.mem_append.mp hb with hb | hb
     · exact fr b hb
     · have:b=l:=by simpa using hb
       subst this
       cases q0:H b with
       | none=>rfl
       | some o=>rw [e2 _ _ q0] at hl';cases hl'
 rintro acc H2 ⟨ht,e2,fr⟩ d hd
 rw [hzl,List.take_length] at ht
 have hal:=ht.len
 have w3:=qF hd (.lst acc)
 have e3:=e2.trans w3
 have hd0:H d=none:=by
  cases q0:H d with
  | none=>rfl
  | some o=>rw [e2 _ _ q0] at hd;cases hd
 refine⟨_,rfl,_,rfl,_,rfl,d,acc,_,n,rfl,rfl,qD,qBf (by rw [hal];exact hn),?_⟩
 have uu:upd (upd H2 d (.lst acc)) d (.lst (acc.set n (.ref y)))=upd H2 d (.lst (acc.set n (.ref y))):=by
  funext b
  by_cases hb:b=d
  · rw [hb,qD,qD]
  · rw [qR hb,qR hb,qR hb]
 rw [uu]
 have w4:=qF hd (.lst (acc.set n (.ref y)))
 have e4:=e2.trans w4
 have hd4:upd H2 d (.lst (acc.set n (.ref y))) d=some (.lst (acc.set n (.ref y))):=qD
 have ht4:TrsAt (upd H2 d (.lst (acc.set n (.ref y)))) (ts.set n ms) (acc.set n (.ref y)):=(ht.same w4).set (hy.same e4)
 have nd:∀ b,V.ref b∈acc→b≠d:=fun b hb z=>by
  obtain⟨xs,q0⟩:=ht.refs hb
  rw [z,hd] at q0;cases q0
 have ny:y≠d:=fun z=>by
  obtain⟨us,q0,_⟩:=id hy
  rw [z,hd0] at q0;cases q0
 generalize upd H2 d (.lst (acc.set n (.ref y)))=H4 at w4 e4 hd4 ht4 ⊢
 refine⟨_,rfl,ixO (e4 _ _ h2) at1 ⟨ti,_,rfl,.inl (SqL.of (e4 _ _ h5)),fun l hl'=>?_⟩⟩
 have w5:=qF hl' (.lst (tie.map V.int))
 have e5:=e4.trans w5
 refine⟨sL2,fun t ht'=>?_⟩
 have w6:=qF ht' (.tup [.ref d,.ref l])
 refine kk t _ (e5.trans w6) fun H0 s0 y0=>?_
 have back:∀ b,H b=none→H0 b=none:=fun b hb=>by
  cases q0:H0 b with
  | none=>rfl
  | some o=>rw [s0 _ _ q0] at hb;cases hb
 have hl0:H l=none:=by
  cases q0:H l with
  | none=>rfl
  | some o=>rw [e4 _ _ q0] at hl';cases hl'
 have dl:d≠l:=fun z=>by rw [← z,hd4] at hl';cases hl'
 refine⟨d,l,_,qD,w6 _ _ (w5 _ _ hd4),(ht4.same w5).same w6,w6 _ _ qD,back _ hd0,back _ hl0,dl,fun b hb=>?_⟩
 obtain⟨xs,q0⟩:=ht4.refs hb
 have bl:b≠l:=fun z=>by rw [z,hl'] at q0;cases q0
 rcases List.mem_or_eq_of_mem_set hb with hb | hb
 · exact⟨back _ (fr b hb),nd b hb,bl⟩
 · cases hb
   exact⟨y0,ny,bl⟩
theorem qBm {x0 x1 x2 x3:V}:atI [x0,x1,x2,x3] 0=some x0:=rfl
theorem qI5 {x0 x1 x2 x3:V}:atI [x0,x1,x2,x3] 1=some x1:=rfl
theorem qKa {x0 x1 x2 x3:V}:atI [x0,x1,x2,x3] 2=some x2:=rfl
theorem qK9 {x0 x1 x2 x3:V}:atI [x0,x1,x2,x3] 3=some x3:=rfl
theorem qJb {x0:V}:atI [x0] 0=some x0:=rfl
inductive wa (vs:List V)(H:Hp)(Q:VK)(_:XK):Prop
| mk (z:Addr) (ms:List Im) (i:Int) (_:vs=[.ref z,.int i]) (_:Tr H z ms) (_:Q (.int (if jE ms (i+1)="mix" then i+2 else i+1)) H)
theorem wW (T:Tx K mg a):FnOk P w K mg base CX0 2 a.A29 a.B29 ["track","place"] wa:=by
 refine T.D29.F.ok wY (fun vs H Q E h=>?_) (fun cdv A outer s H vs Q E hr h=>?_)
 · obtain⟨z,ms,i,rfl,_⟩:=h
   rfl
 refine qM fun _ Y=>?_
 obtain⟨z,ms,i,rfl,tT,q⟩:=h
 apply Y
 refine⟨_,(qE (qK (vD (qO jj (qI T.D27 (jL T) hr rfl (qA (pv 0) (qA (qJ qY (pv 1) qG) qC))) qQ (qS _)) (qJ qY (pv 1) qG) (qJ qY (pv 1) qG)))),?_⟩
 try dsimp only [jS,qc]
 refine⟨_,rfl,_,rfl,_,_,rfl,rfl,z,ms,_,rfl,tT,rfl,_,rfl,jN (fun c=>?_) (fun c=>?_)⟩
 · rw [if_pos (by simpa using c)] at q
   exact⟨_,rfl,_,_,rfl,rfl,q⟩
 · rw [if_neg (by simpa using c)] at q
   exact⟨_,rfl,_,_,rfl,rfl,q⟩
inductive qDy (K:W.Frag)(vs:List V)(H:Hp)(Q:VK)(_:XK):Prop
| mk (v:V) (b:Int) (rd:Addr) (rl:Rls) (n:Str) (p q r s l N:Int) (_:vs=[v,.int b,.ref rd]) (_:IsI H (.clip n p q r s l) v) (_:Rc n p q r s l rl N) (_:ReelsAt H rd rl) (_:∀ H',Same H H'→Q (.int (if 0 < b then vL p q r s l N else vR p q r s N)) H')
theorem qCm (T:Tx K mg a):FnOk P w K mg base CX0 6 a.A51 a.B51 ["clip","by","reels"] (qDy K):=by
 refine T.D51.F.ok qDn (fun vs H Q E h=>?_) (fun cdv A outer s H vs Q E hr h=>?_)
 · obtain⟨v,b,rd,rl,n,p,q,r,s,l,N,rfl,_⟩:=h
   rfl
 refine qM fun _ Y=>?_
 obtain⟨v,b,rd,rl,n,p,q,r,s1,l,N,rfl,hv,c1,hrl,kk⟩:=h
 apply Y
 refine⟨_,(qE (qK (vD (qO qG2 (pv 1) qG (qS _)) (qI T.D20 (vy T) hr rfl (qA (pv 0) (qA (pv 2) qC))) (qI T.D19 (v3 T) hr rfl (qA (pv 0) (qA (pv 2) qC)))))),?_⟩
 try dsimp only [jS,qc]
 refine⟨_,rfl,_,_,rfl,rfl,_,rfl,jN (fun c=>?_) (fun c=>?_)⟩
 · refine⟨_,rfl,_,rfl,v,n,p,q,r,s1,l,N,rd,rfl,qBk hv,c1.g1,c1.g2,c1.bl,hrl _ _ c1.rn,c1.bN,fun H1 e1=>?_⟩
   have:=kk H1 e1
   rw [if_pos (by simpa using c)] at this
   exact this
 · refine⟨_,rfl,_,rfl,v,n,p,q,r,s1,l,N,rd,rfl,qBk hv,c1.g1,c1.g2,hrl _ _ c1.rn,c1.bN,fun H1 e1=>?_⟩
   have:=kk H1 e1
   rw [if_neg (by simpa using c)] at this
   exact this
inductive qEh (S:Addr)(vs:List V)(H:Hp)(Q:VK)(E:XK):Prop
| mk (z rd:Addr) (ms:List Im) (i:Nat) (b:Int) (rl:Rls) (n:Str) (p q r s l N:Int) (_:vs=[.ref z,.int (i:Int),.int b,.ref rd]) (_:Tr H z ms) (_:ms.length≤300) (_:ms[i]? =some (.clip n p q r s l)) (_:Rc n p q r s l rl N) (_:ReelsAt H rd rl) (_:b.natAbs≤1000000) (_:(j2 b≤(if 0 < b then vL p q r s l N else vR p q r s N)→∀ (y:Addr) (H':Hp),Same H H'→H y=none→Tr H' y (ms.set i (.clip n (plP p q r s b) (plQ p q r s b) r s l))→Q (.ref y) H')) (_:(¬ j2 b≤(if 0 < b then vL p q r s l N else vR p q r s N)→∀ (dx:Addr) (H':Hp),Same H H'→H' dx=some (.xd [("most",.int (sgM b (if 0 < b then vL p q r s l N else vR p q r s N)))])→E (.ref S) (some dx) H'))
theorem qEm (T:Tx K mg a):FnOk P w K mg base (CXR P w) 7 a.A53 a.B53 ["track","place","by","reels"] (qEh a.k_Short):=by
 refine okX T.D53.F vk (fun vs H Q E h=>?_) (fun cdv A outer s H vs Q E hr h=>?_)
 · obtain⟨z,rd,ms,i,b,rl,n,p,q,r,s,l,N,rfl,_⟩:=h
   rfl
 refine qM fun _ Y=>?_
 obtain⟨z,rd,ms,i,b,rl,n,p,q,r,s1,l,N,rfl,tT,hln,hi,c1,hrl,hb,kg,kb⟩:=h
 apply Y
 refine⟨_,(qB (qX 4 vk.nd (ql qV (pv 0) (pv 1) (fun _ _=>rfl)))
  (qB (vK (zA T.D50 (zP T) hr rfl (qA (qI T.D51 (qCm T) hr rfl (qA (pv 4) (qA (pv 2) (qA (pv 3) qC)))) (qA (pv 2) qC))))
  (qB (qX 5 vk.nd (x5 j5 rfl T.b_list rfl (qA (pv 0) qC)))
  (qB (qF1 (qI T.D16 (xw T) hr rfl (qA (pv 4) (qA (pv 2) (qA (qJ qY (pv 2) (qN (pv 4))) qC)))) (qFb (pv 5) (pv 1) wD))
  (qE (qK (pv 5))))))),?_⟩
 try dsimp only [jS,qc]
 refine qM fun _ Y=>?_
 obtain⟨vs,hz,his⟩:=id tT
 obtain⟨va,hva,Ia⟩:=his.get' hi
 apply Y
 have hlv:=his.len
 have li:i < vs.length:=(glt hva)
 refine⟨_,rfl,_,rfl,z,_,_,_,rfl,rfl,SqL.of hz,jX hva,?_⟩
 refine⟨_,rfl,_,rfl,_,rfl,va,b,rd,rl,n,p,q,r,s1,l,N,rfl,Ia,c1,hrl,fun H1 e1=>?_⟩
 refine⟨_,rfl,_,b,rfl,fun hc=>?_,fun hc dx H' e' hdx=>kb hc dx H' (e1.trans e') hdx⟩
 refine⟨_,rfl,z,vs,rfl,.inl (SqL.of (e1 _ _ hz)),fun y hy=>?_⟩
 have w2:=qF hy (.lst vs)
 have e2:=e1.trans w2
 have hy0:H y=none:=e1.free hy
 refine qM fun _ Y=>?_
 obtain⟨za,xa,ya,rfl,hza,hxa,hya⟩:=id Ia
 apply Y
 have b1:=c1.bn.mono (m:=700)
 have bb7:b.natAbs < 2 ^ 700:=Nat.lt_of_le_of_lt hb (by decide)
 have hy2:upd H1 y (.lst vs) y=some (.lst vs):=qD
 generalize upd H1 y (.lst vs)=H2 at w2 e2 hy2 ⊢
 refine⟨_,rfl,_,rfl,_,rfl,ixO (e2 _ _ hza) qCk ⟨_,_,rfl,rfl,_,n,p,q,r,s1,l,b,_,rfl,Ia.ts (qh e2),b1,bb7,fun u H3 e3 I3=>?_⟩⟩
 rw [show b+l - b=l by omega] at I3
 refine⟨_,rfl,_,rfl,y,vs,_,i,rfl,rfl,e3 _ _ hy2,qBf li,?_⟩
 have e4:Same H (upd H3 y (.lst (vs.set i u))):=zS (e2.trans e3) hy0
 have t4:TS H3 (upd H3 y (.lst (vs.set i u))):=qB9 (e3 _ _ hy2)
 exact⟨_,rfl,kg hc y _ e4 hy0 ⟨_,qD,(his.ts (qh e4)).set (i:=i) (I3.ts t4)⟩⟩
def Pos (ms:List Im):Prop:=∀ m∈ms,0 < m.mo∧m.wd≠"mix"
theorem qDl:(3:Nat)≤sizeLine:=by decide
def paF (ms:List Im)(i:Int):Int:=if jE ms (i - 1)="mix" then i - 2 else i - 1
def pbF (ms:List Im)(i:Int):Int:=if jE ms (i+1)="mix" then i+2 else i+1
def ctF (ms:List Im)(t:Int):Option Nat:=match jp 0 0 ms t with
 | some (i,_)=>if jE ms (i:Int)="clip" then some i else none
 | none=>none
def csF (ms:List Im)(t:Int):Option (List Int):=match ctF ms t with
 | some i=>if jE ms (paF ms i)="clip"∧jE ms (pbF ms i)="clip" then some [paF ms i,(i:Int),pbF ms i] else none
 | none=>none
def qNi (H:Hp)(Q:VK)(r:Option (List Int)):Prop:=match r with
 | none=>∀ H',Same H H'→Q .non H'
 | some is=>∀ (p:Addr) (H':Hp),Same H H'→H' p=some (.tup (is.map V.int))→Q (.ref p) H'
def plF (wd:Str)(ms:List Im)(t:Int):Option (List Int):=if wd="roll" then (cbF ms t).map (fun p=>[p.1,p.2]) else if wd="slip" then (ctF ms t).map (fun i=>[(i:Int)]) else csF ms t
inductive qBt (vs:List V)(H:Hp)(Q:VK)(_:XK):Prop
| mk (z:Addr) (ms:List Im) (t:Int) (_:vs=[.ref z,.int t]) (_:Tr H z ms) (_:qNi H Q ((ctF ms t).map fun i=>[(i:Int)]))
theorem kP (T:Tx K mg a):FnOk P w K mg base CX0 4 a.A46 a.B46 ["track","moment"] qBt:=by
 refine T.D46.F.ok kh (fun vs H Q E h=>?_) (fun cdv A outer s H vs Q E hr h=>?_)
 · obtain⟨z,ms,t,rfl,_⟩:=h
   rfl
 refine qM fun _ Y=>?_
 obtain⟨z,ms,t,rfl,tT,kk⟩:=h
 apply Y
 refine⟨_,(qB (qX 2 kh.nd (qI T.D26 (vo T) hr rfl (qA (pv 0) (qA (pv 1) qC))))
  (qB (qf (PW.pt (vF (vp (ww (pv 2))) (zr (qO qA8 (qI T.D27 (jL T) hr rfl (qA (pv 0) (qA (qN (pv 2)) qC))) qQ (qS _))))) (qE (qK ku)) qP)
  (qE (qK (jI (qA (qN (pv 2)) qC)))))),?_⟩
 try dsimp only [jS,qc]
 refine⟨_,rfl,_,rfl,z,ms,_,rfl,tT,?_⟩
 unfold ctF at kk
 cases hit:jp 0 0 ms t with
 | none=>
  rw [hit] at kk
  intro H1 e1
  exact⟨_,rfl,_,rfl,qE9 (by decide) (xn (kk H1 e1))⟩
 | some r=>
  obtain⟨i,d⟩:=r
  rw [hit] at kk
  dsimp only at kk
  intro p H1 e1 hp
  refine⟨_,rfl,_,rfl,jN (fun c=>absurd c (by simp)) (fun _=>?_)⟩
  refine⟨_,rfl,ixO hp at0 ⟨z,ms,_,rfl,tT.same e1,rfl,_,rfl,jN (fun c=>?_) (fun c=>?_)⟩⟩
  · have hk:¬ jE ms (i:Int)="clip":=by simpa using c
    rw [if_neg hk] at kk
    exact kk H1 e1
  · have hk:jE ms (i:Int)="clip":=by simpa using c
    rw [if_pos hk] at kk
    refine(ixO hp at0 ⟨sL1,fun q hq=>?_⟩)
    exact kk q _ (e1.trans (qF hq _)) qD
inductive vh (vs:List V)(H:Hp)(Q:VK)(_:XK):Prop
| mk (z:Addr) (ms:List Im) (t:Int) (_:vs=[.ref z,.int t]) (_:Tr H z ms) (_:qNi H Q (csF ms t))
theorem vn (T:Tx K mg a):FnOk P w K mg base CX0 5 a.A47 a.B47 ["track","moment"] vh:=by
 refine T.D47.F.ok jJ (fun vs H Q E h=>?_) (fun cdv A outer s H vs Q E hr h=>?_)
 · obtain⟨z,ms,t,rfl,_⟩:=h
   rfl
 refine qM fun _ Y=>?_
 obtain⟨z,ms,t,rfl,tT,kk⟩:=h
 apply Y
 refine⟨_,(qB (qX 2 jJ.nd (qI T.D46 (kP T) hr rfl (qA (pv 0) (qA (pv 1) qC))))
  (qB (qf (vp (ww (pv 2))) (qE (qK ku)) qP)
  (qB (qX 3 jJ.nd (qI T.D28 (zy T) hr rfl (qA (pv 0) (qA (qN (pv 2)) qC))))
  (qB (qX 4 jJ.nd (qI T.D29 (wW T) hr rfl (qA (pv 0) (qA (qN (pv 2)) qC))))
  (qB (qf (PW.pt (vF (qO qA8 (qI T.D27 (jL T) hr rfl (qA (pv 0) (qA (pv 3) qC))) qQ (qS _)) (zr (qO qA8 (qI T.D27 (jL T) hr rfl (qA (pv 0) (qA (pv 4) qC))) qQ (qS _))))) (qE (qK ku)) qP)
  (qE (qK (jI (qA (pv 3) (qA (qN (pv 2)) (qA (pv 4) qC))))))))))),?_⟩
 try dsimp only [jS,qc]
 refine⟨_,rfl,_,rfl,z,ms,_,rfl,tT,?_⟩
 unfold csF at kk
 cases hc:ctF ms t with
 | none=>
  rw [hc] at kk
  intro H1 e1
  exact⟨_,rfl,_,rfl,qE9 (by decide) (kk H1 e1)⟩
 | some i=>
  rw [hc] at kk
  dsimp only at kk
  unfold paF pbF at kk
  intro p H1 e1 hp1
  refine⟨_,rfl,_,rfl,jN (fun c=>absurd c (by simp)) (fun _=>?_)⟩
  refine⟨_,rfl,ixO hp1 qJb ⟨z,ms,_,rfl,tT.same e1,?_⟩⟩
  refine⟨_,rfl,ixO hp1 qJb ⟨z,ms,_,rfl,tT.same e1,?_⟩⟩
  generalize (if jE ms ((i:Int) - 1)="mix" then (i:Int) - 2 else (i:Int) - 1)=L at kk ⊢
  generalize (if jE ms ((i:Int)+1)="mix" then (i:Int)+2 else (i:Int)+1)=R at kk ⊢
  refine⟨_,rfl,_,rfl,z,ms,_,rfl,tT.same e1,rfl,_,rfl,jN (fun c=>?_) (fun c=>?_)⟩
  · have hk:¬ jE ms L="clip":=by simpa using c
    rw [if_neg (fun z=>hk z.1)] at kk
    exact xn (kk H1 e1)
  have hk1:jE ms L="clip":=by simpa using c
  refine⟨_,rfl,_,rfl,z,ms,_,rfl,tT.same e1,rfl,_,rfl,jN (fun c=>?_) (fun c=>?_)⟩
  · have hk:¬ jE ms R="clip":=by simpa using c
    rw [if_neg (fun z=>hk z.2)] at kk
    exact kk H1 e1
  have hk2:jE ms R="clip":=by simpa using c
  rw [if_pos ⟨hk1,hk2⟩] at kk
  refine⟨_,rfl,ixO hp1 qJb ⟨_,rfl,sL3,fun q hq=>?_⟩⟩
  exact kk q _ (e1.trans (qF hq _)) qD
def Wd3 (wd:Str):Prop:=wd="roll"∨wd="slip"∨wd="slide"
inductive wQ (vs:List V)(H:Hp)(Q:VK)(_:XK):Prop
| mk (z dz:Addr) (ms:List Im) (n b:V) (t:Int) (wd:Str) (_:vs=[.ref z,.ref dz]) (_:Tr H z ms) (_:H dz=some (.tup [.str wd,n,.int t,b])) (_:Wd3 wd) (_:qNi H Q (plF wd ms t))
theorem wq (T:Tx K mg a):FnOk P w K mg base CX0 6 a.A48 a.B48 ["track","deed"] wQ:=by
 refine T.D48.F.ok wS (fun vs H Q E h=>?_) (fun cdv A outer s H vs Q E hr h=>?_)
 · obtain⟨z,dz,ms,n,b,t,wd,rfl,_⟩:=h
   rfl
 refine qM fun _ Y=>?_
 obtain⟨z,dz,ms,n,b,t,wd,rfl,tT,hd,hw,kk⟩:=h
 apply Y
 refine⟨_,(qB (qf (qO jj (qN (pv 1)) qQ (qS _)) (qE (qK (qI T.D31 (vB T) hr rfl (qA (pv 0) (qA (qN (pv 1)) qC))))) qP)
  (qB (qf (qO jj (qN (pv 1)) qQ (qS _)) (qE (qK (qI T.D46 (kP T) hr rfl (qA (pv 0) (qA (qN (pv 1)) qC))))) qP)
  (qB (qf (qO jj (qN (pv 1)) qQ (qS _)) (qE (qK (qI T.D47 (vn T) hr rfl (qA (pv 0) (qA (qN (pv 1)) qC))))) qP)
  (qE (qK ku))))),?_⟩
 try dsimp only [jS,qc]
 unfold plF at kk
 rcases hw with rfl | rfl | rfl
 · rw [if_pos rfl] at kk
   refine(ixO hd qBm ⟨rfl,_,rfl,xn ?_⟩)
   refine⟨_,rfl,ixO hd qKa ⟨z,ms,t,rfl,tT,?_⟩⟩
   cases hc:cbF ms t with
   | none=>rw [hc] at kk;exact kk
   | some r=>obtain⟨i,j⟩:=r;rw [hc] at kk;exact kk
 · rw [if_neg (by decide+kernel),if_pos rfl] at kk
   refine(ixO hd qBm ⟨rfl,_,rfl,xY ?_⟩)
   refine(ixO hd qBm ⟨rfl,_,rfl,xn ?_⟩)
   exact⟨_,rfl,ixO hd qKa ⟨z,ms,t,rfl,tT,kk⟩⟩
 · rw [if_neg (by decide+kernel),if_neg (by decide+kernel)] at kk
   refine(ixO hd qBm ⟨rfl,_,rfl,xY ?_⟩)
   refine(ixO hd qBm ⟨rfl,_,rfl,xY ?_⟩)
   refine(ixO hd qBm ⟨rfl,_,rfl,xn ?_⟩)
   exact⟨_,rfl,ixO hd qKa ⟨z,ms,t,rfl,tT,kk⟩⟩
def mxF (ms:List Im):Option (List Int)→Nat
 | none=>0
 | some is=>if is.any (hmB ms)=true then 1 else 2
def qJr (ts:List (List Im))(wd:Str)(n t b:Option Int):Nat:=match n,t,b with
 | some n,some t,some b=>if qGe ts.length (some n) (some t)=true∧byB (some b)=true then mxF (ts.getD n.toNat []) (plF wd (ts.getD n.toNat []) t) else 0
 | _,_,_=>0
theorem qOh {ts:List (List Im)}{wd:Str}{n t b:Option Int}(h:(qGe ts.length n t && byB b)=false):qJr ts wd n t b=0:=by
 unfold qJr
 cases n with
 | none=>rfl
 | some n=>
  cases t with
  | none=>rfl
  | some t=>
   cases b with
   | none=>rfl
   | some b=>
    dsimp only
    rw [if_neg]
    intro z
    rw [z.1,z.2] at h
    cases h
theorem xG {ms:List Im}{x:Int}(h:jE ms x="clip"):∃ (i:Nat) (n:Str) (p q r s l:Int),x=(i:Int)∧ms[i]? =some (.clip n p q r s l):=by
 unfold jE at h
 split at h
 · exact absurd h (by decide+kernel)
 · rename_i h0
   cases hm:ms[x.toNat]? with
   | none=>rw [hm] at h;exact absurd h (by decide+kernel)
   | some m=>
    rw [hm] at h
    dsimp only at h
    cases m with
    | clip n p q r s l=>exact⟨x.toNat,n,p,q,r,s,l,by omega,hm⟩
    | gap=>exact absurd (show ("gap":Str)="clip" from h) (by decide+kernel)
    | nest=>exact absurd (show ("nest":Str)="clip" from h) (by decide+kernel)
    | mix=>exact absurd (show ("mix":Str)="clip" from h) (by decide+kernel)
theorem qFv {wd:Str}{ms:List Im}{t:Int}{is:List Int}(hw:Wd3 wd)(h:plF wd ms t=some is):(wd="slip"∧∃ x,is=[x]∧jE ms x="clip")∨(wd≠"slip"∧is.length≤3∧∃ x y,is.headD 0=x∧is.getLastD 0=y∧atI (is.map V.int) 0=some (.int x)∧atI (is.map V.int) (-1)=some (.int y)∧jE ms x="clip"∧jE ms y="clip"):=by
 unfold plF at h
 rcases hw with rfl | rfl | rfl
 · rw [if_pos rfl] at h
   refine .inr ⟨by decide+kernel,?_⟩
   unfold cbF at h
   cases hn:nbF ms t with
   | none=>rw [hn] at h;cases h
   | some r=>
    obtain⟨i,j⟩:=r
    rw [hn] at h
    dsimp only at h
    split at h
    · rename_i c
      cases h
      exact⟨by show 2≤3;decide,i,j,rfl,rfl,rfl,rfl,c.1,c.2⟩
    · cases h
 · rw [if_neg (by decide+kernel),if_pos rfl] at h
   refine .inl ⟨rfl,?_⟩
   unfold ctF at h
   cases hn:jp 0 0 ms t with
   | none=>rw [hn] at h;cases h
   | some r=>
    obtain⟨i,d⟩:=r
    rw [hn] at h
    dsimp only at h
    split at h
    · rename_i c
      cases h
      exact⟨_,rfl,c⟩
    · cases h
 · rw [if_neg (by decide+kernel),if_neg (by decide+kernel)] at h
   refine .inr ⟨by decide+kernel,?_⟩
   unfold csF at h
   cases hn:ctF ms t with
   | none=>rw [hn] at h;cases h
   | some i=>
    rw [hn] at h
    dsimp only at h
    split at h
    · rename_i c
      cases h
      exact⟨by show 3≤3;decide,_,_,rfl,rfl,rfl,rfl,c.1,c.2⟩
    · cases h
def qy (ms:List Im)(x:Int):Im:=(ms[x.toNat]?).getD (.gap 0)
def qGb (rl:Rls)(m:Im)(b:Int):Int:=match m with
 | .clip n p q r s l=>(match rl n with
  | some N=>if 0 < b then vL p q r s l N else vR p q r s N
  | none=>0)
 | _=>0
def qIw (rl:Rls)(m m':Im)(b:Int):Int:=match m,m' with
 | .clip n p q r s l,.clip n' p' q' r' s' l'=>(match rl n,rl n' with
  | some N,some N'=>qAr b (vL p q r s l N) (vR p' q' r' s' N') l l'
  | _,_=>0)
 | _,_=>0
def xA (rl:Rls)(ms:List Im)(wd:Str)(is:List Int)(b:Int):Int:=if wd="slip" then qGb rl (qy ms (is.headD 0)) b else qIw rl (qy ms (is.headD 0)) (qy ms (is.getLastD 0)) b
def qD3 (ms:List Im)(wd:Str)(is:List Int)(b:Int):List Im:=if wd="slip" then (match qy ms (is.headD 0) with
 | .clip n p q r s l=>ms.set (is.headD 0).toNat (.clip n (plP p q r s b) (plQ p q r s b) r s l)
 | _=>ms)
 else match qy ms (is.headD 0),qy ms (is.getLastD 0) with
  | .clip n p q r s l,.clip n' p' q' r' s' l'=>qC5 ms (is.headD 0).toNat (is.getLastD 0).toNat b n p q r s l n' p' q' r' s' l'
  | _,_=>ms
def ItR (rl:Rls)(m:Im):Prop:=∀ n p q r s l,m= .clip n p q r s l→∃ N,Rc n p q r s l rl N
structure qKk (H:Hp)(tz dz rd:Addr)(ts:List (List Im))(tie:List Int)(wd:Str)(n t b:V)(on ot ob:Option Int)(rl:Rls):Prop where
 tab:TabF H (.ref tz) ts tie
 deed:H dz=some (.tup [.str wd,n,t,b])
 hn:Nu H n on
 ht:Nu H t ot
 hb:Nu H b ob
 w3:Wd3 wd
 tl:ts.length≤300
 it:∀ ms∈ts,ms.length≤300∧∀ m∈ms,ItR rl m
 re:ReelsAt H rd rl
inductive vi (N M S:Addr)(vs:List V)(H:Hp)(Q:VK)(E:XK):Prop
| mk (tz dz rd:Addr) (ts:List (List Im)) (tie:List Int) (wd:Str) (n t b:V) (on ot ob:Option Int) (rl:Rls) (_:vs=[.ref tz,.ref dz,.ref rd]) (_:qKk H tz dz rd ts tie wd n t b on ot ob rl) (_:(qJr ts wd on ot ob=0→∀ H',Same H H'→E (.ref N) none H')) (_:(qJr ts wd on ot ob=1→∀ H',Same H H'→E (.ref M) none H')) (_:(qJr ts wd on ot ob=2→∀ (nt:Nat) (t b:Int) (ms:List Im) (is:List Int),on=some (nt:Int)→ot=some t→ob=some b→ts[nt]? =some ms→plF wd ms t=some is→(j2 b≤xA rl ms wd is b→∀ (t':Addr) (H':Hp),Same H H'→NewTab H H' t' (ts.set nt (qD3 ms wd is b)) tie→Q (.ref t') H')∧(¬ j2 b≤xA rl ms wd is b→∀ (dx:Addr) (H':Hp),Same H H'→H' dx=some (.xd [("most",.int (sgM b (xA rl ms wd is b)))])→E (.ref S) (some dx) H')))
theorem vt {N M S:Addr}{vs:List V}{H:Hp}{Q:VK}{E:XK}(h:vi N M S vs H Q E):vs.length=3:=by
 obtain⟨tz,dz,rd,ts,tie,wd,n,t,b,on,ot,ob,rl,rfl,_⟩:=h
 rfl
theorem qGl (T:Tx K mg a):FnOk P w K mg base (CXR P w) 8 a.A56 a.B56 ["table","deed","reels"] (vi a.k_NoPlace a.k_Mixed a.k_Short):=by
 refine okX T.D56.F wy (fun vs H Q E h=>vt h) (fun cdv A outer s H vs Q E hr h=>?_)
 refine qM fun _ Y=>?_
 obtain⟨tz,dz,rd,ts,tie,wd,n,t,b,on,ot,ob,rl,rfl,hI,k0,k1,k2⟩:=h
 apply Y
 refine⟨_,(qB (vK (zA T.D44 (wx T) hr rfl (qA (pv 0) (qA (qN (pv 1)) (qA (qN (pv 1)) qC)))))
  (qB (vK (zA T.D45 (qDi T) hr rfl (qA (qN (pv 1)) qC)))
  (qB (qF0 (i:=3) wy.nd rfl (Or.inr rfl) (ql qV (qN (pv 0)) (qN (pv 1)) (fun _ _=>rfl)))
  (qB (qX 4 wy.nd (qI T.D48 (wq T) hr rfl (qA (pv 3) (qA (pv 1) qC))))
  (qB (qf (vp (ww (pv 4))) (qE (kW rfl rfl T.c_NoPlace T.x_NoPlace (qA qQ qC))) qP)
  (qB (qf (jx (qZ (qIi rfl) rfl T.b_any rfl (qA (qE3 ["track"] [3] rfl (qMh (pv 4)) (fun _ _ _ _=>(qI T.D49 (qGx T) hr rfl (qA (pv 1) (qA (pv 0) qC))))) qC))) (qE (kW rfl rfl T.c_Mixed T.x_Mixed (qA qQ qC))) qP)
  (qB (qf (qO jj (qN (pv 1)) qQ (qS _)) (qE (qK (qI T.D55 (kc T) hr rfl (qA (pv 0) (qA (qN (pv 1)) (qA (zA T.D53 (qEm T) hr rfl (qA (pv 3) (qA (qN (pv 4)) (qA (qN (pv 1)) (qA (pv 2) qC))))) qC)))))) qP)
  (qE (qK (qI T.D55 (kc T) hr rfl (qA (pv 0) (qA (qN (pv 1)) (qA (zA T.D54 (zl T) hr rfl (qA (pv 3) (qA (qN (pv 4)) (qA (ql qDm (pv 4) (v5 xg qG) (fun _ _=>rfl)) (qA (qN (pv 1)) (qA (pv 2) qC)))))) qC))))))))))))),?_⟩
 try dsimp only [jS,qc]
 have one:(1:Nat)≤sizeLine:=by decide
 refine qM fun _ Y=>?_
 obtain⟨tt,tl,ti,zs,e0,g2,g3,g4,g5⟩:=id hI.tab
 cases e0
 apply Y
 have hzl:=g4.len
 have hd:=hI.deed
 refine⟨_,rfl,ixO hd qI5 (ixO hd qKa ⟨tz,tl,ti,zs,n,t,on,ot,rfl,g2,g3,hI.hn,hI.ht,fun hf=>?_,fun hp1=>?_⟩)⟩
 · rw [hzl] at hf
   exact k0 (qOh (by rw [hf];rfl)) H (Same.refl _)
 refine(ixO hd qK9 ⟨b,ob,rfl,hI.hb,fun hf=>?_,fun hp2=>?_⟩)
 · exact k0 (qOh (by rw [hf,Bool.and_false])) H (Same.refl _)
 rw [hzl] at hp1
 refine qM fun _ Y=>?_
 obtain⟨_,_,hn,ht,hb,hw,htl,hit,hre⟩:=id hI
 apply Y
 clear hn ht hb
 have hn:=hI.hn
 have ht:=hI.ht
 have hb:=hI.hb
 clear hI
 cases hn with
 | no h=>unfold qGe at hp1;cases ot <;> cases hp1
 | int n=>
 cases ht with
 | no h=>cases hp1
 | int t=>
 cases hb with
 | no h=>cases hp2
 | int b=>
 have ho:qJr ts wd (some n) (some t) (some b)=mxF (ts.getD n.toNat []) (plF wd (ts.getD n.toNat []) t):=by
  unfold qJr
  dsimp only
  rw [if_pos ⟨hp1,hp2⟩]
 rw [ho] at k0 k1 k2
 refine qM fun _ Y=>?_
 obtain⟨nt,rfl,hnt⟩:∃ k:Nat,n=(k:Int)∧k < ts.length:=by
  unfold qGe at hp1
  simp only [Bool.and_eq_true,decide_eq_true_eq] at hp1
  exact⟨n.toNat,by omega,by omega⟩
 have hbb:b.natAbs≤1000000:=by unfold byB at hp2;simpa using hp2
 obtain⟨ms,hms⟩:∃ ms,ts[nt]? =some ms:=⟨_,List.getElem?_eq_getElem hnt⟩
 have egd:ts.getD ((nt:Int)).toNat []=ms:=by rw [Int.toNat_natCast,List.getD_eq_getElem?_getD,hms];rfl
 rw [egd] at k0 k1 k2
 clear ho egd hp1 hp2
 obtain⟨hml,hmi⟩:=hit ms (List.mem_of_getElem? hms)
 have ez:zs[nt]? =some zs[nt]:=List.getElem?_eq_getElem (by omega)
 obtain⟨ms1,z,hms1,ezz,tT⟩:=g4.get ez
 rw [hms] at hms1
 cases hms1
 apply Y
 rw [ezz] at ez
 have hT:TabF H (.ref tz) ts tie:=⟨tz,tl,ti,zs,rfl,g2,g3,g4,g5⟩
 refine(ixO g2 at0 (ixO hd qI5 ⟨tl,_,_,_,rfl,rfl,SqL.of g3,jX ez,?_⟩))
 refine⟨_,rfl,_,rfl,z,dz,ms,_,_,t,wd,rfl,tT,hd,hw,?_⟩
 cases hpl:plF wd ms t with
 | none=>
  rw [hpl] at k0
  intro H1 e1
  exact⟨_,rfl,_,rfl,qE9 (by decide) ⟨one,k0 rfl H1 e1⟩⟩
 | some is=>
 rw [hpl] at k1 k2
 intro pz H1 e1 hpz
 refine⟨_,rfl,_,rfl,jN (fun c=>absurd c (by simp)) (fun _=>?_)⟩
 have hends:=qFv hw hpl
 have hisl:is.length≤3:=by
  rcases hends with ⟨_,x,rfl,_⟩ | ⟨_,h,_⟩
  · show 1≤3;decide
  · exact h
 refine⟨_,rfl,pz,rfl,⟨_,SqT.of hpz⟩,qJm (K:=K) (a:=pz) (xs:=is.map V.int) (fun j acc H2=>acc=((is.take j).map (hmB ms)).map V.bl∧H2=H1) ⟨rfl,rfl⟩ ?_ ?_ ?_⟩
 · rintro j acc H2 hj ⟨rfl,rfl⟩
   exact⟨SqT.of hpz,by rw [List.length_map,List.length_map,List.length_take];exact jT (by omega)⟩
 · rintro j x acc H2 hj hx ⟨rfl,rfl⟩
   refine qM fun _ Y=>?_
   obtain⟨k,hk,rfl⟩:∃ k:Int,is[j]? =some k∧x= .int k:=by
    rw [List.getElem?_map] at hx
    cases hq:is[j]? with
    | none=>rw [hq] at hx;cases hx
    | some k=>rw [hq] at hx;cases hx;exact⟨k,rfl,rfl⟩
   apply Y
   refine⟨_,rfl,_,rfl,z,ms,k,rfl,tT.same e1,Nxt.mk hj ⟨?_,rfl⟩⟩
   rw [List.take_add_one,hk]
   simp
 rintro acc H2 ⟨rfl,rfl⟩ d hd'
 rw [List.length_map,List.take_length]
 have w2:=qF hd' (.lst ((is.map (hmB ms)).map V.bl))
 have e2:=e1.trans w2
 have hany:(is.map (hmB ms)).any id=is.any (hmB ms):=by rw [List.any_map];rfl
 refine⟨d,is.map (hmB ms),rfl,SqL.of qD,?_⟩
 rw [hany]
 have hpz2:=w2 _ _ hpz
 generalize upd H2 d (.lst ((is.map (hmB ms)).map V.bl))=H3 at w2 e2 hpz2 ⊢
 have hd3:=e2 _ _ hd
 unfold mxF at k1 k2
 dsimp only at k1 k2
 cases hmx:is.any (hmB ms) with
 | true=>
  rw [hmx] at k1
  exact⟨true,rfl,xn ⟨one,k1 rfl H3 e2⟩⟩
 | false=>
 rw [hmx] at k2
 obtain⟨kq,ks⟩:=k2 rfl nt t b ms is rfl rfl rfl hms hpl
 refine⟨false,rfl,xY ?_⟩
 rcases hends with ⟨rfl,x,rfl,hx⟩ | ⟨hwn,_,x,y,hh0,hl0,hx0,hy0,hx,hy⟩
 · obtain⟨i,nn,p,q,r,s',l,rfl,hm⟩:=xG hx
   obtain⟨N,hc⟩:=hmi _ (List.mem_of_getElem? hm) _ _ _ _ _ _ rfl
   have ec:qy ms (i:Int)= .clip nn p q r s' l:=by unfold qy;rw [Int.toNat_natCast,hm];rfl
   have cv:xA rl ms "slip" [(i:Int)] b=if 0 < b then vL p q r s' l N else vR p q r s' N:=by
    unfold xA
    rw [if_pos rfl]
    show qGb rl (qy ms (i:Int)) b=_
    rw [ec]
    unfold qGb
    dsimp only
    rw [hc.rn]
   have rv:qD3 ms "slip" [(i:Int)] b=ms.set i (.clip nn (plP p q r s' b) (plQ p q r s' b) r s' l):=by
    unfold qD3
    rw [if_pos rfl]
    show (match qy ms (i:Int) with | .clip n p q r s l=>ms.set ((i:Int)).toNat (.clip n (plP p q r s b) (plQ p q r s b) r s l) | _=>ms)=_
    rw [ec]
    rfl
   rw [cv,rv] at kq
   rw [cv] at ks
   refine(ixO hd3 qBm ⟨rfl,_,rfl,xn ?_⟩)
   refine⟨_,rfl,ixO hd3 qI5 ?_⟩
   refine⟨_,rfl,ixO hpz2 qJb (ixO hd3 qK9 ⟨_,rfl,?_⟩)⟩
   refine⟨z,rd,ms,i,b,rl,_,_,_,_,_,_,_,rfl,tT.same e2,hml,hm,hc,hre.same e2,hbb,fun hc y H4 e4 hy tY=>?_,fun hc dx H4 e4 hdx=>ks hc dx H4 (e2.trans e4) hdx⟩
   refine⟨tz,y,nt,ts,tie,_,rfl,hT.same (e2.trans e4),tY,hnt,htl,fun t H5 e5 hN=>?_⟩
   exact kq hc t H5 ((e2.trans e4).trans e5) (hN H (e2.trans e4) (e2.free hy))
 · obtain⟨i,nn,p,q,r,s',l,rfl,hm⟩:=xG hx
   refine qM fun _ Y=>?_
   obtain⟨j,nn',p',q',r',s'',l',rfl,hm'⟩:=xG hy
   obtain⟨N,hc⟩:=hmi _ (List.mem_of_getElem? hm) _ _ _ _ _ _ rfl
   obtain⟨N',hc'⟩:=hmi _ (List.mem_of_getElem? hm') _ _ _ _ _ _ rfl
   apply Y
   have ec:qy ms (i:Int)= .clip nn p q r s' l:=by unfold qy;rw [Int.toNat_natCast,hm];rfl
   have ec':qy ms (j:Int)= .clip nn' p' q' r' s'' l':=by unfold qy;rw [Int.toNat_natCast,hm'];rfl
   have cv:xA rl ms wd is b=qAr b (vL p q r s' l N) (vR p' q' r' s'' N') l l':=by
    unfold xA
    rw [if_neg hwn,hh0,hl0,ec,ec']
    unfold qIw
    dsimp only
    rw [hc.rn,hc'.rn]
   have rv:qD3 ms wd is b=qC5 ms i j b nn p q r s' l nn' p' q' r' s'' l':=by
    unfold qD3
    rw [if_neg hwn,hh0,hl0,ec,ec']
    rfl
   rw [cv,rv] at kq
   rw [cv] at ks
   have dw:decide (V.str wd=V.str "slip")=false:=by
    rw [qDz];exact decide_eq_false hwn
   refine(ixO hd3 qBm ⟨rfl,_,rfl,vZ dw ?_⟩)
   refine⟨_,rfl,ixO hd3 qI5 ?_⟩
   refine⟨_,rfl,_,rfl,pz,_,_,_,rfl,rfl,SqT.of hpz2,hx0,_,rfl,1,rfl,pz,_,_,_,rfl,rfl,SqT.of hpz2,hy0,ixO hd3 qK9 ⟨_,rfl,?_⟩⟩
   refine⟨z,rd,ms,i,j,b,rl,_,_,_,_,_,_,_,_,_,_,_,_,_,_,rfl,tT.same e2,hml,hm,hm',hc,hc',hre.same e2,hbb,fun hc y H4 e4 hy tY=>?_,fun hc dx H4 e4 hdx=>ks hc dx H4 (e2.trans e4) hdx⟩
   refine⟨tz,y,nt,ts,tie,_,rfl,hT.same (e2.trans e4),tY,hnt,htl,fun t H5 e5 hN=>?_⟩
   exact kq hc t H5 ((e2.trans e4).trans e5) (hN H (e2.trans e4) (e2.free hy))
theorem qBe (T:Tx K mg a):FnOk P w K mg base (CXR P w) 9 a.A72 a.B72 ["table","deed","reels"] (vi a.k_NoPlace a.k_Mixed a.k_Short):=by
 refine okX T.D72.F qCl (fun vs H Q E h=>vt h) (fun cdv A outer s H vs Q E hr h=>?_)
 refine⟨_,(qB (qf (qO qIh (qN (pv 1)) (xS (v:=.ref a.n_ROLLS) rfl T.g_ROLLS rfl) rfl) (qE (qK (zA T.D56 (qGl T) hr rfl (qA (pv 0) (qA (pv 1) (qA (pv 2) qC)))))) qP)
  wX),?_⟩
 try dsimp only [jS,qc]
 refine qM fun _ Y=>?_
 obtain⟨tz,dz,rd,ts,tie,wd,n,t,b,on,ot,ob,rl,rfl,hI,k0,k1,k2⟩:=h
 apply Y
 have hd:=hI.deed
 have hin:inV (.str wd) [.str "roll",.str "slip",.str "slide"]=true:=by
  rcases hI.w3 with rfl | rfl | rfl <;> decide+kernel
 refine(ixO hd qBm ⟨a.n_ROLLS,_,rfl,.inr (T.sq_ROLLS _),rfl,rfl,true,?_,xn ?_⟩)
 · rw [hin];rfl
 exact⟨_,rfl,_,rfl,_,rfl,tz,dz,rd,ts,tie,wd,n,t,b,on,ot,ob,rl,rfl,hI,k0,k1,k2⟩
def SB (z:Addr)(H H':Hp):Prop:=∀ b u,b≠z→H b=some u→H' b=some u
theorem SB.refl (z:Addr)(H:Hp):SB z H H:=fun _ _ _ h=>h
theorem SB.trans {z:Addr}{H H1 H2:Hp}(a:SB z H H1)(b:SB z H1 H2):SB z H H2:=fun c u n h=>b c u n (a c u n h)
theorem kK {z:Addr}{H H':Hp}(e:Same H H'):SB z H H':=fun b u _ h=>e b u h
inductive qB2 (vs:List V)(H:Hp)(Q:VK)(_:XK):Prop
| mk (l:Int) (_:vs=[.int l]) (_:Q (.int (l.fdiv 2)) H)
theorem ki (T:Tx K mg a):FnOk P w K mg base CX0 1 a.A35 a.B35 ["length"] qB2:=by
 refine T.D35.F.ok qCa (fun vs H Q E h=>?_) (fun cdv A outer s H vs Q E hr h=>?_)
 · obtain⟨l,rfl,_⟩:=h
   rfl
 refine qM fun _ Y=>?_
 obtain⟨l,rfl,kk⟩:=h
 apply Y
 refine⟨_,(qE (qK (qJ jG (pv 0) qG))),?_⟩
 try dsimp only [jS,qc]
 exact⟨_,rfl,_,_,rfl,rfl,cdB (by decide) (by decide),kk⟩
inductive qAf (vs:List V)(H:Hp)(Q:VK)(_:XK):Prop
| mk (l:Int) (_:vs=[.int l]) (_:Q (.int (l - l.fdiv 2)) H)
theorem qAo (T:Tx K mg a):FnOk P w K mg base CX0 1 a.A36 a.B36 ["length"] qAf:=by
 refine T.D36.F.ok qAl (fun vs H Q E h=>?_) (fun cdv A outer s H vs Q E hr h=>?_)
 · obtain⟨l,rfl,_⟩:=h
   rfl
 refine qM fun _ Y=>?_
 obtain⟨l,rfl,kk⟩:=h
 apply Y
 refine⟨_,(qE (qK (qJ qp (pv 0) (qJ jG (pv 0) qG)))),?_⟩
 try dsimp only [jS,qc]
 exact⟨_,rfl,_,rfl,_,_,rfl,rfl,cdB (by decide) (by decide),_,_,rfl,rfl,kk⟩
def xl:Int→List Im→List (Int × Int × Int)
 | _,[]=>[]
 | b,.mix l::ms=>(b - l.fdiv 2,b,b+(l - l.fdiv 2))::xl b ms
 | b,.clip _ _ _ _ _ l::ms=>xl (b+l) ms
 | b,.nest _ _ l::ms=>xl (b+l) ms
 | b,.gap l::ms=>xl (b+l) ms
theorem kB {m:Im}(h:m.wd≠"mix")(b:Int)(ms:List Im):xl b (m::ms)=xl (b+m.mo) ms:=by
 cases m with
 | mix l=>exact absurd rfl h
 | _=>rfl
def jD:Nat→List Im→List Nat
 | _,[]=>[]
 | i,.mix _::ms=>i::jD (i+1) ms
 | i,.clip _ _ _ _ _ _::ms=>jD (i+1) ms
 | i,.nest _ _ _::ms=>jD (i+1) ms
 | i,.gap _::ms=>jD (i+1) ms
theorem ji {m:Im}(h:m.wd≠"mix")(i:Nat)(ms:List Im):jD i (m::ms)=jD (i+1) ms:=by
 cases m with
 | mix l=>exact absurd rfl h
 | _=>rfl
theorem vP:∀ (i:Nat) (b:Int) (ms:List Im),(jD i ms).length=(xl b ms).length
 | _,_,[]=>rfl
 | i,b,m::ms=>by
  by_cases h:m.wd="mix"
  · obtain⟨l,rfl⟩:=qC9 h
    rw [jD,xl,List.length_cons,List.length_cons,vP (i+1) b ms]
  · rw [ji h,kB h,vP (i+1) (b+m.mo) ms]
def qD5:Int→Nat→List Im→Int→Option (Nat × Int)
 | _,_,[],_=>none
 | b,i,.mix l::ms,t=>if b - l.fdiv 2≤t∧t < b+(l - l.fdiv 2) then some (i,t - (b - l.fdiv 2)) else qD5 b (i+1) ms t
 | b,i,.clip _ _ _ _ _ l::ms,t=>qD5 (b+l) (i+1) ms t
 | b,i,.nest _ _ l::ms,t=>qD5 (b+l) (i+1) ms t
 | b,i,.gap l::ms,t=>qD5 (b+l) (i+1) ms t
theorem vc {m:Im}(h:m.wd≠"mix")(b:Int)(i:Nat)(ms:List Im)(t:Int):qD5 b i (m::ms) t=qD5 (b+m.mo) (i+1) ms t:=by
 cases m with
 | mix l=>exact absurd rfl h
 | _=>rfl
def qG1:List Nat→List (Int × Int × Int)→Int→Option (Nat × Int)
 | p::ps,(x,_,z)::ss,t=>if x≤t∧t < z then some (p,t - x) else qG1 ps ss t
 | _,_,_=>none
theorem qBn:∀ (b:Int) (i:Nat) (ms:List Im) (t:Int),qG1 (jD i ms) (xl b ms) t=qD5 b i ms t
 | _,_,[],_=>rfl
 | b,i,m::ms,t=>by
  by_cases h:m.wd="mix"
  · obtain⟨l,rfl⟩:=qC9 h
    rw [jD,xl,qG1,qD5,qBn b (i+1) ms t]
  · rw [ji h,kB h,vc h,qBn _ (i+1) ms t]
theorem qEv:∀ {b:Int} {i:Nat} {ms:List Im} {t:Int} {k:Nat} {j:Int},qD5 b i ms t=some (k,j)→∃ l,i≤k∧ms[k - i]? =some (.mix l)∧0≤j∧j < l
 | _,_,[],_,_,_,h=>by simp [qD5] at h
 | b,i,m::ms,t,k,j,h=>by
  by_cases hm:m.wd="mix"
  · obtain⟨l,rfl⟩:=qC9 hm
    rw [qD5] at h
    by_cases hc:b - l.fdiv 2≤t∧t < b+(l - l.fdiv 2)
    · rw [if_pos hc] at h
      cases h
      exact⟨l,Nat.le_refl _,by simp,by omega,by omega⟩
    · rw [if_neg hc] at h
      obtain⟨l',h1,h2,h3⟩:=qEv h
      have e:k - i=(k - (i+1))+1:=by omega
      exact⟨l',by omega,by rw [e,List.getElem?_cons_succ];exact h2,h3⟩
  · rw [vc hm] at h
    obtain⟨l',h1,h2,h3⟩:=qEv h
    have e:k - i=(k - (i+1))+1:=by omega
    exact⟨l',by omega,by rw [e,List.getElem?_cons_succ];exact h2,h3⟩
def SpAt (H:Hp):List (Int × Int × Int)→List V→Prop
 | [],[]=>True
 | (x,y,z)::ss,v::vs=>(∃ p:Addr,v= .ref p∧H p=some (.tup [.int x,.int y,.int z]))∧SpAt H ss vs
 | _,_=>False
theorem SpAt.len {H:Hp}:∀ {ss:List (Int × Int × Int)} {vs:List V},SpAt H ss vs→vs.length=ss.length
 | [],[],_=>rfl
 | (_,_,_)::_,_::_,h=>by rw [List.length_cons,List.length_cons,SpAt.len h.2]
 | [],_::_,h=>h.elim
 | (_,_,_)::_,[],h=>h.elim
theorem SpAt.ts {H H':Hp}(e:TS H H'):∀ {ss:List (Int × Int × Int)} {vs:List V},SpAt H ss vs→SpAt H' ss vs
 | [],[],_=>trivial
 | (_,_,_)::_,_::_,⟨⟨p,h1,h2⟩,h⟩=>⟨⟨p,h1,e _ _ h2⟩,SpAt.ts e h⟩
 | [],_::_,h=>h.elim
 | (_,_,_)::_,[],h=>h.elim
theorem SpAt.app {H:Hp}:∀ {ss:List (Int × Int × Int)} {vs:List V} {ss':List (Int × Int × Int)} {vs':List V},SpAt H ss vs→SpAt H ss' vs'→SpAt H (ss++ss') (vs++vs')
 | [],[],_,_,_,h'=>h'
 | (_,_,_)::_,_::_,_,_,h,h'=>⟨h.1,h.2.app h'⟩
 | [],_::_,_,_,h,_=>h.elim
 | (_,_,_)::_,[],_,_,h,_=>h.elim
theorem SpAt.one {H:Hp}{x y z:Int}{p:Addr}(h:H p=some (.tup [.int x,.int y,.int z])):SpAt H [(x,y,z)] [.ref p]:=⟨⟨p,rfl,h⟩,trivial⟩
theorem SpAt.get {H:Hp}:∀ {ss:List (Int × Int × Int)} {vs:List V} {i:Nat} {v:V},SpAt H ss vs→vs[i]? =some v→∃ (x y z:Int) (p:Addr),ss[i]? =some (x,y,z)∧v= .ref p∧H p=some (.tup [.int x,.int y,.int z])
 | [],[],_,_,_,h=>by simp at h
 | (x,y,z)::_,u::_,0,v,h,e=>by
  have e':u=v:=by simpa using e
  subst e'
  obtain⟨⟨p,h1,h2⟩,_⟩:=h
  exact⟨x,y,z,p,rfl,h1,h2⟩
 | (_,_,_)::ss,_::vs,i+1,v,h,e=>by
  obtain⟨x,y,z,p,h1,h2⟩:=SpAt.get (i:=i) h.2 (by simpa using e)
  exact⟨x,y,z,p,by simpa using h1,h2⟩
 | [],_::_,_,_,h,_=>h.elim
 | (_,_,_)::_,[],_,_,h,_=>h.elim
inductive qDc (vs:List V)(H:Hp)(Q:VK)(_:XK):Prop
| mk (z:Addr) (ms:List Im) (_:vs=[.ref z]) (_:Tr H z ms) (_:ms.length≤300) (_:∀ (y:Addr) (us:List V) (H':Hp),Same H H'→H y=none→H' y=some (.lst us)→SpAt H' (xl 0 ms) us→Q (.ref y) H')
theorem qC0 (T:Tx K mg a):FnOk P w K mg base CX0 2 a.A37 a.B37 ["track"] qDc:=by
 refine T.D37.F.ok jk (fun vs H Q E h=>?_) (fun cdv A outer s H vs Q E hr h=>?_)
 · obtain⟨z,ms,rfl,_⟩:=h
   rfl
 refine qM fun _ Y=>?_
 obtain⟨z,ms,rfl,⟨xs,hz,his⟩,hl,kk⟩:=h
 apply Y
 refine⟨_,(qB (qX 1 jk.nd (jU qC))
  (qB (qX 2 jk.nd qG)
  (qB (kj PassesOwn.never rfl (xU (pv 0)) (jR (i:=3) jk.nd rfl (Or.inl rfl)) (qB (qf (qO jj (qN (pv 3)) qQ (qS _)) (qE (vK (qMu F.plainAttrs_list F.slot_list_append F.type_list_append qDx (pv 1) (qA (jI (qA (qJ qp (pv 2) (qI T.D35 (ki T) hr rfl (qA (qN (pv 3)) qC))) (qA (pv 2) (qA (qJ qY (pv 2) (qI T.D36 (qAo T) hr rfl (qA (qN (pv 3)) qC))) qC)))) qC)))) qP)
  (qE (qX 2 jk.nd (qJ qY (pv 2) (qI T.D23 (kY T) hr rfl (qA (pv 3) qC)))))))
  (qE (qK (pv 1)))))),?_⟩
 try dsimp only [jS,qc]
 refine⟨sL0,fun y hy=>?_⟩
 refine⟨_,rfl,z,rfl,⟨_,SqL.of ((qF hy _) _ _ hz)⟩,zZ (K:=K) (a:=z) (xs:=xs) (fun i σ H'=>∃ (b:Int) (as:List (Int × Int × Int)) (o:Option V) (us:List V),σ=[some (.ref z),some (.ref y),some (.int b),o]∧H' y=some (.lst us)∧SpAt H' as us∧as.length≤i∧as++xl b (ms.drop i)=xl 0 ms∧Same H H')
  ⟨0,[],none,[],rfl,qD,trivial,by simp,rfl,qF hy _⟩ ?_ ?_ ?_⟩
 · rintro i σ H' hi ⟨b,as,o,us,rfl,_,_,_,_,e⟩
   exact SqL.of (e _ _ hz)
 · rintro i x σ H' hx ⟨b,as,o,us,rfl,hv,hsp,hal,hap,e⟩
   refine qM fun _ Y=>?_
   obtain⟨m,hm,hIx⟩:=his.get hx
   have hI:=hIx.ts (qh e)
   have hi:i < ms.length:=(glt hm)
   rw [zJ hm] at hap
   obtain⟨zi,xi,rfl,hzi,h0,h1⟩:=hI.opn
   apply Y
   refine⟨_,rfl,zi,xi,_,_,rfl,rfl,SqT.of hzi,h0,rfl,_,rfl,jN (fun c=>?_) (fun c=>?_)⟩
   · obtain⟨l,rfl⟩:=qC9 (by simpa using c)
     refine qM fun _ Y=>?_
     obtain⟨z2,e2,hz2⟩:=id hI
     cases e2
     apply Y
     rw [xl] at hap
     refine⟨_,rfl,.inl ⟨rfl,_,SqL.of hv⟩,_,rfl,ixO hz2 at1 ⟨_,rfl,_,_,rfl,rfl,_,rfl,_,rfl,ixO hz2 at1 ⟨_,rfl,_,_,rfl,rfl,sL3,fun g hg=>?_⟩⟩⟩
     have w1:=qF hg (.tup [.int (b - l.fdiv 2),.int b,.int (b+(l - l.fdiv 2))])
     refine⟨y,_,_,rfl,rfl,w1 _ _ hv,jT (by rw [hsp.len];omega),?_⟩
     have t2:TS (upd H' g (.tup [.int (b - l.fdiv 2),.int b,.int (b+(l - l.fdiv 2))])) (upd (upd H' g (.tup [.int (b - l.fdiv 2),.int b,.int (b+(l - l.fdiv 2))])) y (.lst (us++[.ref g]))):=qB9 (w1 _ _ hv)
     refine⟨_,rfl,_,rfl,_,.mix l,rfl,(hI.ts (qh w1)).ts t2,_,_,rfl,rfl,b,as++[(b - l.fdiv 2,b,b+(l - l.fdiv 2))],some (.ref zi),us++[.ref g],?_,qD,((hsp.ts (qh w1)).app (.one qD)).ts t2,by simp;omega,?_,zS (e.trans w1) hy⟩
     · show [some (V.ref z),some (V.ref y),some (V.int (b+0)),some (V.ref zi)]=_
       rw [Int.add_zero]
     · rw [← hap];simp
   · have hne:m.wd≠"mix":=by simpa using c
     rw [kB hne] at hap
     exact⟨_,rfl,_,rfl,_,m,rfl,hI,_,_,rfl,rfl,_,as,_,us,rfl,hv,hsp,by omega,hap,e⟩
 · rintro σ H' ⟨b,as,o,us,rfl,hv,hsp,hal,hap,e⟩
   rw [his.len,List.drop_length,xl,List.append_nil] at hap
   rw [hap] at hsp
   exact⟨_,rfl,kk y us H' e hy hv hsp⟩
inductive qH7 (vs:List V)(H:Hp)(Q:VK)(_:XK):Prop
| mk (z:Addr) (ms:List Im) (t:Int) (_:vs=[.ref z,.int t]) (_:Tr H z ms) (_:ms.length≤300) (_:AtR H Q (qD5 0 0 ms t))
theorem zz:∀ (i:Nat) (ms:List Im) (m:Im),jD i (ms++[m])=jD i ms++(if m.wd="mix" then [i+ms.length] else [])
 | i,[],m=>by
  by_cases h:m.wd="mix"
  · obtain⟨l,rfl⟩:=qC9 h
    rw [if_pos h];rfl
  · rw [if_neg h,List.nil_append,ji h];rfl
 | i,m'::ms,m=>by
  have ih:=zz (i+1) ms m
  have e:i+1+ms.length=i+(m'::ms).length:=by rw [List.length_cons];omega
  rw [e] at ih
  by_cases h:m'.wd="mix"
  · obtain⟨l,rfl⟩:=qC9 h
    rw [List.cons_append,jD,jD,ih];rfl
  · rw [List.cons_append,ji h,ji h,ih]
theorem qHj (T:Tx K mg a):FnOk P w K mg base CX0 4 a.A39 a.B39 ["track","moment"] qH7:=by
 refine T.D39.F.ok kN (fun vs H Q E h=>?_) (fun cdv A outer s H vs Q E hr h=>?_)
 · obtain⟨z,ms,t,rfl,_⟩:=h
   rfl
 refine qM fun _ Y=>?_
 obtain⟨z,ms,t,rfl,⟨xs,hz,his⟩,hl,kk⟩:=h
 apply Y
 have hxl:=his.len
 refine⟨_,(qB (qKc (i:=2) [] [] kN.nd rfl rfl rfl (qIu rfl T.b_enumerate (qA (pv 0) qC)) (fun _ _ _ _=>(qO jj (ql (qEb (K:=K) rfl) (pv 1) qG (fun _ _=>rfl)) qQ (qS _))) (fun _ _ _ _=>(pv 0)))
  (qB (kj PassesOwn.never rfl (qL7 rfl T.b_zip (qA (pv 2) (qA (qI T.D37 (qC0 T) hr rfl (qA (pv 0) qC)) qC))) (qIy rfl (zV (jR (i:=3) kN.nd rfl (Or.inl rfl)) (zV (jR (i:=4) kN.nd rfl (Or.inl rfl)) qEs))) (qE (qf (PW.pt (vE (qO qAm (qN (pv 4)) (pv 1) (qS _)) (zN (qO xL (pv 1) (qN (pv 4)) (qS _))))) (qE (qK (jI (qA (pv 3) (qA (qJ qp (pv 1) (qN (pv 4))) qC))))) qP)))
  (qE (qK ku)))),?_⟩
 try dsimp only [jS,qc]
 refine⟨_,rfl,z,rfl,⟨_,SqL.of hz⟩,qGw (K:=K) (a:=z) (xs:=xs) (fun i acc H'=>Same H H'∧acc=(jD 0 (ms.take i)).map (fun(n:Nat)=>V.int (n:Int))∧acc.length≤i) ⟨Same.refl _,rfl,by simp⟩ ?_ ?_ ?_⟩
 · rintro i acc H' hi ⟨e,rfl,hal⟩
   exact⟨SqL.of (e _ _ hz),jT (by omega)⟩
 · rintro i x acc H' p hi hx ⟨e,rfl,hal⟩ hp
   refine qM fun _ Y=>?_
   obtain⟨m,hm,hIx⟩:=his.get hx
   have w1:=qF hp (.tup [.int (i:Int),x])
   have hI:=hIx.ts (qh (e.trans w1))
   obtain⟨zi,xi,rfl,hzi,h0,h1⟩:=hI.opn
   apply Y
   have htk:ms.take (i+1)=ms.take i++[m]:=by rw [List.take_add_one,hm];rfl
   have hlt:(ms.take i).length=i:=by rw [List.length_take];omega
   refine⟨_,rfl,zi,xi,_,_,rfl,rfl,SqT.of hzi,h0,rfl,_,rfl,jN (fun c=>?_) (fun c=>?_)⟩
   · have hw:m.wd="mix":=by simpa using c
     refine⟨_,rfl,Nxt.mk hi ⟨e.trans w1,?_,by simp at hal ⊢;omega⟩⟩
     rw [htk,zz,if_pos hw,hlt,List.map_append,Nat.zero_add];rfl
   · have hw:¬ m.wd="mix":=by simpa using c
     refine Nxt.mk hi ⟨e.trans w1,?_,by omega⟩
     rw [htk,zz,if_neg hw,List.append_nil]
 rintro acc H1 ⟨e1,rfl,hal⟩ pl hpl
 rw [hxl,List.take_length] at*
 have w2:=qF hpl (.lst ((jD 0 ms).map fun(n:Nat)=>V.int (n:Int)))
 have hP:(upd H1 pl (.lst ((jD 0 ms).map fun(n:Nat)=>V.int (n:Int)))) pl=some (.lst ((jD 0 ms).map fun(n:Nat)=>V.int (n:Int))):=qD
 have e2:=e1.trans w2
 generalize upd H1 pl (.lst ((jD 0 ms).map fun(n:Nat)=>V.int (n:Int)))=H2 at hP e2 ⊢
 have tr2:Tr H2 z ms:=⟨xs,e2 _ _ hz,his.ts (qh e2)⟩
 refine⟨_,rfl,_,rfl,z,ms,rfl,tr2,hl,fun sp us H3 e3 _ hsp hus=>?_⟩
 have hP3:=e3 _ _ hP
 have hul:=hus.len
 refine⟨pl,sp,rfl,⟨_,SqL.of hP3⟩,⟨_,SqL.of hsp⟩,qLz (K:=K) (a:=pl) (b:=sp) (xs:=(jD 0 ms).map fun(n:Nat)=>V.int (n:Int)) (ys:=us) (fun i σ H'=>∃ (o1 o2:Option V),σ=[some (.ref z),some (.int t),some (.ref pl),o1,o2]∧qG1 ((jD 0 ms).drop i) ((xl 0 ms).drop i) t=qD5 0 0 ms t∧Same H3 H') ?_ ⟨none,none,rfl,qBn 0 0 ms t,Same.refl _⟩ ?_ ?_ ?_⟩
 · rw [List.length_map,hul,vP 0 0 ms]
 · rintro i σ H' hi ⟨o1,o2,rfl,_,e⟩
   exact⟨SqL.of (e _ _ hP3),SqL.of (e _ _ hsp)⟩
 · rintro i x y σ H' p hx hy ⟨o1,o2,rfl,hap,e⟩ hp
   refine qM fun _ Y=>?_
   obtain⟨n,hn,rfl⟩:∃ n:Nat,(jD 0 ms)[i]? =some n∧x= .int (n:Int):=by
    rw [List.getElem?_map] at hx
    cases e:(jD 0 ms)[i]? with
    | none=>rw [e] at hx;cases hx
    | some m=>rw [e] at hx;exact⟨m,rfl,(Option.some.inj hx).symm⟩
   obtain⟨x0,y0,z0,q,hs,rfl,hq⟩:=hus.get hy
   apply Y
   have w4:=qF hp (.tup [.int (n:Int),.ref q])
   have e4:=e.trans w4
   have hq4:=e4 _ _ hq
   rw [zJ hn,zJ hs,qG1] at hap
   refine⟨p,_,rfl,SqT.of qD,rfl,_,_,rfl,_,_,rfl,rfl,?_⟩
   generalize upd H' p (.tup [.int (n:Int),.ref q])=H5 at e4 hq4 ⊢
   have a0:atI [V.int x0,.int y0,.int z0] 0=some (.int x0):=rfl
   have a2:atI [V.int x0,.int y0,.int z0] 2=some (.int z0):=rfl
   refine(ixO hq4 a0 ⟨_,rfl,_,_,rfl,rfl,_,rfl,?_⟩)
   refine jN (fun c1=>?_) (fun c1=>?_)
   · refine⟨_,rfl,ixO hq4 a2 ⟨_,_,rfl,rfl,_,rfl,?_⟩⟩
     refine jN (fun c2=>?_) (fun c2=>?_)
     · rw [if_pos ⟨by simpa using c1,by simpa using c2⟩] at hap
       rw [← hap] at kk
       refine⟨_,rfl,_,rfl,ixO hq4 a0 ⟨_,_,rfl,rfl,sL2,fun f hf=>?_⟩⟩
       exact kk f _ (((e2.trans e3).trans e4).trans (qF hf _)) qD
     · rw [if_neg (fun c=>c2 (by simpa using c.2))] at hap
       exact⟨_,_,rfl,hap,e4⟩
   · rw [if_neg (fun c=>c1 (by simpa using c.1))] at hap
     exact xY ⟨_,_,rfl,hap,e4⟩
 · rintro σ H' ⟨o1,o2,rfl,hap,e⟩
   rw [List.length_map,List.drop_length] at hap
   have hn:qG1 [] ((xl 0 ms).drop (jD 0 ms).length) t=none:=by
    generalize (xl 0 ms).drop (jD 0 ms).length=ss
    cases ss <;> rfl
   rw [hn] at hap
   rw [← hap] at kk
   exact kk H' ((e2.trans e3).trans e)
set_option genInjectivity true in
structure Te where
 n:Str
 pic:Int
 p:Int
 q:Int
def Te.d (t:Te):D:=.tup [.leaf (.str t.n),.leaf (.int t.pic),.tup [.leaf (.int t.p),.leaf (.int t.q)]]
def IsTe (K:W.Frag)(H:Hp)(t:Te)(v:V):Prop:=∃ z s:Addr,v= .ref z∧H z=some (.tup [.str t.n,.int t.pic,.ref s])∧SqT K H s [.int t.p,.int t.q]
def IsTes (K:W.Frag)(H:Hp):List Te→List V→Prop
 | [],[]=>True
 | t::ts,v::vs=>IsTe K H t v∧IsTes K H ts vs
 | _,_=>False
theorem IsTe.same {H H':Hp}(e:Same H H'){t:Te}{v:V}(h:IsTe K H t v):IsTe K H' t v:=
 let ⟨z,s,h1,h2,h3⟩:=h;⟨z,s,h1,e _ _ h2,L3.Same.tup e h3⟩
theorem IsTes.same {H H':Hp}(e:Same H H'):∀ {ts:List Te} {vs:List V},IsTes K H ts vs→IsTes K H' ts vs
 | [],[],_=>trivial
 | _::_,_::_,h=>⟨h.1.same e,IsTes.same e h.2⟩
 | [],_::_,h=>h.elim
 | _::_,[],h=>h.elim
theorem IsTes.len {H:Hp}:∀ {ts:List Te} {vs:List V},IsTes K H ts vs→vs.length=ts.length
 | [],[],_=>rfl
 | _::_,_::_,h=>by rw [List.length_cons,List.length_cons,IsTes.len h.2]
 | [],_::_,h=>h.elim
 | _::_,[],h=>h.elim
theorem IsTe.rep {H:Hp}{t:Te}{v:V}(h:IsTe K H t v):Rep K H t.d v:=by
 obtain⟨z,s,rfl,h2,h3⟩:=h
 unfold Te.d Rep
 refine⟨z,_,rfl,SqT.of h2,?_⟩
 unfold Reps Reps Reps Reps
 refine⟨?_,?_,?_,trivial⟩
 · unfold Rep;exact⟨rfl,rfl⟩
 · unfold Rep;exact⟨rfl,rfl⟩
 · unfold Rep;exact⟨s,_,rfl,h3,qFo (xs:=[.int t.p,.int t.q]) rfl⟩
theorem IsTes.rep {H:Hp}:∀ {ts:List Te} {vs:List V},IsTes K H ts vs→Reps K H (ts.map Te.d) vs
 | [],[],_=>by unfold List.map Reps;trivial
 | _::_,_::_,h=>by unfold List.map Reps;exact⟨h.1.rep,h.2.rep⟩
 | [],_::_,h=>h.elim
 | _::_,[],h=>h.elim
theorem qG8 (t:Te):eqD t.d t.d=true:=by simp [Te.d,eqD,wK,eqV]
theorem qAt:∀ ts:List Te,wK (ts.map Te.d) (ts.map Te.d)=true
 | []=>by simp [wK]
 | m::ms=>by unfold List.map wK;rw [qG8,qAt ms];rfl
theorem qEl:∀ ts:List Te,qD4 (ts.map Te.d)≤2
 | []=>by simp [qD4]
 | m::ms=>by
  have h2:=qEl ms
  have h1:dep m.d≤2:=by simp [Te.d,dep,qD4]
  unfold List.map qD4
  omega
def TL (K:W.Frag)(H:Hp)(z:Addr)(ts:List Te):Prop:=∃ vs,H z=some (.lst vs)∧IsTes K H ts vs
theorem TL.same {H H':Hp}{z:Addr}{ts:List Te}(e:Same H H')(h:TL K H z ts):TL K H' z ts:=let ⟨vs,h1,h2⟩:=h;⟨vs,e _ _ h1,h2.same e⟩
theorem TL.rep {H:Hp}{z:Addr}{ts:List Te}(h:TL K H z ts):Rep K H (.lst (ts.map Te.d)) (.ref z):=by
 obtain⟨vs,h1,h2⟩:=h
 unfold Rep
 exact⟨z,vs,rfl,SqL.of h1,h2.rep⟩
theorem qOq {H:Hp}{x y:Addr}{ts:List Te}{Q:VK}(h1:TL K H x ts)(h2:TL K H y ts)(q:Q (.bl false) H):qNd K true (.ref x) (.ref y) H Q:=by
 refine⟨_,_,h1.rep,h2.rep,rfl,by have:=qEl ts;unfold dep;omega,?_⟩
 have e:eqD (.lst (ts.map Te.d)) (.lst (ts.map Te.d))=true:=by unfold eqD;exact qAt ts
 rw [e]
 exact q
theorem qK4 {H:Hp}{y:Addr}(h2:H y=some (.lst [])):Rep K H (.lst []) (.ref y):=by
 unfold Rep;exact⟨y,[],rfl,SqL.of h2,by unfold Reps;trivial⟩
theorem qO9 {H:Hp}{x y:Addr}{ts:List Te}{Q:VK}(h1:TL K H x ts)(h2:H y=some (.lst []))(q:Q (.bl (!ts.isEmpty)) H):qNd K true (.ref x) (.ref y) H Q:=by
 refine⟨_,.lst [],h1.rep,qK4 h2,rfl,by have:=qEl ts;unfold dep;omega,?_⟩
 have e:eqD (.lst (ts.map Te.d)) (.lst [])=ts.isEmpty:=by cases ts <;> simp [eqD,wK]
 rw [e]
 exact q
def Im.g:Im→Prop
 | .clip _ p q r s l=>0 < q∧0 < s∧p.natAbs < 2 ^ 400∧q.natAbs < 2 ^ 400∧r.natAbs < 2 ^ 400∧s.natAbs < 2 ^ 400∧1≤l∧l < 2 ^ 400
 | .nest _ b l=>0≤b∧b < 2 ^ 60∧1≤l
 | .gap l=>1≤l
 | .mix l=>1≤l∧l < 2 ^ 60
theorem Im.g_mo {m:Im}(h:m.g):0≤m.mo:=by
 cases m with
 | clip n p q r s l=>have:=h.2.2.2.2.2.2.1;show 0≤l;omega
 | nest n b l=>have:=h.2.2;show 0≤l;omega
 | gap l=>have h:1≤l:=h;show 0≤l;omega
 | mix l=>exact Int.le_refl _
def qK2 (ms:List Im):Prop:=∀ (i:Nat) (l:Int),ms[i]? =some (.mix l)→1≤i∧(∃ n p q r s k,ms[i - 1]? =some (.clip n p q r s k))∧∃ n p q r s k,ms[i+1]? =some (.clip n p q r s k)
def qG3 (p q r s k:Int):Int:=(p*s+k*r*q).fdiv (q*s)
def qC3 (ms:List Im)(i:Nat)(j:Int):List Te:=
 match ms[i]?,ms[i - 1]?,ms[i+1]? with
 | some (.mix l),some (.clip n p q r s k),some (.clip n' p' q' r' s' _)=>[⟨n,qG3 p q r s (k+(j - l.fdiv 2)),jP (l - j) (l+1),jF (l - j) (l+1)⟩,⟨n',qG3 p' q' r' s' (j - l.fdiv 2),jP (j+1) (l+1),jF (j+1) (l+1)⟩]
 | _,_,_=>[]
def qq (f:Str→Int→List Te)(ms:List Im)(t:Int):List Te:=
 match qD5 0 0 ms t with
 | some (i,j)=>qC3 ms i j
 | none=>match jp 0 0 ms t with
  | none=>[]
  | some (i,d)=>match ms[i]? with
   | some (.clip n p q r s _)=>[⟨n,qG3 p q r s d,1,1⟩]
   | some (.nest nm b _)=>f nm (b+d)
   | _=>[]
def kC:List (List Te)→List Te
 | []=>[]
 | x::r=>if x.isEmpty then kC r else x
abbrev Rms:=Str→Option (List (List Im))
def jW (rm:Rms):Nat→Str→Int→List Te
 | 0,_,_=>[]
 | n+1,nm,t=>kC (((rm nm).getD []).map fun ms=>qq (jW rm n) ms t)
def RoomAt (H:Hp)(rz:Addr)(rm:Rms):Prop:=∃ (re td:Addr) (kvs:List (Key × V)),H rz=some (.tup [.ref re,.ref td])∧Rd H td (.dK kvs)∧∀ nm ts,rm nm=some ts→∃ v,qAg kvs (Sum.inr nm)=some v∧TabAt H v ts
theorem RoomAt.same {H H':Hp}(e:Same H H'){rz:Addr}{rm:Rms}(h:RoomAt H rz rm):RoomAt H' rz rm:=
 let ⟨re,td,kvs,h1,h2,h3⟩:=h;⟨re,td,kvs,e _ _ h1,qHy e h2,fun nm ts q=>let ⟨v,a,b⟩:=h3 nm ts q;⟨v,a,b.same e⟩⟩
def Lv (rm:Rms):Nat→Str→Prop
 | 0,_=>False
 | n+1,nm=>∃ ts,rm nm=some ts∧ts.length≤300∧∀ ms∈ts,ms.length≤300∧qK2 ms∧∀ m∈ms,m.g∧∀ nm' b l,m= .nest nm' b l→Lv rm n nm'
def LvT (rm:Rms)(n:Nat)(ms:List Im):Prop:=ms.length≤300∧qK2 ms∧∀ m∈ms,m.g∧∀ nm' b l,m= .nest nm' b l→Lv rm n nm'
theorem qFg:∀ {b:Int} {i:Nat} {ms:List Im} {t:Int} {k:Nat} {d:Int},jp b i ms t=some (k,d)→(∀ m∈ms,m.g)→0≤b→0≤d∧d≤t
 | _,_,[],_,_,_,h,_,_=>by simp [jp] at h
 | b,i,m::ms,t,k,d,h,hg,hb=>by
  rw [jp] at h
  by_cases hc:b≤t∧t < b+m.mo
  · rw [if_pos hc] at h
    cases h
    omega
  · rw [if_neg hc] at h
    have:=Im.g_mo (hg m (by simp))
    exact qFg h (fun x hx=>hg x (by simp [hx])) (by omega)
theorem wn:∀ {b:Int} {i:Nat} {ms:List Im} {t:Int} {k:Nat} {d:Int},jp b i ms t=some (k,d)→i≤k∧∃ m,ms[k - i]? =some m
 | _,_,[],_,_,_,h=>by simp [jp] at h
 | b,i,m::ms,t,k,d,h=>by
  rw [jp] at h
  by_cases hc:b≤t∧t < b+m.mo
  · rw [if_pos hc] at h
    cases h
    exact⟨Nat.le_refl _,m,by simp⟩
  · rw [if_neg hc] at h
    obtain⟨h1,m',h2⟩:=wn h
    have e:k - i=(k - (i+1))+1:=by omega
    exact⟨by omega,m',by rw [e,List.getElem?_cons_succ];exact h2⟩
theorem xm {i:Int}(h:i.natAbs < 2 ^ 400):Sm2 i:=Nat.lt_of_lt_of_le h (Nat.pow_le_pow_right (by decide) (by decide))
inductive qAn (K:W.Frag)(vs:List V)(H:Hp)(Q:VK)(_:XK):Prop
| mk (z:Addr) (ms:List Im) (i:Nat) (j l:Int) (_:vs=[.ref z,.int (i:Int),.int j]) (_:Tr H z ms) (_:qK2 ms) (_:(∀ m∈ms,m.g)) (_:ms[i]? =some (.mix l)) (_:0≤j) (_:j < l) (_:∀ (y:Addr) (H':Hp),Same H H'→H y=none→TL K H' y (qC3 ms i j)→Q (.ref y) H')
theorem qAs (T:Tx K mg a):FnOk P w K mg base CX0 6 a.A40 a.B40 ["track","place","j"] (qAn K):=by
 refine T.D40.F.ok qo (fun vs H Q E h=>?_) (fun cdv A outer s H vs Q E hr h=>?_)
 · obtain⟨z,ms,i,j,l,rfl,_⟩:=h
   rfl
 refine qM fun _ Y=>?_
 obtain⟨z,ms,i,j,l,rfl,⟨xs,hz,his⟩,hok,hg,hm,j0,j1,kk⟩:=h
 apply Y
 refine⟨_,(qB (qX 3 qo.nd (qN (ql qV (pv 0) (pv 1) (fun _ _=>rfl))))
  (qB (qX 4 qo.nd (ql qV (pv 0) (qJ qp (pv 1) qG) (fun _ _=>rfl)))
  (qB (qX 5 qo.nd (ql qV (pv 0) (qJ qY (pv 1) qG) (fun _ _=>rfl)))
  (qB (qX 6 qo.nd (qI T.D38 (qB4 T) hr rfl (qA (pv 3) (qA (pv 2) qC))))
  (qB (qX 7 qo.nd (qJ qp (pv 2) (qI T.D35 (ki T) hr rfl (qA (pv 3) qC))))
  (qB (qX 8 qo.nd (jI (qA (qN (pv 4)) (qA (qI T.D13 (jo T) hr rfl (qA (pv 4) (qA (qJ qY (qN (pv 4)) (pv 7)) qC))) (qA (qN (pv 6)) qC)))))
  (qB (qX 9 qo.nd (jI (qA (qN (pv 5)) (qA (qI T.D13 (jo T) hr rfl (qA (pv 5) (qA (pv 7) qC))) (qA (qN (pv 6)) qC)))))
  (qE (qK (jU (qA (pv 8) (qA (pv 9) qC)))))))))))),?_⟩
 try dsimp only [jS,qc]
 refine qM fun _ Y=>?_
 obtain⟨i1,⟨n,p,q,r,s1,k,ha⟩,n',p',q',r',s2,k',hb⟩:=hok i l hm
 have gm:=hg _ (List.mem_of_getElem? hm)
 have ga:=hg _ (List.mem_of_getElem? ha)
 have gb:=hg _ (List.mem_of_getElem? hb)
 have el:qC3 ms i j=[⟨n,qG3 p q r s1 (k+(j - l.fdiv 2)),jP (l - j) (l+1),jF (l - j) (l+1)⟩,⟨n',qG3 p' q' r' s2 (j - l.fdiv 2),jP (j+1) (l+1),jF (j+1) (l+1)⟩]:=by
  unfold qC3;rw [hm,ha,hb]
 rw [el] at kk
 have l60:l < 2 ^ 60:=gm.2
 obtain⟨vm,hvm,Im⟩:=his.get' hm
 obtain⟨va,hva,Ia⟩:=his.get' ha
 obtain⟨vb,hvb,Ib⟩:=his.get' hb
 obtain⟨zm,rfl,hzm⟩:=id Im
 apply Y
 have am:atI xs (i:Int)=some (.ref zm):=jX hvm
 have aa:atI xs ((i:Int) - 1)=some va:=by
  have e:(i:Int) - 1=((i - 1:Nat):Int):=by omega
  rw [e];exact jX hva
 have ab:atI xs ((i:Int)+1)=some vb:=by
  have e:(i:Int)+1=((i+1:Nat):Int):=by omega
  rw [e];exact jX hvb
 have hS:=SqL.of (K:=K) hz
 refine⟨_,rfl,_,rfl,z,_,_,_,rfl,rfl,hS,am,ixT (SqT.of hzm) at1 ?_⟩
 refine⟨_,rfl,_,rfl,_,_,rfl,rfl,z,_,_,_,rfl,rfl,hS,aa,?_⟩
 refine⟨_,rfl,_,rfl,_,_,rfl,rfl,z,_,_,_,rfl,rfl,hS,ab,?_⟩
 refine⟨_,rfl,_,rfl,l,j,rfl,j0,j1,l60,fun sh H1 w1 ⟨sx,sy,hsh,hsx,hsy⟩=>?_⟩
 refine⟨_,rfl,_,rfl,l,rfl,_,_,rfl,rfl,?_⟩
 have Ia1:=Ia.ts (qh w1)
 have Ib1:=Ib.ts (qh w1)
 refine qM fun _ Y=>?_
 obtain⟨za,xa,ya,rfl,hza,hxa,hya⟩:=id Ia1
 obtain⟨zb,xb,yb,rfl,hzb,hxb,hyb⟩:=id Ib1
 obtain⟨q0,s0,bp,bq,br,bs,k0,k1⟩:=id ga
 obtain⟨q0',s0',bp',bq',br',bs',_,_⟩:=id gb
 apply Y
 have hf:l.fdiv 2≤l∧0≤l.fdiv 2:=by
  have:=qk (p:=l) (q:=2) (by decide)
  omega
 have bk1:Sm2 (k+(j - l.fdiv 2)):=by
  have e:(2:Int) ^ 400+2 ^ 61 < 2 ^ 401:=by decide
  have:(k+(j - l.fdiv 2)).natAbs < 2 ^ 401:=by omega
  exact Nat.lt_of_lt_of_le this (Nat.pow_le_pow_right (by decide) (by decide))
 have bk2:Sm2 (j - l.fdiv 2):=by
  have:(j - l.fdiv 2).natAbs < 2 ^ 61:=by omega
  exact Nat.lt_of_lt_of_le this (Nat.pow_le_pow_right (by decide) (by decide))
 refine(ixO hza qC2 ⟨_,rfl,ixO hza qCk ⟨_,rfl,_,_,rfl,rfl,?_⟩⟩)
 refine⟨_,n,p,q,r,s1,k,_,rfl,qBk Ia1,q0,s0,xm bp,xm bq,xm br,xm bs,bk1,fun H2 w2=>?_⟩
 refine(ixO (w2 _ _ hsh) at0 ⟨sL3,fun f1 hf1=>?_⟩)
 have w3:=qF hf1 (.tup [.str n,.int ((p*s1+(k+(j - l.fdiv 2))*r*q).fdiv (q*s1)),.ref sx])
 have w23:=w2.trans w3
 refine(ixO (w23 _ _ hzb) qC2 ⟨_,rfl,_,rfl,?_⟩)
 refine⟨_,n',p',q',r',s2,k',_,rfl,qBk (Ib1.ts (qh w23)),q0',s0',xm bp',xm bq',xm br',xm bs',bk2,fun H4 w4=>?_⟩
 have w24:=w23.trans w4
 refine(ixO (w24 _ _ hsh) at1 ⟨sL3,fun f2 hf2=>?_⟩)
 have w5:=qF hf2 (.tup [.str n',.int ((p'*s2+(j - l.fdiv 2)*r'*q').fdiv (q'*s2)),.ref sy])
 refine⟨_,rfl,_,rfl,sL2,fun y hy=>?_⟩
 have w6:=qF hy (.lst [.ref f1,.ref f2])
 have w25:=(w24.trans w5).trans w6
 refine kk y _ (w1.trans w25) ((w1.trans (w24.trans w5)).free hy) ⟨_,qD,⟨f1,sx,rfl,w6 _ _ (w5 _ _ (w4 _ _ qD)),SqT.of (w25 _ _ hsx)⟩,⟨f2,sy,rfl,w6 _ _ qD,SqT.of (w25 _ _ hsy)⟩,trivial⟩
inductive xF (K:W.Frag)(n:Nat)(vs:List V)(H:Hp)(Q:VK)(_:XK):Prop
| mk (rz:Addr) (nm:Str) (t:Int) (rm:Rms) (_:vs=[.ref rz,.str nm,.int t]) (_:RoomAt H rz rm) (_:Lv rm n nm) (_:0≤t) (_:t+n*2 ^ 61 < 2 ^ 400) (_:∀ (y:Addr) (H':Hp),Same H H'→H y=none→TL K H' y (jW rm n nm t)→Q (.ref y) H')
inductive zg (K:W.Frag)(n:Nat)(vs:List V)(H:Hp)(Q:VK)(_:XK):Prop
| mk (z rz:Addr) (ms:List Im) (t:Int) (rm:Rms) (_:vs=[.ref z,.int t,.ref rz]) (_:Tr H z ms) (_:LvT rm n ms) (_:(n≠0→RoomAt H rz rm)) (_:0≤t) (_:t+n*2 ^ 61+2 ^ 60 < 2 ^ 400) (_:∀ (y:Addr) (H':Hp),Same H H'→H y=none→TL K H' y (qq (jW rm n) ms t)→Q (.ref y) H')
theorem vw (T:Tx K mg a)(n:Nat)(IH:∀ {base:Heap},FnOk P w K mg base CX0 (2*n+7) a.A74 a.B74 ["room","name","moment"] (xF K n)):
 FnOk P w K mg base CX0 (2*n+8) a.A73 a.B73 ["track","moment","room"] (zg K n):=by
 refine T.D73.F.ok zW (fun vs H Q E h=>?_) (fun cdv A outer s H vs Q E hrn h=>?_)
 · obtain⟨z,rz,ms,t,rm,rfl,_⟩:=h
   rfl
 refine qM fun _ Y=>?_
 obtain⟨z,rz,ms,t,rm,rfl,tT,⟨hml,hmx,hgs⟩,hrm,t0,t1,kk⟩:=h
 apply Y
 have hr:=hrn.mono (show 7≤2*n+7 by omega)
 refine⟨_,(qB (qX 3 zW.nd (qI T.D39 (qHj T) hr rfl (qA (pv 0) (qA (pv 1) qC))))
  (qB (qf (vp (qLr (pv 3))) (qE (qK (qI T.D40 (qAs T) hr rfl (qA (pv 0) (qA (qN (pv 3)) (qA (qN (pv 3)) qC)))))) qP)
  (qB (qX 4 zW.nd (qI T.D26 (vo T) hr rfl (qA (pv 0) (qA (pv 1) qC))))
  (qB (qf (vp (ww (pv 4))) (qE (qK (jU qC))) qP)
  (qB (qX 5 zW.nd (ql qV (pv 0) (qN (pv 4)) (fun _ _=>rfl)))
  (qB (qf (qO jj (qN (pv 5)) qQ (qS _)) (qE (qK (jU (qA (jI (qA (qN (pv 5)) (qA (qI T.D13 (jo T) hr rfl (qA (pv 5) (qA (qN (pv 4)) qC))) (qA (xS (v:=.ref a.n_WHOLE_SHARE) rfl T.g_WHOLE_SHARE rfl) qC)))) qC)))) qP)
  (qB (qf (qO jj (qN (pv 5)) qQ (qS _)) (qE (qK (qI T.D74 IH hrn rfl (qA (pv 2) (qA (qN (pv 5)) (qA (qJ qY (qN (pv 5)) (qN (pv 4))) qC))) (Nat.le_refl _)))) qP)
  (qE (qK (jU qC)))))))))),?_⟩
 try dsimp only [jS,qc]
 have hg:∀ m∈ms,m.g:=fun m hm=>(hgs m hm).1
 refine qM fun _ Y=>?_
 obtain⟨xs,hz,his⟩:=id tT
 apply Y
 refine⟨_,rfl,_,rfl,z,ms,t,rfl,tT,hml,?_⟩
 cases hmf:qD5 0 0 ms t with
 | some c=>
  obtain⟨i,j⟩:=c
  intro p H1 e1 hp
  have et:qq (jW rm n) ms t=qC3 ms i j:=by unfold qq;rw [hmf]
  rw [et] at kk
  refine qM fun _ Y=>?_
  obtain⟨l,_,hm,j0,j1⟩:=qEv hmf
  apply Y
  rw [Nat.sub_zero] at hm
  refine⟨_,rfl,_,rfl,qN7 (by intro z;cases z) ?_⟩
  refine⟨_,rfl,ixO hp at0 (ixO hp at1 ?_)⟩
  exact⟨z,ms,i,j,l,rfl,tT.same e1,hmx,hg,hm,j0,j1,fun y H2 e2 hy ht=>kk y H2 (e1.trans e2) (e1.free hy) ht⟩
 | none=>
  intro H1 e1
  refine⟨_,rfl,_,rfl,qN8 rfl ?_⟩
  refine⟨_,rfl,_,rfl,z,ms,t,rfl,tT.same e1,?_⟩
  cases hit:jp 0 0 ms t with
  | none=>
   intro H2 e2
   have et:qq (jW rm n) ms t=[]:=by unfold qq;rw [hmf,hit]
   rw [et] at kk
   refine⟨_,rfl,_,rfl,jN (fun _=>?_) (fun c=>absurd (by simp) c)⟩
   refine⟨sL0,fun y hy=>?_⟩
   exact kk y _ ((e1.trans e2).trans (qF hy _)) ((e1.trans e2).free hy) ⟨[],qD,trivial⟩
  | some c=>
   obtain⟨i,d⟩:=c
   intro p H2 e2 hp
   refine qM fun _ Y=>?_
   obtain⟨d0,d1⟩:=qFg hit hg (by decide)
   obtain⟨_,m,hm⟩:=wn hit
   rw [Nat.sub_zero] at hm
   obtain⟨v,hv,hI⟩:=his.get' hm
   apply Y
   have e12:=e1.trans e2
   have hI2:=hI.ts (qh e12)
   refine⟨_,rfl,_,rfl,jN (fun c=>absurd c (by simp)) (fun _=>?_)⟩
   refine⟨_,rfl,ixO hp at0 ⟨z,_,_,_,rfl,rfl,SqL.of (e12 _ _ hz),jX hv,?_⟩⟩
   refine qM fun _ Y=>?_
   obtain⟨gm,hnest⟩:=hgs m (List.mem_of_getElem? hm)
   obtain⟨zi,xi,rfl,hzi,h0,h1⟩:=hI2.opn
   apply Y
   refine⟨_,rfl,zi,xi,_,_,rfl,rfl,SqT.of hzi,h0,rfl,_,rfl,?_⟩
   cases m with
   | clip nm p' q r s1 l=>
    have et:qq (jW rm n) ms t=[⟨nm,qG3 p' q r s1 d,1,1⟩]:=by unfold qq;rw [hmf,hit];simp only [hm]
    rw [et] at kk
    refine jN (fun _=>?_) (fun c=>absurd (by show decide (V.str "clip"=V.str "clip")=true;simp) c)
    refine qM fun _ Y=>?_
    obtain⟨q0,s0,bp,bq,br,bs,_,_⟩:=gm
    obtain⟨z2,x2,y2,e3,hz2,hx2,hy2⟩:=id hI2
    cases e3
    apply Y
    refine(ixO hz2 qC2 ⟨_,rfl,ixO hp at1 ?_⟩)
    refine⟨_,nm,p',q,r,s1,l,d,rfl,qBk hI2,q0,s0,xm bp,xm bq,xm br,xm bs,xm (by have:(0:Int)≤n*2 ^ 61:=Int.mul_nonneg (by omega) (by decide);omega),fun H3 w3=>?_⟩
    refine⟨sL3,fun f hf=>⟨sL1,fun y hy=>?_⟩⟩
    have w4:=qF hf (.tup [.str nm,.int ((p'*s1+d*r*q).fdiv (q*s1)),.ref a.n_WHOLE_SHARE])
    have w5:=qF hy (.lst [.ref f])
    exact kk y _ (((e12.trans w3).trans w4).trans w5) (((e12.trans w3).trans w4).free hy) ⟨_,qD,⟨f,_,rfl,w5 _ _ qD,T.sq_WHOLE_SHARE _⟩,trivial⟩
   | nest nm b l=>
    have et:qq (jW rm n) ms t=jW rm n nm (b+d):=by unfold qq;rw [hmf,hit];simp only [hm]
    rw [et] at kk
    refine jN (fun c=>absurd (show decide (V.str "nest"=V.str "clip")=true from c) (by rw [qDz];decide+kernel)) (fun _=>?_)
    refine⟨_,rfl,zi,xi,_,_,rfl,rfl,SqT.of hzi,h0,rfl,_,rfl,?_⟩
    refine jN (fun _=>?_) (fun c=>absurd (by show decide (V.str "nest"=V.str "nest")=true;simp) c)
    have lv:=hnest nm b l rfl
    have n0:n≠0:=by
     intro q
     subst q
     exact lv
    refine qM fun _ Y=>?_
    obtain⟨b0,b1,l1⟩:=gm
    obtain⟨z2,e3,hz2⟩:=id hI2
    cases e3
    apply Y
    have a1:atI [V.str "nest",.str nm,.int b,.int l] 1=some (.str nm):=rfl
    have a2:atI [V.str "nest",.str nm,.int b,.int l] 2=some (.int b):=rfl
    refine⟨_,rfl,ixO hz2 a1 (ixO hz2 a2 (ixO hp at1 ⟨_,_,rfl,rfl,?_⟩))⟩
    refine⟨rz,nm,b+d,rm,rfl,(hrm n0).same e12,lv,by omega,by omega,fun y H3 e3 hy ht=>kk y H3 (e12.trans e3) (e12.free hy) ht⟩
   | gap l=>
    have et:qq (jW rm n) ms t=[]:=by unfold qq;rw [hmf,hit];simp only [hm]
    rw [et] at kk
    refine jN (fun c=>absurd (show decide (V.str "gap"=V.str "clip")=true from c) (by rw [qDz];decide+kernel)) (fun _=>?_)
    refine⟨_,rfl,zi,xi,_,_,rfl,rfl,SqT.of hzi,h0,rfl,_,rfl,?_⟩
    refine jN (fun c=>absurd (show decide (V.str "gap"=V.str "nest")=true from c) (by rw [qDz];decide+kernel)) (fun _=>?_)
    refine⟨sL0,fun y hy=>?_⟩
    exact kk y _ (e12.trans (qF hy _)) (e12.free hy) ⟨[],qD,trivial⟩
   | mix l=>
    have et:qq (jW rm n) ms t=[]:=by unfold qq;rw [hmf,hit];simp only [hm]
    rw [et] at kk
    refine jN (fun c=>absurd (show decide (V.str "mix"=V.str "clip")=true from c) (by rw [qDz];decide+kernel)) (fun _=>?_)
    refine⟨_,rfl,zi,xi,_,_,rfl,rfl,SqT.of hzi,h0,rfl,_,rfl,?_⟩
    refine jN (fun c=>absurd (show decide (V.str "mix"=V.str "nest")=true from c) (by rw [qDz];decide+kernel)) (fun _=>?_)
    refine⟨sL0,fun y hy=>?_⟩
    exact kk y _ (e12.trans (qF hy _)) (e12.free hy) ⟨[],qD,trivial⟩
theorem vz (T:Tx K mg a):FnOk P w K mg base CX0 7 a.A74 a.B74 ["room","name","moment"] (xF K 0):=by
 refine T.D74.F.ok xI (fun vs H Q E h=>?_) (fun cdv A outer s H vs Q E hrn h=>?_)
 · obtain⟨_,_,_,_,_,_,h,_⟩:=h
   exact h.elim
 · obtain⟨_,_,_,_,_,_,h,_⟩:=h
   exact h.elim
theorem qC6 (T:Tx K mg a)(n:Nat)(IH:∀ {base:Heap},FnOk P w K mg base CX0 (2*n+8) a.A73 a.B73 ["track","moment","room"] (zg K n)):
 FnOk P w K mg base CX0 (2*n+9) a.A74 a.B74 ["room","name","moment"] (xF K (n+1)):=by
 refine T.D74.F.ok xI (fun vs H Q E h=>?_) (fun cdv A outer s H vs Q E hrn h=>?_)
 · obtain⟨rz,nm,t,rm,rfl,_⟩:=h
   rfl
 refine qM fun _ Y=>?_
 obtain⟨rz,nm,t,rm,rfl,hR,⟨ts,hts,htl,hlv⟩,t0,t1,kk⟩:=h
 apply Y
 have hu:=hrn.units
 have hu1:(A.deeper (PyProof.Rows.envOfC (Str.ofString "told_at") (qH kx) s.heap.objs.size a.A74 cdv)).units+1 < cLine:=by omega
 refine⟨_,(qB (qX 3 xI.nd (qN (qv hu1 (qN (pv 0)) (pv 1) (fun _ _=>rfl))))
  (qB (kj PassesOwn.never rfl (xU (pv 3)) (jR (i:=4) xI.nd rfl (Or.inl rfl)) (qB (qX 5 xI.nd (qI T.D73 IH hrn rfl (qA (pv 4) (qA (pv 2) (qA (pv 0) qC))) (Nat.le_refl _)))
  (qE (qf (qO (qKf hu) (pv 5) (jU qC) (qS _)) (qE (qK (pv 5))) qP))))
  (qE (qK (jU qC))))),?_⟩
 try dsimp only [jS,qc]
 have et:jW rm (n+1) nm t=kC (ts.map fun ms=>qq (jW rm n) ms t):=by rw [jW,hts];rfl
 rw [et] at kk
 refine qM fun _ Y=>?_
 obtain⟨re,td,kvs,h1,h2,h3⟩:=id hR
 obtain⟨v,hv,tt,tl,ti,zs,rfl,h4,h5,h6⟩:=h3 nm ts hts
 apply Y
 refine(ixO h1 at1 ⟨_,rfl,td,_,rfl,.inl ⟨kvs,Sum.inr nm,h2,rfl,hv.symm⟩,ixT (SqT.of h4) at0 ?_⟩)
 refine⟨_,rfl,tl,rfl,⟨_,SqL.of h5⟩,zZ (K:=K) (a:=tl) (xs:=zs) (fun i σ H'=>∃ (o1 o2:Option V),σ=[some (.ref rz),some (.str nm),some (.int t),some (.ref tl),o1,o2]∧kC ((ts.drop i).map fun ms=>qq (jW rm n) ms t)=kC (ts.map fun ms=>qq (jW rm n) ms t)∧Same H H') ⟨none,none,rfl,rfl,Same.refl _⟩ ?_ ?_ ?_⟩
 · rintro i σ H' hi ⟨o1,o2,rfl,_,e⟩
   exact SqL.of (e _ _ h5)
 · rintro i x σ H' hx ⟨o1,o2,rfl,hap,e⟩
   refine qM fun _ Y=>?_
   obtain⟨ms,z,hms,rfl,hT⟩:=h6.get hx
   apply Y
   rw [zJ hms,List.map_cons,kC] at hap
   refine⟨_,rfl,_,rfl,_,rfl,z,rz,ms,t,rm,rfl,hT.same e,hlv ms (List.mem_of_getElem? hms),fun _=>hR.same e,t0,?_,fun y H1 e1 hy ht=>?_⟩
   · have e1:((n+1:Nat):Int)=(n:Int)+1:=by omega
     rw [e1,Int.add_mul] at t1
     omega
   refine⟨_,rfl,sL0,fun en hen=>qO9 (ht.same (qF hen _)) qD ⟨_,rfl,?_⟩⟩
   have w2:=qF hen (.lst [])
   cases hq:(qq (jW rm n) ms t).isEmpty with
   | true=>
    rw [hq,if_pos rfl] at hap
    exact xY ⟨_,_,rfl,hap,(e.trans e1).trans w2⟩
   | false=>
    rw [hq,if_neg (by decide)] at hap
    rw [← hap] at kk
    exact xn ⟨_,rfl,kk y _ ((e.trans e1).trans w2) (e.free hy) (ht.same w2)⟩
 · rintro σ H' ⟨o1,o2,rfl,hap,e⟩
   rw [h6.len,List.drop_length] at hap
   have hn:kC ([].map fun ms=>qq (jW rm n) ms t)=[]:=rfl
   rw [hn] at hap
   rw [← hap] at kk
   refine⟨sL0,fun y hy=>?_⟩
   exact kk y _ (e.trans (qF hy _)) (e.free hy) ⟨[],qD,trivial⟩
theorem qHv (T:Tx K mg a):∀ (n:Nat),(∀ {base:Heap},FnOk P w K mg base CX0 (2*n+7) a.A74 a.B74 ["room","name","moment"] (xF K n))∧(∀ {base:Heap},FnOk P w K mg base CX0 (2*n+8) a.A73 a.B73 ["track","moment","room"] (zg K n))
 | 0=>⟨vz T,vw T 0 (vz T)⟩
 | n+1=>by
  have ih:=qHv T n
  have h1:∀ {base:Heap},FnOk P w K mg base CX0 (2*(n+1)+7) a.A74 a.B74 ["room","name","moment"] (xF K (n+1)):=qC6 T n ih.2
  exact⟨h1,vw T (n+1) h1⟩
theorem qPd {t u:L2.TS}{D:qFy}{σ:L2.St}{H:Hp}(P:L2.St→Hp→Prop)(fin:∀ σ H,P σ H→u D σ H)(k:∀ N:L2.St→Hp→Prop,(∀ σ H,P σ H→N σ H)→t {D with nx:=N} σ H):qOo t u D σ H:=k (u D) fin
def drK (zs:Addr)(w L at' n k:Int):List (Key × V):=[(Sum.inr "script",.ref zs),(Sum.inr "way",.int w),(Sum.inr "left",.int L),(Sum.inr "at",.int at'),(Sum.inr "number",.int n),(Sum.inr "k",.int k)]
def DrA (H:Hp)(dz zs:Addr)(b:Int):Prop:=∃ w L at' n k:Int,H dz=some (.dK (drK zs w L at' n k))∧0≤L∧1≤at'∧0≤k∧k≤b
theorem DrA.same {H H':Hp}(e:Same H H'){dz zs:Addr}{b:Int}(h:DrA H dz zs b):DrA H' dz zs b:=
 let ⟨w,L,t,n,k,h1,h2⟩:=h;⟨w,L,t,n,k,e _ _ h1,h2⟩
theorem DrA.le {H:Hp}{dz zs:Addr}{b c:Int}(h:DrA H dz zs b)(hb:b≤c):DrA H dz zs c:=
 let ⟨w,L,t,n,k,h1,h2,h3,h4,h5⟩:=h;⟨w,L,t,n,k,h1,h2,h3,h4,by omega⟩
theorem qLu {H:Hp}{dz z:Addr}{kvs:List (Key × V)}{o:HO}{xs:List V}(h:H dz=some (.dK kvs))(hz:SqL K H z xs):SqL K (upd H dz o) z xs:=by
 have ne:∀ {u:HO},H z=some u→(∀ kvs,u≠ .dK kvs)→z≠dz:=fun {u} q hu=>by rintro rfl;rw [h] at q;cases q;exact hu _ rfl
 rcases hz with (q | ⟨o',q⟩) | q
 · exact .inl (.inl (by rw [qR (ne q (fun _=>by intro z;cases z))];exact q))
 · exact .inl (.inr ⟨o',by rw [qR (ne q (fun _=>by intro z;cases z))];exact q⟩)
 · exact .inr q
inductive qBw (K:W.Frag)(vs:List V)(H:Hp)(Q:VK)(_:XK):Prop
| mk (zs:Addr) (ns:List Int) (_:vs=[.ref zs]) (_:SqL K H zs (ns.map V.int)) (_:ns.length≤63) (_:∀ (dz:Addr) (H':Hp),Same H H'→H dz=none→DrA H' dz zs 0→Q (.ref dz) H')
theorem qBl (T:Tx K mg a):FnOk P w K mg base CX0 2 a.A77 a.B77 ["_law_script"] (qBw K):=by
 refine T.D77.F.ok km (fun vs H Q E h=>?_) (fun cdv A outer s H vs Q E hr h=>?_)
 · obtain⟨zs,ns,rfl,_⟩:=h
   rfl
 refine qM fun _ Y=>?_
 obtain⟨zs,ns,rfl,hS,hlen,kk⟩:=h
 apply Y
 have hu1:=qE6 hr
 refine⟨_,(qB (qX 1 km.nd (qI T.D75 (zD T) hr rfl (qA (pv 0) (qA qG qC))))
  (qE (qK (qLc (zY qQ (pv 0) (zY qQ (qJ qi (pv 1) qG) (zY qQ qG (zY qQ qG (zY qQ (pv 1) (zY qQ qG qL0)))))) rfl rfl (by simp) (by decide))))),?_⟩
 try dsimp only [jS,qc]
 refine⟨_,rfl,zs,ns,0,rfl,hS,hlen,by decide,fun c=>?_⟩
 refine fun dz hdz=>?_
 refine⟨_,rfl,_,rfl,_,_,rfl,rfl,nz,_,rfl,qD,drK zs (c.fmod 2) 0 1 c 0,rfl,(by show 6≤15;decide),?_⟩
 have em:qAx [] (drK zs (c.fmod 2) 0 1 c 0)=drK zs (c.fmod 2) 0 1 c 0:=by rfl
 rw [em,qK0]
 exact kk dz _ (qF hdz _) hdz ⟨_,_,_,_,_,qD,by decide,by decide,by decide,by decide⟩
structure DS (K:W.Frag)(H:Hp)(dz zs:Addr)(ns:List Int)(b:Int):Prop where
 dr:DrA H dz zs b
 sq:SqL K H zs (ns.map V.int)
 len:ns.length≤63
theorem DS.same {H H':Hp}(e:Same H H'){dz zs:Addr}{ns:List Int}{b:Int}(h:DS K H dz zs ns b):DS K H' dz zs ns b:=⟨h.dr.same e,e.seq h.sq,h.len⟩
theorem DS.le {H:Hp}{dz zs:Addr}{ns:List Int}{b c:Int}(h:DS K H dz zs ns b)(hb:b≤c):DS K H dz zs ns c:=⟨h.dr.le hb,h.sq,h.len⟩
inductive qD0 (K:W.Frag)(vs:List V)(H:Hp)(Q:VK)(_:XK):Prop
| mk (dz zs:Addr) (ns:List Int) (b:Int) (_:vs=[.ref dz]) (_:DS K H dz zs ns b) (_:b≤900) (_:∀ (r:Int) (H':Hp),SB dz H H'→DS K H' dz zs ns (b+1)→0≤r→Q (.int r) H')
set_option maxHeartbeats 8000000 in
theorem qW (T:Tx K mg a):FnOk P w K mg base CX0 2 a.A78 a.B78 ["_law_draws_here"] (qD0 K):=by
 refine T.D78.F.ok zI (fun vs H Q E h=>?_) (fun cdv A outer s H vs Q E hr h=>?_)
 · obtain⟨dz,zs,ns,b,rfl,_⟩:=h
   rfl
 refine qM fun _ Y=>?_
 obtain⟨dz,zs,ns,b,rfl,⟨⟨w0,L0,t0,n0,k0,hd,h1,h2,h3,h4⟩,hS,hlen⟩,hb,kk0⟩:=h
 apply Y
 have hu1:=qE6 hr
 refine⟨_,(qB (wG PassesOwn.never (PW.pt (vE (qO jj (qv hu1 (pv 0) qQ (fun _ _=>rfl)) qG (qS _)) (vE (qO jj (qv hu1 (pv 0) qQ (fun _ _=>rfl)) qG (qS _)) (zN (qO xL (qv hu1 (pv 0) qQ (fun _ _=>rfl)) (qZ jB rfl T.b_len rfl (qA (qv hu1 (pv 0) qQ (fun _ _=>rfl)) qC)) (qS _)))))) (qB (vV hu1 (pv 0) qQ (qZ jg rfl T.b_abs rfl (qA (ql qV (qv hu1 (pv 0) qQ (fun _ _=>rfl)) (qv hu1 (pv 0) qQ (fun _ _=>rfl)) (fun _ _=>rfl)) qC)) rfl)
  (qE (vV hu1 (pv 0) qQ (qJ qY (qv hu1 (pv 0) qQ (fun _ _=>rfl)) qG) rfl))))
  (qB (qf (qO qG2 (qv hu1 (pv 0) qQ (fun _ _=>rfl)) qG (qS _)) (qB (qX 1 zI.nd (qJ qi (qv hu1 (pv 0) qQ (fun _ _=>rfl)) qG))
  (qB (vV hu1 (pv 0) qQ (qJ jG (qv hu1 (pv 0) qQ (fun _ _=>rfl)) qG) rfl)
  (qE (qK (pv 1))))) qP)
  (qB (vV hu1 (pv 0) qQ (qJ qY (qv hu1 (pv 0) qQ (fun _ _=>rfl)) qG) rfl)
  (qB (qX 2 zI.nd (qJ qY (qv hu1 (pv 0) qQ (fun _ _=>rfl)) (qI T.D75 (zD T) hr rfl (qA (qv hu1 (pv 0) qQ (fun _ _=>rfl)) (qA (qv hu1 (pv 0) qQ (fun _ _=>rfl)) qC)))))
  (qB (vV hu1 (pv 0) qQ (qI T.D76 (kS T) hr rfl (qA (pv 2) (qA (qv hu1 (pv 0) qQ (fun _ _=>rfl)) qC))) rfl)
  (qE (qK (qI T.D76 (kS T) hr rfl (qA (qv hu1 (pv 0) qQ (fun _ _=>rfl)) (qA qG qC)))))))))),?_⟩
 try dsimp only [jS,qc]
 have gw:∀ {H':Hp} {w L t n k:Int},H' dz=some (.dK (drK zs w L t n k))→DGet H' dz (.str "way") (some (.int w))∧DGet H' dz (.str "left") (some (.int L))∧DGet H' dz (.str "at") (some (.int t))∧DGet H' dz (.str "script") (some (.ref zs))∧DGet H' dz (.str "number") (some (.int n))∧DGet H' dz (.str "k") (some (.int k)):=fun {H' w L t n k} h=>
  ⟨.inl ⟨_,Sum.inr "way",.inl h,rfl,rfl⟩,.inl ⟨_,Sum.inr "left",.inl h,rfl,rfl⟩,.inl ⟨_,Sum.inr "at",.inl h,rfl,rfl⟩,.inl ⟨_,Sum.inr "script",.inl h,rfl,rfl⟩,.inl ⟨_,Sum.inr "number",.inl h,rfl,rfl⟩,.inl ⟨_,Sum.inr "k",.inl h,rfl,rfl⟩⟩
 have sz:∀ w L t n k,(drK zs w L t n k).length < sizeLine:=fun _ _ _ _ _=>by show 6 < sizeLine;decide
 have sqS:∀ {H1:Hp},(∀ x,x≠dz→H1 x=H x)→SqL K H1 zs (ns.map V.int):=fun {H1} hst=>by
  have ne:∀ {u:HO},H zs=some u→(∀ kvs,u≠ .dK kvs)→zs≠dz:=fun {u} q hu=>by rintro rfl;rw [hd] at q;cases q;exact hu _ rfl
  rcases hS with (q | ⟨o',q⟩) | q
  · exact .inl (.inl (by rw [hst _ (ne q (fun _=>by intro z;cases z))];exact q))
  · exact .inl (.inr ⟨o',by rw [hst _ (ne q (fun _=>by intro z;cases z))];exact q⟩)
  · exact .inr q
 have kk:∀ (r:Int) (H':Hp),(∀ x,x≠dz→H' x=H x)→DrA H' dz zs (b+1)→0≤r→Q (.int r) H':=fun r H' hst dr r0=>kk0 r H' (fun x u n hx=>by rw [hst x n];exact hx) ⟨dr,sqS hst,hlen⟩ r0
 have pL:∀ (w L t n k x:Int),qAi (drK zs w L t n k) (Sum.inr "left") (.int x)=drK zs w x t n k:=fun _ _ _ _ _ _=>by rfl
 have pT:∀ (w L t n k x:Int),qAi (drK zs w L t n k) (Sum.inr "at") (.int x)=drK zs w L x n k:=fun _ _ _ _ _ _=>by rfl
 have pN:∀ (w L t n k x:Int),qAi (drK zs w L t n k) (Sum.inr "number") (.int x)=drK zs w L t x k:=fun _ _ _ _ _ _=>by rfl
 have pK:∀ (w L t n k x:Int),qAi (drK zs w L t n k) (Sum.inr "k") (.int x)=drK zs w L t n x:=fun _ _ _ _ _ _=>by rfl
 have stU:∀ {H1:Hp} {o:HO},(∀ x,x≠dz→H1 x=H x)→∀ x,x≠dz→upd H1 dz o x=H x:=fun {H1 o} h x hx=>by rw [qR hx];exact h x hx
 refine qPd (fun σ H'=>σ=[some (.ref dz),none,none]∧(∀ x,x≠dz→H' x=H x)∧∃ L t:Int,H' dz=some (.dK (drK zs w0 L t n0 k0))∧0≤L∧1≤t) ?_ fun N Y=>?_
 · rintro σ H1 ⟨rfl,hst,L,t,hd1,hL,ht⟩
   have hS1:=sqS hst
   refine⟨_,rfl,dz,_,rfl,(gw hd1).2.1,_,_,rfl,rfl,_,rfl,jN (fun c=>?_) (fun c=>?_)⟩
   · have f:=fm L (show (0:Int) < 1000003 by decide)
     refine⟨_,rfl,dz,_,rfl,(gw hd1).2.1,_,_,rfl,rfl,nz,?_⟩
     refine⟨_,rfl,dz,_,rfl,(gw hd1).2.1,_,_,rfl,rfl,cdB (by decide) (by decide),_,rfl,dz,_,rfl,DPut.k (k:=Sum.inr "left") hd1 (sz _ _ _ _ _),?_⟩
     rw [pL]
     refine⟨_,rfl,kk _ _ (stU hst) ⟨_,_,_,_,_,qD,?_,ht,h3,by omega⟩ f.1⟩
     exact Int.fdiv_nonneg hL (by decide)
   · refine⟨_,rfl,dz,_,rfl,(gw hd1).2.2.2.2.2,_,_,rfl,rfl,_,rfl,dz,_,rfl,DPut.k (k:=Sum.inr "k") hd1 (sz _ _ _ _ _),?_⟩
     rw [pK]
     have hd2:upd H1 dz (.dK (drK zs w0 L t n0 (k0+1))) dz=some (.dK (drK zs w0 L t n0 (k0+1))):=qD
     have hst2:=stU (o:=.dK (drK zs w0 L t n0 (k0+1))) hst
     generalize upd H1 dz (.dK (drK zs w0 L t n0 (k0+1)))=H2 at hd2 hst2 ⊢
     have hS2:=sqS hst2
     refine⟨_,rfl,dz,_,rfl,(gw hd2).2.2.2.2.1,_,rfl,dz,_,rfl,(gw hd2).2.2.2.1,_,rfl,dz,_,rfl,(gw hd2).2.2.2.2.2,zs,ns,k0+1,rfl,hS2,hlen,by omega,fun c=>⟨_,_,rfl,rfl,?_⟩⟩
     refine⟨_,rfl,_,rfl,dz,_,rfl,(gw hd2).2.2.2.2.2,_,_,rfl,by omega,by omega,fun x x0 x1=>⟨_,rfl,dz,_,rfl,DPut.k (k:=Sum.inr "number") hd2 (sz _ _ _ _ _),?_⟩⟩
     rw [pN]
     have hd3:upd H2 dz (.dK (drK zs w0 L t x (k0+1))) dz=some (.dK (drK zs w0 L t x (k0+1))):=qD
     have hst3:=stU (o:=.dK (drK zs w0 L t x (k0+1))) hst2
     generalize upd H2 dz (.dK (drK zs w0 L t x (k0+1)))=H3 at hd3 hst3 ⊢
     exact⟨_,rfl,dz,_,rfl,(gw hd3).2.2.2.2.1,_,_,rfl,by decide,by decide,fun y y0 y1=>kk _ _ hst3 ⟨_,_,_,_,_,hd3,hL,ht,by omega,by omega⟩ y0⟩
 refine wE (fun σ H'=>σ=[some (.ref dz),none,none]∧(∀ x,x≠dz→H' x=H x)∧∃ L t:Int,H' dz=some (.dK (drK zs w0 L t n0 k0))∧0≤L∧1≤t)
  (fun _ H'=>match H' dz with | some (.dK [_,_,_,(_,.int t),_,_])=>(ns.length - t).toNat | _=>0) ⟨rfl,fun _ _=>rfl,L0,t0,hd,h1,h2⟩ ?_ ?_
 · rintro σ H1 ⟨rfl,hst,L,t,hd1,hL,ht⟩
   have hS1:=sqS hst
   have out:N [some (.ref dz),none,none] H1:=Y _ _ ⟨rfl,hst,L,t,hd1,hL,ht⟩
   refine⟨_,rfl,dz,_,rfl,(gw hd1).1,rfl,_,rfl,jN (fun c1=>?_) (fun c1=>xY out)⟩
   refine⟨_,rfl,dz,_,rfl,(gw hd1).2.1,rfl,_,rfl,jN (fun c2=>?_) (fun c2=>xY out)⟩
   refine⟨_,rfl,dz,_,rfl,(gw hd1).2.2.1,_,rfl,dz,_,rfl,(gw hd1).2.2.2.1,zs,_,rfl,.inl hS1,_,_,rfl,rfl,_,rfl,jN (fun c3=>?_) (fun c3=>out)⟩
   have hlt:t < ns.length:=by
    have:t < ((ns.map V.int).length:Int):=by simpa using c3
    rw [List.length_map] at this
    exact this
   have hi:t.toNat < ns.length:=by omega
   have e:t=((t.toNat:Nat):Int):=by omega
   have hat:atI (ns.map V.int) ((t.toNat:Nat):Int)=some (.int ns[t.toNat]):=jX (by rw [List.getElem?_map,List.getElem?_eq_getElem hi];rfl)
   rw [← e] at hat
   refine⟨_,rfl,dz,_,rfl,(gw hd1).2.2.2.1,_,rfl,dz,_,rfl,(gw hd1).2.2.1,zs,_,_,_,rfl,rfl,hS1,hat,_,rfl,_,rfl,dz,_,rfl,DPut.k (k:=Sum.inr "left") hd1 (sz _ _ _ _ _),?_⟩
   rw [pL]
   generalize hLq:(if ns[t.toNat] < 0 then -ns[t.toNat] else ns[t.toNat])=L'
   have hL':0≤L':=by rw [← hLq];split <;> omega
   have hd2:upd H1 dz (.dK (drK zs w0 L' t n0 k0)) dz=some (.dK (drK zs w0 L' t n0 k0)):=qD
   have hst2:=stU (o:=.dK (drK zs w0 L' t n0 k0)) hst
   generalize upd H1 dz (.dK (drK zs w0 L' t n0 k0))=H2 at hd2 hst2 ⊢
   refine⟨_,rfl,dz,_,rfl,(gw hd2).2.2.1,_,_,rfl,rfl,_,rfl,dz,_,rfl,DPut.k (k:=Sum.inr "at") hd2 (sz _ _ _ _ _),?_⟩
   rw [pT]
   refine⟨⟨rfl,stU hst2,L',t+1,qD,hL',by omega⟩,?_⟩
   rw [qD,hd1]
   show (ns.length - (t+1)).toNat < (ns.length - t).toNat
   omega
 · rintro σ H1 Q1 Q2 hq h
   refine qM fun _ Y=>?_
   obtain⟨v1,e1,a1,u1,q1,g1,s1,k1,r1,h⟩:=h
   apply Y
   refine⟨v1,e1,a1,u1,q1,g1,s1,k1,r1,?_⟩
   cases k1 with
   | false=>exact xY (hq _ _ (by simpa using h))
   | true=>
    refine xn ?_
    rw [if_pos rfl] at h
    refine qM fun _ Y=>?_
    obtain⟨v1,e1,a1,u1,q1,g1,s1,k1,r1,h⟩:=h
    apply Y
    refine⟨v1,e1,a1,u1,q1,g1,s1,k1,r1,?_⟩
    cases k1 with
    | false=>exact xY (hq _ _ (by simpa using h))
    | true=>
     refine xn ?_
     rw [if_pos rfl] at h
     refine qM fun _ Y=>?_
     obtain⟨v1,e1,a1,u1,q1,g1,v2,e2,a2,u2,q2,g2,p3,y3,q3,g3,i4,j4,a4,b4,k1,r1,h⟩:=h
     apply Y
     exact⟨v1,e1,a1,u1,q1,g1,v2,e2,a2,u2,q2,g2,p3,y3,q3,g3,i4,j4,a4,b4,k1,r1,hq _ _ h⟩
inductive qBu (vs:List V)(H:Hp)(Q:VK)(_:XK):Prop
| mk (v:V) (rd:Addr) (n:Str) (p q r s l k N:Int) (_:vs=[v,.int k,.ref rd]) (_:IsI H (.clip n p q r s l) v) (_:Bn 340 p q r s) (_:k.natAbs < 2 ^ 30) (_:Reel H rd n N) (_:Q (.bl (thB ((Vk p q r s k).fdiv (q*s)) N)) H)
theorem qBa (T:Tx K mg a):FnOk P w K mg base CX0 1 a.A80 a.B80 ["_law_clip_here","_law_k","_law_reels_here"] qBu:=by
 refine T.D80.F.ok kz (fun vs H Q E h=>?_) (fun cdv A outer s H vs Q E hr h=>?_)
 · obtain⟨v,rd,n,p,q,r,s,l,k,N,rfl,_⟩:=h
   rfl
 refine qM fun _ Y=>?_
 obtain⟨v,rd,n,p,q,r,s',l,k,N,rfl,⟨z,x,y,rfl,hz,hx,hy⟩,hb,bk,hrd,kk⟩:=h
 apply Y
 have hu1:=qE6 hr
 refine⟨_,(qB (qX 3 kz.nd (qJ qY (qJ qm (qN (qN (pv 0))) (qN (qN (pv 0)))) (qJ qm (qJ qm (pv 1) (qN (qN (pv 0)))) (qN (qN (pv 0))))))
  (qE (qK (qJh qAm xL qG (qJ jG (pv 3) (qJ qm (qN (qN (pv 0))) (qN (qN (pv 0))))) (qv hu1 (pv 2) (qN (pv 0)) (fun _ _=>rfl)))))),?_⟩
 try dsimp only [jS,qc]
 have hb7:=hb.mono (m:=700)
 have S:∀ {i:Int},i.natAbs < 2 ^ 700→Sm i:=fun h=>zo h
 have S2:∀ {i j:Int},i.natAbs < 2 ^ 700→j.natAbs < 2 ^ 700→Sm (i*j):=fun h h'=>zo (qz h h')
 have bk7:k.natAbs < 2 ^ 700:=zo bk
 have hqs:=Int.mul_pos hb.q0 hb.s0
 have h0:SqT K H z [.str "clip",.str n,.ref x,.ref y,.int l]:=SqT.of hz
 have h1:SqT K H x [.int p,.int q]:=SqT.of hx
 have h2:SqT K H y [.int r,.int s']:=SqT.of hy
 refine(xo rfl h0 qJw (ixT h1 at0 (xo rfl h0 qEn (ixT h2 at1 ⟨_,_,rfl,rfl,(S hb7.bp).mul (S hb7.bs),?_⟩))))
 refine⟨_,rfl,xo rfl h0 qEn (ixT h2 at0 ⟨_,_,rfl,rfl,(S bk7).mul (S hb7.br),xo rfl h0 qJw (ixT h1 at1 ⟨_,_,rfl,rfl,(S2 bk7 hb7.br).mul (S hb7.bq),_,_,rfl,rfl,?_⟩)⟩)⟩
 refine⟨_,rfl,xo rfl h0 qJw (ixT h1 at1 (xo rfl h0 qEn (ixT h2 at1 ⟨_,_,rfl,rfl,(S hb7.bq).mul (S hb7.bs),?_⟩)))⟩
 refine⟨_,_,rfl,rfl,⟨by omega,qEo (qz hb.bq hb.bs)⟩,_,_,rfl,rfl,_,rfl,?_⟩
 have kk':Q (.bl (decide (0≤(p*s'+k*r*q).fdiv (q*s')) && decide ((p*s'+k*r*q).fdiv (q*s') < N))) H:=kk
 by_cases hn:0≤(p*s'+k*r*q).fdiv (q*s')
 · rw [decide_eq_true hn] at kk' ⊢
   exact xn ⟨_,rfl,xo rfl h0 qC2 ⟨rd,_,rfl,hrd.get,_,_,rfl,rfl,kk'⟩⟩
 · rw [decide_eq_false hn] at kk' ⊢
   exact xY kk'
structure R3 (kvs:List (Key × V)):Prop where
 ex:∃ (n0 n1 n2:Str) (m0 m1 m2:Int),kvs=[(Sum.inr n0,.int m0),(Sum.inr n1,.int m1),(Sum.inr n2,.int m2)]∧n0≠n1∧n0≠n2∧n1≠n2∧1≤m0∧m0≤6000∧1≤m1∧m1≤6000∧1≤m2∧m2≤6000
def rlF (kvs:List (Key × V)):Rls:=fun n=>match qAg kvs (Sum.inr n) with
 | some (.int m)=>some m
 | _=>none
theorem qJd {H:Hp}{rd:Addr}{kvs:List (Key × V)}(h:Rd H rd (.dK kvs)):ReelsAt H rd (rlF kvs):=fun n N q=>by
 refine⟨kvs,h,?_⟩
 unfold rlF at q
 split at q
 · cases q;assumption
 · cases q
def Cl (rl:Rls)(m:Im):Prop:=∃ (n:Str) (p q r s l N:Int),m= .clip n p q r s l∧Rc n p q r s l rl N∧l≤12∧InR (Vk p q r s 0) (q*s) N∧InR (Vk p q r s (l - 1)) (q*s) N
inductive qDv (K:W.Frag)(vs:List V)(H:Hp)(Q:VK)(_:XK):Prop
| mk (dz zs rd:Addr) (ns:List Int) (b:Int) (kvs:List (Key × V)) (_:vs=[.ref dz,.ref rd]) (_:DS K H dz zs ns b) (_:b≤800) (_:H rd=some (.dK kvs)) (_:R3 kvs) (_:rd≠dz) (_:∀ (v:V) (i:Im) (H':Hp),SB dz H H'→DS K H' dz zs ns (b+6)→IsI H' i v→Cl (rlF kvs) i→Q v H')
set_option maxHeartbeats 8000000 in
theorem qDa (T:Tx K mg a):FnOk P w K mg base CX0 3 a.A81 a.B81 ["_law_draws_here","_law_reels_here"] (qDv K):=by
 refine T.D81.F.ok jA (fun vs H Q E h=>?_) (fun cdv A outer s H vs Q E hr h=>?_)
 · obtain⟨dz,zs,rd,ns,b,kvs,rfl,_⟩:=h
   rfl
 refine qM fun _ Y=>?_
 obtain⟨dz,zs,rd,ns,b,kvs,rfl,hD,hb,hrd,⟨n0,n1,n2,m0,m1,m2,hkv,d01,d02,d12,b0,b0',b1,b1',b2,b2'⟩,nrd,kk⟩:=h
 apply Y
 have hks:(kvs.map fun p=>kV p.1)=[.str n0,.str n1,.str n2]:=by rw [hkv];rfl
 have hu1:=qE6 hr
 refine⟨_,(qB (qX 2 jA.nd (x5 (qAj rfl) rfl T.b_list rfl (qA (pv 1) qC)))
  (qB (qX 3 jA.nd (ql qV (pv 2) (qJ qi (qI T.D78 (qW T) hr rfl (qA (pv 0) qC)) (qZ jB rfl T.b_len rfl (qA (pv 2) qC))) (fun _ _=>rfl)))
  (qB (qX 4 jA.nd (qI T.D79 (xk T) hr rfl (qA (qJ qp (qJ qi (qI T.D78 (qW T) hr rfl (qA (pv 0) qC)) qG) qG) (qA (qJ qY qG (qJ qi (qI T.D78 (qW T) hr rfl (qA (pv 0) qC)) qG)) qC))))
  (qB (qX 5 jA.nd (qJ qY qG (qJ qi (qI T.D78 (qW T) hr rfl (qA (pv 0) qC)) qG)))
  (qB (qX 6 jA.nd (qI T.D79 (xk T) hr rfl (qA (qJ qi (qI T.D78 (qW T) hr rfl (qA (pv 0) qC)) (qJ qm (qv hu1 (pv 1) (pv 3) (fun _ _=>rfl)) (pv 5))) (qA (pv 5) qC))))
  (qB (qX 7 jA.nd (qJ qY qG (qJ qi (qI T.D78 (qW T) hr rfl (qA (pv 0) qC)) qG)))
  (qB (wG PassesOwn.never (kT (jx (qI T.D80 (qBa T) hr rfl (qA (jI (qA qQ (qA (pv 3) (qA (pv 6) (qA (pv 4) (qA (pv 7) qC)))))) (qA (qJ qp (pv 7) qG) (qA (pv 1) qC)))))) (qE (qX 7 jA.nd (qJ qp (pv 7) qG))))
  (qE (qK (jI (qA qQ (qA (pv 3) (qA (pv 6) (qA (pv 4) (qA (pv 7) qC))))))))))))))),?_⟩
 try dsimp only [jS,qc]
 refine⟨_,rfl,rd,_,rfl,.inl hrd,fun ln hln=>?_⟩
 rw [hks]
 have w0:=qF hln (.lst [.str n0,.str n1,.str n2])
 have hnl:upd H ln (.lst [.str n0,.str n1,.str n2]) ln=some (.lst [.str n0,.str n1,.str n2]):=qD
 change _
 generalize upd H ln (.lst [.str n0,.str n1,.str n2])=H0 at w0 hnl
 have nld:∀ {H':Hp} {x:Addr} {xs:List V},DS K H' dz zs ns b→H' x=some (.lst xs)→x≠dz:=fun {H' x xs} h hx=>by
  obtain⟨_,_,_,_,_,q,_⟩:=h.dr
  rintro rfl;rw [hx] at q;cases q
 have hD0:=hD.same w0
 have nl:=nld hD0 hnl
 have hr0:=w0 _ _ hrd
 refine⟨_,rfl,_,rfl,dz,zs,ns,b,rfl,hD0,by omega,fun r1 H1 s1 D1 r10=>?_⟩
 refine qM fun _ Y=>?_
 obtain⟨nv,hnat,hnv⟩:=at3 (x:=.str n0) (y:=.str n1) (z:=.str n2) (fm r1 (show (0:Int) < 3 by decide)).1 (fm r1 (show (0:Int) < 3 by decide)).2
 obtain⟨n,N,rfl,hN,bN,bN',hvN⟩:∃ (n:Str) (N:Int),nv= .str n∧rlF kvs n=some N∧1≤N∧N≤6000∧qAg kvs (Sum.inr n)=some (.int N):=by
  have v0:qAg kvs (Sum.inr n0)=some (.int m0):=by rw [hkv];exact ze (p:=(Sum.inr n0,.int m0)) rfl
  have v1:qAg kvs (Sum.inr n1)=some (.int m1):=by
   rw [hkv,jq (p:=(Sum.inr n0,.int m0)) (by intro e;exact d01 (Sum.inr.inj e))]
   exact ze (p:=(Sum.inr n1,.int m1)) rfl
  have v2:qAg kvs (Sum.inr n2)=some (.int m2):=by
   rw [hkv,jq (p:=(Sum.inr n0,.int m0)) (by intro e;exact d02 (Sum.inr.inj e)),jq (p:=(Sum.inr n1,.int m1)) (by intro e;exact d12 (Sum.inr.inj e))]
   exact ze (p:=(Sum.inr n2,.int m2)) rfl
  rcases hnv with rfl | rfl | rfl
  · exact⟨n0,m0,rfl,by unfold rlF;rw [v0],b0,b0',v0⟩
  · exact⟨n1,m1,rfl,by unfold rlF;rw [v1],b1,b1',v1⟩
  · exact⟨n2,m2,rfl,by unfold rlF;rw [v2],b2,b2',v2⟩
 apply Y
 have hnl1:=s1 _ _ nl hnl
 have hr1:=s1 _ _ nrd hr0
 refine⟨_,rfl,ln,_,rfl,.inl (SqL.of hnl1),_,_,rfl,rfl,(by show ((3:Nat):Int)≠0;decide),ln,_,_,_,rfl,rfl,SqL.of hnl1,hnat,?_⟩
 refine⟨_,rfl,dz,zs,ns,b+1,rfl,D1,by omega,fun r2 H2 s2 D2 _=>⟨_,_,rfl,rfl,nz,_,_,rfl,rfl,?_⟩⟩
 refine⟨_,rfl,dz,zs,ns,b+1+1,rfl,D2,by omega,fun r3 H3 s3 D3 _=>⟨_,_,rfl,rfl,nz,_,_,rfl,rfl,?_⟩⟩
 have f2:=fm r2 (show (0:Int) < 41 by decide)
 have f3:=fm r3 (show (0:Int) < 8 by decide)
 refine⟨_,_,rfl,by omega,qEo (n:=4) (by omega),fun ys hys=>?_⟩
 have nt:∀ {H':Hp} {x:Addr} {xs:List V} {c:Int},DS K H' dz zs ns c→H' x=some (.tup xs)→x≠dz:=fun {H' x xs c} h hx=>by
  obtain⟨_,_,_,_,_,q,_⟩:=h.dr
  rintro rfl;rw [hx] at q;cases q
 have gst:qJz 110 (jP (r2.fmod 41 - 20) (1+r3.fmod 8)) (jF (r2.fmod 41 - 20) (1+r3.fmod 8)):=qF3 (by omega) (Nat.lt_of_lt_of_le (show (r2.fmod 41 - 20).natAbs < 2 ^ 6 by omega) (Nat.pow_le_pow_right (by decide) (by decide))) (Nat.lt_of_lt_of_le (show (1+r3.fmod 8).natAbs < 2 ^ 4 by omega) (Nat.pow_le_pow_right (by decide) (by decide)))
 have u4:=qF hys (.tup [.int (jP (r2.fmod 41 - 20) (1+r3.fmod 8)),.int (jF (r2.fmod 41 - 20) (1+r3.fmod 8))])
 have x4:upd H3 ys (.tup [.int (jP (r2.fmod 41 - 20) (1+r3.fmod 8)),.int (jF (r2.fmod 41 - 20) (1+r3.fmod 8))]) ys=some (.tup [.int (jP (r2.fmod 41 - 20) (1+r3.fmod 8)),.int (jF (r2.fmod 41 - 20) (1+r3.fmod 8))]):=qD
 generalize upd H3 ys (.tup [.int (jP (r2.fmod 41 - 20) (1+r3.fmod 8)),.int (jF (r2.fmod 41 - 20) (1+r3.fmod 8))])=H4 at u4 x4 ⊢
 generalize jP (r2.fmod 41 - 20) (1+r3.fmod 8)=rr at gst x4
 generalize jF (r2.fmod 41 - 20) (1+r3.fmod 8)=ss at gst x4
 have D4:=D3.same u4
 have sb4:SB dz H H4:=(((((kK w0).trans s1).trans s2).trans s3).trans (kK u4))
 refine⟨_,rfl,dz,zs,ns,b+1+1+1,rfl,D4,by omega,fun r5 H5 s5 D5 _=>⟨_,_,rfl,rfl,nz,_,_,rfl,rfl,?_⟩⟩
 have f5:=fm r5 (show (0:Int) < 8 by decide)
 refine⟨_,rfl,dz,zs,ns,b+1+1+1+1,rfl,D5,by omega,fun r6 H6 s6 D6 _=>?_⟩
 have sb6:=(sb4.trans s5).trans s6
 have x6:=s6 _ _ (nt D4 x4) (s5 _ _ (nt D4 x4) x4)
 have hr6:=sb6 _ _ nrd hrd
 have hre6:Reel H6 rd n N:=⟨kvs,.inl hr6,hvN⟩
 have hNb:0 < N*(1+r5.fmod 8):=Int.mul_pos (by omega) (by omega)
 refine⟨_,rfl,_,rfl,rd,_,rfl,hre6.get,_,rfl,_,_,rfl,rfl,cmR (by omega) (by omega),_,_,rfl,rfl,(by omega),_,rfl,_,_,rfl,by omega,qEo (n:=4) (by omega),fun zt hzt=>?_⟩
 have ft:=fm r6 hNb
 have hNb2:N*(1+r5.fmod 8)≤6000*8:=Int.mul_le_mul (by omega) (by omega) (by omega) (by omega)
 have gp:qJz 110 (jP (r6.fmod (N*(1+r5.fmod 8))) (1+r5.fmod 8)) (jF (r6.fmod (N*(1+r5.fmod 8))) (1+r5.fmod 8)):=qF3 (by omega) (Nat.lt_of_lt_of_le (show (r6.fmod (N*(1+r5.fmod 8))).natAbs < 2 ^ 20 by omega) (Nat.pow_le_pow_right (by decide) (by decide))) (Nat.lt_of_lt_of_le (show (1+r5.fmod 8).natAbs < 2 ^ 4 by omega) (Nat.pow_le_pow_right (by decide) (by decide)))
 have cr:=xE (r6.fmod (N*(1+r5.fmod 8))) (1+r5.fmod 8)
 have u7:=qF hzt (.tup [.int (jP (r6.fmod (N*(1+r5.fmod 8))) (1+r5.fmod 8)),.int (jF (r6.fmod (N*(1+r5.fmod 8))) (1+r5.fmod 8))])
 have x7:upd H6 zt (.tup [.int (jP (r6.fmod (N*(1+r5.fmod 8))) (1+r5.fmod 8)),.int (jF (r6.fmod (N*(1+r5.fmod 8))) (1+r5.fmod 8))]) zt=some (.tup [.int (jP (r6.fmod (N*(1+r5.fmod 8))) (1+r5.fmod 8)),.int (jF (r6.fmod (N*(1+r5.fmod 8))) (1+r5.fmod 8))]):=qD
 generalize upd H6 zt (.tup [.int (jP (r6.fmod (N*(1+r5.fmod 8))) (1+r5.fmod 8)),.int (jF (r6.fmod (N*(1+r5.fmod 8))) (1+r5.fmod 8))])=H7 at u7 x7 ⊢
 generalize jP (r6.fmod (N*(1+r5.fmod 8))) (1+r5.fmod 8)=p at gp cr x7
 generalize jF (r6.fmod (N*(1+r5.fmod 8))) (1+r5.fmod 8)=q at gp cr x7
 have D7:=D6.same u7
 refine⟨_,rfl,dz,zs,ns,b+1+1+1+1+1,rfl,D7,by omega,fun r8 H8 s8 D8 _=>⟨_,_,rfl,rfl,nz,_,_,rfl,rfl,?_⟩⟩
 have f8:=fm r8 (show (0:Int) < 12 by decide)
 have x4':=u7 _ _ x6
 have x8:=s8 _ _ (nt D7 x4') x4'
 have x9:=s8 _ _ (nt D7 x7) x7
 have hr8:=s8 _ _ nrd (u7 _ _ hr6)
 have sb8:=(sb6.trans (kK u7)).trans s8
 have hre8:Reel H8 rd n N:=⟨kvs,.inl hr8,hvN⟩
 have hbn:Bn 110 p q rr ss:=⟨gp.1,gst.1,gp.2.2.1,gp.2.2.2,gst.2.2.1,gst.2.2.2⟩
 have hqs:=Int.mul_pos hbn.q0 hbn.s0
 have i0:InR (Vk p q rr ss 0) (q*ss) N:=by
  have hbt:0 < 1+r5.fmod 8:=by omega
  generalize r6.fmod (N*(1+r5.fmod 8))=t0 at ft cr
  generalize 1+r5.fmod 8=bt at ft cr hbt
  have h1:0≤p:=by
   by_cases z:0≤p
   · exact z
   · have:=Int.mul_neg_of_neg_of_pos (show p < 0 by omega) hbt
     have:=Int.mul_nonneg ft.1 (Int.le_of_lt gp.1)
     omega
  have h2:p < N*q:=by
   have a1:t0*q < N*bt*q:=Int.mul_lt_mul_of_pos_right ft.2 gp.1
   refine Int.lt_of_mul_lt_mul_right (a:=bt) ?_ (by omega)
   rw [cr]
   have e:N*q*bt=N*bt*q:=by grind
   omega
  unfold Vk InR
  have e:p*ss+0*rr*q=p*ss:=by grind
  rw [e]
  refine⟨Int.mul_nonneg h1 (by have:=gst.1;omega),?_⟩
  have:=Int.mul_lt_mul_of_pos_right h2 gst.1
  have e2:N*q*ss=N*(q*ss):=by grind
  omega
 refine wE (fun σ H'=>∃ L:Int,σ=[some (.ref dz),some (.ref rd),some (.ref ln),some (.str n),some (.ref ys),some (.int (1+r5.fmod 8)),some (.ref zt),some (.int L)]∧Same H8 H'∧1≤L∧L≤12)
  (fun σ _=>match σ with | [_,_,_,_,_,_,_,some (.int L)]=>L.toNat | _=>0) ⟨_,rfl,Same.refl _,by omega,by omega⟩ ?_ ?_
 · rintro σ H1' ⟨L,rfl,e1,l1,l12⟩
   refine⟨_,rfl,_,rfl,_,rfl,_,rfl,sL5,fun zc hzc=>?_⟩
   have w1:=qF hzc (.tup [.str "clip",.str n,.ref zt,.ref ys,.int L])
   have e2:=e1.trans w1
   have hI:IsI (upd H1' zc (.tup [.str "clip",.str n,.ref zt,.ref ys,.int L])) (.clip n p q rr ss L) (.ref zc):=⟨zc,zt,ys,rfl,qD,e2 _ _ x9,e2 _ _ x8⟩
   change _
   generalize upd H1' zc (.tup [.str "clip",.str n,.ref zt,.ref ys,.int L])=H2' at w1 e2 hI
   refine⟨_,rfl,_,_,rfl,rfl,_,rfl,_,rd,n,p,q,rr,ss,L,L - 1,N,rfl,hI,hbn.mono,?_,hre8.same e2,?_⟩
   · exact Nat.lt_of_lt_of_le (show (L - 1).natAbs < 2 ^ 4 by omega) (Nat.pow_le_pow_right (by decide) (by decide))
   refine⟨_,rfl,?_⟩
   by_cases hin:InR (Vk p q rr ss (L - 1)) (q*ss) N
   · rw [(qIl hqs).mpr hin]
     refine xY ⟨_,rfl,_,rfl,_,rfl,_,rfl,sL5,fun zu hzu=>?_⟩
     have w3:=qF hzu (.tup [.str "clip",.str n,.ref zt,.ref ys,.int L])
     have e3:=e2.trans w3
     refine kk _ (.clip n p q rr ss L) _ (sb8.trans (kK e3)) ((D8.same e3).le (by omega)) ⟨zu,zt,ys,rfl,qD,e3 _ _ x9,e3 _ _ x8⟩ ⟨n,p,q,rr,ss,L,N,rfl,⟨gp,gst,?_,l1,hN,?_⟩,l12,i0,hin⟩
     · exact Nat.lt_of_lt_of_le (show L.natAbs < 2 ^ 4 by omega) (Nat.pow_le_pow_right (by decide) (by decide))
     · exact Nat.lt_of_lt_of_le (show N.natAbs < 2 ^ 13 by omega) (Nat.pow_le_pow_right (by decide) (by decide))
   · have hf:thB ((Vk p q rr ss (L - 1)).fdiv (q*ss)) N=false:=by
      rw [Bool.eq_false_iff]
      intro z
      exact hin ((qIl hqs).mp z)
     rw [hf]
     have l2:2≤L:=by
      by_cases z:2≤L
      · exact z
      · exact absurd i0 (by rw [show (0:Int)=L - 1 by omega];exact hin)
     refine xn ⟨_,rfl,_,_,rfl,rfl,⟨L - 1,rfl,e2,by omega,by omega⟩,?_⟩
     show (L - 1).toNat < L.toNat
     omega
 · rintro σ H1' Q1 Q2 hq h
   refine qM fun _ Y=>?_
   obtain⟨a1,b1,a2,b2,a3,b3,a4,b4,hz,f⟩:=h
   apply Y
   refine⟨a1,b1,a2,b2,a3,b3,a4,b4,hz,fun zt hzt=>?_⟩
   refine qM fun _ Y=>?_
   obtain⟨c1,d1,c2,d2,c3,d3,c4,d4,g1,g2,g3,g4,g5,g6,g7,g8,g9,g10,g11,g12,g13,g14,g15,bb,hbb,z⟩:=f zt hzt
   apply Y
   exact⟨c1,d1,c2,d2,c3,d3,c4,d4,g1,g2,g3,g4,g5,g6,g7,g8,g9,g10,g11,g12,g13,g14,g15,bb,hbb,hq _ _ z⟩
def kvF (ns:List Str)(ms:List Int):List (Key × V):=(ns.zip ms).map fun p=>((Sum.inr p.1:Key),V.int p.2)
inductive qB8 (K:W.Frag)(vs:List V)(H:Hp)(Q:VK)(_:XK):Prop
| mk (dz zs:Addr) (ns:List Int) (b:Int) (_:vs=[.ref dz]) (_:DS K H dz zs ns b) (_:b≤800) (_:∀ (rd:Addr) (kvs:List (Key × V)) (H':Hp),SB dz H H'→DS K H' dz zs ns (b+5)→H rd=none→rd≠dz→H' rd=some (.dK kvs)→R3 kvs→Q (.ref rd) H')
set_option maxHeartbeats 8000000 in
theorem qCd (T:Tx K mg a):FnOk P w K mg base CX0 3 a.A82 a.B82 ["_law_draws_here"] (qB8 K):=by
 refine T.D82.F.ok jY (fun vs H Q E h=>?_) (fun cdv A outer s H vs Q E hr h=>?_)
 · obtain⟨dz,zs,ns,b,rfl,_⟩:=h
   rfl
 refine qM fun _ Y=>?_
 obtain⟨dz,zs,ns,b,rfl,hD,hb,kk⟩:=h
 apply Y
 have hu1:=qE6 hr
 refine⟨_,(qB (qX 1 jY.nd (ql qV (jU (qA (jU (qA qQ (qA qQ (qA qQ qC)))) (qA (jU (qA qQ (qA qQ (qA qQ qC)))) (qA (jU (qA qQ (qA qQ (qA qQ qC)))) qC)))) (qJ qi (qI T.D78 (qW T) hr rfl (qA (pv 0) qC)) qG) (fun _ _=>rfl)))
  (qB (qX 2 jY.nd (ql qV (jU (qA qG (qA qG (qA qG qC)))) (qJ qi (qI T.D78 (qW T) hr rfl (qA (pv 0) qC)) qG) (fun _ _=>rfl)))
  (qB (qX 3 jY.nd qFf)
  (qB (kj PassesOwn.never rfl (xU (pv 1)) (jR (i:=4) jY.nd rfl (Or.inl rfl)) (qE (vV hu1 (pv 3) (pv 4) (qJ qm (qJ qY qG (qJ qi (qI T.D78 (qW T) hr rfl (qA (pv 0) qC)) qG)) (pv 2)) rfl)))
  (qE (qK (pv 3))))))),?_⟩
 try dsimp only [jS,qc]
 have qDl:(3:Nat)≤sizeLine:=by decide
 refine⟨qDl,fun l0 g0=>?_⟩
 have u0:=qF g0 (.lst [.str "ab",.str "abc",.str "b"])
 have x0:upd H l0 (.lst [.str "ab",.str "abc",.str "b"]) l0=some (.lst [.str "ab",.str "abc",.str "b"]):=qD
 change _
 generalize upd H l0 (.lst [.str "ab",.str "abc",.str "b"])=G0 at u0 x0
 refine⟨qDl,fun l1 g1=>?_⟩
 have u1:=qF g1 (.lst [.str "r",.str "rr",.str "rrr"])
 have x1:upd G0 l1 (.lst [.str "r",.str "rr",.str "rrr"]) l1=some (.lst [.str "r",.str "rr",.str "rrr"]):=qD
 change _
 generalize upd G0 l1 (.lst [.str "r",.str "rr",.str "rrr"])=G1 at u1 x1
 refine⟨qDl,fun l2 g2=>?_⟩
 have u2:=qF g2 (.lst [.str "reelaaaa",.str "reelaaab",.str "reel"])
 have x2:upd G1 l2 (.lst [.str "reelaaaa",.str "reelaaab",.str "reel"]) l2=some (.lst [.str "reelaaaa",.str "reelaaab",.str "reel"]):=qD
 change _
 generalize upd G1 l2 (.lst [.str "reelaaaa",.str "reelaaab",.str "reel"])=G2 at u2 x2
 refine⟨qDl,fun lo go=>?_⟩
 have u3:=qF go (.lst [.ref l0,.ref l1,.ref l2])
 have x3:upd G2 lo (.lst [.ref l0,.ref l1,.ref l2]) lo=some (.lst [.ref l0,.ref l1,.ref l2]):=qD
 change _
 generalize upd G2 lo (.lst [.ref l0,.ref l1,.ref l2])=G3 at u3 x3
 have u03:Same H G3:=((u0.trans u1).trans u2).trans u3
 have D3:=hD.same u03
 have nl:∀ {H':Hp} {x:Addr} {xs:List V} {c:Int},DS K H' dz zs ns c→H' x=some (.lst xs)→x≠dz:=fun {H' x xs c} h hx=>by
  obtain⟨_,_,_,_,_,q,_⟩:=h.dr
  rintro rfl;rw [hx] at q;cases q
 refine⟨_,rfl,dz,zs,ns,b,rfl,D3,by omega,fun r1 H1 s1 D1 _=>?_⟩
 refine qM fun _ Y=>?_
 obtain⟨ln,hat,n0,n1,n2,hln,d01,d02,d12⟩:∃ y,atI [V.ref l0,.ref l1,.ref l2] (r1.fmod 3)=some (.ref y)∧∃ n0 n1 n2:Str,G3 y=some (.lst [.str n0,.str n1,.str n2])∧n0≠n1∧n0≠n2∧n1≠n2:=by
  obtain⟨v,h1,h2⟩:=at3 (x:=V.ref l0) (y:=.ref l1) (z:=.ref l2) (fm r1 (show (0:Int) < 3 by decide)).1 (fm r1 (show (0:Int) < 3 by decide)).2
  rcases h2 with rfl | rfl | rfl
  · exact⟨l0,h1,_,_,_,u3 _ _ (u2 _ _ (u1 _ _ x0)),by decide+kernel,by decide+kernel,by decide+kernel⟩
  · exact⟨l1,h1,_,_,_,u3 _ _ (u2 _ _ x1),by decide+kernel,by decide+kernel,by decide+kernel⟩
  · exact⟨l2,h1,_,_,_,u3 _ _ x2,by decide+kernel,by decide+kernel,by decide+kernel⟩
 apply Y
 have x3':=s1 _ _ (nl D3 x3) x3
 have hln1:=s1 _ _ (nl D3 hln) hln
 refine⟨_,_,rfl,rfl,nz,lo,_,_,_,rfl,rfl,SqL.of x3',hat,?_⟩
 refine⟨qDl,fun lf hlf=>?_⟩
 have u4:=qF hlf (.lst [.int 1,.int 1,.int 100])
 have x4:upd H1 lf (.lst [.int 1,.int 1,.int 100]) lf=some (.lst [.int 1,.int 1,.int 100]):=qD
 change _
 generalize upd H1 lf (.lst [.int 1,.int 1,.int 100])=H4 at u4 x4
 have D4:=D1.same u4
 refine⟨_,rfl,dz,zs,ns,b+1,rfl,D4,by omega,fun r5 H5 s5 D5 _=>?_⟩
 refine qM fun _ Y=>?_
 obtain⟨fv,hfat,hfv⟩:=at3 (x:=V.int 1) (y:=.int 1) (z:=.int 100) (fm r5 (show (0:Int) < 3 by decide)).1 (fm r5 (show (0:Int) < 3 by decide)).2
 obtain⟨fr,rfl,fr1,fr2⟩:∃ fr:Int,fv= .int fr∧1≤fr∧fr≤100:=by
  rcases hfv with rfl | rfl | rfl
  · exact⟨1,rfl,by decide,by decide⟩
  · exact⟨1,rfl,by decide,by decide⟩
  · exact⟨100,rfl,by decide,by decide⟩
 apply Y
 refine⟨_,_,rfl,rfl,nz,lf,_,_,_,rfl,rfl,SqL.of (s5 _ _ (nl D4 x4) x4),hfat,?_⟩
 refine fun rd hrd=>?_
 have sb5:SB dz H H5:=(((kK u03).trans s1).trans (kK u4)).trans s5
 have hln5:=s5 _ _ (nl D4 (u4 _ _ hln1)) (u4 _ _ hln1)
 have nrd:rd≠dz:=by
  obtain⟨_,_,_,_,_,q,_⟩:=D5.dr
  rintro rfl;rw [hrd] at q;cases q
 have hrd0:H rd=none:=by
  cases hq:H rd with
  | none=>rfl
  | some u=>rw [sb5 rd u nrd hq] at hrd;cases hrd
 have w6:=qF hrd (.dK [])
 have hln6:=w6 _ _ hln5
 have nlr:ln≠rd:=qU hln5 hrd
 refine⟨_,rfl,ln,rfl,⟨_,SqL.of hln6⟩,zZ (K:=K) (a:=ln) (xs:=[.str n0,.str n1,.str n2]) (fun i σ H'=>∃ (ms:List Int) (o:Option V),σ=[some (.ref dz),some (.ref ln),some (.int fr),some (.ref rd),o]∧SB dz H5 H'∧DS K H' dz zs ns (b+1+1+i)∧H' rd=some (.dK (kvF [n0,n1,n2] ms))∧ms.length=i∧∀ m∈ms,1≤m∧m≤6000) ⟨[],none,rfl,kK w6,(D5.same w6).le (by omega),qD,rfl,by simp⟩ ?_ ?_ ?_⟩
 · rintro i σ H' hi ⟨ms,o,rfl,sb',_⟩
   exact SqL.of (sb' _ _ (nl D5 hln5) hln5)
 · rintro i x σ H' hx ⟨ms,o,rfl,sb',D',hrd',hl,hm⟩
   have hi3:i=0∨i=1∨i=2:=by
    have:i < 3:=(glt hx)
    omega
   refine qM fun _ Y=>?_
   obtain⟨nm,rfl,hno,hap⟩:∃ nm:Str,x= .str nm∧qAg (kvF [n0,n1,n2] ms) (Sum.inr nm)=none∧∀ m,kvF [n0,n1,n2] (ms++[m])=kvF [n0,n1,n2] ms++[(Sum.inr nm,.int m)]:=by
    rcases hi3 with rfl | rfl | rfl
    · match ms,hl with
      | [],_=>exact⟨n0,(Option.some.inj hx).symm,rfl,fun m=>rfl⟩
    · match ms,hl with
      | [a0],_=>exact⟨n1,(Option.some.inj hx).symm,by unfold kvF;simp only [List.zip_cons_cons,List.map_cons];rw [jq (p:=(Sum.inr n0,.int a0)) (by intro e;exact d01 (Sum.inr.inj e))];rfl,fun m=>rfl⟩
    · match ms,hl with
      | [a0,a1],_=>exact⟨n2,(Option.some.inj hx).symm,by unfold kvF;simp only [List.zip_cons_cons,List.map_cons];rw [jq (p:=(Sum.inr n0,.int a0)) (by intro e;exact d02 (Sum.inr.inj e)),jq (p:=(Sum.inr n1,.int a1)) (by intro e;exact d12 (Sum.inr.inj e))];rfl,fun m=>rfl⟩
   apply Y
   have hkl:(kvF [n0,n1,n2] ms).length≤3:=by unfold kvF;rw [List.length_map,List.length_zip];exact Nat.min_le_left _ _
   refine⟨_,rfl,dz,zs,ns,_,rfl,D',by omega,fun r7 H7 s7 D7 _=>?_⟩
   have f7:=fm r7 (show (0:Int) < 60 by decide)
   have hrd7:=s7 _ _ nrd hrd'
   refine⟨_,_,rfl,rfl,nz,_,_,rfl,rfl,_,rfl,_,_,rfl,rfl,cmL (by omega) (by omega),?_⟩
   refine⟨_,rfl,_,rfl,rd,_,rfl,.inl ⟨_,Sum.inr nm,hrd7,rfl,jT (by omega),rfl⟩,?_⟩
   rw [qJ4 _ hno,← hap]
   have bm:1≤(1+r7.fmod 60)*fr∧(1+r7.fmod 60)*fr≤60*100:=⟨by have:=Int.mul_pos (show 0 < 1+r7.fmod 60 by omega) (show 0 < fr by omega);omega,Int.mul_le_mul (by omega) fr2 (by omega) (by omega)⟩
   refine⟨ms++[(1+r7.fmod 60)*fr],_,rfl,fun x u n hx=>?_,?_,qD,by rw [List.length_append,hl];rfl,fun m hm'=>?_⟩
   · rw [qR (qU hx hrd)]
     exact s7 x u n (sb' x u n hx)
   · obtain⟨⟨w0,L0,t0,m0,k0,q1,q2⟩,q3,q4⟩:=D7
     refine⟨⟨w0,L0,t0,m0,k0,by rw [qR nrd.symm];exact q1,q2.1,q2.2.1,q2.2.2.1,by have:=q2.2.2.2;omega⟩,qLu hrd7 q3,q4⟩
   rcases List.mem_append.mp hm' with h | h
   · exact hm m h
   · have e:m=(1+r7.fmod 60)*fr:=by simpa using h
     omega
 · rintro σ H' ⟨ms,o,rfl,sb',D',hrd',hl,hm⟩
   match ms,hl with
   | [a0,a1,a2],_=>
    refine⟨_,rfl,kk rd _ _ (sb5.trans sb') (D'.le (by show b+1+1+((3:Nat):Int)≤b+5;omega)) hrd0 nrd hrd' ⟨n0,n1,n2,a0,a1,a2,rfl,d01,d02,d12,?_⟩⟩
    have h0:=hm a0 (by simp)
    have h1:=hm a1 (by simp)
    have h2:=hm a2 (by simp)
    exact⟨h0.1,h0.2,h1.1,h1.2,h2.1,h2.2⟩
inductive qGa (K:W.Frag)(vs:List V)(H:Hp)(Q:VK)(_:XK):Prop
| mk (dz zs:Addr) (ns:List Int) (b:Int) (_:vs=[.ref dz]) (_:DS K H dz zs ns b) (_:b≤800) (_:∀ (x:Int) (H':Hp),SB dz H H'→DS K H' dz zs ns (b+4)→x≠0→x.natAbs≤1000000→Q (.int x) H')
theorem qGj (T:Tx K mg a):FnOk P w K mg base CX0 3 a.A90 a.B90 ["_law_draws_here"] (qGa K):=by
 refine T.D90.F.ok vN (fun vs H Q E h=>?_) (fun cdv A outer s H vs Q E hr h=>?_)
 · obtain⟨dz,zs,ns,b,rfl,_⟩:=h
   rfl
 refine qM fun _ Y=>?_
 obtain⟨dz,zs,ns,b,rfl,hD,hb,kk⟩:=h
 apply Y
 refine⟨_,(qB (qX 1 vN.nd (qJ qY qG (qJ qi (qI T.D78 (qW T) hr rfl (qA (pv 0) qC)) qG)))
  (qB (zG (qf (qO jj (qJ qi (qI T.D78 (qW T) hr rfl (qA (pv 0) qC)) qG) qG (qS _)) (qE (qX 1 vN.nd (qJ qY qG (qJ qi (qI T.D78 (qW T) hr rfl (qA (pv 0) qC)) (qJ qMp qG qG))))) qP))
  (qB (qf (qO jj (qJ qi (qI T.D78 (qW T) hr rfl (qA (pv 0) qC)) qG) qG (qS _)) (qE (qK (qJ qp qG (pv 1)))) qP)
  (qE (qK (pv 1)))))),?_⟩
 try dsimp only [jS,qc]
 refine⟨_,rfl,dz,zs,ns,b,rfl,hD,by omega,fun r1 H1 s1 D1 _=>⟨_,_,rfl,rfl,nz,_,_,rfl,rfl,?_⟩⟩
 have f1:=fm r1 (show (0:Int) < 25 by decide)
 refine⟨fun σ' H'=>∃ x:Int,σ'=[some (.ref dz),some (.int x)]∧SB dz H H'∧DS K H' dz zs ns (b+3)∧1≤x∧x≤1000000,?_,?_⟩
 · refine⟨_,rfl,dz,zs,ns,b+1,rfl,D1,by omega,fun r2 H2 s2 D2 _=>⟨_,_,rfl,rfl,nz,rfl,_,rfl,jN (fun _=>?_) (fun _=>?_)⟩⟩
   · refine⟨_,rfl,dz,zs,ns,b+1+1,rfl,D2,by omega,fun r3 H3 s3 D3 _=>⟨_,_,rfl,rfl,cpw (n:=6) (by decide),_,_,rfl,rfl,(by decide),_,_,rfl,rfl,?_⟩⟩
     have f3:=fm r3 (show (0:Int) < 10 ^ (6:Int).toNat by decide)
     have e6:(10:Int) ^ (6:Int).toNat=1000000:=by decide
     exact⟨_,rfl,(s1.trans s2).trans s3,D3.le (by omega),by omega,by omega⟩
   · exact⟨_,rfl,s1.trans s2,D2.le (by omega),by omega,by omega⟩
 rintro σ' H2 ⟨x,rfl,s2,D2,x1,x2⟩
 refine⟨_,rfl,dz,zs,ns,b+3,rfl,D2,by omega,fun r3 H3 s3 D3 _=>⟨_,_,rfl,rfl,nz,rfl,_,rfl,jN (fun _=>?_) (fun _=>?_)⟩⟩
 · exact⟨_,rfl,_,_,rfl,rfl,kk _ _ (s2.trans s3) (D3.le (by omega)) (by omega) (by omega)⟩
 · exact⟨_,rfl,kk _ _ (s2.trans s3) (D3.le (by omega)) (by omega) (by omega)⟩
inductive qB3 (vs:List V)(H:Hp)(Q:VK)(_:XK):Prop
| mk (x:V) (b:Bool) (_:vs=[x]) (_:WhB H x b) (_:Q (.bl b) H)
theorem jZ (T:Tx K mg a):FnOk P w K mg base CX0 1 a.A85 a.B85 ["_law_found"] qB3:=by
 refine T.D85.F.ok qB6 (fun vs H Q E h=>?_) (fun cdv A outer s H vs Q E hr h=>?_)
 · obtain⟨x,b,rfl,_⟩:=h
   rfl
 refine qM fun _ Y=>?_
 obtain⟨x,b,rfl,hx,q⟩:=h
 apply Y
 refine⟨_,(qE (qK (qA6 (qZ jd rfl T.b_isinstance rfl (qA (pv 0) (qA (qGc rfl T.b_int rfl) qC))) (wo (qFs (qZ jd rfl T.b_isinstance rfl (qA (pv 0) (qA (qGc rfl T.b_bool rfl) qC)))))))),?_⟩
 try dsimp only [jS,qc]
 refine qM fun _ Y=>?_
 obtain⟨t,i,c,ty,e1,e2,rfl⟩:=hx.ty (K:=K)
 apply Y
 refine⟨_,rfl,_,_,_,i,rfl,ty,⟨_,.inl ⟨rfl,e1⟩⟩,i,rfl,?_⟩
 cases i with
 | false=>exact xY q
 | true=>exact xn ⟨_,rfl,_,_,_,c,rfl,ty,⟨_,.inl ⟨rfl,e2⟩⟩,c,rfl,q⟩
structure RlP (rl:Rls)(ms:List Im)(wd:Str)(t:Int)(is:List Int):Prop where
 w3:Wd3 wd
 len:ms.length≤20
 it:∀ m∈ms,ItR rl m
 nm:∀ m∈ms,m.wd="clip"
 t0:0≤t
 pl:plF wd ms t=some is
def DoR (H:Hp)(Q:VK)(rl:Rls)(ms:List Im)(wd:Str)(is:List Int)(b:Int):Prop:=∀ H',Same H H'→(j2 b≤xA rl ms wd is b→∀ t':Addr,NewTab H H' t' [qD3 ms wd is b] []→Q (.ref t') H')∧(¬ j2 b≤xA rl ms wd is b→Q (.int (sgM b (xA rl ms wd is b))) H')
inductive qDk (vs:List V)(H:Hp)(Q:VK)(_:XK):Prop
| mk (tz dz rd:Addr) (ms:List Im) (wd:Str) (t b0 b:Int) (is:List Int) (rl:Rls) (_:vs=[.ref tz,.ref dz,.int b,.ref rd]) (_:TabF H (.ref tz) [ms] []) (_:H dz=some (.tup [.str wd,.int 0,.int t,.int b0])) (_:ReelsAt H rd rl) (_:RlP rl ms wd t is) (_:b.natAbs≤1000000) (_:DoR H Q rl ms wd is b)
theorem qIn {ms:List Im}{k:Int}(h:jE ms k="mix"):∃ l,0≤k∧ms[k.toNat]? =some (.mix l):=by
 unfold jE at h
 by_cases h0:k < 0
 · rw [if_pos h0] at h
   exact absurd h (by decide+kernel)
 · rw [if_neg h0] at h
   cases hm:ms[k.toNat]? with
   | none=>rw [hm] at h;exact absurd h (by decide+kernel)
   | some m=>
    rw [hm] at h
    obtain⟨l,rfl⟩:=qC9 h
    exact⟨l,by omega,rfl⟩
theorem qFd (vs:List V)(i:Nat):qI3 vs none (some (i:Int))=vs.take i:=by
 unfold qI3
 rw [HT.sIx_none,HT.sIx_nat,List.drop_zero,Nat.sub_zero]
 by_cases h:i≤vs.length
 · rw [Nat.min_eq_left h]
 · rw [Nat.min_eq_right (by omega),List.take_of_length_le (Nat.le_refl _),List.take_of_length_le (by omega)]
theorem NewTab.back {H H1 H':Hp}(e1:Same H H1){t:Addr}{ts:List (List Im)}{tie:List Int}(h:NewTab H1 H' t ts tie):NewTab H H' t ts tie:=
 let ⟨tl,ti,zs,q1,q2,q3,q4,q5,q6,q7,q8⟩:=h.ex
 ⟨tl,ti,zs,q1,q2,q3,q4,e1.free q5,e1.free q6,q7,fun b hb=>⟨e1.free (q8 b hb).1,(q8 b hb).2⟩⟩
theorem qJq {ms:List Im}(h:∀ m∈ms,m.wd="clip")(is:List Int):is.any (hmB ms)=false:=by
 rw [List.any_eq_false]
 intro i _ hi
 have nk:∀ k:Int,jE ms k≠"mix":=fun k e=>by
  obtain⟨l,_,hl⟩:=qIn e
  have:=h _ (List.mem_of_getElem? hl)
  exact absurd (show ("mix":Str)="clip" from this) (by decide+kernel)
 unfold hmB at hi
 simp [nk] at hi
theorem jh (T:Tx K mg a):FnOk P w K mg base CX0 10 a.A84 a.B84 ["_law_table","_law_deed","_law_by_here","_law_reels_here"] qDk:=by
 refine T.D84.F.ok vx (fun vs H Q E h=>?_) (fun cdv A outer s H vs Q E hr h=>?_)
 · obtain⟨tz,dz,rd,ms,wd,t,b0,b,is,rl,rfl,_⟩:=h
   rfl
 refine qM fun _ Y=>?_
 obtain⟨tz,dz,rd,ms,wd,t,b0,b,is,rl,rfl,hT,hd,hre,hR,hb,kk⟩:=h
 apply Y
 refine⟨_,(qE (qMz (fun C od H'=>C= .ref a.k_Short∧¬ j2 b≤xA rl ms wd is b∧Same H H'∧∃ dx,od=some dx∧H' dx=some (.xd [("most",.int (sgM b (xA rl ms wd is b)))])) (.some (i:=4) rfl rfl) vx.nd rfl T.c_Short (fun _=>(qE (qK (zA T.D72 (qBe T) hr rfl (qA (pv 0) (qA (qJ (qJn (K:=K) rfl) (qFk (qKs (K:=K) rfl) (pv 1) qHr (qHe qG)) (jI (qA (pv 2) qC))) (qA (pv 3) qC))))))) (fun _ _=>(qE (qK (qJy (K:=K) rfl (pv 4))))))),?_⟩
 try dsimp only [jS,qc]
 refine⟨?_,?_⟩
 · obtain⟨tt,tl,ti,zs,e0,g2,g3,g4,g5⟩:=id hT
   have ec:qI3 [V.str wd,.int 0,.int t,.int b0] none (some 3)=[.str wd,.int 0,.int t]:=qFd _ 3
   refine⟨_,rfl,_,rfl,3,rfl,dz,_,rfl,SqT.of hd,?_,fun p1 hp1=>?_⟩
   · intro h
     have:=h.2
     revert this
     show ¬ HT.sIx 4 4 (some 3)=4
     decide
   rw [ec]
   have w1:=qF hp1 (.tup [.str wd,.int 0,.int t])
   have m1:upd H p1 (.tup [.str wd,.int 0,.int t]) p1=some (.tup [.str wd,.int 0,.int t]):=qD
   generalize upd H p1 (.tup [.str wd,.int 0,.int t])=H1 at w1 m1 ⊢
   refine⟨_,rfl,sL1,fun p2 hp2=>?_⟩
   have w2:=qF hp2 (.tup [.int b])
   have m2:upd H1 p2 (.tup [.int b]) p2=some (.tup [.int b]):=qD
   generalize upd H1 p2 (.tup [.int b])=H2 at w2 m2 ⊢
   refine⟨p1,p2,_,_,rfl,rfl,SqT.of (w2 _ _ m1),SqT.of m2,(by simp),sL4,(fun h=>by cases h),fun _ p3 hp3=>?_⟩
   have w3:=qF hp3 (.tup [.str wd,.int 0,.int t,.int b])
   have m3:upd H2 p3 (.tup [.str wd,.int 0,.int t,.int b]) p3=some (.tup [.str wd,.int 0,.int t,.int b]):=qD
   show qM5 3 _ (upd H2 p3 (.tup [.str wd,.int 0,.int t,.int b])) _
   generalize upd H2 p3 (.tup [.str wd,.int 0,.int t,.int b])=H3 at w3 m3 ⊢
   have w13:=(w1.trans w2).trans w3
   have hp:qGe [ms].length (some 0) (some t)=true∧byB (some b)=true:=by
    refine⟨?_,?_⟩
    · unfold qGe
      dsimp only
      rw [decide_eq_true (show (0:Int)≤0 by decide),decide_eq_true hR.t0]
      simp
    · unfold byB
      exact decide_eq_true hb
   have ho:qJr [ms] wd (some 0) (some t) (some b)=2:=by
    unfold qJr
    dsimp only
    rw [if_pos hp]
    show mxF ms (plF wd ms t)=2
    rw [hR.pl]
    unfold mxF
    dsimp only
    rw [qJq hR.nm]
    simp
   have hit1:∀ m∈[ms],m.length≤300∧∀ x∈m,ItR rl x:=fun m hm=>by
    have e:m=ms:=by simpa using hm
    rw [e];exact⟨by have:=hR.len;omega,hR.it⟩
   have hI:qKk H3 tz p3 rd [ms] [] wd (.int 0) (.int t) (.int b) (some 0) (some t) (some b) rl:=⟨hT.same w13,m3,.int 0,.int t,.int b,hR.w3,(by show 1≤300;decide),hit1,hre.same w13⟩
   refine⟨_,rfl,tz,p3,rd,[ms],[],wd,_,_,_,some 0,some t,some b,rl,rfl,hI,(fun h=>by rw [ho] at h;cases h),(fun h=>by rw [ho] at h;cases h),fun _ nt t' b' ms' is' e1 e2 e3 e4 e5=>?_⟩
   refine qM fun _ Y=>?_
   cases e2
   cases e3
   apply Y
   obtain rfl:nt=0:=by
    have:=Option.some.inj e1
    omega
   refine qM fun _ Y=>?_
   cases e4
   rw [hR.pl] at e5
   cases e5
   apply Y
   exact⟨fun hc t'' H' e hN=>(kk H' (w13.trans e)).1 hc t'' (hN.back w13),fun hc dx H' e hx=>⟨rfl,hc,w13.trans e,dx,rfl,hx⟩⟩
 · rintro ea ⟨B1,B2⟩ σ' H' ⟨hB,hlt,e,dx,hdx,hx⟩ hea hlen
   have hB':B1= .ref a.k_Short:=hB
   have hB2:B2=some dx:=hdx
   refine qM fun _ Y=>?_
   subst hB' hB2
   have w1:=qF hea (qDt ea (.ref a.k_Short,some dx))
   obtain⟨o1,o2,o3,o4,o5,rfl⟩:∃ o1 o2 o3 o4 o5,σ'=[o1,o2,o3,o4,o5]:=by
    match σ',hlen with
    | [o1,o2,o3,o4,o5],_=>exact⟨o1,o2,o3,o4,o5,rfl⟩
   apply Y
   have hE:(upd H' ea (qDt ea (.ref a.k_Short,some dx))) ea=some (qDt ea (.ref a.k_Short,some dx)):=qD
   exact⟨T.ySS,_,rfl,ea,_,dx,_,_,rfl,hE,w1 _ _ hx,rfl,T.e_Short,T.m_Short.hd,T.f_most,(kk _ (e.trans w1)).2 hlt⟩
theorem qA9 {rl:Rls}{ms:List Im}{wd:Str}{is:List Int}{b c:Int}(h:0 < b↔0 < c):xA rl ms wd is b=xA rl ms wd is c:=by
 have key:∀ {α:Type} (x y:α),(if 0 < b then x else y)=if 0 < c then x else y:=fun x y=>by
  by_cases hb:0 < b
  · rw [if_pos hb,if_pos (h.mp hb)]
  · rw [if_neg hb,if_neg (fun hc=>hb (h.mpr hc))]
 unfold xA
 split
 · unfold qGb
   split
   · split
     · exact key _ _
     · rfl
   · rfl
 · unfold qIw
   split
   · split
     · unfold qAr;exact key _ _
     · rfl
   · rfl
theorem qAy {rl:Rls}{ms:List Im}{wd:Str}{t:Int}{is:List Int}(h:RlP rl ms wd t is)(hc:∀ m∈ms,Cl rl m)(b:Int):0≤xA rl ms wd is b:=by
 have cl:∀ {i:Nat} {n:Str} {p q r s l:Int},ms[i]? =some (.clip n p q r s l)→∃ N,Rc n p q r s l rl N∧0≤vL p q r s l N∧0≤vR p q r s N:=fun {i n p q r s l} hm=>by
  obtain⟨n',p',q',r',s',l',N,e,c,_,i0,_⟩:=hc _ (List.mem_of_getElem? hm)
  cases e
  exact⟨N,c,(qH5 (k0:=l) (e:=1) c.g1.1 c.g2.1 (.inl rfl) (fun _=>i0)).1,(qH5 (k0:=-1) (e:=-1) c.g1.1 c.g2.1 (.inr rfl) (fun _=>i0)).1⟩
 unfold xA
 rcases qFv h.w3 h.pl with ⟨rfl,x,rfl,hx⟩ | ⟨hwn,_,x,y,hh0,hl0,_,_,hx,hy⟩
 · rw [if_pos rfl]
   obtain⟨i,n,p,q,r,s,l,rfl,hm⟩:=xG hx
   obtain⟨N,c,q1,q2⟩:=cl hm
   have ec:qy ms (i:Int)= .clip n p q r s l:=by unfold qy;rw [Int.toNat_natCast,hm];rfl
   show 0≤qGb rl (qy ms (i:Int)) b
   rw [ec]
   unfold qGb
   dsimp only
   rw [c.rn]
   dsimp only
   split <;> assumption
 · rw [if_neg hwn,hh0,hl0]
   obtain⟨i,n,p,q,r,s,l,rfl,hm⟩:=xG hx
   obtain⟨j,n',p',q',r',s',l',rfl,hm'⟩:=xG hy
   obtain⟨N,c,q1,q2⟩:=cl hm
   obtain⟨N',c',q1',q2'⟩:=cl hm'
   have ec:qy ms (i:Int)= .clip n p q r s l:=by unfold qy;rw [Int.toNat_natCast,hm];rfl
   have ec':qy ms (j:Int)= .clip n' p' q' r' s' l':=by unfold qy;rw [Int.toNat_natCast,hm'];rfl
   rw [ec,ec']
   unfold qIw
   dsimp only
   rw [c.rn,c'.rn]
   dsimp only
   have:=c.l1
   have:=c'.l1
   unfold qAr
   split
   · split <;> omega
   · split <;> omega
theorem qLq (b c x:Int)(hc:0≤c)(hb:x=if b < 0 then -1 else 1)(h0:b≠0):sgM b c*x=c∧j2 (sgM b c)=c:=by
 unfold sgM j2
 by_cases h:0 < b
 · rw [if_pos h,hb,if_neg (by omega),Int.mul_one]
   refine⟨rfl,?_⟩
   rw [if_neg (by omega)]
 · rw [if_neg h,hb,if_pos (by omega)]
   refine⟨by omega,?_⟩
   split <;> omega
inductive ka (vs:List V)(H:Hp)(Q:VK)(_:XK):Prop
| mk (tz dz rd:Addr) (ms:List Im) (wd:Str) (t b:Int) (is:List Int) (rl:Rls) (_:vs=[.ref tz,.ref dz,.int (sgM b (xA rl ms wd is b)),.ref rd]) (_:TabF H (.ref tz) [ms] []) (_:H dz=some (.tup [.str wd,.int 0,.int t,.int b])) (_:ReelsAt H rd rl) (_:RlP rl ms wd t is) (_:(∀ m∈ms,Cl rl m)) (_:b≠0) (_:b.natAbs≤1000000) (_:¬ j2 b≤xA rl ms wd is b) (_:∀ H',Same H H'→Q (.bl true) H')
theorem kZ (T:Tx K mg a):FnOk P w K mg base CX0 11 a.A86 a.B86 ["_law_table","_law_deed","_law_most","_law_reels_here"] ka:=by
 refine T.D86.F.ok qt (fun vs H Q E h=>?_) (fun cdv A outer s H vs Q E hr h=>?_)
 · obtain⟨tz,dz,rd,ms,wd,t,b,is,rl,rfl,_⟩:=h
   rfl
 refine qM fun _ Y=>?_
 obtain⟨tz,dz,rd,ms,wd,t,b,is,rl,rfl,hT,hd,hre,hR,hCl,hb0,hb,hlt,kk⟩:=h
 apply Y
 refine⟨_,(qB (qX 4 qt.nd (qN (pv 1)))
  (qB (qf (PW.pt (vF (kT (jx (qI T.D85 (jZ T) hr rfl (qA (pv 2) qC)))) (vF (qO xL (qJ qm (pv 2) (pv 4)) qG (qS _)) (zr (qO qJj (qZ jg rfl T.b_abs rfl (qA (pv 2) qC)) (qZ jg rfl T.b_abs rfl (qA (pv 4) qC)) (qS _)))))) (qE (qK qEr)) qP)
  (qB (qX 5 qt.nd qG)
  (qB (zG (qf (qO xL (pv 4) qG (qS _)) (qE (qX 5 qt.nd (v5 xg qG))) qP))
  (qB (kj PassesOwn.never rfl (xU (jU (qA qG (qA (pv 5) (qA (qJ jG (pv 2) qG) (qA (qJ jG (pv 2) qG) (qA (qJ qp (pv 2) (pv 5)) (qA (pv 2) qC)))))))) (jR (i:=6) qt.nd rfl (Or.inl rfl)) (qE (qf (PW.pt (vE (wJ qAm qAm qG (qJ qm (pv 6) (pv 5)) (qZ jg rfl T.b_abs rfl (qA (pv 2) qC))) (zN (jx (qI T.D85 (jZ T) hr rfl (qA (qI T.D84 (jh T) hr rfl (qA (pv 0) (qA (pv 1) (qA (pv 6) (qA (pv 3) qC))))) qC)))))) (qE (qK qEr)) qP)))
  (qE (qK (zF jj (qI T.D84 (jh T) hr rfl (qA (pv 0) (qA (pv 1) (qA (qJ qY (pv 2) (pv 5)) (qA (pv 3) qC))))) (pv 2) (qS _))))))))),?_⟩
 try dsimp only [jS,qc]
 have c0:=qAy hR hCl b
 have hcs:∀ x:Int,(0 < b↔0 < x)→xA rl ms wd is x=xA rl ms wd is b:=fun x h=>(qA9 h).symm
 have hc0:=qAy hR hCl 0
 generalize hcq:xA rl ms wd is b=c at c0 hlt hcs ⊢
 refine qM fun _ Y=>?_
 obtain⟨way,hway⟩:∃ way:Int,way=if b < 0 then -1 else 1:=⟨_,rfl⟩
 obtain⟨sm,sa⟩:=qLq b c way c0 hway hb0
 apply Y
 have hab:j2 b=b*way:=by
  unfold j2
  rw [hway]
  split <;> omega
 have hbB:j2 b≤1000000:=by unfold j2;split <;> omega
 have hw1:way=1∨way= -1:=by rw [hway];split <;> simp
 have hsg:b < 0∧way= -1∨0 < b∧way=1:=by rw [hway];split <;> omega
 generalize hMq:sgM b c=M at sm sa ⊢
 have e3:∀ x:V,atI [V.str wd,.int 0,.int t,x] 3=some x:=fun _=>rfl
 refine⟨_,rfl,dz,_,_,_,rfl,rfl,SqT.of hd,e3 _,?_⟩
 refine⟨_,rfl,_,true,rfl,.int M,true,rfl,xY ?_⟩
 have hMb:¬ M*b < 0:=by
  rcases hsg with ⟨h1,h2⟩ | ⟨h1,h2⟩
  · have:M= -c:=by rw [h2] at sm;omega
    have:=Int.mul_nonneg c0 (show 0≤ -b by omega)
    rw [‹M= -c›]
    have e:-c*b=c* -b:=by grind
    omega
  · have:M=c:=by rw [h2] at sm;omega
    have:=Int.mul_nonneg c0 (show 0≤b by omega)
    rw [‹M=c›]
    omega
 refine⟨_,rfl,_,rfl,_,_,rfl,rfl,cmR (by omega) (by omega),_,_,rfl,rfl,_,rfl,vZ (decide_eq_false hMb) ?_⟩
 have hAb:¬ (if b < 0 then -b else b)≤(if M < 0 then -M else M):=by
  have h1:(if M < 0 then -M else M)=c:=sa
  have h2:(if b < 0 then -b else b)=j2 b:=rfl
  rw [h1,h2]
  exact hlt
 refine⟨_,rfl,M,rfl,_,rfl,b,rfl,_,_,rfl,rfl,_,rfl,vZ ?_ ?_⟩
 · exact decide_eq_false (by omega)
 refine⟨fun σ' H'=>H'=H∧σ'=[some (.ref tz),some (.ref dz),some (.int M),some (.ref rd),some (.int b),some (.int way),none],?_,?_⟩
 · refine⟨_,rfl,_,_,rfl,rfl,_,rfl,jN (fun cb=>?_) (fun cb=>?_)⟩
   · have:b < 0:=by simpa using cb
     have e:way= -1:=by omega
     rw [e]
     exact⟨1,rfl,rfl,rfl⟩
   · have:¬ b < 0:=by simpa using cb
     have e:way=1:=by omega
     rw [e]
     exact⟨rfl,rfl⟩
 rintro σ' H' ⟨rfl,rfl⟩
 have hMw:M=c*way:=by
  rcases hw1 with rfl | rfl <;> omega
 have hcb:c < 1000000:=by omega
 have hMB:M.natAbs < 1000000:=by rcases hw1 with rfl | rfl <;> omega
 refine⟨_,rfl,_,rfl,_,_,rfl,rfl,cdB (by decide) (by decide),_,rfl,_,_,rfl,rfl,cdB (by decide) (by decide),_,rfl,_,rfl,_,_,rfl,rfl,_,rfl,(by show 6≤sizeLine;decide),fun ld hld=>?_⟩
 have d3:=qk (p:=M) (q:=3) (by decide)
 have d2:=qk (p:=M) (q:=2) (by decide)
 generalize hx3:M.fdiv 3=x3 at d3 ⊢
 generalize hx2:M.fdiv 2=x2 at d2 ⊢
 have w1:=qF hld (.lst [.int 0,.int way,.int x3,.int x2,.int (M - way),.int M])
 have kl:upd H' ld (.lst [.int 0,.int way,.int x3,.int x2,.int (M - way),.int M]) ld=some (.lst [.int 0,.int way,.int x3,.int x2,.int (M - way),.int M]):=qD
 generalize upd H' ld (.lst [.int 0,.int way,.int x3,.int x2,.int (M - way),.int M])=H2 at w1 kl ⊢
 refine⟨ld,rfl,⟨_,SqL.of kl⟩,zZ (K:=K) (a:=ld) (xs:=[.int 0,.int way,.int x3,.int x2,.int (M - way),.int M]) (fun k σ H3=>∃ o1:Option V,σ=[some (.ref tz),some (.ref dz),some (.int M),some (.ref rd),some (.int b),some (.int way),o1]∧Same H2 H3) ⟨none,rfl,Same.refl _⟩ ?_ ?_ ?_⟩
 · rintro k σ H3 hk ⟨o1,rfl,e⟩
   exact SqL.of (e _ _ kl)
 · rintro k v σ H3 hv ⟨o1,rfl,e⟩
   obtain⟨x,rfl⟩:∃ x:Int,v= .int x:=by
    match k,hv with
    | 0,hv=>exact⟨_,(Option.some.inj hv).symm⟩
    | 1,hv=>exact⟨_,(Option.some.inj hv).symm⟩
    | 2,hv=>exact⟨_,(Option.some.inj hv).symm⟩
    | 3,hv=>exact⟨_,(Option.some.inj hv).symm⟩
    | 4,hv=>exact⟨_,(Option.some.inj hv).symm⟩
    | 5,hv=>exact⟨_,(Option.some.inj hv).symm⟩
    | k+6,hv=>simp at hv
   have e3:=w1.trans e
   refine⟨_,rfl,_,rfl,_,_,rfl,rfl,cmR (by omega) (by omega),_,_,rfl,rfl,_,rfl,jN (fun c1=>?_) (fun c1=>⟨_,rfl,xY ⟨_,rfl,e⟩⟩)⟩
   have g1:0≤x*way:=by simpa using c1
   refine⟨_,rfl,M,rfl,_,_,rfl,rfl,_,rfl,jN (fun c2=>?_) (fun c2=>⟨_,rfl,e⟩)⟩
   have g2:x*way≤j2 M:=by show x*way≤if M < 0 then -M else M;simpa using c2
   have hok:j2 x≤xA rl ms wd is x:=by
    by_cases x0:x=0
    · subst x0;exact hc0
    · have ex:j2 x=x*way:=by
       unfold j2
       rcases hw1 with rfl | rfl
       · rw [if_neg (by omega)];omega
       · rw [if_pos (by omega)];omega
      rw [hcs x (by rcases hw1 with rfl | rfl <;> omega),ex]
      omega
   have hxb:x.natAbs≤1000000:=by rcases hw1 with rfl | rfl <;> omega
   refine⟨_,rfl,_,rfl,_,rfl,_,rfl,tz,dz,rd,ms,wd,t,b,x,is,rl,rfl,hT.same e3,e3 _ _ hd,hre.same e3,hR,hxb,fun H4 e4=>⟨fun _ t' hN=>?_,fun hn=>absurd hok hn⟩⟩
   refine qM fun _ Y=>?_
   obtain⟨tl,ti,zs,q1,q2,q3,q4,q5,q6,q7,q8⟩:=hN.ex
   apply Y
   exact⟨_,false,rfl,.no (.tup q1),_,rfl,xY ⟨_,rfl,e.trans e4⟩⟩
 · rintro σ H3 ⟨o1,rfl,e⟩
   have e3:=w1.trans e
   have hs:(0 < b↔0 < M+way):=by rcases hsg with ⟨g1,g2⟩ | ⟨g1,g2⟩ <;> rcases hw1 with rfl | rfl <;> omega
   have hcM:=hcs (M+way) hs
   have hno:¬ j2 (M+way)≤xA rl ms wd is (M+way):=by
    rw [hcM]
    unfold j2
    rcases hw1 with rfl | rfl <;> split <;> omega
   have hsM:sgM (M+way) c=M:=by
    have e:sgM (M+way) c=sgM b c:=by
     unfold sgM
     by_cases hbp:0 < b
     · rw [if_pos hbp,if_pos (hs.mp hbp)]
     · rw [if_neg hbp,if_neg (fun z=>hbp (hs.mpr z))]
    rw [e,hMq]
   have hxb:(M+way).natAbs≤1000000:=by rcases hw1 with rfl | rfl <;> omega
   refine⟨_,rfl,_,rfl,_,rfl,_,rfl,_,_,rfl,rfl,_,rfl,tz,dz,rd,ms,wd,t,b,M+way,is,rl,rfl,hT.same e3,e3 _ _ hd,hre.same e3,hR,hxb,fun H4 e4=>⟨fun hy=>absurd hy hno,fun _=>?_⟩⟩
   rw [hcM,hsM]
   refine⟨_,rfl,rfl,?_⟩
   rw [decide_eq_true rfl]
   exact kk H4 (e3.trans e4)
theorem qAw (T:Tx K mg a):FnOk P w K mg base CX0 8 a.A73 a.B73 ["track","moment","room"] (zg K 0):=(qHv T 0).2
structure CT (ms:List Im):Prop where
 cl:∀ m∈ms,m.wd="clip"
 po:∀ m∈ms,0 < m.mo
theorem jy (x:Im)(ms:List Im)(k:Nat):qd (x::ms) (k+1)=x.mo+qd ms k:=by
 unfold qd;rw [List.take_succ_cons,List.map_cons,List.sum_cons]
theorem qEu:∀ {ms:List Im},(∀ m∈ms,0 < m.mo)→∀ k,0≤qd ms k
 | _,_,0=>Int.le_refl _
 | [],_,_+1=>Int.le_refl _
 | x::ms,h,k+1=>by
  have:=qEu (fun y hy=>h y (List.mem_cons_of_mem _ hy)) k
  have:=h x List.mem_cons_self
  rw [jy];omega
theorem xW {ms:List Im}{i:Nat}{m:Im}(h:ms[i]? =some m):qd ms (i+1)=qd ms i+m.mo:=by
 unfold qd
 rw [List.take_add_one,h,List.map_append,List.sum_append]
 show _+(m.mo+0)=_
 omega
theorem qBd:∀ {ms:List Im} {b:Int} {i0 k:Nat} {m:Im} {t:Int},(∀ x∈ms,0 < x.mo)→ms[k]? =some m→b+qd ms k≤t→t < b+qd ms k+m.mo→jp b i0 ms t=some (i0+k,t - (b+qd ms k))
 | x::ms,b,i0,0,m,t,hp,hk,h1,h2=>by
  obtain rfl:x=m:=by simpa using hk
  have e:qd (x::ms) 0=0:=rfl
  rw [e] at h1 h2 ⊢
  rw [jp,if_pos ⟨by omega,by omega⟩,Nat.add_zero,Int.add_zero]
 | x::ms,b,i0,k+1,m,t,hp,hk,h1,h2=>by
  rw [jy] at h1 h2 ⊢
  have n:=qEu (fun y hy=>hp y (List.mem_cons_of_mem _ hy)) k
  have ih:=qBd (ms:=ms) (b:=b+x.mo) (i0:=i0+1) (k:=k) (m:=m) (t:=t) (fun y hy=>hp y (List.mem_cons_of_mem _ hy)) (by simpa using hk) (by omega) (by omega)
  rw [jp,if_neg (by omega),ih]
  have e1:i0+1+k=i0+(k+1):=by omega
  have e2:t - (b+x.mo+qd ms k)=t - (b+(x.mo+qd ms k)):=by omega
  rw [e1,e2]
 | [],_,_,_,_,_,_,hk,_,_=>by simp at hk
theorem qIb:∀ {ms:List Im} {b:Int} {i0:Nat} {t:Int},(∀ x∈ms,0 < x.mo)→b+qd ms ms.length≤t→jp b i0 ms t=none
 | [],_,_,_,_,_=>rfl
 | x::ms,b,i0,t,hp,h=>by
  rw [List.length_cons,jy] at h
  have n:=qEu (fun y hy=>hp y (List.mem_cons_of_mem _ hy)) ms.length
  rw [jp,if_neg (by omega)]
  exact qIb (fun y hy=>hp y (List.mem_cons_of_mem _ hy)) (by omega)
theorem qI1:∀ {ms:List Im} {t:Int},0≤t→t < qd ms ms.length→∃ (k:Nat) (m:Im),ms[k]? =some m∧qd ms k≤t∧t < qd ms k+m.mo
 | [],t,h0,h=>by have:qd [] 0=0:=rfl;rw [List.length_nil,this] at h;omega
 | x::ms,t,h0,h=>by
  rw [List.length_cons,jy] at h
  by_cases hx:t < x.mo
  · exact⟨0,x,rfl,h0,by show t < 0+x.mo;omega⟩
  · obtain⟨k,m,h1,h2,h3⟩:=qI1 (ms:=ms) (t:=t - x.mo) (by omega) (by omega)
    exact⟨k+1,m,by simpa using h1,by rw [jy];omega,by rw [jy];omega⟩
theorem qH6:∀ {ms:List Im} {b:Int} {i:Nat} {t:Int},(∀ m∈ms,m.wd="clip")→qD5 b i ms t=none
 | [],_,_,_,_=>rfl
 | m::ms,b,i,t,h=>by
  rw [vc (by rw [h m List.mem_cons_self];decide+kernel)]
  exact qH6 (fun y hy=>h y (List.mem_cons_of_mem _ hy))
theorem qA0 {m:Im}(h:m.wd="clip"):∃ (n:Str) (p q r s l:Int),m= .clip n p q r s l:=by
 cases m with
 | clip n p q r s l=>exact⟨n,p,q,r,s,l,rfl⟩
 | nest n b l=>exact absurd h (by show ¬ ("nest":Str)="clip";decide+kernel)
 | gap l=>exact absurd h (by show ¬ ("gap":Str)="clip";decide+kernel)
 | mix l=>exact absurd h (by show ¬ ("mix":Str)="clip";decide+kernel)
def shF (ms:List Im)(i:Nat)(k:Int):List Te:=match ms[i]? with
 | some (.clip n p q r s _)=>[⟨n,qG3 p q r s k,1,1⟩]
 | _=>[]
theorem zH {f:Str→Int→List Te}{ms:List Im}{t:Int}{k:Nat}{m:Im}(h:CT ms)(hk:ms[k]? =some m)(h1:qd ms k≤t)(h2:t < qd ms k+m.mo):qq f ms t=shF ms k (t - qd ms k):=by
 obtain⟨n,p,q,r,s,l,rfl⟩:=qA0 (h.cl m (List.mem_of_getElem? hk))
 unfold qq shF
 rw [qH6 h.cl,qBd (b:=0) (i0:=0) h.po hk (by omega) (by omega)]
 dsimp only
 rw [Nat.zero_add,Int.zero_add,hk]
theorem qIc {f:Str→Int→List Te}{ms:List Im}{t:Int}(h:CT ms)(h1:qd ms ms.length≤t):qq f ms t=[]:=by
 unfold qq
 rw [qH6 h.cl,qIb (b:=0) h.po (by omega)]
theorem qFm:∀ {ms:List Im} {i:Nat} {m:Im} (x:Im) (k:Nat),ms[i]? =some m→qd (ms.set i x) k=qd ms k+if i < k then x.mo - m.mo else 0
 | [],_,_,_,_,h=>by simp at h
 | y::ms,_,m,x,0,h=>by rw [if_neg (by omega)];rfl
 | y::ms,0,m,x,k+1,h=>by
  obtain rfl:y=m:=by simpa using h
  rw [List.set_cons_zero,jy,jy,if_pos (by omega)]
  omega
 | y::ms,i+1,m,x,k+1,h=>by
  have ih:=qFm (ms:=ms) (i:=i) x k (by simpa using h)
  rw [List.set_cons_succ,jy,jy,ih]
  by_cases hi:i < k
  · rw [if_pos hi,if_pos (by omega)];omega
  · rw [if_neg hi,if_neg (by omega)];omega
theorem qIq {ms:List Im}(h:∀ m∈ms,0 < m.mo){i j:Nat}(hij:i≤j):qd ms i≤qd ms j:=by
 induction hij with
 | refl=>exact Int.le_refl _
 | @step j _ ih=>
  cases hm:ms[j]? with
  | none=>
   have hl:=List.getElem?_eq_none_iff.mp hm
   have e:qd ms (j+1)=qd ms j:=by
    unfold qd
    rw [List.take_of_length_le (by omega),List.take_of_length_le hl]
   show qd ms i≤qd ms (j+1)
   omega
  | some m=>
   have:=xW hm
   have:=h m (List.mem_of_getElem? hm)
   show qd ms i≤qd ms (j+1)
   omega
theorem qFw {f:Str→Int→List Te}{ms ms':List Im}{i j:Nat}{t:Int}(h:CT ms)(h':CT ms')(hl:ms'.length=ms.length)(hj:j≤ms.length)(hs:∀ k,k < i∨j≤k→ms'[k]? =ms[k]?)(hb:∀ k,k≤i∨j≤k→qd ms' k=qd ms k)(t0:0≤t)(ht:¬ (qd ms i≤t∧t < qd ms j)):qq f ms t=qq f ms' t:=by
 by_cases hT:t < qd ms ms.length
 · obtain⟨k,m,hk,h1,h2⟩:=qI1 t0 hT
   have hn:=xW hk
   have out:k < i∨j≤k:=by
    by_cases hki:k < i
    · exact .inl hki
    · by_cases hjk:j≤k
      · exact .inr hjk
      · have:=qIq h.po (show i≤k by omega)
        have:=qIq h.po (show k+1≤j by omega)
        exact absurd ⟨by omega,by omega⟩ ht
   have e:=hb k (by omega)
   have hk':ms'[k]? =some m:=by rw [hs k out];exact hk
   rw [zH h hk h1 h2,zH h' hk' (by omega) (by omega),e]
   unfold shF
   rw [hk,hk']
 · rw [qIc h (by omega),qIc h' (by rw [hl,hb _ (.inr hj)];omega)]
def qKn (ms:List Im)(wd:Str)(i:Nat)(b t:Int):Option (List Te):=
 if wd="slip" then (if qd ms i≤t∧t < qd ms (i+1) then some (shF ms i (t - qd ms i+b)) else none)
 else if wd="roll" then (if qd ms i≤t∧t < qd ms (i+2) then some (if t < qd ms (i+1)+b then shF ms i (t - qd ms i) else shF ms (i+1) (t - qd ms (i+1))) else none)
 else (if qd ms (i - 1)≤t∧t < qd ms (i+2) then some (if t < qd ms i+b then shF ms (i - 1) (t - qd ms (i - 1)) else if t < qd ms (i+1)+b then shF ms i (t - b - qd ms i) else shF ms (i+1) (t - qd ms (i+1))) else none)
def isF (wd:Str)(i:Nat):List Int:=if wd="slip" then [(i:Int)] else if wd="roll" then [(i:Int),((i+1:Nat):Int)] else [((i - 1:Nat):Int),(i:Int),((i+1:Nat):Int)]
structure PlO (wd:Str)(ms:List Im)(i:Nat):Prop where
 w:Wd3 wd
 l:i < ms.length
 r:wd="roll"→i+1 < ms.length
 s:wd="slide"→1≤i∧i+1 < ms.length
structure qMa (f:Str→Int→List Te)(ms ms':List Im)(wd:Str)(i:Nat)(b:Int):Prop where
 ct:CT ms'
 g:∀ m∈ms',m.g
 len:ms'.length=ms.length
 tot:qd ms' ms'.length=qd ms ms.length
 due:∀ t,0≤t→(qKn ms wd i b t).getD (qq f ms t)=qq f ms' t
theorem Cl.ct {rl:Rls}{ms:List Im}(h:∀ m∈ms,Cl rl m):CT ms∧∀ m∈ms,m.g:=by
 refine⟨⟨fun m hm=>?_,fun m hm=>?_⟩,fun m hm=>?_⟩
 · obtain⟨n,p,q,r,s,l,N,rfl,_⟩:=h m hm
   rfl
 · obtain⟨n,p,q,r,s,l,N,rfl,c,_⟩:=h m hm
   have:=c.l1
   show 0 < l;omega
 · obtain⟨n,p,q,r,s,l,N,rfl,c,l12,_⟩:=h m hm
   have hb:=c.bn.mono (m:=400)
   exact⟨hb.q0,hb.s0,hb.bp,hb.bq,hb.br,hb.bs,c.l1,Int.lt_of_le_of_lt l12 (by decide)⟩
theorem vf {rl:Rls}{ms:List Im}(h:∀ m∈ms,Cl rl m){i:Nat}(hi:i < ms.length):∃ (n:Str) (p q r s l N:Int),ms[i]? =some (.clip n p q r s l)∧Rc n p q r s l rl N∧l≤12:=by
 obtain⟨n,p,q,r,s,l,N,e,c,l12,_⟩:=h _ (List.getElem_mem hi)
 exact⟨n,p,q,r,s,l,N,by rw [List.getElem?_eq_getElem hi,e],c,l12⟩
theorem qAa {ms:List Im}{i:Nat}{x:Im}{Pr:Im→Prop}(h:∀ m∈ms,Pr m)(hx:Pr x):∀ m∈ms.set i x,Pr m:=fun m hm=>by
 rcases List.mem_or_eq_of_mem_set hm with h' | h'
 · exact h m h'
 · rw [h'];exact hx
theorem CT.set {ms:List Im}(h:CT ms)(i:Nat){n:Str}{p q r s l:Int}(hl:0 < l):CT (ms.set i (.clip n p q r s l)):=⟨qAa h.cl rfl,qAa h.po hl⟩
theorem xH {ms:List Im}{i:Nat}{n:Str}{p q r s l:Int}(h:ms[i]? =some (.clip n p q r s l))(k:Int):shF ms i k=[⟨n,qG3 p q r s k,1,1⟩]:=by
 unfold shF;rw [h]
theorem qHk {p q r s lo k:Int}(hq:0 < q)(hs:0 < s):qG3 (plP p q r s lo) (plQ p q r s lo) r s k=qG3 p q r s (lo+k):=qMg hq hs
theorem qJl {rl:Rls}{f:Str→Int→List Te}{ms:List Im}{i:Nat}{b:Int}(hC:∀ m∈ms,Cl rl m)(hi:i < ms.length)(hb:b.natAbs≤1000000):qMa f ms (qD3 ms "slip" (isF "slip" i) b) "slip" i b:=by
 obtain⟨hct,hg⟩:=Cl.ct hC
 obtain⟨n,p,q,r,s,l,N,hm,c,l12⟩:=vf hC hi
 have e:qD3 ms "slip" (isF "slip" i) b=ms.set i (.clip n (plP p q r s b) (plQ p q r s b) r s l):=by
  have ec:qy ms (i:Int)= .clip n p q r s l:=by unfold qy;rw [Int.toNat_natCast,hm];rfl
  unfold qD3 isF
  rw [if_pos rfl,if_pos rfl]
  show (match qy ms (i:Int) with | .clip n p q r s l=>ms.set ((i:Int)).toNat (.clip n (plP p q r s b) (plQ p q r s b) r s l) | _=>ms)=_
  rw [ec,Int.toNat_natCast]
 have hl:=c.l1
 rw [e]
 have hct':=hct.set i (n:=n) (p:=plP p q r s b) (q:=plQ p q r s b) (r:=r) (s:=s) (l:=l) (by omega)
 have hbs:∀ k,qd (ms.set i (.clip n (plP p q r s b) (plQ p q r s b) r s l)) k=qd ms k:=fun k=>by
  rw [qFm _ k hm]
  show qd ms k+(if i < k then l - l else 0)=_
  split <;> omega
 have hlen:(ms.set i (.clip n (plP p q r s b) (plQ p q r s b) r s l)).length=ms.length:=List.length_set
 have hnew:(ms.set i (.clip n (plP p q r s b) (plQ p q r s b) r s l))[i]? =some (.clip n (plP p q r s b) (plQ p q r s b) r s l):=by rw [List.getElem?_set,if_pos rfl,if_pos hi]
 have hbn:=(c.bn.part (k:=b) (Nat.lt_of_le_of_lt hb (by decide))).mono (m:=400)
 refine⟨hct',qAa hg ⟨hbn.q0,hbn.s0,hbn.bp,hbn.bq,hbn.br,hbn.bs,hl,Int.lt_of_le_of_lt l12 (by decide)⟩,hlen,by rw [hlen,hbs],fun t t0=>?_⟩
 have hn:=xW hm
 unfold qKn
 rw [if_pos rfl]
 by_cases hin:qd ms i≤t∧t < qd ms (i+1)
 · rw [if_pos hin,zH hct' hnew (by rw [hbs];exact hin.1) (by rw [hbs];exact(hn ▸ hin.2)),xH hnew,hbs,qHk c.g1.1 c.g2.1]
   show shF ms i _=_
   rw [xH hm,Int.add_comm b]
 · rw [if_neg hin]
   exact qFw (i:=i) (j:=i+1) hct hct' hlen hi (fun k hk=>by rw [List.getElem?_set,if_neg (by omega)]) (fun k _=>hbs k) t0 hin
structure TwG (ms ms':List Im)(i j:Nat)(b:Int)(x y:Im):Prop where
 ct:CT ms'
 g:∀ m∈ms',m.g
 len:ms'.length=ms.length
 bs:∀ k,qd ms' k=qd ms k+if i < k∧k≤j then b else 0
 ai:ms'[i]? =some x
 aj:ms'[j]? =some y
 ot:∀ k,k≠i→k≠j→ms'[k]? =ms[k]?
theorem qHb {rl:Rls}{ms:List Im}{i j:Nat}{b:Int}{n n':Str}{p q r s l N p' q' r' s' l' N':Int}(hC:∀ m∈ms,Cl rl m)(hm:ms[i]? =some (.clip n p q r s l))(hm':ms[j]? =some (.clip n' p' q' r' s' l'))(hij:i < j)(c:Rc n p q r s l rl N)(c':Rc n' p' q' r' s' l' rl N')(l12:l≤12)(l12':l'≤12)(hb:b.natAbs≤1000000)(h1:1≤l+b)(h2:1≤l' - b):
 TwG ms (qC5 ms i j b n p q r s l n' p' q' r' s' l') i j b (.clip n p q r s (l+b)) (.clip n' (plP p' q' r' s' b) (plQ p' q' r' s' b) r' s' (l' - b)):=by
 obtain⟨hct,hg⟩:=Cl.ct hC
 have hi:i < ms.length:=(glt hm)
 have hj:j < ms.length:=(glt hm')
 have hbn:=c.bn.mono (m:=400)
 have hbn':=(c'.bn.part (k:=b) (Nat.lt_of_le_of_lt hb (by decide))).mono (m:=400)
 have e40:(1000012:Int) < 2 ^ 400:=by decide
 have hmj:(ms.set i (.clip n p q r s (l+b)))[j]? =some (.clip n' p' q' r' s' l'):=by rw [List.getElem?_set,if_neg (by omega)];exact hm'
 unfold qC5
 refine⟨(hct.set i (by omega)).set j (by omega),qAa (qAa hg ⟨hbn.q0,hbn.s0,hbn.bp,hbn.bq,hbn.br,hbn.bs,h1,by omega⟩) ⟨hbn'.q0,hbn'.s0,hbn'.bp,hbn'.bq,hbn'.br,hbn'.bs,h2,by omega⟩,by rw [List.length_set,List.length_set],fun k=>?_,?_,?_,fun k k1 k2=>?_⟩
 · rw [qFm _ k hmj,qFm _ k hm]
   show qd ms k+(if i < k then l+b - l else 0)+(if j < k then l' - b - l' else 0)=_
   by_cases g1:i < k
   · by_cases g2:j < k
     · rw [if_pos g1,if_pos g2,if_neg (by omega)];omega
     · rw [if_pos g1,if_neg g2,if_pos (by omega)];omega
   · rw [if_neg g1,if_neg (by omega),if_neg (by omega)];omega
 · rw [List.getElem?_set,if_neg (by omega),List.getElem?_set,if_pos rfl,if_pos hi]
 · rw [List.getElem?_set,if_pos rfl,if_pos (by rw [List.length_set];exact hj)]
 · rw [List.getElem?_set,if_neg (by omega),List.getElem?_set,if_neg (by omega)]
theorem TwG.tot {ms ms':List Im}{i j:Nat}{b:Int}{x y:Im}(h:TwG ms ms' i j b x y)(hj:j < ms.length):qd ms' ms'.length=qd ms ms.length:=by
 rw [h.len,h.bs,if_neg (by omega),Int.add_zero]
theorem TwG.out {f:Str→Int→List Te}{ms ms':List Im}{i j:Nat}{b t:Int}{x y:Im}(h:TwG ms ms' i j b x y)(hct:CT ms)(hij:i < j)(hj:j < ms.length)(t0:0≤t)(ht:¬ (qd ms i≤t∧t < qd ms (j+1))):qq f ms t=qq f ms' t:=
 qFw hct h.ct h.len hj (fun k hk=>h.ot k (by omega) (by omega)) (fun k hk=>by rw [h.bs,if_neg (by omega),Int.add_zero]) t0 ht
theorem qKe {rl:Rls}{ms:List Im}{wd:Str}{is:List Int}{i j:Nat}{b:Int}{n n':Str}{p q r s l N p' q' r' s' l' N':Int}(hw:¬ wd="slip")(h0:is.headD 0=(i:Int))(h1:is.getLastD 0=(j:Int))(hm:ms[i]? =some (.clip n p q r s l))(hm':ms[j]? =some (.clip n' p' q' r' s' l'))(c:Rc n p q r s l rl N)(c':Rc n' p' q' r' s' l' rl N')(hcap:j2 b≤xA rl ms wd is b):
 qD3 ms wd is b=qC5 ms i j b n p q r s l n' p' q' r' s' l'∧1≤l+b∧1≤l' - b:=by
 have ec:qy ms (i:Int)= .clip n p q r s l:=by unfold qy;rw [Int.toNat_natCast,hm];rfl
 have ec':qy ms (j:Int)= .clip n' p' q' r' s' l':=by unfold qy;rw [Int.toNat_natCast,hm'];rfl
 unfold xA at hcap
 unfold qD3
 rw [if_neg hw,h0,h1,ec,ec'] at hcap ⊢
 unfold qIw at hcap
 dsimp only at hcap ⊢
 rw [c.rn,c'.rn] at hcap
 dsimp only at hcap
 rw [Int.toNat_natCast,Int.toNat_natCast]
 have:=c.l1
 have:=c'.l1
 unfold qAr j2 at hcap
 refine⟨rfl,?_,?_⟩
 · split at hcap <;> split at hcap <;> split at hcap <;> omega
 · split at hcap <;> split at hcap <;> split at hcap <;> omega
theorem qJp {rl:Rls}{f:Str→Int→List Te}{ms:List Im}{i:Nat}{b:Int}(hC:∀ m∈ms,Cl rl m)(hi:i+1 < ms.length)(hb:b.natAbs≤1000000)(hcap:j2 b≤xA rl ms "roll" (isF "roll" i) b):qMa f ms (qD3 ms "roll" (isF "roll" i) b) "roll" i b:=by
 have hct:=(Cl.ct hC).1
 obtain⟨n,p,q,r,s,l,N,hm,c,l12⟩:=vf hC (show i < ms.length by omega)
 obtain⟨n',p',q',r',s',l',N',hm',c',l12'⟩:=vf hC hi
 have nsl:¬ ("roll":Str)="slip":=by decide+kernel
 have eis:isF "roll" i=[(i:Int),((i+1:Nat):Int)]:=by unfold isF;rw [if_neg nsl,if_pos rfl]
 rw [eis] at hcap ⊢
 obtain⟨e,g1,g2⟩:=qKe (is:=[(i:Int),((i+1:Nat):Int)]) nsl rfl rfl hm hm' c c' hcap
 rw [e]
 have R:=qHb hC hm hm' (by omega) c c' l12 l12' hb g1 g2
 generalize qC5 ms i (i+1) b n p q r s l n' p' q' r' s' l'=ms' at R
 refine⟨R.ct,R.g,R.len,R.tot hi,fun t t0=>?_⟩
 have hn1:=xW hm
 have hn2:=xW hm'
 have b0:=R.bs i
 have b1:=R.bs (i+1)
 rw [if_neg (by omega)] at b0
 rw [if_pos (by omega)] at b1
 have el:(Im.clip n p q r s l).mo=l:=rfl
 have el':(Im.clip n' p' q' r' s' l').mo=l':=rfl
 have em:(Im.clip n p q r s (l+b)).mo=l+b:=rfl
 have em':(Im.clip n' (plP p' q' r' s' b) (plQ p' q' r' s' b) r' s' (l' - b)).mo=l' - b:=rfl
 have e2:qd ms (i+2)=qd ms (i+1+1):=rfl
 unfold qKn
 rw [if_neg nsl,if_pos rfl]
 by_cases hin:qd ms i≤t∧t < qd ms (i+2)
 · rw [if_pos hin]
   by_cases ht:t < qd ms (i+1)+b
   · rw [if_pos ht,zH R.ct R.ai (by omega) (by omega),xH R.ai]
     show shF ms i _=_
     rw [xH hm,b0,Int.add_zero]
   · rw [if_neg ht,zH R.ct R.aj (by omega) (by omega),xH R.aj,qHk c'.g1.1 c'.g2.1]
     show shF ms (i+1) _=_
     rw [xH hm',b1]
     congr 3
     omega
 · rw [if_neg hin]
   exact R.out hct (by omega) hi t0 hin
theorem qHl {rl:Rls}{f:Str→Int→List Te}{ms:List Im}{i:Nat}{b:Int}(hC:∀ m∈ms,Cl rl m)(hi:i+2 < ms.length)(hb:b.natAbs≤1000000)(hcap:j2 b≤xA rl ms "slide" (isF "slide" (i+1)) b):qMa f ms (qD3 ms "slide" (isF "slide" (i+1)) b) "slide" (i+1) b:=by
 have hct:=(Cl.ct hC).1
 obtain⟨n,p,q,r,s,l,N,hm,c,l12⟩:=vf hC (show i < ms.length by omega)
 obtain⟨n1,p1,q1,r1,s1,l1,N1,hm1,c1,_⟩:=vf hC (show i+1 < ms.length by omega)
 obtain⟨n',p',q',r',s',l',N',hm',c',l12'⟩:=vf hC hi
 have nsl:¬ ("slide":Str)="slip":=by decide+kernel
 have nro:¬ ("slide":Str)="roll":=by decide+kernel
 have eis:isF "slide" (i+1)=[(i:Int),((i+1:Nat):Int),((i+2:Nat):Int)]:=by unfold isF;rw [if_neg nsl,if_neg nro];rfl
 rw [eis] at hcap ⊢
 obtain⟨e,g1,g2⟩:=qKe (is:=[(i:Int),((i+1:Nat):Int),((i+2:Nat):Int)]) nsl rfl rfl hm hm' c c' hcap
 rw [e]
 have R:=qHb hC hm hm' (by omega) c c' l12 l12' hb g1 g2
 generalize qC5 ms i (i+2) b n p q r s l n' p' q' r' s' l'=ms' at R
 refine⟨R.ct,R.g,R.len,R.tot hi,fun t t0=>?_⟩
 have hn1:=xW hm
 have hn2:=xW hm1
 have hn3:=xW hm'
 have b0:=R.bs i
 have b1:=R.bs (i+1)
 have b2:=R.bs (i+2)
 rw [if_neg (by omega)] at b0
 rw [if_pos (by omega)] at b1 b2
 have a1:=R.ot (i+1) (by omega) (by omega)
 rw [hm1] at a1
 have el:(Im.clip n p q r s l).mo=l:=rfl
 have el1:(Im.clip n1 p1 q1 r1 s1 l1).mo=l1:=rfl
 have el':(Im.clip n' p' q' r' s' l').mo=l':=rfl
 have em:(Im.clip n p q r s (l+b)).mo=l+b:=rfl
 have em':(Im.clip n' (plP p' q' r' s' b) (plQ p' q' r' s' b) r' s' (l' - b)).mo=l' - b:=rfl
 have e2:qd ms (i+2)=qd ms (i+1+1):=rfl
 have e3:qd ms (i+2+1)=qd ms (i+1+2):=rfl
 have e4:i+1 - 1=i:=rfl
 unfold qKn
 rw [if_neg nsl,if_neg nro,e4]
 by_cases hin:qd ms i≤t∧t < qd ms (i+1+2)
 · rw [if_pos hin]
   by_cases ht:t < qd ms (i+1)+b
   · rw [if_pos ht,zH R.ct R.ai (by omega) (by omega),xH R.ai]
     show shF ms i _=_
     rw [xH hm,b0,Int.add_zero]
   · rw [if_neg ht]
     by_cases ht2:t < qd ms (i+1+1)+b
     · rw [if_pos ht2,zH R.ct a1 (by omega) (by omega),xH a1]
       show shF ms (i+1) _=_
       rw [xH hm1,b1]
       congr 3
       omega
     · rw [if_neg ht2,zH R.ct R.aj (by omega) (by omega),xH R.aj,qHk c'.g1.1 c'.g2.1]
       show shF ms (i+2) _=_
       rw [xH hm',b2,← e2]
       congr 3
       omega
 · rw [if_neg hin]
   exact R.out hct (by omega) hi t0 hin
theorem qJe {rl:Rls}{f:Str→Int→List Te}{ms:List Im}{wd:Str}{i:Nat}{b:Int}(hC:∀ m∈ms,Cl rl m)(h:PlO wd ms i)(hb:b.natAbs≤1000000)(hcap:j2 b≤xA rl ms wd (isF wd i) b):qMa f ms (qD3 ms wd (isF wd i) b) wd i b:=by
 rcases h.w with rfl | rfl | rfl
 · exact qJp hC (h.r rfl) hb hcap
 · exact qJl hC h.l hb
 · obtain⟨h1,h2⟩:=h.s rfl
   obtain⟨j,rfl⟩:∃ j,i=j+1:=⟨i - 1,by omega⟩
   exact qHl hC h2 hb hcap
inductive qAk (vs:List V)(H:Hp)(Q:VK)(_:XK):Prop
| mk (z:Addr) (ms:List Im) (_:vs=[.ref z]) (_:Tr H z ms) (_:CT ms) (_:ms.length≤300) (_:∀ (y:Addr) (H':Hp),Same H H'→H y=none→H' y=some (.lst ((List.range (ms.length+1)).map fun i=>V.int (qd ms i)))→Q (.ref y) H')
theorem jf (T:Tx K mg a):FnOk P w K mg base CX0 1 a.A83 a.B83 ["_law_track"] qAk:=by
 refine T.D83.F.ok j7 (fun vs H Q E h=>?_) (fun cdv A outer s H vs Q E hr h=>?_)
 · obtain⟨z,ms,rfl,_⟩:=h
   rfl
 refine qM fun _ Y=>?_
 obtain⟨z,ms,rfl,⟨vs,hz,his⟩,hp,hl,kk⟩:=h
 apply Y
 refine⟨_,(qB (qX 1 j7.nd (jU (qA qG qC)))
  (qB (kj PassesOwn.never rfl (xU (pv 0)) (jR (i:=2) j7.nd rfl (Or.inl rfl)) (qE (vK (qMu F.plainAttrs_list F.slot_list_append F.type_list_append qDx (pv 1) (qA (qJ qY (ql qV (pv 1) (v5 xg qG) (fun _ _=>rfl)) (ql qDm (pv 2) (v5 xg qG) (fun _ _=>rfl))) qC)))))
  (qE (qK (pv 1))))),?_⟩
 try dsimp only [jS,qc]
 refine⟨sL1,fun y hy=>?_⟩
 have w0:=qF hy (.lst [.int 0])
 have hvl:=his.len
 refine⟨_,rfl,z,rfl,⟨_,SqL.of (w0 _ _ hz)⟩,zZ (K:=K) (a:=z) (xs:=vs) (fun i σ H'=>∃ o:Option V,σ=[some (.ref z),some (.ref y),o]∧H' y=some (.lst ((List.range (i+1)).map fun j=>V.int (qd ms j)))∧Same H H') ⟨none,rfl,qD,w0⟩ ?_ ?_ ?_⟩
 · rintro i σ H' hi ⟨o,rfl,_,e⟩
   exact SqL.of (e _ _ hz)
 · rintro i x σ H' hx ⟨o,rfl,hv,e⟩
   refine qM fun _ Y=>?_
   obtain⟨m,hm,hIx⟩:=his.get hx
   have hI:=hIx.ts (qh e)
   have hi:i < ms.length:=(glt hm)
   obtain⟨zi,xi,rfl,hzi,h0,h1⟩:=hI.opn
   apply Y
   have hlast:atI ((List.range (i+1)).map fun j=>V.int (qd ms j)) (-1)=some (.int (qd ms i)):=by
    rw [List.range_succ,List.map_append]
    exact qFp _ _
   have hmo:m.mo=m.l:=by
    obtain⟨n,p,q,r,s,l,rfl⟩:=qA0 (hp.cl m (List.mem_of_getElem? hm))
    rfl
   refine⟨_,rfl,.inl ⟨rfl,_,SqL.of hv⟩,_,rfl,1,rfl,y,_,_,_,rfl,rfl,SqL.of hv,hlast,_,rfl,1,rfl,zi,xi,_,_,rfl,rfl,SqT.of hzi,h1,_,_,rfl,rfl,?_⟩
   refine⟨y,_,_,rfl,rfl,hv,jT (by simp;omega),_,rfl,?_,zS e hy⟩
   rw [qD,List.range_succ (n:=i+1),List.map_append]
   show some (HO.lst (_++[V.int (qd ms i+m.l)]))=some (HO.lst (_++[V.int (qd ms (i+1))]))
   rw [xW hm,hmo]
 · rintro σ H' ⟨o,rfl,hv,e⟩
   rw [hvl] at hv
   exact⟨_,rfl,kk y H' e hy hv⟩
theorem zE {ms:List Im}{k:Int}(i:Nat)(hk:k=(i:Int))(hi:i≤ms.length):atI ((List.range (ms.length+1)).map fun i=>V.int (qd ms i)) k=some (.int (qd ms i)):=by
 subst hk
 refine jX ?_
 rw [List.getElem?_map,List.getElem?_range (by omega)]
 rfl
inductive qA7 (K:W.Frag)(vs:List V)(H:Hp)(Q:VK)(_:XK):Prop
| mk (v:V) (n:Str) (p q r s l k:Int) (_:vs=[v,.int k]) (_:IsI H (.clip n p q r s l) v) (_:Im.g (.clip n p q r s l)) (_:k.natAbs < 2 ^ 400) (_:∀ (y:Addr) (H':Hp),Same H H'→TL K H' y [⟨n,qG3 p q r s k,1,1⟩]→Q (.ref y) H')
theorem jM (T:Tx K mg a):FnOk P w K mg base CX0 6 a.A87 a.B87 ["_law_clip_here","_law_k"] (qA7 K):=by
 refine T.D87.F.ok qB5 (fun vs H Q E h=>?_) (fun cdv A outer s H vs Q E hr h=>?_)
 · obtain⟨v,n,p,q,r,s,l,k,rfl,_⟩:=h
   rfl
 refine qM fun _ Y=>?_
 obtain⟨v,n,p,q,r,s1,l,k,rfl,hI,⟨q0,s0,bp,bq,br,bs,_,_⟩,bk,kk⟩:=h
 apply Y
 refine⟨_,(qE (qK (jU (qA (jI (qA (qN (pv 0)) (qA (qI T.D13 (jo T) hr rfl (qA (pv 0) (qA (pv 1) qC))) (qA (jI (qA qG (qA qG qC))) qC)))) qC)))),?_⟩
 try dsimp only [jS,qc]
 refine qM fun _ Y=>?_
 obtain⟨z,x,y,rfl,hz,hx,hy⟩:=id hI
 apply Y
 refine(ixO hz qC2 ⟨_,rfl,_,rfl,?_⟩)
 refine⟨_,n,p,q,r,s1,l,k,rfl,qBk hI,q0,s0,xm bp,xm bq,xm br,xm bs,xm bk,fun H1 w1=>?_⟩
 refine⟨sL2,fun o ho=>⟨sL3,fun f hf=>⟨sL1,fun y hy=>?_⟩⟩⟩
 have w2:=qF ho (.tup [.int 1,.int 1])
 have w3:=qF hf (.tup [.str n,.int ((p*s1+k*r*q).fdiv (q*s1)),.ref o])
 have w4:=qF hy (.lst [.ref f])
 exact kk y _ (((w1.trans w2).trans w3).trans w4) ⟨_,qD,⟨f,o,rfl,w4 _ _ qD,SqT.of (w4 _ _ (w3 _ _ qD))⟩,trivial⟩
def DuR (K:W.Frag)(H:Hp)(Q:VK)(r:Option (List Te)):Prop:=match r with
 | none=>∀ H',Same H H'→Q .non H'
 | some ts=>∀ (y:Addr) (H':Hp),Same H H'→TL K H' y ts→Q (.ref y) H'
inductive qE1 (K:W.Frag)(vs:List V)(H:Hp)(Q:VK)(_:XK):Prop
| mk (z dz:Addr) (ms:List Im) (wd:Str) (t0 b t:Int) (i:Nat) (_:vs=[.ref z,.ref dz,.int (i:Int),.int t]) (_:Tr H z ms) (_:CT ms) (_:(∀ m∈ms,m.g)) (_:ms.length≤20) (_:H dz=some (.tup [.str wd,.int 0,.int t0,.int b])) (_:PlO wd ms i) (_:b.natAbs≤1000000) (_:t.natAbs≤1000000) (_:(∀ k,qd ms k≤1000000)) (_:DuR K H Q (qKn ms wd i b t))
theorem qEg (T:Tx K mg a):FnOk P w K mg base CX0 7 a.A88 a.B88 ["_law_track","_law_deed","_law_place","_law_moment"] (qE1 K):=by
 refine T.D88.F.ok xM (fun vs H Q E h=>?_) (fun cdv A outer s H vs Q E hr h=>?_)
 · obtain⟨z,dz,ms,wd,t0,b,t,i,rfl,_⟩:=h
   rfl
 refine qM fun _ Y=>?_
 obtain⟨z,dz,ms,wd,t0,b,t,i,rfl,tT,hct,hg,hl,hd,hP,hb,ht,hbs,kk⟩:=h
 apply Y
 refine⟨_,(qB (qX 4 xM.nd (qI T.D83 (jf T) hr rfl (qA (pv 0) qC)))
  (qB (qX 5 xM.nd (qN (pv 1)))
  (qB (qX 6 xM.nd (qN (pv 1)))
  (qB (qf (PW.pt (vE (qO jj (pv 5) qQ (qS _)) (zN (wJ qAm xL (ql qV (pv 4) (pv 2) (fun _ _=>rfl)) (pv 3) (ql qV (pv 4) (qJ qY (pv 2) qG) (fun _ _=>rfl)))))) (qE (qK (qI T.D87 (jM T) hr rfl (qA (ql qV (pv 0) (pv 2) (fun _ _=>rfl)) (qA (qJ qY (qJ qp (pv 3) (ql qV (pv 4) (pv 2) (fun _ _=>rfl))) (pv 6)) qC))))) qP)
  (qB (qf (PW.pt (vE (qO jj (pv 5) qQ (qS _)) (zN (wJ qAm xL (ql qV (pv 4) (pv 2) (fun _ _=>rfl)) (pv 3) (ql qV (pv 4) (qJ qY (pv 2) qG) (fun _ _=>rfl)))))) (qB (qf (qO xL (pv 3) (qJ qY (ql qV (pv 4) (qJ qY (pv 2) qG) (fun _ _=>rfl)) (pv 6)) (qS _)) (qE (qK (qI T.D87 (jM T) hr rfl (qA (ql qV (pv 0) (pv 2) (fun _ _=>rfl)) (qA (qJ qp (pv 3) (ql qV (pv 4) (pv 2) (fun _ _=>rfl))) qC))))) qP)
  (qE (qK (qI T.D87 (jM T) hr rfl (qA (ql qV (pv 0) (qJ qY (pv 2) qG) (fun _ _=>rfl)) (qA (qJ qp (pv 3) (ql qV (pv 4) (qJ qY (pv 2) qG) (fun _ _=>rfl))) qC)))))) qP)
  (qB (qf (PW.pt (vE (qO jj (pv 5) qQ (qS _)) (zN (wJ qAm xL (ql qV (pv 4) (qJ qp (pv 2) qG) (fun _ _=>rfl)) (pv 3) (ql qV (pv 4) (qJ qY (pv 2) qG) (fun _ _=>rfl)))))) (qB (qf (qO xL (pv 3) (qJ qY (ql qV (pv 4) (pv 2) (fun _ _=>rfl)) (pv 6)) (qS _)) (qE (qK (qI T.D87 (jM T) hr rfl (qA (ql qV (pv 0) (qJ qp (pv 2) qG) (fun _ _=>rfl)) (qA (qJ qp (pv 3) (ql qV (pv 4) (qJ qp (pv 2) qG) (fun _ _=>rfl))) qC))))) qP)
  (qB (qf (qO xL (pv 3) (qJ qY (ql qV (pv 4) (qJ qY (pv 2) qG) (fun _ _=>rfl)) (pv 6)) (qS _)) (qE (qK (qI T.D87 (jM T) hr rfl (qA (ql qV (pv 0) (pv 2) (fun _ _=>rfl)) (qA (qJ qp (qJ qp (pv 3) (pv 6)) (ql qV (pv 4) (pv 2) (fun _ _=>rfl))) qC))))) qP)
  (qE (qK (qI T.D87 (jM T) hr rfl (qA (ql qV (pv 0) (qJ qY (pv 2) qG) (fun _ _=>rfl)) (qA (qJ qp (pv 3) (ql qV (pv 4) (qJ qY (pv 2) qG) (fun _ _=>rfl))) qC))))))) qP)
  (qE (qK ku)))))))),?_⟩
 try dsimp only [jS,qc]
 refine qM fun _ Y=>?_
 obtain⟨vs,hz,his⟩:=id tT
 apply Y
 refine⟨_,rfl,z,ms,rfl,tT,hct,by omega,fun y H1 e1 _ hy=>?_⟩
 have ad0:atI [V.str wd,.int 0,.int t0,.int b] 0=some (.str wd):=rfl
 have ad3:atI [V.str wd,.int 0,.int t0,.int b] 3=some (.int b):=rfl
 have hd1:=e1 _ _ hd
 refine⟨_,rfl,dz,_,_,_,rfl,rfl,SqT.of hd1,ad0,?_⟩
 refine⟨_,rfl,dz,_,_,_,rfl,rfl,SqT.of hd1,ad3,?_⟩
 have hS:=SqL.of (K:=K) hy
 have hZ:=SqL.of (K:=K) (e1 _ _ hz)
 have nn:=qEu hct.po
 have big:∀ x:Int,x.natAbs≤4000000→x.natAbs < 2 ^ 400:=fun x h=>Nat.lt_of_le_of_lt h (by decide)
 have cl:∀ j:Nat,j < ms.length→∃ (v:V) (n:Str) (p q r s l:Int),(∀ k:Int,k=(j:Int)→atI vs k=some v)∧IsI H1 (.clip n p q r s l) v∧Im.g (.clip n p q r s l)∧∀ k,shF ms j k=[⟨n,qG3 p q r s k,1,1⟩]:=fun j hj=>by
  have hm:ms[j]? =some ms[j]:=List.getElem?_eq_getElem hj
  have hmem:=List.mem_of_getElem? hm
  obtain⟨n,p,q,r,s,l,e⟩:=qA0 (hct.cl _ hmem)
  have gm:=hg _ hmem
  rw [e] at hm gm
  obtain⟨v,hv,hI⟩:=his.get' hm
  exact⟨v,n,p,q,r,s,l,fun k hk=>by rw [hk];exact jX hv,hI.ts (qh e1),gm,fun k=>xH hm k⟩
 have n2:=fun k=>nn k
 have dsS:∀ x y:Str,x=y→decide (V.str x=V.str y)=true:=fun x y h=>decide_eq_true (by rw [h])
 rcases hP.w with rfl | rfl | rfl
 · have hi:=hP.r rfl
   refine⟨_,rfl,rfl,_,rfl,vZ (by show decide (V.str "roll"=V.str "slip")=false;rw [qDz];decide+kernel) ?_⟩
   refine⟨_,rfl,rfl,_,rfl,qE9 (dsS _ _ rfl) ?_⟩
   unfold qKn at kk
   rw [if_neg (show ¬ ("roll":Str)="slip" by decide+kernel),if_pos rfl] at kk
   have q0:=nn i
   have q1:=nn (i+1)
   have q2:=nn (i+2)
   have p0:=hbs i
   have p1:=hbs (i+1)
   have p2:=hbs (i+2)
   refine⟨_,rfl,_,rfl,y,_,_,_,rfl,rfl,hS,zE (i) (by omega) (by omega),_,rfl,_,_,rfl,rfl,_,rfl,jN (fun c1=>?_) (fun c1=>?_)⟩
   case _=>
    have g1:qd ms i≤t:=by simpa using c1
    refine⟨_,rfl,_,rfl,_,_,rfl,rfl,y,_,_,_,rfl,rfl,hS,zE (i+2) (by omega) (by omega),_,_,rfl,rfl,_,rfl,jN (fun c2=>?_) (fun c2=>?_)⟩
    · have g2:t < qd ms (i+2):=by simpa using c2
      rw [if_pos ⟨g1,g2⟩] at kk
      refine⟨_,rfl,_,rfl,_,rfl,_,_,rfl,rfl,y,_,_,_,rfl,rfl,hS,zE (i+1) (by omega) (by omega),_,rfl,_,_,rfl,rfl,_,_,rfl,rfl,_,rfl,jN (fun c3=>?_) (fun c3=>?_)⟩
      · have g3:t < qd ms (i+1)+b:=by simpa using c3
        rw [if_pos g3] at kk
        refine qM fun _ Y=>?_
        obtain⟨v,n,p,q,r,s',l,hv,hI,gm,hsh⟩:=cl (i) (by omega)
        apply Y
        rw [hsh] at kk
        exact⟨_,rfl,_,rfl,z,_,_,_,rfl,rfl,hZ,hv _ (by omega),_,rfl,_,rfl,_,rfl,y,_,_,_,rfl,rfl,hS,zE (i) (by omega) (by omega),_,_,rfl,rfl,_,n,p,q,r,s',l,_,rfl,hI,gm,big _ (by omega),fun u H2 e2 hu=>kk u H2 (e1.trans e2) hu⟩
      · have g3:¬ t < qd ms (i+1)+b:=by simpa using c3
        rw [if_neg g3] at kk
        refine qM fun _ Y=>?_
        obtain⟨v,n,p,q,r,s',l,hv,hI,gm,hsh⟩:=cl (i+1) (by omega)
        apply Y
        rw [hsh] at kk
        exact⟨_,rfl,_,rfl,_,_,rfl,rfl,z,_,_,_,rfl,rfl,hZ,hv _ (by omega),_,rfl,_,rfl,_,rfl,_,_,rfl,rfl,y,_,_,_,rfl,rfl,hS,zE (i+1) (by omega) (by omega),_,_,rfl,rfl,_,n,p,q,r,s',l,_,rfl,hI,gm,big _ (by omega),fun u H2 e2 hu=>kk u H2 (e1.trans e2) hu⟩
    · have g2:¬ t < qd ms (i+2):=by simpa using c2
      rw [if_neg (fun h=>g2 h.2)] at kk
      exact⟨_,rfl,rfl,_,rfl,vZ (by show decide (V.str "roll"=V.str "slide")=false;rw [qDz];decide+kernel) (kk H1 e1)⟩
   case _=>
    have g1:¬ qd ms i≤t:=by simpa using c1
    rw [if_neg (fun h=>g1 h.1)] at kk
    exact⟨_,rfl,xY ⟨_,rfl,rfl,_,rfl,vZ (by show decide (V.str "roll"=V.str "slide")=false;rw [qDz];decide+kernel) (kk H1 e1)⟩⟩
 · have hi:=hP.l
   refine⟨_,rfl,rfl,_,rfl,qE9 (dsS _ _ rfl) ?_⟩
   unfold qKn at kk
   rw [if_pos rfl] at kk
   have q0:=nn i
   have q1:=nn (i+1)
   have p0:=hbs i
   have p1:=hbs (i+1)
   refine⟨_,rfl,_,rfl,y,_,_,_,rfl,rfl,hS,zE (i) (by omega) (by omega),_,rfl,_,_,rfl,rfl,_,rfl,jN (fun c1=>?_) (fun c1=>?_)⟩
   case _=>
    have g1:qd ms i≤t:=by simpa using c1
    refine⟨_,rfl,_,rfl,_,_,rfl,rfl,y,_,_,_,rfl,rfl,hS,zE (i+1) (by omega) (by omega),_,_,rfl,rfl,_,rfl,jN (fun c2=>?_) (fun c2=>?_)⟩
    · have g2:t < qd ms (i+1):=by simpa using c2
      rw [if_pos ⟨g1,g2⟩] at kk
      refine qM fun _ Y=>?_
      obtain⟨v,n,p,q,r,s',l,hv,hI,gm,hsh⟩:=cl (i) (by omega)
      apply Y
      rw [hsh] at kk
      exact⟨_,rfl,_,rfl,z,_,_,_,rfl,rfl,hZ,hv _ (by omega),_,rfl,_,rfl,_,rfl,y,_,_,_,rfl,rfl,hS,zE (i) (by omega) (by omega),_,_,rfl,rfl,_,rfl,_,_,rfl,rfl,_,n,p,q,r,s',l,_,rfl,hI,gm,big _ (by omega),fun u H2 e2 hu=>kk u H2 (e1.trans e2) hu⟩
    · have g2:¬ t < qd ms (i+1):=by simpa using c2
      rw [if_neg (fun h=>g2 h.2)] at kk
      exact⟨_,rfl,rfl,_,rfl,vZ (by show decide (V.str "slip"=V.str "roll")=false;rw [qDz];decide+kernel) (⟨_,rfl,rfl,_,rfl,vZ (by show decide (V.str "slip"=V.str "slide")=false;rw [qDz];decide+kernel) (kk H1 e1)⟩)⟩
   case _=>
    have g1:¬ qd ms i≤t:=by simpa using c1
    rw [if_neg (fun h=>g1 h.1)] at kk
    exact⟨_,rfl,xY ⟨_,rfl,rfl,_,rfl,vZ (by show decide (V.str "slip"=V.str "roll")=false;rw [qDz];decide+kernel) (⟨_,rfl,rfl,_,rfl,vZ (by show decide (V.str "slip"=V.str "slide")=false;rw [qDz];decide+kernel) (kk H1 e1)⟩)⟩⟩
 · obtain⟨h1,hi⟩:=hP.s rfl
   refine⟨_,rfl,rfl,_,rfl,vZ (by show decide (V.str "slide"=V.str "slip")=false;rw [qDz];decide+kernel) ?_⟩
   refine⟨_,rfl,rfl,_,rfl,vZ (by show decide (V.str "slide"=V.str "roll")=false;rw [qDz];decide+kernel) ?_⟩
   refine⟨_,rfl,rfl,_,rfl,qE9 (dsS _ _ rfl) ?_⟩
   unfold qKn at kk
   rw [if_neg (show ¬ ("slide":Str)="slip" by decide+kernel),if_neg (show ¬ ("slide":Str)="roll" by decide+kernel)] at kk
   have q00:=nn (i - 1)
   have q0:=nn i
   have q1:=nn (i+1)
   have q2:=nn (i+2)
   have p00:=hbs (i - 1)
   have p0:=hbs i
   have p1:=hbs (i+1)
   have p2:=hbs (i+2)
   refine⟨_,rfl,_,rfl,_,_,rfl,rfl,y,_,_,_,rfl,rfl,hS,zE (i - 1) (by omega) (by omega),_,rfl,_,_,rfl,rfl,_,rfl,jN (fun c1=>?_) (fun c1=>?_)⟩
   case _=>
    have g1:qd ms (i - 1)≤t:=by simpa using c1
    refine⟨_,rfl,_,rfl,_,_,rfl,rfl,y,_,_,_,rfl,rfl,hS,zE (i+2) (by omega) (by omega),_,_,rfl,rfl,_,rfl,jN (fun c2=>?_) (fun c2=>?_)⟩
    · have g2:t < qd ms (i+2):=by simpa using c2
      rw [if_pos ⟨g1,g2⟩] at kk
      refine⟨_,rfl,_,rfl,_,rfl,y,_,_,_,rfl,rfl,hS,zE (i) (by omega) (by omega),_,rfl,_,_,rfl,rfl,_,_,rfl,rfl,_,rfl,jN (fun c3=>?_) (fun c3=>?_)⟩
      · have g3:t < qd ms i+b:=by simpa using c3
        rw [if_pos g3] at kk
        refine qM fun _ Y=>?_
        obtain⟨v,n,p,q,r,s',l,hv,hI,gm,hsh⟩:=cl (i - 1) (by omega)
        apply Y
        rw [hsh] at kk
        exact⟨_,rfl,_,rfl,_,_,rfl,rfl,z,_,_,_,rfl,rfl,hZ,hv _ (by omega),_,rfl,_,rfl,_,rfl,_,_,rfl,rfl,y,_,_,_,rfl,rfl,hS,zE (i - 1) (by omega) (by omega),_,_,rfl,rfl,_,n,p,q,r,s',l,_,rfl,hI,gm,big _ (by omega),fun u H2 e2 hu=>kk u H2 (e1.trans e2) hu⟩
      · have g3:¬ t < qd ms i+b:=by simpa using c3
        rw [if_neg g3] at kk
        refine⟨_,rfl,_,rfl,_,rfl,_,_,rfl,rfl,y,_,_,_,rfl,rfl,hS,zE (i+1) (by omega) (by omega),_,rfl,_,_,rfl,rfl,_,_,rfl,rfl,_,rfl,jN (fun c4=>?_) (fun c4=>?_)⟩
        · have g4:t < qd ms (i+1)+b:=by simpa using c4
          rw [if_pos g4] at kk
          refine qM fun _ Y=>?_
          obtain⟨v,n,p,q,r,s',l,hv,hI,gm,hsh⟩:=cl (i) (by omega)
          apply Y
          rw [hsh] at kk
          exact⟨_,rfl,_,rfl,z,_,_,_,rfl,rfl,hZ,hv _ (by omega),_,rfl,_,rfl,_,_,rfl,rfl,_,rfl,_,rfl,y,_,_,_,rfl,rfl,hS,zE (i) (by omega) (by omega),_,_,rfl,rfl,_,n,p,q,r,s',l,_,rfl,hI,gm,big _ (by omega),fun u H2 e2 hu=>kk u H2 (e1.trans e2) hu⟩
        · have g4:¬ t < qd ms (i+1)+b:=by simpa using c4
          rw [if_neg g4] at kk
          refine qM fun _ Y=>?_
          obtain⟨v,n,p,q,r,s',l,hv,hI,gm,hsh⟩:=cl (i+1) (by omega)
          apply Y
          rw [hsh] at kk
          exact⟨_,rfl,_,rfl,_,_,rfl,rfl,z,_,_,_,rfl,rfl,hZ,hv _ (by omega),_,rfl,_,rfl,_,rfl,_,_,rfl,rfl,y,_,_,_,rfl,rfl,hS,zE (i+1) (by omega) (by omega),_,_,rfl,rfl,_,n,p,q,r,s',l,_,rfl,hI,gm,big _ (by omega),fun u H2 e2 hu=>kk u H2 (e1.trans e2) hu⟩
    · have g2:¬ t < qd ms (i+2):=by simpa using c2
      rw [if_neg (fun h=>g2 h.2)] at kk
      exact kk H1 e1
   case _=>
    have g1:¬ qd ms (i - 1)≤t:=by simpa using c1
    rw [if_neg (fun h=>g1 h.1)] at kk
    exact⟨_,rfl,xY (kk H1 e1)⟩
inductive kU (K:W.Frag)(vs:List V)(H:Hp)(Q:VK)(_:XK):Prop
| mk (z fz dz rd:Addr) (ms ms':List Im) (wd:Str) (t0 b:Int) (i:Nat) (_:vs=[.ref z,.ref fz,.ref dz,.int (i:Int),.ref rd]) (_:Tr H z ms) (_:CT ms) (_:(∀ m∈ms,m.g)) (_:ms.length≤20) (_:TabF H (.ref fz) [ms'] []) (_:H dz=some (.tup [.str wd,.int 0,.int t0,.int b])) (_:PlO wd ms i) (_:b.natAbs≤1000000) (_:(∀ k,qd ms k≤1000)) (_:qMa (jW (fun _=>none) 0) ms ms' wd i b) (_:∀ H',Same H H'→Q (.bl true) H')
theorem qKj (ms:List Im):(ms.map Im.mo).sum=qd ms ms.length:=by
 unfold qd;rw [List.take_length]
theorem qNv {H:Hp}{Q:VK}{r:Option (List Te)}(h:∀ v H',Same H H'→(r=none∧v= .non∨∃ (u:Addr) (ts:List Te),r=some ts∧v= .ref u∧TL K H' u ts)→Q v H'):DuR K H Q r:=by
 cases r with
 | none=>exact fun H' e=>h _ H' e (.inl ⟨rfl,rfl⟩)
 | some ts=>exact fun u H' e hu=>h _ H' e (.inr ⟨u,ts,rfl,rfl,hu⟩)
theorem kM (T:Tx K mg a):FnOk P w K mg base CX0 9 a.A89 a.B89 ["_law_track","_law_found","_law_deed","_law_place","_law_reels_here"] (kU K):=by
 refine T.D89.F.ok qg (fun vs H Q E h=>?_) (fun cdv A outer s H vs Q E hr h=>?_)
 · obtain⟨z,fz,dz,rd,ms,ms',wd,t0,b,i,rfl,_⟩:=h
   rfl
 refine qM fun _ Y=>?_
 obtain⟨z,fz,dz,rd,ms,ms',wd,t0,b,i,rfl,tT,hct,hg,hl,hF,hd,hP,hb,hbs,hR,kk⟩:=h
 apply Y
 have hu:=hr.units
 refine⟨_,(qB (qX 5 qg.nd (jI (qA (pv 4) (qA qFf qC))))
  (qB (qX 6 qg.nd (ql qV (qN (pv 1)) qG (fun _ _=>rfl)))
  (qB (qf (qO qA8 (qZ (qDg rfl) rfl T.b_sum rfl (qA (qE3 [] [] rfl (xU (pv 6)) (fun _ _ _ _=>(ql (qEb (K:=K) rfl) (pv 0) (v5 xg qG) (fun _ _=>rfl)))) qC)) (qZ (qDg rfl) rfl T.b_sum rfl (qA (qE3 [] [] rfl (xU (pv 0)) (fun _ _ _ _=>(ql (qEb (K:=K) rfl) (pv 0) (v5 xg qG) (fun _ _=>rfl)))) qC)) (qS _)) (qE (qK qEr)) qP)
  (qB (kj PassesOwn.never rfl (qDf rfl T.b_range (qA (qJ qY (ql qV (qI T.D83 (jf T) hr rfl (qA (pv 0) qC)) (v5 xg qG) (fun _ _=>rfl)) qG) qC)) (jR (i:=7) qg.nd rfl (Or.inl rfl)) (qB (qX 8 qg.nd (qI T.D88 (qEg T) hr rfl (qA (pv 0) (qA (pv 2) (qA (pv 3) (qA (pv 7) qC))))))
  (qB (zG (qf (vp (ww (pv 8))) (qE (qX 8 qg.nd (qI T.D73 (qAw T) hr rfl (qA (pv 0) (qA (pv 7) (qA (pv 5) qC)))))) qP))
  (qE (qf (qO (qKf hu) (qI T.D73 (qAw T) hr rfl (qA (pv 6) (qA (pv 7) (qA (pv 5) qC)))) (pv 8) (qS _)) (qE (qK qEr)) qP)))))
  (qE (qK qEr)))))),?_⟩
 try dsimp only [jS,qc]
 refine qM fun _ Y=>?_
 obtain⟨tt,tl,ti,zs,e0,g2,g3,g4,g5⟩:=id hF
 cases e0
 obtain⟨z',rfl,tT'⟩:∃ z':Addr,zs=[.ref z']∧Tr H z' ms':=by
  match zs,g4 with
  | [v],⟨⟨z',e,h⟩,_⟩=>exact⟨z',by rw [e],h⟩
 obtain⟨vs,hz,his⟩:=id tT
 obtain⟨us,hz',his'⟩:=id tT'
 apply Y
 have hvl:=his.len
 have hul:=his'.len
 have hl':=hR.len
 refine⟨_,rfl,fun dd hdd=>⟨sL2,fun rz hrz=>?_⟩⟩
 have w1:=qF hdd (.dK [])
 have w2:=qF hrz (.tup [.ref rd,.ref dd])
 have e2:=w1.trans w2
 generalize upd (upd H dd (.dK [])) rz (.tup [.ref rd,.ref dd])=H2 at e2 ⊢
 have a0l:atI [V.ref z'] 0=some (.ref z'):=rfl
 have a0t:atI [V.ref tl,.ref ti] 0=some (.ref tl):=rfl
 refine⟨_,rfl,fz,_,_,_,rfl,rfl,SqT.of (e2 _ _ g2),a0t,tl,_,_,_,rfl,rfl,SqL.of (e2 _ _ g3),a0l,?_⟩
 have mo:∀ {ns:List Im} {H0:Hp} {xs:List V} {k:Nat} {x:V},IsIs H0 ns xs→CT ns→xs[k]? =some x→∃ (zi:Addr) (xi:List V) (m:Im),x= .ref zi∧H0 zi=some (.tup xi)∧atI xi (-1)=some (.int m.mo)∧ns.take (k+1)=ns.take k++[m]:=by
  intro ns H0 xs k x h hc hx
  obtain⟨m,hm,hI⟩:=h.get hx
  obtain⟨zi,xi,rfl,hzi,_,h1⟩:=hI.opn
  obtain⟨n,p,q,r,s,l,rfl⟩:=qA0 (hc.cl m (List.mem_of_getElem? hm))
  exact⟨zi,xi,.clip n p q r s l,rfl,hzi,h1,by rw [List.take_add_one,hm];rfl⟩
 have hisA:=his.ts (qh e2)
 have hisB:=his'.ts (qh e2)
 refine⟨_,rfl,z',rfl,⟨_,SqL.of (e2 _ _ hz')⟩,w9 (K:=K) (a:=z') (xs:=us) (fun k acc H'=>H'=H2∧acc=((ms'.take k).map Im.mo).map V.int) ⟨rfl,rfl⟩ ?_ ?_ ?_⟩
 · rintro k acc H' hk ⟨rfl,rfl⟩
   exact⟨SqL.of (e2 _ _ hz'),jT (by rw [List.length_map,List.length_map,List.length_take];omega)⟩
 · rintro k x acc H' hk hx ⟨rfl,rfl⟩
   refine qM fun _ Y=>?_
   obtain⟨zi,xi,m,rfl,hzi,h1,ht⟩:=mo hisB hR.ct hx
   apply Y
   refine⟨_,rfl,1,rfl,zi,xi,_,_,rfl,rfl,SqT.of hzi,h1,Nxt.mk hk ⟨rfl,?_⟩⟩
   rw [ht,List.map_append,List.map_append];rfl
 rintro acc H' ⟨rfl,rfl⟩ p1 hp1
 rw [hul,List.take_length]
 have w3:=qF hp1 (.lst ((ms'.map Im.mo).map V.int))
 have k3:upd H' p1 (.lst ((ms'.map Im.mo).map V.int)) p1=some (.lst ((ms'.map Im.mo).map V.int)):=qD
 generalize upd H' p1 (.lst ((ms'.map Im.mo).map V.int))=H3 at w3 k3 ⊢
 refine⟨p1,_,rfl,SqL.of k3,?_⟩
 have hisC:=hisA.ts (qh w3)
 have e3:=e2.trans w3
 refine⟨_,rfl,z,rfl,⟨_,SqL.of (e3 _ _ hz)⟩,w9 (K:=K) (a:=z) (xs:=vs) (fun k acc H'=>H'=H3∧acc=((ms.take k).map Im.mo).map V.int) ⟨rfl,rfl⟩ ?_ ?_ ?_⟩
 · rintro k acc H' hk ⟨rfl,rfl⟩
   exact⟨SqL.of (e3 _ _ hz),jT (by rw [List.length_map,List.length_map,List.length_take];omega)⟩
 · rintro k x acc H' hk hx ⟨rfl,rfl⟩
   refine qM fun _ Y=>?_
   obtain⟨zi,xi,m,rfl,hzi,h1,ht⟩:=mo hisC hct hx
   apply Y
   refine⟨_,rfl,1,rfl,zi,xi,_,_,rfl,rfl,SqT.of hzi,h1,Nxt.mk hk ⟨rfl,?_⟩⟩
   rw [ht,List.map_append,List.map_append];rfl
 rintro acc H' ⟨rfl,rfl⟩ p2 hp2
 rw [hvl,List.take_length]
 have w4:=qF hp2 (.lst ((ms.map Im.mo).map V.int))
 have k4:upd H' p2 (.lst ((ms.map Im.mo).map V.int)) p2=some (.lst ((ms.map Im.mo).map V.int)):=qD
 generalize upd H' p2 (.lst ((ms.map Im.mo).map V.int))=H4 at w4 k4 ⊢
 refine⟨p2,_,rfl,SqL.of k4,rfl,_,rfl,?_⟩
 have e4:=e3.trans w4
 rw [qKj,qKj,hR.tot]
 refine vZ (by simp) ?_
 refine⟨_,rfl,z,ms,rfl,tT.same e4,hct,by omega,fun y H5 e5 _ hy=>?_⟩
 have hlast:atI ((List.range (ms.length+1)).map fun i=>V.int (qd ms i)) (-1)=some (.int (qd ms ms.length)):=by
  rw [List.range_succ,List.map_append]
  exact qFp _ _
 have q0:=qEu hct.po ms.length
 have q1:=hbs ms.length
 have e5':=e4.trans e5
 refine⟨1,rfl,y,_,_,_,rfl,rfl,SqL.of hy,hlast,_,_,rfl,rfl,?_⟩
 refine⟨_,rfl,by omega,by omega,qHw (n:=(qd ms ms.length+2).toNat) (fun k σ H'=>∃ o1 o2:Option V,σ=[some (.ref z),some (.ref fz),some (.ref dz),some (.int (i:Int)),some (.ref rd),some (.ref rz),some (.ref z'),o1,o2]∧Same H H') ⟨none,none,rfl,e5'⟩ ?_ ?_⟩
 · rintro k σ H6 hk ⟨o1,o2,rfl,e6⟩
   have e400:(3000:Int)+2 ^ 60 < 2 ^ 400:=by decide
   generalize ht:(0:Int)+(k:Int)=t
   have ht0:0≤t:=by omega
   have ht1:t≤2000:=by omega
   have lv:∀ {ns:List Im},CT ns→(∀ m∈ns,m.g)→ns.length≤20→LvT (fun _=>none) 0 ns:=fun {ns} hc hg hl=>by
    refine⟨by omega,fun j l hm=>?_,fun m hm=>⟨hg m hm,fun nm b l e=>?_⟩⟩
    · obtain⟨n,p,q,r,s,l',e⟩:=qA0 (hc.cl _ (List.mem_of_getElem? hm))
      cases e
    · obtain⟨n,p,q,r,s,l',e'⟩:=qA0 (hc.cl _ hm)
      rw [e] at e'
      cases e'
   have due:=hR.due t ht0
   refine⟨_,rfl,_,rfl,_,rfl,_,rfl,z,dz,ms,wd,t0,b,t,i,rfl,tT.same e6,hct,hg,hl,e6 _ _ hd,hP,hb,by omega,fun k=>by have:=hbs k;omega,?_⟩
   refine qNv fun v H7 e7 hv=>?_
   have e67:=e6.trans e7
   refine⟨fun σ' H'=>∃ u:Addr,σ'=[some (.ref z),some (.ref fz),some (.ref dz),some (.int (i:Int)),some (.ref rd),some (.ref rz),some (.ref z'),some (.int t),some (.ref u)]∧Same H H'∧TL K H' u (qq (jW (fun _=>none) 0) ms' t),?_,?_⟩
   · rcases hv with ⟨hn,rfl⟩ | ⟨u,ts,hn,rfl,hu⟩
     · rw [hn] at due
       refine⟨_,rfl,_,rfl,qE9 (by decide) ?_⟩
       refine⟨_,rfl,_,rfl,_,rfl,z,rz,ms,t,fun _=>none,rfl,tT.same e67,lv hct hg hl,fun h=>absurd rfl h,ht0,by omega,fun u H8 e8 _ hu=>?_⟩
       refine⟨u,rfl,e67.trans e8,?_⟩
       rw [← due]
       exact hu
     · rw [hn] at due
       refine⟨_,rfl,_,rfl,jN (fun c=>absurd c (by simp)) (fun _=>⟨u,rfl,e67,?_⟩)⟩
       rw [← due]
       exact hu
   rintro σ' H8 ⟨u,rfl,e8,hu8⟩
   refine⟨_,rfl,_,rfl,_,rfl,z',rz,ms',t,fun _=>none,rfl,tT'.same e8,lv hR.ct hR.g (by omega),fun h=>absurd rfl h,ht0,by omega,fun u' H9 e9 _ hu'=>?_⟩
   refine⟨_,rfl,qOq hu' (hu8.same e9) ⟨_,rfl,xY ⟨_,_,rfl,e8.trans e9⟩⟩⟩
 · rintro σ H6 ⟨o1,o2,rfl,e6⟩
   exact kk H6 e6
theorem qNb:∀ {ms:List Im} {c:Int},(∀ m∈ms,m.mo≤c)→0≤c→∀ k,qd ms k≤c*ms.length
 | [],c,_,hc,k=>by
  have:qd [] k=0:=by unfold qd;rw [List.take_nil];rfl
  rw [this];show 0≤c*0;omega
 | x::ms,c,h,hc,0=>by
  show 0≤_
  exact Int.mul_nonneg hc (by omega)
 | x::ms,c,h,hc,k+1=>by
  have:=qNb (fun y hy=>h y (List.mem_cons_of_mem _ hy)) hc k
  have:=h x List.mem_cons_self
  rw [jy,List.length_cons]
  have e:c*((ms.length+1:Nat):Int)=c*(ms.length:Int)+c:=by
   rw [Int.natCast_add,Int.mul_add];omega
  rw [e];omega
theorem qMs {ms:List Im}{wd:Str}{i:Nat}{t:Int}(hct:CT ms)(hP:PlO wd ms i)(h1:wd="roll"→t=qd ms (i+1))(h2:wd≠"roll"→∃ m,ms[i]? =some m∧qd ms i≤t∧t < qd ms i+m.mo):plF wd ms t=some (isF wd i):=by
 have kd:∀ (j:Nat) (k:Int),j < ms.length→k=(j:Int)→jE ms k="clip":=fun j k hj hk=>by
  have hm:ms[j]? =some ms[j]:=List.getElem?_eq_getElem hj
  rw [qDw hm hk]
  exact hct.cl _ (List.mem_of_getElem? hm)
 have nm:¬ ("clip":Str)="mix":=by decide+kernel
 rcases hP.w with rfl | rfl | rfl
 · have hi:=hP.r rfl
   obtain rfl:=h1 rfl
   have hm:ms[i+1]? =some ms[i+1]:=List.getElem?_eq_getElem hi
   have hp:=hct.po _ (List.mem_of_getElem? hm)
   have hit:=qBd (b:=0) (i0:=0) (t:=qd ms (i+1)) hct.po hm (by omega) (by omega)
   have e0:qd ms (i+1) - (0+qd ms (i+1))=0:=by omega
   rw [e0,Nat.zero_add] at hit
   have ei:((i+1:Nat):Int) - 1=(i:Int):=by omega
   have hk:=kd i (((i+1:Nat):Int) - 1) (by omega) ei
   unfold plF isF
   rw [if_pos rfl,if_neg (show ¬ ("roll":Str)="slip" by decide+kernel),if_pos rfl]
   have hn:nbF ms (qd ms (i+1))=some ((i:Int),((i+1:Nat):Int)):=by
    unfold nbF
    rw [hit]
    dsimp only
    rw [if_neg (by omega),hk,if_neg nm,ei]
   have hc:cbF ms (qd ms (i+1))=some ((i:Int),((i+1:Nat):Int)):=by
    unfold cbF
    rw [hn]
    dsimp only
    rw [if_pos ⟨kd i _ (by omega) rfl,kd (i+1) _ hi rfl⟩]
   rw [hc]
   rfl
 all_goals
  obtain⟨m,hm,g1,g2⟩:=h2 (by decide+kernel)
  have hit:=qBd (b:=0) (i0:=0) (t:=t) hct.po hm (by omega) (by omega)
  rw [Nat.zero_add] at hit
  have hc:ctF ms t=some i:=by
   unfold ctF
   rw [hit]
   dsimp only
   rw [if_pos (kd i _ hP.l rfl)]
  unfold plF isF
 · rw [if_neg (show ¬ ("slip":Str)="roll" by decide+kernel),if_pos rfl,if_pos rfl,hc]
   rfl
 · obtain⟨i1,i2⟩:=hP.s rfl
   rw [if_neg (show ¬ ("slide":Str)="roll" by decide+kernel),if_neg (show ¬ ("slide":Str)="slip" by decide+kernel),if_neg (show ¬ ("slide":Str)="slip" by decide+kernel),if_neg (show ¬ ("slide":Str)="roll" by decide+kernel)]
   have ea:paF ms (i:Int)=((i - 1:Nat):Int):=by
    unfold paF
    rw [kd (i - 1) _ (by omega) (by omega),if_neg nm]
    omega
   have eb:pbF ms (i:Int)=((i+1:Nat):Int):=by
    unfold pbF
    rw [kd (i+1) _ i2 (by omega),if_neg nm]
    omega
   unfold csF
   rw [hc]
   dsimp only
   rw [ea,eb,if_pos ⟨kd (i - 1) _ (by omega) rfl,kd (i+1) _ i2 rfl⟩]
theorem DS.tsb {H H':Hp}{dz zs:Addr}{ns:List Int}{b:Int}(D:DS K H dz zs ns b)(s:SB dz H H'):TS H H':=fun c ys hc=>s c _ (fun e=>by
 subst e
 obtain⟨w,L,t,n,k,h1,_⟩:=D.dr
 rw [h1] at hc
 cases hc) hc
theorem DS.ne {H:Hp}{dz zs z:Addr}{ns:List Int}{b:Int}{xs:List V}(D:DS K H dz zs ns b)(hz:H z=some (.lst xs)):z≠dz:=by
 rintro rfl
 obtain⟨w,L,t,n,k,h1,_⟩:=D.dr
 rw [h1] at hz
 cases hz
theorem DoR.of {H:Hp}{Q:VK}{rl:Rls}{ms:List Im}{wd:Str}{is:List Int}{b:Int}(h:∀ v H',Same H H'→((∃ t':Addr,v= .ref t'∧j2 b≤xA rl ms wd is b∧NewTab H H' t' [qD3 ms wd is b] [])∨(v= .int (sgM b (xA rl ms wd is b))∧¬ j2 b≤xA rl ms wd is b))→Q v H'):DoR H Q rl ms wd is b:=
 fun H' e=>⟨fun hc t' hN=>h _ H' e (.inl ⟨t',rfl,hc,hN⟩),fun hc=>h _ H' e (.inr ⟨rfl,hc⟩)⟩
theorem qJv {rl:Rls}{ms:List Im}{wd:Str}{t:Int}{is:List Int}{b x:Int}(h:RlP rl ms wd t is)(hc:∀ m∈ms,Cl rl m)(hb:j2 b≤xA rl ms wd is b)(h1:0≤x*b)(h2:j2 x≤j2 b):j2 x≤xA rl ms wd is x:=by
 by_cases x0:x=0
 · subst x0
   exact qAy h hc 0
 have b0:b≠0:=by
  rintro rfl
  unfold j2 at h2
  split at h2 <;> omega
 have hs:0 < b↔0 < x:=by
  constructor
  · intro hb'
    by_cases hx:0 < x
    · exact hx
    · have:=Int.mul_neg_of_neg_of_pos (show x < 0 by omega) hb'
      omega
  · intro hx
    by_cases hb':0 < b
    · exact hb'
    · have:=Int.mul_neg_of_pos_of_neg hx (show b < 0 by omega)
      omega
 rw [← qA9 hs]
 omega
theorem qJ8 {rl:Rls}{ms:List Im}{wd:Str}{t:Int}{is:List Int}{b:Int}(h:RlP rl ms wd t is)(hc:∀ m∈ms,Cl rl m)(b0:b≠0):j2 (sgM b (xA rl ms wd is b))≤xA rl ms wd is (sgM b (xA rl ms wd is b)):=by
 have c0:=qAy h hc b
 by_cases hz:xA rl ms wd is b=0
 · have e:sgM b (xA rl ms wd is b)=0:=by rw [hz];unfold sgM;split <;> omega
   rw [e]
   exact qAy h hc 0
 · have hs:0 < b↔0 < sgM b (xA rl ms wd is b):=by
    unfold sgM
    split <;> omega
   rw [← qA9 hs]
   unfold j2 sgM
   split <;> split <;> omega
set_option maxHeartbeats 8000000 in
theorem qM8 (T:Tx K mg a):FnOk P w K mg base CX0 12 a.A91 a.B91 ["_law_script"] (qJs K):=by
 refine T.D91.F.ok ja (fun vs H Q E h=>?_) (fun cdv A outer s H vs Q E hr h=>?_)
 · obtain⟨a,ns,rfl,_⟩:=h
   rfl
 refine qM fun _ Y=>?_
 obtain⟨zs,ns,rfl,hS,hlen,kk⟩:=h
 apply Y
 have hu:=hr.units
 refine⟨_,(qB (qF0 (i:=1) ja.nd rfl (Or.inr rfl) (qI T.D77 (qBl T) hr rfl (qA (pv 0) qC)))
  (qB (qX 2 ja.nd (ql qV (jU (qA qQ (qA qQ (qA qQ qC)))) (qJ qi (qI T.D78 (qW T) hr rfl (qA (pv 1) qC)) qG) (fun _ _=>rfl)))
  (qB (qX 3 ja.nd (qI T.D90 (qGj T) hr rfl (qA (pv 1) qC)))
  (qB (qF0 (i:=4) ja.nd rfl (Or.inr rfl) (qI T.D82 (qCd T) hr rfl (qA (pv 1) qC)))
  (qB (qHs (i:=5) ["_law_draws_here","_law_reels_here"] [1,4] ja.nd rfl rfl rfl (qDf rfl T.b_range (qA (qJ qY qG (qJ qi (qI T.D78 (qW T) hr rfl (qA (pv 1) qC)) qG)) qC)) (fun _ _ _ _=>(qI T.D81 (qDa T) hr rfl (qA (pv 1) (qA (pv 2) qC)))))
  (qB (qX 6 ja.nd (qJ qi (qI T.D78 (qW T) hr rfl (qA (pv 1) qC)) (qZ jB rfl T.b_len rfl (qA (pv 5) qC))))
  (qB (zG (qf (qO jj (pv 2) qQ (qS _)) (qE (qX 6 ja.nd (qJ qi (pv 6) (qJ qp (qZ jB rfl T.b_len rfl (qA (pv 5) qC)) qG)))) qP))
  (qB (zG (qf (qO jj (pv 2) qQ (qS _)) (qE (qX 6 ja.nd (qJ qY qG (qJ qi (pv 6) (qJ qp (qZ jB rfl T.b_len rfl (qA (pv 5) qC)) qG))))) qP))
  (qB (qX 7 ja.nd (qJ qY (ql qV (qI T.D83 (jf T) hr rfl (qA (pv 5) qC)) (pv 6) (fun _ _=>rfl)) (qJ qi (qI T.D78 (qW T) hr rfl (qA (pv 1) qC)) (qN (ql qV (pv 5) (pv 6) (fun _ _=>rfl))))))
  (qB (zG (qf (qO jj (pv 2) qQ (qS _)) (qE (qX 7 ja.nd (ql qV (qI T.D83 (jf T) hr rfl (qA (pv 5) qC)) (qJ qY (pv 6) qG) (fun _ _=>rfl)))) qP))
  (qB (qX 8 ja.nd (jI (qA (pv 2) (qA qG (qA (pv 7) (qA (pv 3) qC))))))
  (qB (qX 9 ja.nd (jI (qA (jU (qA (pv 5) qC)) (qA (jU qC) qC))))
  (qB (qX 10 ja.nd (qI T.D84 (jh T) hr rfl (qA (pv 9) (qA (pv 8) (qA (pv 3) (qA (pv 4) qC))))))
  (qB (zG (qf (jx (qI T.D85 (jZ T) hr rfl (qA (pv 10) qC))) (qB (qf (kT (jx (qI T.D86 (kZ T) hr rfl (qA (pv 9) (qA (pv 8) (qA (pv 10) (qA (pv 4) qC))))))) (qE (qK qEr)) qP)
  (qB (qX 8 ja.nd (qJ qH0 (qFk qKo (pv 8) qHr (qHe qG)) (jI (qA (pv 10) qC))))
  (qE (qX 10 ja.nd (qI T.D84 (jh T) hr rfl (qA (pv 9) (qA (pv 8) (qA (pv 10) (qA (pv 4) qC))))))))) qP))
  (qB (kj PassesOwn.never rfl (xU (jU (qA (qJ jG (qN (pv 8)) qG) (qA (qJ qY (qJ jG (qN (pv 8)) qG) qG) qC)))) (jR (i:=11) ja.nd rfl (Or.inl rfl)) (qB (qX 12 ja.nd (qA6 (zF qJj (qJ qm (pv 11) (qN (pv 8))) qG (qS _)) (wo (zF qAm (qZ jg rfl T.b_abs rfl (qA (pv 11) qC)) (qZ jg rfl T.b_abs rfl (qA (qN (pv 8)) qC)) (qS _)))))
  (qE (qf (PW.pt (vE (jx (pv 12)) (zN (jx (qI T.D85 (jZ T) hr rfl (qA (qI T.D84 (jh T) hr rfl (qA (pv 9) (qA (pv 8) (qA (pv 11) (qA (pv 4) qC))))) qC)))))) (qE (qK qEr)) qP))))
  (qE (qK (qA6 (qFs (qI T.D85 (jZ T) hr rfl (qA (pv 10) qC))) (wo (qI T.D89 (kM T) hr rfl (qA (pv 5) (qA (pv 10) (qA (pv 8) (qA (pv 6) (qA (pv 4) qC))))))))))))))))))))))))),?_⟩
 try dsimp only [jS,qc]
 refine⟨_,rfl,zs,ns,rfl,hS,hlen,fun dz H1 e1 _ hD1=>?_⟩
 have D1:DS K H1 dz zs ns 0:=⟨hD1,e1.seq hS,hlen⟩
 have qDl:(3:Nat)≤sizeLine:=by decide
 refine⟨qDl,fun lw hlw=>?_⟩
 have u1:=qF hlw (.lst [.str "roll",.str "slip",.str "slide"])
 have x1:upd H1 lw (.lst [.str "roll",.str "slip",.str "slide"]) lw=some (.lst [.str "roll",.str "slip",.str "slide"]):=qD
 change _
 generalize upd H1 lw (.lst [.str "roll",.str "slip",.str "slide"])=G1 at u1 x1
 have D1':=D1.same u1
 refine⟨_,rfl,dz,zs,ns,0,rfl,D1',by decide,fun r2 H2 s2 D2 _=>?_⟩
 refine qM fun _ Y=>?_
 obtain⟨wd,hat,hw3⟩:∃ wd:Str,atI [V.str "roll",.str "slip",.str "slide"] (r2.fmod 3)=some (.str wd)∧Wd3 wd:=by
  obtain⟨v,h1,h2⟩:=at3 (x:=V.str "roll") (y:=.str "slip") (z:=.str "slide") (fm r2 (show (0:Int) < 3 by decide)).1 (fm r2 (show (0:Int) < 3 by decide)).2
  rcases h2 with rfl | rfl | rfl
  · exact⟨_,h1,.inl rfl⟩
  · exact⟨_,h1,.inr (.inl rfl)⟩
  · exact⟨_,h1,.inr (.inr rfl)⟩
 apply Y
 refine⟨_,_,rfl,rfl,nz,lw,_,_,_,rfl,rfl,SqL.of (s2 _ _ (D1'.ne x1) x1),hat,?_⟩
 refine⟨_,rfl,dz,zs,ns,0+1,rfl,D2,by decide,fun b H3 s3 D3 hb0 hb=>?_⟩
 refine⟨_,rfl,dz,zs,ns,0+1+4,rfl,D3,by decide,fun rd kvs H4 s4 D4 _ nrd hrd4 hR3=>?_⟩
 refine⟨_,rfl,dz,zs,ns,0+1+4+5,rfl,D4,by decide,fun r5 H5 s5 D5 _=>?_⟩
 have f5:=fm r5 (show (0:Int) < 7 by decide)
 have hrd5:=s5 _ _ nrd hrd4
 generalize hrl:rlF kvs=rl
 refine⟨_,_,rfl,rfl,nz,_,_,rfl,rfl,_,rfl,by omega,by omega,qF5 (n:=(3+r5.fmod 7).toNat) (fun i acc H'=>∃ ms:List Im,IsIs H' ms acc∧ms.length=i∧(∀ m∈ms,Cl rl m)∧DS K H' dz zs ns (11+6*(i:Int))∧SB dz H5 H') ⟨[],trivial,rfl,by simp,D5.le (by omega),SB.refl _ _⟩ ?_ ?_ ?_⟩
 · rintro i acc H' hi ⟨ms,h1,hl,_⟩
   exact jT (by rw [h1.len];omega)
 · rintro i acc H' hi ⟨ms,h1,hl,hcf,D',sb'⟩
   refine⟨_,rfl,_,rfl,dz,zs,rd,ns,11+6*(i:Int),kvs,rfl,D',by omega,sb' _ _ nrd hrd5,hR3,nrd,fun v m H'' s'' D'' hI hC=>Nxt.mk hi ⟨ms++[m],(h1.ts (D'.tsb s'')).app (.one hI),by rw [List.length_append,hl];rfl,fun x hx=>?_,D''.le (by omega),sb'.trans s''⟩⟩
   rcases List.mem_append.mp hx with hx | hx
   · exact hcf x hx
   · have:x=m:=by simpa using hx
     rw [this,← hrl];exact hC
 rintro acc H6 ⟨ms,hIs,hml,hCl,D6,s6⟩ z hz
 have w7:=qF hz (.lst acc)
 have x7:upd H6 z (.lst acc) z=some (.lst acc):=qD
 have hrd6:=s6 _ _ nrd hrd5
 change _
 generalize upd H6 z (.lst acc)=H7 at w7 x7
 have D7:=(D6.same w7).le (c:=70) (by omega)
 have hIs7:=hIs.ts (qh w7)
 have hrd7:=w7 _ _ hrd6
 have hL1:3≤ms.length:=by omega
 have hL2:ms.length≤9:=by omega
 have hal:acc.length=ms.length:=hIs.len
 clear hIs hrd6 hrd5 hrd4 D6 D5 D4 D3 D2 D1' D1 hD1 s6 s5 s4 s3 s2 x1 u1 w7 hml f5
 obtain⟨hct,hg⟩:=Cl.ct hCl
 have nz7:=D7.ne x7
 refine⟨_,rfl,dz,zs,ns,70,rfl,D7,by decide,fun r8 H8 s8 D8 _=>?_⟩
 have x8:=s8 _ _ nz7 x7
 have hIs8:=hIs7.ts (D7.tsb s8)
 have hrd8:=s8 _ _ nrd hrd7
 have f8:=fm r8 (show (0:Int) < (acc.length:Int) by omega)
 refine⟨_,rfl,z,_,rfl,.inl (SqL.of x8),_,_,rfl,rfl,by omega,?_⟩
 refine⟨fun σ' H'=>H'=H8∧∃ i:Nat,i < ms.length∧(wd="roll"→i+1 < ms.length)∧σ'=[some (.ref zs),some (.ref dz),some (.str wd),some (.int b),some (.ref rd),some (.ref z),some (.int (i:Int)),none,none,none,none,none,none],?_,?_⟩
 · refine⟨_,rfl,rfl,_,rfl,jN (fun c=>?_) (fun c=>?_)⟩
   · have f9:=fm (r8.fmod (acc.length:Int)) (show (0:Int) < (acc.length:Int) - 1 by omega)
     refine⟨_,rfl,_,rfl,z,_,rfl,.inl (SqL.of x8),_,_,rfl,rfl,_,_,rfl,rfl,by omega,rfl,((r8.fmod (acc.length:Int)).fmod ((acc.length:Int) - 1)).toNat,by omega,fun _=>by omega,?_⟩
     rw [Int.toNat_of_nonneg f9.1]
     rfl
   · refine⟨rfl,(r8.fmod (acc.length:Int)).toNat,by omega,fun h=>absurd (by rw [h];exact decide_eq_true rfl) c,?_⟩
     rw [Int.toNat_of_nonneg f8.1]
     rfl
 rintro σ' H' ⟨rfl,i,hi,hi1,rfl⟩
 refine⟨fun σ' H''=>H''=H'∧∃ i:Nat,PlO wd ms i∧σ'=[some (.ref zs),some (.ref dz),some (.str wd),some (.int b),some (.ref rd),some (.ref z),some (.int (i:Int)),none,none,none,none,none,none],?_,?_⟩
 · refine⟨_,rfl,rfl,_,rfl,jN (fun c=>?_) (fun c=>?_)⟩
   · have hw:wd="slide":=by simpa using c
     have f9:=fm ((i:Nat):Int) (show (0:Int) < (acc.length:Int) - 2 by omega)
     refine⟨_,rfl,_,rfl,z,_,rfl,.inl (SqL.of x8),_,_,rfl,rfl,_,_,rfl,rfl,by omega,_,_,rfl,rfl,rfl,(1+((i:Nat):Int).fmod ((acc.length:Int) - 2)).toNat,⟨hw3,by omega,fun h=>?_,fun _=>⟨by omega,by omega⟩⟩,?_⟩
     · rw [hw] at h
       exact absurd h (by decide+kernel)
     · rw [Int.toNat_of_nonneg (by omega)]
       rfl
   · exact⟨rfl,i,⟨hw3,hi,hi1,fun h=>absurd (by rw [h];exact decide_eq_true rfl) c⟩,rfl⟩
 rintro σ' H'' ⟨rfl,j,hP,rfl⟩
 clear hi1 hi i f8
 have tT8:Tr H'' z ms:=⟨acc,x8,hIs8⟩
 refine⟨_,rfl,z,ms,rfl,tT8,hct,by omega,fun y H9 e9 _ hy=>?_⟩
 have hjl:=hP.l
 have hmj:ms[j]? =some ms[j]:=List.getElem?_eq_getElem hjl
 refine qM fun _ Y=>?_
 obtain⟨nj,pj,qj,rj,sj,lj,Nj,ej,cj,l12,_⟩:=hCl _ (List.mem_of_getElem? hmj)
 apply Y
 rw [ej] at hmj
 have D9:=D8.same e9
 refine⟨_,rfl,y,_,_,_,rfl,rfl,SqL.of hy,zE j rfl (by have:=hP.l;omega),_,rfl,dz,zs,ns,70+1,rfl,D9,by decide,fun r10 H10 s10 D10 _=>?_⟩
 have x10:=s10 _ _ (D9.ne (e9 _ _ x8)) (e9 _ _ x8)
 have hIs10:=(hIs8.ts (qh e9)).ts (D9.tsb s10)
 have hrd10:=s10 _ _ nrd (e9 _ _ hrd8)
 refine qM fun _ Y=>?_
 obtain⟨vj,hvj,Ij⟩:=hIs10.get' hmj
 obtain⟨zj,xj,yj,rfl,hzj,_,_⟩:=id Ij
 apply Y
 have lj1:=cj.l1
 have f10:=fm r10 (show (0:Int) < lj by omega)
 refine⟨_,rfl,_,rfl,z,_,_,_,rfl,rfl,SqL.of x10,jX hvj,ixT (SqT.of hzj) qCk ⟨_,_,rfl,rfl,by omega,_,_,rfl,rfl,?_⟩⟩
 have tT10:Tr H10 z ms:=⟨acc,x10,hIs10⟩
 generalize r10.fmod lj=d at f10
 clear hy e9 D9 D8 s8 s10 hIs8 x8 hrd8 tT8 hIs7 x7 hrd7 D7
 have hb0':=qEu hct.po j
 refine⟨fun σ' H'=>∃ t:Int,Same H10 H'∧0≤t∧plF wd ms t=some (isF wd j)∧σ'=[some (.ref zs),some (.ref dz),some (.str wd),some (.int b),some (.ref rd),some (.ref z),some (.int (j:Int)),some (.int t),none,none,none,none,none],?_,?_⟩
 · refine⟨_,rfl,rfl,_,rfl,jN (fun c=>?_) (fun c=>?_)⟩
   · have hw:wd="roll":=by simpa using c
     have hj1:=hP.r hw
     refine⟨_,rfl,z,ms,rfl,tT10,hct,by omega,fun y' H11 e11 _ hy'=>?_⟩
     refine⟨_,rfl,_,_,rfl,rfl,y',_,_,_,rfl,rfl,SqL.of hy',zE (j+1) (by omega) (by omega),_,e11,qEu hct.po _,qMs hct hP (fun _=>rfl) (fun h=>absurd hw h),rfl⟩
   · have hw:wd≠"roll":=by simpa using c
     exact⟨_,Same.refl _,by omega,qMs hct hP (fun h=>absurd h hw) (fun _=>⟨_,hmj,by omega,by show _ < qd ms j+lj;omega⟩),rfl⟩
 rintro σ' H11 ⟨t,e11,ht0,hpl,rfl⟩
 have tT11:=tT10.same e11
 have hrd11:=e11 _ _ hrd10
 clear tT10 hrd10 hIs10 x10 D10 Ij hzj hvj e11
 have hR:RlP rl ms wd t (isF wd j):=⟨hw3,by omega,fun m hm n p q r s l e=>by
  obtain⟨n',p',q',r',s',l',N',e',c',_⟩:=hCl m hm
  rw [e] at e'
  cases e'
  exact⟨N',c'⟩,hct.cl,ht0,hpl⟩
 refine⟨_,rfl,_,rfl,_,rfl,sL4,fun dd hdd=>?_⟩
 have w1:=qF hdd (.tup [.str wd,.int 0,.int t,.int b])
 have y1:upd H11 dd (.tup [.str wd,.int 0,.int t,.int b]) dd=some (.tup [.str wd,.int 0,.int t,.int b]):=qD
 change _
 generalize upd H11 dd (.tup [.str wd,.int 0,.int t,.int b])=H12 at w1 y1
 refine⟨_,rfl,sL1,fun tl htl=>?_⟩
 have w2:=qF htl (.lst [.ref z])
 have y2:upd H12 tl (.lst [.ref z]) tl=some (.lst [.ref z]):=qD
 change _
 generalize upd H12 tl (.lst [.ref z])=H13 at w2 y2
 refine⟨sL0,fun ti hti=>⟨sL2,fun tz htz=>?_⟩⟩
 have w3:=qF hti (.lst [])
 have y3:upd H13 ti (.lst []) ti=some (.lst []):=qD
 have w4:=qF htz (.tup [.ref tl,.ref ti])
 have y4:upd (upd H13 ti (.lst [])) tz (.tup [.ref tl,.ref ti]) tz=some (.tup [.ref tl,.ref ti]):=qD
 have y3':=w4 _ _ y3
 have w34:=w3.trans w4
 change _
 generalize upd (upd H13 ti (.lst [])) tz (.tup [.ref tl,.ref ti])=H14 at w34 y4 y3'
 have e14:=(w1.trans w2).trans w34
 have hT:TabF H14 (.ref tz) [ms] []:=⟨tz,tl,ti,[.ref z],rfl,y4,w34 _ _ y2,⟨⟨z,rfl,tT11.same e14⟩,trivial⟩,y3'⟩
 have hd14:=w34 _ _ (w2 _ _ y1)
 have tT14:=tT11.same e14
 have hre:ReelsAt H14 rd rl:=by
  rw [← hrl]
  exact qJd (.inl (e14 _ _ hrd11))
 clear w1 w2 w3 w4 y1 y2 y3 y4 y3' w34 e14 tT11 hrd11
 refine⟨_,rfl,_,rfl,_,rfl,_,rfl,tz,dd,rd,ms,wd,t,b,b,isF wd j,rl,rfl,hT,hd14,hre,hR,hb,DoR.of fun v H15 e15 hv=>?_⟩
 refine⟨fun σ' H'=>∃ (b':Int) (dd' f:Addr),σ'=[some (.ref zs),some (.ref dz),some (.str wd),some (.int b),some (.ref rd),some (.ref z),some (.int (j:Int)),some (.int t),some (.ref dd'),some (.ref tz),some (.ref f),none,none]∧Same H14 H'∧H' dd'=some (.tup [.str wd,.int 0,.int t,.int b'])∧b'.natAbs≤1000000∧j2 b'≤xA rl ms wd (isF wd j) b'∧TabF H' (.ref f) [qD3 ms wd (isF wd j) b'] [],?_,?_⟩
 · rcases hv with ⟨f,rfl,hcap,hN⟩ | ⟨rfl,hno⟩
   · obtain⟨_,_,_,q1,_⟩:=hN.ex
     refine⟨_,rfl,_,false,rfl,.no (.tup q1),_,rfl,xY ⟨b,dd,f,rfl,e15,e15 _ _ hd14,hb,hcap,hN.tab⟩⟩
   · refine⟨_,rfl,_,true,rfl,.int _,_,rfl,xn ?_⟩
     refine⟨_,rfl,_,rfl,_,rfl,_,rfl,tz,dd,rd,ms,wd,t,b,isF wd j,rl,rfl,hT.same e15,e15 _ _ hd14,hre.same e15,hR,hCl,hb0,hb,hno,fun H16 e16=>?_⟩
     refine⟨_,rfl,xY ?_⟩
     have hcM:=qJ8 hR hCl hb0
     have hMb:(sgM b (xA rl ms wd (isF wd j) b)).natAbs≤1000000:=by
      have c0:=qAy hR hCl b
      unfold j2 at hno
      unfold sgM
      split at hno <;> split <;> omega
     generalize sgM b (xA rl ms wd (isF wd j) b)=M at hcM hMb
     have e16':=e15.trans e16
     have hd:=e16' _ _ hd14
     have ec:qI3 [V.str wd,.int 0,.int t,.int b] none (some 3)=[.str wd,.int 0,.int t]:=qFd _ 3
     refine⟨_,rfl,3,rfl,dd,_,rfl,SqT.of hd,?_,fun p1 hp1=>?_⟩
     · intro h
       have:=h.2
       revert this
       show ¬ HT.sIx 4 4 (some 3)=4
       decide
     rw [ec]
     have w1:=qF hp1 (.tup [.str wd,.int 0,.int t])
     have m1:upd H16 p1 (.tup [.str wd,.int 0,.int t]) p1=some (.tup [.str wd,.int 0,.int t]):=qD
     change _
     generalize upd H16 p1 (.tup [.str wd,.int 0,.int t])=G1 at w1 m1
     refine⟨_,rfl,sL1,fun p2 hp2=>?_⟩
     have w2:=qF hp2 (.tup [.int M])
     have m2:upd G1 p2 (.tup [.int M]) p2=some (.tup [.int M]):=qD
     change _
     generalize upd G1 p2 (.tup [.int M])=G2 at w2 m2
     refine⟨p1,p2,_,_,rfl,rfl,SqT.of (w2 _ _ m1),SqT.of m2,(by simp),sL4,(fun h=>by cases h),fun _ p3 hp3=>?_⟩
     have w3:=qF hp3 (.tup [.str wd,.int 0,.int t,.int M])
     have m3:upd G2 p3 (.tup [.str wd,.int 0,.int t,.int M]) p3=some (.tup [.str wd,.int 0,.int t,.int M]):=qD
     change v8 8 _ _ (upd G2 p3 (.tup [.str wd,.int 0,.int t,.int M])) _
     generalize upd G2 p3 (.tup [.str wd,.int 0,.int t,.int M])=G3 at w3 m3
     have e17:=((e16'.trans w1).trans w2).trans w3
     refine⟨_,rfl,_,rfl,_,rfl,_,rfl,tz,p3,rd,ms,wd,t,M,M,isF wd j,rl,rfl,hT.same e17,m3,hre.same e17,hR,hMb,DoR.of fun v H18 e18 hv=>?_⟩
     rcases hv with ⟨f,rfl,hcap,hN⟩ | ⟨rfl,hno⟩
     · exact⟨M,p3,f,rfl,e17.trans e18,e18 _ _ m3,hMb,hcap,hN.tab⟩
     · exact absurd hcM hno
 rintro σ' H16 ⟨b',dd',f,rfl,e16,hdd',hb',hcap,hF⟩
 have e3:∀ x:V,atI [V.str wd,.int 0,.int t,x] 3=some x:=fun _=>rfl
 have d3:=qk (p:=b') (q:=3) (by decide)
 have d2:=qk (p:=b') (q:=2) (by decide)
 refine⟨_,rfl,dd',_,_,_,rfl,rfl,SqT.of hdd',e3 _,_,_,rfl,rfl,cdB (by decide) (by decide),_,rfl,dd',_,_,_,rfl,rfl,SqT.of hdd',e3 _,_,_,rfl,rfl,cdB (by decide) (by decide),_,_,rfl,rfl,sL2,fun ld hld=>?_⟩
 generalize b'.fdiv 3=x3 at d3 ⊢
 generalize b'.fdiv 2=x2 at d2 ⊢
 have w1:=qF hld (.lst [.int x2,.int (x3+1)])
 have kl:upd H16 ld (.lst [.int x2,.int (x3+1)]) ld=some (.lst [.int x2,.int (x3+1)]):=qD
 generalize upd H16 ld (.lst [.int x2,.int (x3+1)])=H17 at w1 kl ⊢
 refine⟨ld,rfl,⟨_,SqL.of kl⟩,zZ (K:=K) (a:=ld) (xs:=[.int x2,.int (x3+1)]) (fun k σ H'=>∃ o1 o2:Option V,σ=[some (.ref zs),some (.ref dz),some (.str wd),some (.int b),some (.ref rd),some (.ref z),some (.int (j:Int)),some (.int t),some (.ref dd'),some (.ref tz),some (.ref f),o1,o2]∧Same H17 H') ⟨none,none,rfl,Same.refl _⟩ ?_ ?_ ?_⟩
 · rintro k σ H' hk ⟨o1,o2,rfl,e⟩
   exact SqL.of (e _ _ kl)
 · rintro k v σ H18 hv ⟨o1,o2,rfl,e⟩
   refine qM fun _ Y=>?_
   obtain⟨x,rfl,hx⟩:∃ x:Int,v= .int x∧x.natAbs≤1000000:=by
    match k,hv with
    | 0,hv=>exact⟨_,(Option.some.inj hv).symm,by omega⟩
    | 1,hv=>exact⟨_,(Option.some.inj hv).symm,by omega⟩
    | k+2,hv=>simp at hv
   apply Y
   have e18:=w1.trans e
   have e18':=e16.trans e18
   have hdx:=SqT.of (K:=K) (e18 _ _ hdd')
   refine⟨_,rfl,_,rfl,dd',_,_,_,rfl,rfl,hdx,e3 _,_,_,rfl,rfl,cmR (by omega) (by omega),_,_,rfl,rfl,_,rfl,jN (fun c1=>?_) (fun c1=>?_)⟩
   · have g1:0≤x*b':=by simpa using c1
     refine⟨_,rfl,x,rfl,_,rfl,dd',_,_,_,rfl,rfl,hdx,e3 _,b',rfl,_,_,rfl,rfl,?_⟩
     refine⟨_,rfl,_,rfl,jN (fun c2=>?_) (fun c2=>?_)⟩
     · have g2:j2 x≤j2 b':=by
        show (if x < 0 then -x else x)≤if b' < 0 then -b' else b'
        simpa using c2
       have hok:=qJv hR hCl hcap g1 g2
       refine⟨_,rfl,_,rfl,_,rfl,_,rfl,tz,dd',rd,ms,wd,t,b',x,isF wd j,rl,rfl,hT.same e18',e18 _ _ hdd',hre.same e18',hR,hx,DoR.of fun v H19 e19 hv=>?_⟩
       rcases hv with ⟨f',rfl,_,hN⟩ | ⟨rfl,hno⟩
       · obtain⟨_,_,_,q1,_⟩:=hN.ex
         exact⟨_,false,rfl,.no (.tup q1),_,rfl,xY ⟨_,_,rfl,e.trans e19⟩⟩
       · exact absurd hok hno
     · exact⟨_,_,rfl,e⟩
   · refine⟨_,rfl,_,rfl,xY ?_⟩
     exact⟨_,_,rfl,e⟩
 · rintro σ H18 ⟨o1,o2,rfl,e⟩
   have e18:=w1.trans e
   have hF18:=hF.same e18
   refine qM fun _ Y=>?_
   obtain⟨tt,tl',ti',zs',et,q1,_⟩:=id hF18
   cases et
   apply Y
   refine⟨_,rfl,_,false,rfl,.no (.tup q1),_,rfl,_,rfl,xn ?_⟩
   have hbs:∀ k,qd ms k≤1000:=fun k=>by
    have:=qNb (ms:=ms) (c:=12) (fun m hm=>by
     obtain⟨n',p',q',r',s',l',N',e',c',l12',_⟩:=hCl m hm
     rw [e'];exact l12') (by decide) k
    omega
   refine⟨_,rfl,_,rfl,_,rfl,_,rfl,_,rfl,z,f,dd',rd,ms,_,wd,t,b',j,rfl,tT14.same (e16.trans e18),hct,hg,by omega,hF18,e18 _ _ hdd',hP,hb',hbs,qJe hCl hP hb' hcap,fun H19 _=>kk H19⟩
end
structure DF (K:W.Frag)(x:Str)(st:Stmt)(f:Addr)(fd:FuncData):Prop where
 n:W.nsIn K mainGlobals x=some (some (.ref f))
 F:Fun K x x st f fd
theorem df_mk {K:W.Frag}{x:Str}{st:Stmt}{f:Addr}{oc:Value}{od an:Option Addr}{osl:Array (Option Value)}{kV doc pm cdv ct:Value}(n:W.nsIn K mainGlobals x=some (some (.ref f)))(l:K.lookup f=some ⟨oc,od,.func (W.fnOf x x (xq st) (j6 st) (qH st) .none kV doc pm an cdv ct),osl⟩)(c:W.codeIn K cdv x=true)(k:W.keepIn K (.ref f)=true):DF K x st f (W.fnOf x x (xq st) (j6 st) (qH st) .none kV doc pm an cdv ct):=⟨n,qKp l c k⟩
def GL (K:W.Frag)(x:Str)(v:Option Value):Prop:=W.nsIn K mainGlobals x=some v
theorem gl_mk {K:W.Frag}{x:Str}{v:Option Value}(h:W.nsIn K mainGlobals x=some v):GL K x v:=h
theorem dG {K:W.Frag}{x:Str}{st:Stmt}{f:Addr}{fd:FuncData}{h:Heap}{mg:Str→Option Value}{ps:List Str}(X:K.In h)(G:h.Ns mainGlobals mg)(d:DF K x st f fd)
 (b:∀ (kV doc pm:Value) (an:Option Addr) (cdv ct:Value) (us:List Value),us.length=ps.length→bindArgs (W.fnOf x x (xq st) (j6 st) (qH st) .none kV doc pm an cdv ct) ⟨us,[]⟩=pure (ps.zip us):=by
   first | exact(fun _ _ _ _ _ _ us hl=>match us,hl with | [_],_=>rfl) | exact(fun _ _ _ _ _ _ us hl=>match us,hl with | [_,_],_=>rfl) | exact(fun _ _ _ _ _ _ us hl=>match us,hl with | [_,_,_],_=>rfl) | exact(fun _ _ _ _ _ _ us hl=>match us,hl with | [_,_,_,_],_=>rfl) | exact(fun _ _ _ _ _ _ us hl=>match us,hl with | [_,_,_,_,_],_=>rfl)):L3.Def K mg x st ps f fd:=⟨d.F,d.F.binds b,W.mg_of X G d.n⟩
theorem all_mk {l:W.OpenLaw}{w:World}{K:W.Frag}{h:Heap}{mg:Str→Option Value}{fa f0 f1 f2 f3 f4 f5 f6 f7 f8 f9 f10 f11 f12 f13 f14 f15 f16 f17 f18 f19 f20 f21 f22 f23 f24 f25 f26 f27 f28 f29 f30 f31 f32 f33 f34 f35 f36 f37 f38 f39 f40 f41 f42 f43 f44 f45 f46 f47 f48 f49 f50 f51 f52 f53 f54 f55 f56 f57 f58 f59 f60 f61 f62 f63 f64 f65 f66 f67 f68 f69 f70 f71 f72 f73 f74 f75 f76 f77 f78 f79 f80 f81 f82 f83 f84 f85 f86 f87 f88 f89 f90 f91 C0 C1 C2 C3 C4 C5 nNOUGHT nROLLS nLAYS nPUSHES nCHANGES nWHOLE_SHARE fmShort:Addr}{g0 g1 g2 g3 g4 g5 g6 g7 g8 g9 g10 g11 g12 g13 g14 g15 g16 g17 g18 g19 g20 g21 g22 g23 g24 g25 g26 g27 g28 g29 g30 g31 g32 g33 g34 g35 g36 g37 g38 g39 g40 g41 g42 g43 g44 g45 g46 g47 g48 g49 g50 g51 g52 g53 g54 g55 g56 g57 g58 g59 g60 g61 g62 g63 g64 g65 g66 g67 g68 g69 g70 g71 g72 g73 g74 g75 g76 g77 g78 g79 g80 g81 g82 g83 g84 g85 g86 g87 g88 g89 g90 g91:FuncData}(X:K.In h)(G:h.Ns mainGlobals mg)(hfa:mg "law"=some (.ref fa))
 {odNOUGHT odROLLS odLAYS odPUSHES odCHANGES odWHOLE_SHARE odmShort anmShort:Option Addr} {slNOUGHT slROLLS slLAYS slPUSHES slCHANGES slWHOLE_SHARE slmShort:Array (Option Value)} {ocmShort kVmShort dcmShort pmmShort cdmShort ctmShort:Value} {tLETTERS tLONGEST_NAME tMOST_ROOM tNOUGHT_0 tNOUGHT_1 tMOST_BY tROLLS_0 tROLLS_1 tROLLS_2 tLAYS_0 tLAYS_1 tPUSHES_0 tPUSHES_1 tPUSHES_2 tCHANGES_0 tCHANGES_1 tCHANGES_2 tCHANGES_3 tCHANGES_4 tCHANGES_5 tWHOLE_SHARE_0 tWHOLE_SHARE_1:Tok} {nnNOUGHT nnROLLS nnLAYS nnPUSHES nnCHANGES nnWHOLE_SHARE:Nat}
 (h0:DF K "is_whole" vW f0 g0)
 (h1:DF K "common_divisor" jl f1 g1)
 (h2:DF K "is_fraction" vG f2 g2)
 (h3:DF K "fraction" vg f3 g3)
 (h4:DF K "sum_of" qBp f4 g4)
 (h5:DF K "less_by" wv f5 g5)
 (h6:DF K "times_of" ve f6 g6)
 (h7:DF K "quotient" vX f7 g7)
 (h8:DF K "is_before" z6 f8 g8)
 (h9:DF K "floor_of" vQ f9 g9)
 (h10:DF K "is_name" qDo f10 g10)
 (h11:DF K "has_clip_form" jw f11 g11)
 (h12:DF K "place_at" vd f12 g12)
 (h13:DF K "picture_at" xr f13 g13)
 (h14:DF K "is_there" vI f14 g14)
 (h15:DF K "check_clip" vq f15 g15)
 (h16:DF K "clip_part" z9 f16 g16)
 (h17:DF K "goes_on" qDu f17 g17)
 (h18:DF K "moments_there" jt f18 g18)
 (h19:DF K "head_room" z7 f19 g19)
 (h20:DF K "tail_room" kF f20 g20)
 (h21:DF K "is_length" wZ f21 g21)
 (h22:DF K "has_nest_form" zC f22 g22)
 (h23:DF K "moments_of" xt f23 g23)
 (h24:DF K "one_form" qA5 f24 g24)
 (h25:DF K "length_of" wb f25 g25)
 (h26:DF K "item_at" wf f26 g26)
 (h27:DF K "kind_at" wm f27 g27)
 (h28:DF K "place_ahead" xO f28 g28)
 (h29:DF K "place_behind" xD f29 g29)
 (h30:DF K "neighbours_at" ju f30 g30)
 (h31:DF K "clips_at_border" jc f31 g31)
 (h32:DF K "lies_within" kQ f32 g32)
 (h33:DF K "item_part" w8 f33 g33)
 (h34:DF K "part_of_track" xy f34 g34)
 (h35:DF K "part_ahead" xx f35 g35)
 (h36:DF K "part_behind" xT f36 g36)
 (h37:DF K "mix_spans" kH f37 g37)
 (h38:DF K "mix_shares" zB f38 g38)
 (h39:DF K "mix_at" qBr f39 g39)
 (h40:DF K "told_in_mix" xR f40 g40)
 (h41:DF K "taken_at_begin" xZ f41 g41)
 (h42:DF K "taken_at_end" zp f42 g42)
 (h43:DF K "most_mix" qA3 f43 g43)
 (h44:DF K "check_place" xX f44 g44)
 (h45:DF K "check_by" vY f45 g45)
 (h46:DF K "clip_there" zQ f46 g46)
 (h47:DF K "clip_and_sides" jn f47 g47)
 (h48:DF K "places_named" xC f48 g48)
 (h49:DF K "has_mix" qAd f49 g49)
 (h50:DF K "check_short" xQ f50 g50)
 (h51:DF K "most_slip" kJ f51 g51)
 (h52:DF K "most_roll" kE f52 g52)
 (h53:DF K "slipped" wj f53 g53)
 (h54:DF K "with_rolled_ends" jV f54 g54)
 (h55:DF K "table_with" zL f55 g55)
 (h56:DF K "rolled" qBy f56 g56)
 (h57:DF K "stretch_of" vv f57 g57)
 (h58:DF K "laid_by" qCo f58 g58)
 (h59:DF K "laid_on_tied" zw f59 g59)
 (h60:DF K "tracks_changed" xf f60 g60)
 (h61:DF K "check_numbers" zT f61 g61)
 (h62:DF K "touches_mix" vH f62 g62)
 (h63:DF K "check_mixes" kX f63 g63)
 (h64:DF K "check_change" j9 f64 g64)
 (h65:DF K "nest_goes_on" zx f65 g65)
 (h66:DF K "can_heal" qAz f66 g66)
 (h67:DF K "healed" qF2 f67 g67)
 (h68:DF K "mixed" qHo f68 g68)
 (h69:DF K "unmixed" qCy f69 g69)
 (h70:DF K "relaid" qFh f70 g70)
 (h71:DF K "changed" qDb f71 g71)
 (h72:DF K "deed_done" kL f72 g72)
 (h73:DF K "told_on" wU f73 g73)
 (h74:DF K "told_at" kx f74 g74)
 (h75:DF K "_law_cell_at" j8 f75 g75)
 (h76:DF K "_law_mixed" xz f76 g76)
 (h77:DF K "_law_draws" zO f77 g77)
 (h78:DF K "_law_next" kG f78 g78)
 (h79:DF K "_law_fraction" jv f79 g79)
 (h80:DF K "_law_there" zM f80 g80)
 (h81:DF K "_law_clip" kI f81 g81)
 (h82:DF K "_law_reels" xp f82 g82)
 (h83:DF K "_law_begins" xN f83 g83)
 (h84:DF K "_law_done" z8 f84 g84)
 (h85:DF K "_law_whole" zR f85 g85)
 (h86:DF K "_law_most_right" je f86 g86)
 (h87:DF K "_law_shown" zK f87 g87)
 (h88:DF K "_law_due" vJ f88 g88)
 (h89:DF K "_law_told_right" jb f89 g89)
 (h90:DF K "_law_by" wu f90 g90)
 (h91:DF K "law" qKz f91 g91)
 (xg0:GL K "CutError" (some (.ref C0)))
 (xg1:GL K "NoNumber" (some (.ref C1)))
 (xg2:GL K "NoClip" (some (.ref C2)))
 (xg3:GL K "NoPlace" (some (.ref C3)))
 (xg4:GL K "Mixed" (some (.ref C4)))
 (xg5:GL K "Short" (some (.ref C5)))
 (x_NoPlace:L3.OwnX K C3)
 (x_Mixed:L3.OwnX K C4)
 (ySS:W.exmOne K (.ref C5) (.ref C5)=some true)
 (e_Short:L3.ExcK K C5)
 (f_most:W.findIn K (.ref C5) "most"=some none)
 (xz0:GL K "isinstance" none)
 (xz1:GL K "int" none)
 (xz2:GL K "bool" none)
 (xz3:GL K "abs" none)
 (xz4:GL K "tuple" none)
 (xz5:GL K "len" none)
 (xz6:GL K "all" none)
 (xz7:GL K "str" none)
 (xz8:GL K "min" none)
 (xz9:GL K "sum" none)
 (xz10:GL K "enumerate" none)
 (xz11:GL K "max" none)
 (xz12:GL K "zip" none)
 (xz13:GL K "list" none)
 (xz14:GL K "any" none)
 (xz15:GL K "range" none)
 (xcLETTERS:GL K "LETTERS" (some (.str "abcdefghijklmnopqrstuvwxyz" tLETTERS)))
 (xcLONGEST_NAME:GL K "LONGEST_NAME" (some (.int 8 tLONGEST_NAME)))
 (xcMOST_ROOM:GL K "MOST_ROOM" (some (.int 1000000 tMOST_ROOM)))
 (xcNOUGHT:GL K "NOUGHT" (some (.ref nNOUGHT))) (xlNOUGHT:K.lookup nNOUGHT=some ⟨.type "tuple",odNOUGHT,.seq #[.int 0 tNOUGHT_0,.int 1 tNOUGHT_1] nnNOUGHT,slNOUGHT⟩)
 (xcMOST_BY:GL K "MOST_BY" (some (.int 1000000 tMOST_BY)))
 (xcROLLS:GL K "ROLLS" (some (.ref nROLLS))) (xlROLLS:K.lookup nROLLS=some ⟨.type "tuple",odROLLS,.seq #[.str "roll" tROLLS_0,.str "slip" tROLLS_1,.str "slide" tROLLS_2] nnROLLS,slROLLS⟩)
 (xcLAYS:GL K "LAYS" (some (.ref nLAYS))) (xlLAYS:K.lookup nLAYS=some ⟨.type "tuple",odLAYS,.seq #[.str "lay_in" tLAYS_0,.str "lay_over" tLAYS_1] nnLAYS,slLAYS⟩)
 (xcPUSHES:GL K "PUSHES" (some (.ref nPUSHES))) (xlPUSHES:K.lookup nPUSHES=some ⟨.type "tuple",odPUSHES,.seq #[.str "lay_in" tPUSHES_0,.str "open" tPUSHES_1,.str "close" tPUSHES_2] nnPUSHES,slPUSHES⟩)
 (xcCHANGES:GL K "CHANGES" (some (.ref nCHANGES))) (xlCHANGES:K.lookup nCHANGES=some ⟨.type "tuple",odCHANGES,.seq #[.str "cut" tCHANGES_0,.str "lay_in" tCHANGES_1,.str "open" tCHANGES_2,.str "close" tCHANGES_3,.str "lift" tCHANGES_4,.str "lay_over" tCHANGES_5] nnCHANGES,slCHANGES⟩)
 (xcWHOLE_SHARE:GL K "WHOLE_SHARE" (some (.ref nWHOLE_SHARE))) (xlWHOLE_SHARE:K.lookup nWHOLE_SHARE=some ⟨.type "tuple",odWHOLE_SHARE,.seq #[.int 1 tWHOLE_SHARE_0,.int 1 tWHOLE_SHARE_1] nnWHOLE_SHARE,slWHOLE_SHARE⟩)
 (iaShort:W.findIn K (.ref C5) "__init__"=some (some (.ref fmShort))) (ilShort:K.lookup fmShort=some ⟨ocmShort,odmShort,.func (W.fnOf "__init__" "Short.__init__" (xq zh) (j6 zh) (qH zh) .none kVmShort dcmShort pmmShort anmShort cdmShort ctmShort),slmShort⟩) (icShort:W.codeIn K cdmShort "Short.__init__"=true) (ikShort:W.keepIn K (.ref fmShort)=true) (ifShort:W.isFn K (.ref fmShort)=true)
 (ivShort:L3.exOver K C5 C0=true) (ihShort:W.hasDictIn K C5=true) (isShort:W.findIn K (.ref C5) "__setattr__"=some (some (.builtin "object.__setattr__"))) (ixShort:L3.excInitIn K C5 fmShort=true) (itShort:W.takerIn K C5 "most"=some none)
 :∃ fd:FuncData,(∀ (s:Shared) (v:Value),BindsTo s fd ⟨[v],[]⟩ [("_law_script",v)])∧∀ base:Heap,K.In base→base.Ns mainGlobals mg→FnOk l.prog w K mg base CX0 12 fa fd ["_law_script"] (qJs K):=by
 have e:=hfa.symm.trans (W.mg_of X G h91.n)
 obtain rfl:f91=fa:=by cases e;rfl
 obtain⟨_,_,_,_,_,_,_,_,_,rfl,_,_⟩:=h91.F.ex
 have FmShort:=qKp (st:=zh) ilShort icShort ikShort
 have bmShort:=FmShort.binds (ps:=["self","most"]) fun _ _ _ _ _ _ us hl=>match us,hl with | [_,_],_=>rfl
 have T:Tx K mg ⟨f0,_,f1,_,f2,_,f3,_,f4,_,f5,_,f6,_,f7,_,f8,_,f9,_,f10,_,f11,_,f12,_,f13,_,f14,_,f15,_,f16,_,f17,_,f18,_,f19,_,f20,_,f21,_,f22,_,f23,_,f24,_,f25,_,f26,_,f27,_,f28,_,f29,_,f30,_,f31,_,f32,_,f33,_,f34,_,f35,_,f36,_,f37,_,f38,_,f39,_,f40,_,f41,_,f42,_,f43,_,f44,_,f45,_,f46,_,f47,_,f48,_,f49,_,f50,_,f51,_,f52,_,f53,_,f54,_,f55,_,f56,_,f57,_,f58,_,f59,_,f60,_,f61,_,f62,_,f63,_,f64,_,f65,_,f66,_,f67,_,f68,_,f69,_,f70,_,f71,_,f72,_,f73,_,f74,_,f75,_,f76,_,f77,_,f78,_,f79,_,f80,_,f81,_,f82,_,f83,_,f84,_,f85,_,f86,_,f87,_,f88,_,f89,_,f90,_,f91,_,C0,C1,C2,C3,C4,C5,tLETTERS,tLONGEST_NAME,tMOST_ROOM,nNOUGHT,tMOST_BY,nROLLS,nLAYS,nPUSHES,nCHANGES,nWHOLE_SHARE,fmShort,_⟩:=⟨dG X G h0,dG X G h1,dG X G h2,dG X G h3,dG X G h4,dG X G h5,dG X G h6,dG X G h7,dG X G h8,dG X G h9,dG X G h10,dG X G h11,dG X G h12,dG X G h13,dG X G h14,dG X G h15,dG X G h16,dG X G h17,dG X G h18,dG X G h19,dG X G h20,dG X G h21,dG X G h22,dG X G h23,dG X G h24,dG X G h25,dG X G h26,dG X G h27,dG X G h28,dG X G h29,dG X G h30,dG X G h31,dG X G h32,dG X G h33,dG X G h34,dG X G h35,dG X G h36,dG X G h37,dG X G h38,dG X G h39,dG X G h40,dG X G h41,dG X G h42,dG X G h43,dG X G h44,dG X G h45,dG X G h46,dG X G h47,dG X G h48,dG X G h49,dG X G h50,dG X G h51,dG X G h52,dG X G h53,dG X G h54,dG X G h55,dG X G h56,dG X G h57,dG X G h58,dG X G h59,dG X G h60,dG X G h61,dG X G h62,dG X G h63,dG X G h64,dG X G h65,dG X G h66,dG X G h67,dG X G h68,dG X G h69,dG X G h70,dG X G h71,dG X G h72,dG X G h73,dG X G h74,dG X G h75,dG X G h76,dG X G h77,dG X G h78,dG X G h79,dG X G h80,dG X G h81,dG X G h82,dG X G h83,dG X G h84,dG X G h85,dG X G h86,dG X G h87,dG X G h88,dG X G h89,dG X G h90,dG X G h91,W.mg_of X G xg0,W.mg_of X G xg1,W.mg_of X G xg2,W.mg_of X G xg3,W.mg_of X G xg4,W.mg_of X G xg5,W.mg_none_of X G xz0,W.mg_none_of X G xz1,W.mg_none_of X G xz2,W.mg_none_of X G xz3,W.mg_none_of X G xz4,W.mg_none_of X G xz5,W.mg_none_of X G xz6,W.mg_none_of X G xz7,W.mg_none_of X G xz8,W.mg_none_of X G xz9,W.mg_none_of X G xz10,W.mg_none_of X G xz11,W.mg_none_of X G xz12,W.mg_none_of X G xz13,W.mg_none_of X G xz14,W.mg_none_of X G xz15,W.mg_of X G xcLETTERS,W.mg_of X G xcLONGEST_NAME,W.mg_of X G xcMOST_ROOM,W.mg_of X G xcNOUGHT,fun H=>.inr ⟨_,_,_,xlNOUGHT,rfl,rfl,by show 2≤sizeLine;decide,.cons ⟨_,rfl⟩ (.cons ⟨_,rfl⟩ (.nil))⟩,W.mg_of X G xcMOST_BY,W.mg_of X G xcROLLS,fun H=>.inr ⟨_,_,_,xlROLLS,rfl,rfl,by show 3≤sizeLine;decide,.cons ⟨_,rfl⟩ (.cons ⟨_,rfl⟩ (.cons ⟨_,rfl⟩ (.nil)))⟩,W.mg_of X G xcLAYS,fun H=>.inr ⟨_,_,_,xlLAYS,rfl,rfl,by show 2≤sizeLine;decide,.cons ⟨_,rfl⟩ (.cons ⟨_,rfl⟩ (.nil))⟩,W.mg_of X G xcPUSHES,fun H=>.inr ⟨_,_,_,xlPUSHES,rfl,rfl,by show 3≤sizeLine;decide,.cons ⟨_,rfl⟩ (.cons ⟨_,rfl⟩ (.cons ⟨_,rfl⟩ (.nil)))⟩,W.mg_of X G xcCHANGES,fun H=>.inr ⟨_,_,_,xlCHANGES,rfl,rfl,by show 6≤sizeLine;decide,.cons ⟨_,rfl⟩ (.cons ⟨_,rfl⟩ (.cons ⟨_,rfl⟩ (.cons ⟨_,rfl⟩ (.cons ⟨_,rfl⟩ (.cons ⟨_,rfl⟩ (.nil))))))⟩,W.mg_of X G xcWHOLE_SHARE,fun H=>.inr ⟨_,_,_,xlWHOLE_SHARE,rfl,rfl,by show 2≤sizeLine;decide,.cons ⟨_,rfl⟩ (.cons ⟨_,rfl⟩ (.nil))⟩,x_NoPlace,x_Mixed,ySS,e_Short,f_most,FmShort,bmShort,⟨ivShort,ihShort,isShort,ixShort,ifShort⟩,itShort⟩
 exact⟨_,fun s v=>.of_eq rfl,fun base _ _=>qM8 T⟩
theorem walk {l:W.OpenLaw}{q:Program}{loose:List Str}{XP:(Str→Option Value)→Heap→Prop}{YP:World→Heap→Prop}{d:DefRec}{K:Params→W.Frag}(hn:l.most=some 63)(hdf:d.params.defaults=[])
 (hY:∀ (w:World) (h:Heap),YP w h→(K w.params).In h)
 (F:∀ (w:World) (mg:Str→Option Value) (fa:Addr) (h:Heap),(K w.params).In h→h.Ns mainGlobals mg→mg d.name=some (.ref fa)→
   ∃ fd:FuncData,(∀ (s:Shared) (u:Value),BindsTo s fd ⟨[u],[]⟩ [("_law_script",u)])∧∀ base:Heap,(K w.params).In base→base.Ns mainGlobals mg→FnOk l.prog w (K w.params) mg base CX0 12 fa fd ["_law_script"] (qJs (K w.params))):
 W.WalkO q loose XP YP l.row.toRowW d [] (fun f vs=>PySem.call f vs):=
 L2.walk_of (n:=63) (k:=12) (x:="_law_script") (CX:=fun _=>CX0) (sp:=fun w=>qJs (K w.params)) hn (by decide) hdf ⟨rfl,by decide,by decide⟩ hY F (fun _ _ a ns hl _ hS=>⟨a,ns,rfl,hS,hl,fun _=>rfl⟩) fun _ _ _ _ _ z=>z
end Lw
namespace PySem.W.Fast
def tw16687285814216320160 := ()
def tw3196158807819841057 := ()
def tw1782282056801788897 := ()
def tw9174437833027551298 := ()
def tw10712822262542705380 := ()
def tw16552399402185912741 := ()
def tw5338493102011347018 := ()
def tw8918198252723637546 := ()
def tw51875706767122282 := ()
def tw14070128925321455530 := ()
def tw9496752851490526027 := ()
def tw5154033088611665806 := ()
def tw9974177430778035215 := ()
def tw7119805934571612431 := ()
def tw11205716670329284657 := ()
def tw9318381484721577876 := ()
def tw2733827976010452725 := ()
def tw14978410744781741973 := ()
def tw7833965585865294614 := ()
def tw6976098312411648663 := ()
def tw13032577418264015703 := ()
def tw13833418638903497687 := ()
def tw999091645564276024 := ()
def tw16398195827241463098 := ()
def tw14955546930090929594 := ()
def tw15286014824632526075 := ()
def tw3398426469762674011 := ()
def tw12633128527512328763 := ()
def tw6915521295730829212 := ()
def tw17564126029966384798 := ()
def tw13798219309455997598 := ()
def tw3544877127885147870 := ()
def tw13007215897833115935 := ()
def tw13566697617284881713 := ()
def tw5760794517273580527 := ()
def tw8834770373073621757 := ()
def tw8115083505698392068 := ()
def tw13926360915478242831 := ()
def tw10114391596561295300 := ()
def tw14768952543492759523 := ()
def tw16136252433889426077 := ()
def tw5528878626723067215 := ()
def tw10607388031652998080 := ()
def tw17730638767834262212 := ()
def tw18060296949021881715 := ()
def tw6980291190399763447 := ()
def tw17111948197138550719 := ()
def tw16633006500461225167 := ()
def tw15566195912035987765 := ()
def tw9091907556235576585 := ()
def tw3706442625126258163 := ()
def tw3902358568835161163 := ()
def tw17563833729786704306 := ()
def tw17131029250920058095 := ()
def tw5039679358742874611 := ()
def tw9863393548219113796 := ()
def tw17542412414375230570 := ()
def tw889946012283199263 := ()
def tw13329926162637871447 := ()
def tw3517954573756185844 := ()
def tw16379926997404955241 := ()
def tw17628000303992595820 := ()
def tw11518389500201760181 := ()
def tw981039724121764110 := ()
def tw3505300970942317475 := ()
def tw11821862884656861428 := ()
def tw666355239092453187 := ()
def tw14610722157716875578 := ()
def tw13983712708249899917 := ()
def tw17731500718358247558 := ()
def tw6278554122834176206 := ()
def tw15734321746708654937 := ()
def tw10892802479315358432 := ()
def tw10540800356058064598 := ()
def tw8466535219399616867 := ()
def tw9968966825517388439 := ()
def tw5409306170535443586 := ()
def tw2632149466729998172 := ()
def tw7661506381650485707 := ()
def tw5011503372869112612 := ()
def tw1268398297954007242 := ()
def tw4287541666814609626 := ()
def tw11586211174004600024 := ()
def tw7748401042131972383 := ()
def tw9156817772452031905 := ()
def tw17019701507272701270 := ()
def tw6500004730712506322 := ()
def tw5404295911779527443 := ()
def tw11818439632360237982 := ()
def tw6678846104816293799 := ()
def tw15358649303501281787 := ()
def tw14758114478328566373 := ()
def tw10082975915382722525 := ()
def tw14189386759218036037 := ()
def tw17127146628530270174 := ()
def tw3494481170614076857 := ()
def tw14892879501614011740 := ()
def tw16684123707018908691 := ()
def tw6587204473170904044 := ()
def tw18161903557926119136 := ()
def tw7152767703697616705 := ()
def tw9736854981126899531 := ()
def tw9995886456450354701 := ()
def tw16180581890946251505 := ()
def tw15018613582411138873 := ()
def tw6495698002012969232 := ()
def tw11667133221377938826 := ()
def tw6703070886307934661 := ()
def tw6652115888059710153 := ()
def tw14476157522197151749 := ()
def tw15611654206492183936 := ()
def tw17683209764165247399 := ()
def tw12475147993131823673 := ()
def tw8879573474278712889 := ()
def tw17431090293789591874 := ()
def tw10713882443999743423 := ()
def tw13947044926149372163 := ()
def tw11134307132847712682 := ()
def tw10796348111749563991 := ()
def tw16330287175562378475 := ()
def tw14324217626655693992 := ()
def tw6325176136788177825 := ()
def tw17160229387004903152 := ()
def tw18189600891242831674 := ()
def tw8548945251844630016 := ()
def tw1664940348711942079 := ()
def tw14178517368817099090 := ()
def tw747344411082847362 := ()
def tw5207909976461706831 := ()
def tw4857335062117785487 := ()
def tw6608208589625627678 := ()
def tw16797388897659147693 := ()
def tw1325323880412451336 := ()
def tw14647026907175495853 := ()
def tw10410681929472743768 := ()
def tw11514037152622693596 := ()
def tw6294001567053319975 := ()
def tw2859310754895499672 := ()
def tw1139493246921320683 := ()
def tw17988771341415325277 := ()
def tw6213828404191140723 := ()
def tw7293470316090674374 := ()
def tw814748855674100770 := ()
def tw16020579108611680946 := ()
def tw16277137385570390336 := ()
def tw9415017906120929966 := ()
def tw12730866414439722520 := ()
def tw18417226494480104492 := ()
def tw5316503507587351200 := ()
def tw18353887563765481720 := ()
def tw13525213479497522405 := ()
def tw6406759506044302594 := ()
def tw9858566984225596698 := ()
def tw12898146411085807857 := ()
def tw7129476523594736901 := ()
def tw14914511522388806767 := ()
def tw15546881806835363136 := ()
def tw9294227375679251774 := ()
def tw12137334766493434701 := ()
def tw16259674633856329354 := ()
def tw14321217754794726648 := ()
def tw654548831366127174 := ()
def tw5114603423877889265 := ()
def tw13213756654854155928 := ()
def tw9268954550630541843 := ()
def tw576875654011977411 := ()
def tw6157750486395646646 := ()
def tw3063323620411031854 := ()
def tw11852074731726920578 := ()
def tw11740342450261157724 := ()
def tw6266846830184035850 := ()
def tw5424913064233696843 := ()
def tw9131582184164795658 := ()
def tw14172995279159024394 := ()
def tw9745177429122766067 := ()
def tw4721771943266385930 := ()
def tw328913654287078889 := ()
def tw12526791393861036414 := ()
def tw8679662164762744289 := ()
def tw6647079865091054423 := ()
def tw11219455451498552372 := ()
def tw3146755923316025268 := ()
def tw18047163588406633826 := ()
def tw13395596173724182043 := ()
def tw490774553617591423 := ()
def tw11929006665655120294 := ()
def tw13461169041059257153 := ()
def tw4585167021704561272 := ()
def tw14226111938783910750 := ()
def tw18324130704860265271 := ()
def tw4857512259039952708 := ()
def tw16254439647562185236 := ()
def tw17303417156837540129 := ()
def tw10275637195094912414 := ()
def tw13154083254241279840 := ()
def tw8812511858961015730 := ()
def tw534642970037097318 := ()
def tw939075006646604353 := ()
def tw128371941294111331 := ()
def tw1128331624338581114 := ()
def tw626197116678417988 := ()
def tw5363468215319272644 := ()
def tw13675871937340273235 := ()
def tw17502369247310580636 := ()
def tw11320753782943952000 := ()
def tw8267386548498962000 := ()
def tw12952546748701663445 := ()
def tw5622926319097007660 := ()
def tw1649676303112779660 := ()
def tw12567326338957216940 := ()
def tw2493833543111845601 := ()
def tw16931468567588576394 := ()
def tw7564653065069621573 := ()
def tw7228824444552295279 := ()
def tw15449886129259747206 := ()
def tw5615690667922087464 := ()
def tw16804085221256960293 := ()
def tw4313145458933684368 := ()
def tw4772367608592844535 := ()
def tw5649032579035174114 := ()
def tw9313043363061373332 := ()
def tw10934186621915382020 := ()
def tw11487727098230481688 := ()
end PySem.W.Fast
open PySem PySem.W PyProof.Rows
set_option maxRecDepth 100000 in
set_option maxHeartbeats 0 in
theorem PySem.Challenge.cw_reelcut_k43_whole_the_most_holds : PySem.Challenge.rw_reelcut_k43_whole_the_most.Holds := by
 w_on;o_law;k_head;(case hw=>w_witness2)
 k_fill
 refine Lw.walk (l:=PySem.Challenge.rw_reelcut_k43_whole_the_most) rfl rfl (fun w h Y=>PySem.W.kIn_of Y) ?F
 case F=>
  intro w mg fa h KX G hmg
  refine' Lw.all_mk KX G hmg (Lw.df_mk ?a0 ?l0 ?c0 ?k0) (Lw.df_mk ?a1 ?l1 ?c1 ?k1) (Lw.df_mk ?a2 ?l2 ?c2 ?k2) (Lw.df_mk ?a3 ?l3 ?c3 ?k3) (Lw.df_mk ?a4 ?l4 ?c4 ?k4) (Lw.df_mk ?a5 ?l5 ?c5 ?k5) (Lw.df_mk ?a6 ?l6 ?c6 ?k6) (Lw.df_mk ?a7 ?l7 ?c7 ?k7) (Lw.df_mk ?a8 ?l8 ?c8 ?k8) (Lw.df_mk ?a9 ?l9 ?c9 ?k9) (Lw.df_mk ?a10 ?l10 ?c10 ?k10) (Lw.df_mk ?a11 ?l11 ?c11 ?k11) (Lw.df_mk ?a12 ?l12 ?c12 ?k12) (Lw.df_mk ?a13 ?l13 ?c13 ?k13) (Lw.df_mk ?a14 ?l14 ?c14 ?k14) (Lw.df_mk ?a15 ?l15 ?c15 ?k15) (Lw.df_mk ?a16 ?l16 ?c16 ?k16) (Lw.df_mk ?a17 ?l17 ?c17 ?k17) (Lw.df_mk ?a18 ?l18 ?c18 ?k18) (Lw.df_mk ?a19 ?l19 ?c19 ?k19) (Lw.df_mk ?a20 ?l20 ?c20 ?k20) (Lw.df_mk ?a21 ?l21 ?c21 ?k21) (Lw.df_mk ?a22 ?l22 ?c22 ?k22) (Lw.df_mk ?a23 ?l23 ?c23 ?k23) (Lw.df_mk ?a24 ?l24 ?c24 ?k24) (Lw.df_mk ?a25 ?l25 ?c25 ?k25) (Lw.df_mk ?a26 ?l26 ?c26 ?k26) (Lw.df_mk ?a27 ?l27 ?c27 ?k27) (Lw.df_mk ?a28 ?l28 ?c28 ?k28) (Lw.df_mk ?a29 ?l29 ?c29 ?k29) (Lw.df_mk ?a30 ?l30 ?c30 ?k30) (Lw.df_mk ?a31 ?l31 ?c31 ?k31) (Lw.df_mk ?a32 ?l32 ?c32 ?k32) (Lw.df_mk ?a33 ?l33 ?c33 ?k33) (Lw.df_mk ?a34 ?l34 ?c34 ?k34) (Lw.df_mk ?a35 ?l35 ?c35 ?k35) (Lw.df_mk ?a36 ?l36 ?c36 ?k36) (Lw.df_mk ?a37 ?l37 ?c37 ?k37) (Lw.df_mk ?a38 ?l38 ?c38 ?k38) (Lw.df_mk ?a39 ?l39 ?c39 ?k39) (Lw.df_mk ?a40 ?l40 ?c40 ?k40) (Lw.df_mk ?a41 ?l41 ?c41 ?k41) (Lw.df_mk ?a42 ?l42 ?c42 ?k42) (Lw.df_mk ?a43 ?l43 ?c43 ?k43) (Lw.df_mk ?a44 ?l44 ?c44 ?k44) (Lw.df_mk ?a45 ?l45 ?c45 ?k45) (Lw.df_mk ?a46 ?l46 ?c46 ?k46) (Lw.df_mk ?a47 ?l47 ?c47 ?k47) (Lw.df_mk ?a48 ?l48 ?c48 ?k48) (Lw.df_mk ?a49 ?l49 ?c49 ?k49) (Lw.df_mk ?a50 ?l50 ?c50 ?k50) (Lw.df_mk ?a51 ?l51 ?c51 ?k51) (Lw.df_mk ?a52 ?l52 ?c52 ?k52) (Lw.df_mk ?a53 ?l53 ?c53 ?k53) (Lw.df_mk ?a54 ?l54 ?c54 ?k54) (Lw.df_mk ?a55 ?l55 ?c55 ?k55) (Lw.df_mk ?a56 ?l56 ?c56 ?k56) (Lw.df_mk ?a57 ?l57 ?c57 ?k57) (Lw.df_mk ?a58 ?l58 ?c58 ?k58) (Lw.df_mk ?a59 ?l59 ?c59 ?k59) (Lw.df_mk ?a60 ?l60 ?c60 ?k60) (Lw.df_mk ?a61 ?l61 ?c61 ?k61) (Lw.df_mk ?a62 ?l62 ?c62 ?k62) (Lw.df_mk ?a63 ?l63 ?c63 ?k63) (Lw.df_mk ?a64 ?l64 ?c64 ?k64) (Lw.df_mk ?a65 ?l65 ?c65 ?k65) (Lw.df_mk ?a66 ?l66 ?c66 ?k66) (Lw.df_mk ?a67 ?l67 ?c67 ?k67) (Lw.df_mk ?a68 ?l68 ?c68 ?k68) (Lw.df_mk ?a69 ?l69 ?c69 ?k69) (Lw.df_mk ?a70 ?l70 ?c70 ?k70) (Lw.df_mk ?a71 ?l71 ?c71 ?k71) (Lw.df_mk ?a72 ?l72 ?c72 ?k72) (Lw.df_mk ?a73 ?l73 ?c73 ?k73) (Lw.df_mk ?a74 ?l74 ?c74 ?k74) (Lw.df_mk ?a75 ?l75 ?c75 ?k75) (Lw.df_mk ?a76 ?l76 ?c76 ?k76) (Lw.df_mk ?a77 ?l77 ?c77 ?k77) (Lw.df_mk ?a78 ?l78 ?c78 ?k78) (Lw.df_mk ?a79 ?l79 ?c79 ?k79) (Lw.df_mk ?a80 ?l80 ?c80 ?k80) (Lw.df_mk ?a81 ?l81 ?c81 ?k81) (Lw.df_mk ?a82 ?l82 ?c82 ?k82) (Lw.df_mk ?a83 ?l83 ?c83 ?k83) (Lw.df_mk ?a84 ?l84 ?c84 ?k84) (Lw.df_mk ?a85 ?l85 ?c85 ?k85) (Lw.df_mk ?a86 ?l86 ?c86 ?k86) (Lw.df_mk ?a87 ?l87 ?c87 ?k87) (Lw.df_mk ?a88 ?l88 ?c88 ?k88) (Lw.df_mk ?a89 ?l89 ?c89 ?k89) (Lw.df_mk ?a90 ?l90 ?c90 ?k90) (Lw.df_mk ?a91 ?l91 ?c91 ?k91) (Lw.gl_mk ?xg0) (Lw.gl_mk ?xg1) (Lw.gl_mk ?xg2) (Lw.gl_mk ?xg3) (Lw.gl_mk ?xg4) (Lw.gl_mk ?xg5) ?x_NoPlace ?x_Mixed ?ySS ?e_Short ?f_most (Lw.gl_mk ?xz0) (Lw.gl_mk ?xz1) (Lw.gl_mk ?xz2) (Lw.gl_mk ?xz3) (Lw.gl_mk ?xz4) (Lw.gl_mk ?xz5) (Lw.gl_mk ?xz6) (Lw.gl_mk ?xz7) (Lw.gl_mk ?xz8) (Lw.gl_mk ?xz9) (Lw.gl_mk ?xz10) (Lw.gl_mk ?xz11) (Lw.gl_mk ?xz12) (Lw.gl_mk ?xz13) (Lw.gl_mk ?xz14) (Lw.gl_mk ?xz15) (Lw.gl_mk ?xcLETTERS) (Lw.gl_mk ?xcLONGEST_NAME) (Lw.gl_mk ?xcMOST_ROOM) (Lw.gl_mk ?xcNOUGHT) ?xlNOUGHT (Lw.gl_mk ?xcMOST_BY) (Lw.gl_mk ?xcROLLS) ?xlROLLS (Lw.gl_mk ?xcLAYS) ?xlLAYS (Lw.gl_mk ?xcPUSHES) ?xlPUSHES (Lw.gl_mk ?xcCHANGES) ?xlCHANGES (Lw.gl_mk ?xcWHOLE_SHARE) ?xlWHOLE_SHARE ?iaShort ?ilShort ?icShort ?ikShort ?ifShort ?ivShort ?ihShort ?isShort ?ixShort ?itShort
  (case a0 | l0 | c0 | k0 | a1 | l1 | c1 | k1 | a2 | l2 | c2 | k2 | a3 | l3 | c3 | k3 | a4 | l4 | c4 | k4 | a5 | l5 | c5 | k5 | a6 | l6 | c6 | k6 | a7 | l7 | c7 | k7 | a8 | l8 | c8 | k8 | a9 | l9 | c9 | k9 | a10 | l10 | c10 | k10 | a11 | l11 | c11 | k11 | a12 | l12 | c12 | k12 | a13 | l13 | c13 | k13 | a14 | l14 | c14 | k14 | a15 | l15 | c15 | k15 | a16 | l16 | c16 | k16 | a17 | l17 | c17 | k17 | a18 | l18 | c18 | k18 | a19 | l19 | c19 | k19 | a20 | l20 | c20 | k20 | a21 | l21 | c21 | k21 | a22 | l22 | c22 | k22 | a23 | l23 | c23 | k23 | a24 | l24 | c24 | k24 | a25 | l25 | c25 | k25 | a26 | l26 | c26 | k26 | a27 | l27 | c27 | k27 | a28 | l28 | c28 | k28 | a29 | l29 | c29 | k29 | a30 | l30 | c30 | k30 | a31 | l31 | c31 | k31 | a32 | l32 | c32 | k32 | a33 | l33 | c33 | k33 | a34 | l34 | c34 | k34 | a35 | l35 | c35 | k35 | a36 | l36 | c36 | k36 | a37 | l37 | c37 | k37 | a38 | l38 | c38 | k38 | a39 | l39 | c39 | k39 | a40 | l40 | c40 | k40 | a41 | l41 | c41 | k41 | a42 | l42 | c42 | k42 | a43 | l43 | c43 | k43 | a44 | l44 | c44 | k44 | a45 | l45 | c45 | k45 | a46 | l46 | c46 | k46 | a47 | l47 | c47 | k47 | a48 | l48 | c48 | k48 | a49 | l49 | c49 | k49 | a50 | l50 | c50 | k50 | a51 | l51 | c51 | k51 | a52 | l52 | c52 | k52 | a53 | l53 | c53 | k53 | a54 | l54 | c54 | k54 | a55 | l55 | c55 | k55 | a56 | l56 | c56 | k56 | a57 | l57 | c57 | k57 | a58 | l58 | c58 | k58 | a59 | l59 | c59 | k59 | a60 | l60 | c60 | k60 | a61 | l61 | c61 | k61 | a62 | l62 | c62 | k62 | a63 | l63 | c63 | k63 | a64 | l64 | c64 | k64 | a65 | l65 | c65 | k65 | a66 | l66 | c66 | k66 | a67 | l67 | c67 | k67 | a68 | l68 | c68 | k68 | a69 | l69 | c69 | k69 | a70 | l70 | c70 | k70 | a71 | l71 | c71 | k71 | a72 | l72 | c72 | k72 | a73 | l73 | c73 | k73 | a74 | l74 | c74 | k74 | a75 | l75 | c75 | k75 | a76 | l76 | c76 | k76 | a77 | l77 | c77 | k77 | a78 | l78 | c78 | k78 | a79 | l79 | c79 | k79 | a80 | l80 | c80 | k80 | a81 | l81 | c81 | k81 | a82 | l82 | c82 | k82 | a83 | l83 | c83 | k83 | a84 | l84 | c84 | k84 | a85 | l85 | c85 | k85 | a86 | l86 | c86 | k86 | a87 | l87 | c87 | k87 | a88 | l88 | c88 | k88 | a89 | l89 | c89 | k89 | a90 | l90 | c90 | k90 | a91 | l91 | c91 | k91 | xg0 | xg1 | xg2 | xg3 | xg4 | xg5=>k_is)
  (case x_NoPlace=>(unfold L3.OwnX;kernel_rfl))
  (case x_Mixed=>(unfold L3.OwnX;kernel_rfl))
  (case ySS=>kernel_rfl)
  (case e_Short=>exact⟨by k_is,by k_is,by k_is,by k_is,by k_is,by k_is,by k_is⟩)
  (case f_most | xz0 | xz1 | xz2 | xz3 | xz4 | xz5 | xz6 | xz7 | xz8 | xz9 | xz10 | xz11 | xz12 | xz13 | xz14 | xz15 | xcLETTERS | xcLONGEST_NAME | xcMOST_ROOM | xcNOUGHT | xlNOUGHT | xcMOST_BY | xcROLLS | xlROLLS | xcLAYS | xlLAYS | xcPUSHES | xlPUSHES | xcCHANGES | xlCHANGES | xcWHOLE_SHARE | xlWHOLE_SHARE | iaShort | ilShort | icShort | ikShort | ifShort=>k_is)
  (case ivShort=>(unfold L3.exOver;kernel_rfl))
  (case ihShort | isShort=>k_is)
  (case ixShort=>(unfold L3.excInitIn;kernel_rfl))
  (case itShort=>k_is)

import PyProof.Rows.All
import Wide.All
import OpenK.AllK
import Wide.FinOn
import Lean
import PyProof.EqAt
import PyProof.EqKinds
import PyProof.TupleCall
import PyProof.StrLawsTight
import KE.KIntText
import KE.KxPart
import KE.KDictLaws
import KE.KMinKey
import PySem.Challenge.RW_reelcut_k24_rooms_refused
set_option maxHeartbeats 4000000
set_option Elab.async false
set_option linter.all false
set_option maxRecDepth 100000
namespace L2
open PySem PySem.Spec PyProof.Rows
abbrev Key:=Sum Int Str
def qFz:Key→Value→Bool
 | .inl k,v=>Value.isInt k v
 | .inr x,v=>Value.isStrOf x v
def qQa (w:World):Key→Int
 | .inl k=>hashInt k
 | .inr x=>hashStr w x
theorem jC:∀ {k:Key} {v:Value},qFz k v=true→(∃ i t,k=Sum.inl i∧v=Value.int i t)∨(∃ x t,k=Sum.inr x∧v=Value.str x t)
 | .inl i,v,h=>by
  obtain⟨t,e⟩:=Value.isInt_shape (k:=i) (v:=v) h
  exact .inl ⟨i,t,rfl,e⟩
 | .inr x,v,h=>by
  obtain⟨t,e⟩:=Value.isStrOf_shape (x:=x) (v:=v) h
  exact .inr ⟨x,t,rfl,e⟩
theorem qIu (i:Int)(t:Tok):qFz (.inl i) (.int i t)=true:=by simp [qFz,Value.isInt]
theorem qH3 (x:Str)(t:Tok):qFz (.inr x) (.str x t)=true:=by simp [qFz,Value.isStrOf]
theorem qNc (a b:Int):decide ((Sum.inl a:Key)=Sum.inl b)=(a == b):=by
 by_cases e:a=b
 · subst e;simp
 · have h:¬ (Sum.inl a:Key)=Sum.inl b:=fun q=>e (Sum.inl.inj q)
   rw [decide_eq_false h]
   exact(beq_eq_false_iff_ne.mpr e).symm
theorem qM3 (a b:Str):decide ((Sum.inr a:Key)=Sum.inr b)=decide (a=b):=by
 by_cases e:a=b
 · subst e;simp
 · have h:¬ (Sum.inr a:Key)=Sum.inr b:=fun q=>e (Sum.inr.inj q)
   rw [decide_eq_false h,decide_eq_false e]
theorem qNh (a:Int)(b:Str):decide ((Sum.inl a:Key)=Sum.inr b)=false:=decide_eq_false (fun q=>nomatch q)
theorem qNm (a:Str)(b:Int):decide ((Sum.inr a:Key)=Sum.inl b)=false:=decide_eq_false (fun q=>nomatch q)
def qx (prog:Program)(w:World):PySem.KeyKind prog w Key where
 is:=qFz
 hash:=qQa w
 inj:=fun v a b ha hb=>by
  rcases jC ha with ⟨i,t,rfl,rfl⟩ | ⟨x,t,rfl,rfl⟩
  · rcases jC hb with ⟨j,u,rfl,e⟩ | ⟨y,u,rfl,e⟩
    · injection e with e1 _;rw [e1]
    · exact nomatch e
  · rcases jC hb with ⟨j,u,rfl,e⟩ | ⟨y,u,rfl,e⟩
    · exact nomatch e
    · injection e with e1 _;rw [e1]
 byValue:=fun k v h=>by
  rcases jC h with ⟨i,t,rfl,rfl⟩ | ⟨x,t,rfl,rfl⟩ <;> rfl
 pyHash:=fun hv h=>by
  rcases jC hv with ⟨i,t,rfl,rfl⟩ | ⟨x,t,rfl,rfl⟩
  · exact wpAny_pyHash_int h
  · exact wpAny_pyHash_str h
 eqBool:=fun hu hv h=>by
  rcases jC hu with ⟨i,t,rfl,rfl⟩ | ⟨x,t,rfl,rfl⟩
  · rcases jC hv with ⟨j,u,rfl,rfl⟩ | ⟨y,u,rfl,rfl⟩
    · rw [qNc] at h;exact wpAny_eqBool_int h
    · rw [qNh] at h;exact SeqAt.EqAt.int_str i t y u _ _ _ _ h
  · rcases jC hv with ⟨j,u,rfl,rfl⟩ | ⟨y,u,rfl,rfl⟩
    · rw [qNm] at h;exact SeqAt.EqAt.str_int x t j u _ _ _ _ h
    · rw [qM3] at h;exact wpAny_eqBool_str h
 «strs»:=fun k x t v h=>by
  rcases jC h with ⟨i,u,rfl,e⟩ | ⟨y,u,rfl,e⟩
  · exact nomatch e
  · injection e with e1 _
    subst e1
    cases v <;> rfl
theorem qEz (prog:Program)(w:World)(i:Int)(t:Tok):(qx prog w).is (.inl i) (.int i t)=true:=qIu i t
theorem qE4 (prog:Program)(w:World)(x:Str)(t:Tok):(qx prog w).is (.inr x) (.str x t)=true:=qH3 x t
end L2
namespace L2
open PySem PySem.Spec PyProof.Rows
inductive V where
 | non | bl (b:Bool) | int (i:Int) | str (x:Str) | byt (b:Array UInt8) | flt (b:UInt64) | ref (a:Addr) | ty (n:String)
 deriving DecidableEq
def RelV:V→Value→Prop
 | .non,u=>u=Value.none
 | .bl b,u=>u=Value.bool b
 | .int i,u=>∃ t,u=Value.int i t
 | .str x,u=>∃ t,u=Value.str x t
 | .byt b,u=>∃ t,u=Value.bytes b t
 | .flt b,u=>∃ t,u=Value.float b t
 | .ref a,u=>u=Value.ref a
 | .ty n,u=>u=Value.type n
abbrev Vals:List V→List Value→Prop:=Paired RelV
theorem Vals.length {xs:List V}{us:List Value}(r:Vals xs us):xs.length=us.length:=Paired.length r
theorem Vals.get:∀ {xs:List V} {us:List Value} {i:Nat} {x:V},Vals xs us→xs[i]? =some x→∃ u,us[i]? =some u∧RelV x u
 | _,_,_,_,.nil,e=>by simp at e
 | _,_,0,_,.cons r _,e=>by simp at e;subst e;exact⟨_,rfl,r⟩
 | _,_,i+1,x,.cons _ t,e=>by
  obtain⟨u,h1,h2⟩:=Vals.get (i:=i) (x:=x) t (by simpa using e)
  exact⟨u,by simpa using h1,h2⟩
theorem Vals.set {x:V}{u:Value}(r:RelV x u):∀ {xs:List V} {us:List Value} (i:Nat),Vals xs us→Vals (xs.set i x) (us.set i u)
 | _,_,_,.nil=>.nil
 | _,_,0,.cons _ t=>.cons r t
 | _,_,i+1,.cons q t=>.cons q (Vals.set r i t)
theorem Vals.append:∀ {xs ys:List V} {us ws:List Value},Vals xs us→Vals ys ws→Vals (xs++ys) (us++ws)
 | _,_,_,_,.nil,s=>s
 | _,_,_,_,.cons r t,s=>.cons r (Vals.append t s)
theorem Vals.take:∀ {xs:List V} {us:List Value} (n:Nat),Vals xs us→Vals (xs.take n) (us.take n)
 | _,_,0,_=>.nil
 | _,_,_+1,.nil=>.nil
 | _,_,n+1,.cons r t=>.cons r (Vals.take n t)
theorem Vals.drop:∀ {xs:List V} {us:List Value} (n:Nat),Vals xs us→Vals (xs.drop n) (us.drop n)
 | _,_,0,r=>r
 | _,_,_+1,.nil=>.nil
 | _,_,n+1,.cons _ t=>Vals.drop n t
def RelO:Option V→Option Value→Prop
 | some v,some u=>RelV v u
 | none,none=>True
 | _,_=>False
def KV {κ:Type}:List (κ × V)→List (κ × Value)→Prop:=Paired fun(p:κ × V) (q:κ × Value)=>p.1=q.1∧RelV p.2 q.2
def kV:Key→V
 | .inl i=>.int i
 | .inr x=>.str x
inductive HO where
 | lst (xs:List V)
 | tup (xs:List V)
 | dK (kvs:List (Key × V)) | dT (kvs:List (List Key × V))
 | set (S:Int→Bool) (n:Nat)
 | ins (C dx:Addr) (fs:List (Str × V))
 | own (x:Addr)
 | xd (fs:List (Str × V))
 | met (f x:Addr)
 | rng (lo hi:Int)
 | frz (o:Obj) (u:HO)
 | tbl (ps:Array Value)
 | ext (φ:Heap→Prop)
abbrev Hp:=Addr→Option HO
def upd (H:Hp)(a:Addr)(o:HO):Hp:=fun b=>if b=a then some o else H b
theorem qB {H:Hp}{a:Addr}{o:HO}:upd H a o a=some o:=by unfold upd;rw [if_pos rfl]
theorem qZ {H:Hp}{a b:Addr}{o:HO}(h:b≠a):upd H a o b=H b:=by unfold upd;rw [if_neg h]
theorem qCq {H:Hp}{a:Addr}{o u:HO}:upd (upd H a o) a u=upd H a u:=by
 funext b;unfold upd;split <;> rfl
theorem zG {H:Hp}{a b:Addr}{o u:HO}(h:H a=some o)(h':H b=some u)(d:o≠u):a≠b:=by
 intro e;subst e;rw [h] at h';exact d (Option.some.inj h')
theorem qH {H:Hp}{a b:Addr}{o:HO}(h:H a=some o)(h':H b=none):a≠b:=by
 intro e;subst e;rw [h] at h';cases h'
section
variable (P : Program) (w : World)
def ObjOk (H:Hp)(h:Heap)(a:Addr):HO→Prop
 | .lst xs=>xs.length≤sizeLine∧∃ (its:List Value) (n:Nat),Vals xs its∧h.get? a=some {cls:=.type "list",data:=.seq its.toArray n}
 | .tup xs=>xs.length≤sizeLine∧∃ its:List Value,Vals xs its∧IsTup h a its.toArray
 | .dK kvs=>kvs.length≤sizeLine∧(a == sysModules)=false∧∃ vs,KV kvs vs∧h.DictOf (qx P w) a vs
 | .dT kvs=>kvs.length≤sizeLine∧(a == sysModules)=false∧∃ xs:List (List Key × Addr × Value),
  Paired (fun(p:List Key × V) (q:List Key × Addr × Value)=>p.1=q.1∧H q.2.1=some (.tup (p.1.map kV))∧RelV p.2 q.2.2) kvs xs∧
  ∃ o es ep,h.get? a=some o∧o.ExactDict∧o.data= .dict es ep∧es.toList=xs.map (entryOfKey (tupleKind (qx P w)))∧(xs.map (·.1)).Nodup
 | .set S n=>h.SetOf (intKind P w) a S n
 | .ins C dx fs=>H dx=some (.own a)∧fs.length≤1000∧dx≠a∧h.get? a=some (PySem.W.instObj C dx)∧
  ∃ mA,h.Ns1 dx mA∧(∀ f,RelO (fs.lookup f) (mA f))∧PySem.Within mA (fs.map (·.1))
 | .own _=>∃ o,h.get? a=some o
 | .xd fs=>∃ mA,h.Ns1 a mA∧∀ f,RelO (fs.lookup f) (mA f)
 | .rng lo hi=>∃ t u v,h.get? a=some {cls:=.type "range",data:=.fields #[.int lo t,.int hi u,.int 1 v]}
 | .frz o u=>h.get? a=some o∧ObjOk H h a u
 | .tbl ps=>h.get? a=some {cls:=.none,data:=.fields ps}
 | .met f x=>h.get? a=some (PySem.W.methodObj (.ref f) (.ref x))
 | .ext φ=>φ h∧(∃ o,h.get? a=some o)∧∀ h1 h2:Heap,φ h1→(∀ o,h1.get? a=some o→h2.get? a=some o)→φ h2
def HOk (H:Hp)(h:Heap):Prop:=∀ a o,H a=some o→ObjOk P w H h a o
end
section
variable {P : Program} {w : World} {H H' : Hp} {h h' : Heap} {a : Addr} {o : HO}
theorem ObjOk.lt (x:ObjOk P w H h a o):a < h.objs.size:=by
 cases o with
 | lst xs=>obtain⟨_,_,_,_,e⟩:=x;exact Heap.lt_size e
 | tup xs=>obtain⟨_,_,_,p⟩:=x;exact p.lt
 | dK kvs=>obtain⟨_,_,_,_,o,_,_,e,_⟩:=x;exact Heap.lt_size e
 | dT kvs=>obtain⟨_,_,_,_,o,_,_,e,_⟩:=x;exact Heap.lt_size e
 | set S n=>obtain⟨o,_,_,_,e,_⟩:=x;exact Heap.lt_size e
 | ins C dx fs=>obtain⟨_,_,_,e,_⟩:=x;exact Heap.lt_size e
 | own y=>obtain⟨_,e⟩:=x;exact Heap.lt_size e
 | xd fs=>obtain⟨_,⟨_,_,_,e,_⟩,_⟩:=x;exact Heap.lt_size e
 | rng lo hi=>obtain⟨_,_,_,e⟩:=x;exact Heap.lt_size e
 | frz ob u=>obtain⟨e,_⟩:=x;exact Heap.lt_size e
 | tbl ps=>exact Heap.lt_size (show h.get? a=some _ from x)
 | met f y=>exact Heap.lt_size (show h.get? a=some _ from x)
 | ext φ=>obtain⟨_,⟨_,e⟩,_⟩:=x;exact Heap.lt_size e
theorem Paired.mapP {α β:Type}{F G:α→β→Prop}:∀ {l₁:List α} {l₂:List β},Paired F l₁ l₂→(∀ a b,F a b→G a b)→Paired G l₁ l₂
 | _,_,.nil,_=>.nil
 | _,_,.cons r t,f=>.cons (f _ _ r) (Paired.mapP t f)
theorem ObjOk.stay (x:ObjOk P w H h a o)(k:∀ b u,(b=a∨H b=some (.own a))→h.get? b=some u→h'.get? b=some u)
 (ho:∀ b,H b=some (.own a)→H' b=some (.own a)) (ht:∀ b xs,H b=some (.tup xs)→H' b=some (.tup xs)):ObjOk P w H' h' a o:=by
 induction o with
 | lst xs=>obtain⟨z,its,n,r,e⟩:=x;exact⟨z,its,n,r,k _ _ (.inl rfl) e⟩
 | tup xs=>obtain⟨z,its,r,ob,e,c⟩:=x;exact⟨z,its,r,ob,k _ _ (.inl rfl) e,c⟩
 | dK kvs=>obtain⟨z,y,vs,r,ob,es,ep,e,c⟩:=x;exact⟨z,y,vs,r,ob,es,ep,k _ _ (.inl rfl) e,c⟩
 | dT kvs=>
  obtain⟨z,y,xs,r,ob,es,ep,e,c⟩:=x
  exact⟨z,y,xs,Paired.mapP r fun p q z=>⟨z.1,ht _ _ z.2.1,z.2.2⟩,ob,es,ep,k _ _ (.inl rfl) e,c⟩
 | set S n=>obtain⟨ob,es,ep,t,e,c⟩:=x;exact⟨ob,es,ep,t,k _ _ (.inl rfl) e,c⟩
 | ins C dx fs=>
  obtain⟨d,z,ne,e,mA,⟨od,es,ep,e2,c⟩,r⟩:=x
  exact⟨ho _ d,z,ne,k _ _ (.inl rfl) e,mA,⟨od,es,ep,k _ _ (.inr d) e2,c⟩,r⟩
 | own y=>obtain⟨ob,e⟩:=x;exact⟨ob,k _ _ (.inl rfl) e⟩
 | xd fs=>obtain⟨mA,⟨od,es,ep,e,c⟩,r⟩:=x;exact⟨mA,⟨od,es,ep,k _ _ (.inl rfl) e,c⟩,r⟩
 | rng lo hi=>obtain⟨t,u,v,e⟩:=x;exact⟨t,u,v,k _ _ (.inl rfl) e⟩
 | frz ob u ih=>obtain⟨e,q⟩:=x;exact⟨k _ _ (.inl rfl) e,ih q⟩
 | tbl ps=>
  have e:h.get? a=some {cls:=.none,data:=.fields ps}:=x
  show h'.get? a=some {cls:=.none,data:=.fields ps}
  exact k a _ (.inl rfl) e
 | met f y=>
  have e:h.get? a=some (PySem.W.methodObj (.ref f) (.ref y)):=x
  show h'.get? a=some (PySem.W.methodObj (.ref f) (.ref y))
  exact k a _ (.inl rfl) e
 | ext φ=>obtain⟨p,⟨o,e⟩,st⟩:=x;exact⟨st _ _ p fun o q=>k _ _ (.inl rfl) q,⟨o,k _ _ (.inl rfl) e⟩,st⟩
theorem HOk.lt (x:HOk P w H h)(e:H a=some o):a < h.objs.size:=(x a o e).lt
theorem HOk.fresh (x:HOk P w H h)(e:h.objs.size≤a):H a=none:=by
 cases q:H a with
 | none=>rfl
 | some u=>exact absurd (Nat.lt_of_lt_of_le (x.lt q) e) (Nat.lt_irrefl _)
theorem HOk.kept (x:HOk P w H h)(k:∀ b u,h.get? b=some u→h'.get? b=some u):HOk P w H h':=fun a o e=>
 (x a o e).stay (fun b u _ q=>k b u q) (fun _ q=>q) fun _ _ q=>q
theorem HOk.laid (x:HOk P w H h)(k:∀ b u,h.get? b=some u→h'.get? b=some u)(hp:h.objs.size≤a)(new:ObjOk P w (upd H a o) h' a o):HOk P w (upd H a o) h':=fun b u e=>by
 have hn:=x.fresh hp
 by_cases hb:b=a
 · subst hb;rw [qB] at e;cases e;exact new
 · rw [qZ hb] at e
   exact(x b u e).stay (fun c v _ q=>k c v q) (fun c q=>by rw [qZ (qH q hn)];exact q) fun c xs q=>by rw [qZ (qH q hn)];exact q
end
def Rd (H:Hp)(a:Addr)(u:HO):Prop:=H a=some u∨∃ o,H a=some (.frz o u)
theorem Rd.ok {P:Program}{w:World}{H:Hp}{h:Heap}{a:Addr}{u:HO}(r:Rd H a u)(x:HOk P w H h):ObjOk P w H h a u:=by
 rcases r with r | ⟨o,r⟩
 · exact x a u r
 · obtain⟨_,q⟩:=x a _ r
   exact q
def Mut:Option HO→Prop
 | some (.lst _)=>True
 | some (.dK _)=>True
 | some (.dT _)=>True
 | some (.set _ _)=>True
 | some (.ins _ _ _)=>True
 | some (.ext _)=>True
 | _=>False
section
variable {P : Program} {w : World} {H : Hp} {h h' : Heap} {x e : Addr} {o' : HO}
theorem HOk.write (ok:HOk P w H h)(mu:Mut (H x))(he:e=x∨H e=some (.own x))(k:∀ b u,b≠e→h.get? b=some u→h'.get? b=some u)(heo:∃ u,h'.get? e=some u)
 (new:ObjOk P w (upd H x o') h' x o'):HOk P w (upd H x o') h':=fun b u q=>by
 have nown:∀ c y,H c=some (.own y)→c≠x:=fun c y r z=>by subst z;rw [r] at mu;exact mu
 have ntup:∀ c xs,H c=some (.tup xs)→c≠x:=fun c xs r z=>by subst z;rw [r] at mu;exact mu
 by_cases hb:b=x
 · subst hb;rw [qB] at q;cases q;exact new
 · rw [qZ hb] at q
   by_cases hbe:b=e
   · have q':H b=some (.own x):=by
      rcases he with z | z
      · exact absurd (hbe.trans z) hb
      · rw [hbe];exact z
     rw [q] at q';cases q'
     obtain⟨v,hv⟩:=heo
     exact⟨v,by rw [hbe];exact hv⟩
   · refine(ok b u q).stay (fun c v hc r=>k c v ?_ r) (fun c r=>by rw [qZ (nown c b r)];exact r) fun c xs r=>by rw [qZ (ntup c xs r)];exact r
     rcases hc with rfl | hc
     · exact hbe
     · rintro rfl
       rcases he with z | z
       · exact nown c b hc z
       · rw [hc] at z;cases z;exact hb rfl
end
structure Un (fs ex:List Addr)(H H':Hp)(h h':Heap):Prop where
 keep:∀ b o,h.get? b=some o→H b=none→b ∉ fs→b ∉ ex→h'.get? b=some o
 slot:∀ b o,h.get? b=some o→H b=none→b∈fs→b ∉ ex→∃ sl,h'.get? b=some {o with slots:=sl}
 free:∀ b o,h.get? b=some o→H b=none→b ∉ ex→H' b=none
 there:∀ b o,h.get? b=some o→b ∉ ex→∃ o',h'.get? b=some o'
 tups:∀ b xs,H b=some (.tup xs)→H' b=some (.tup xs)
 frzs:∀ b o u,H b=some (.frz o u)→H' b=some (.frz o u)
 tbls:∀ b ps,H b=some (.tbl ps)→∃ more,H' b=some (.tbl (ps++more))
section
variable {fs fs' ex ex' : List Addr} {H H1 H2 : Hp} {h h1 h2 h' : Heap} {a x e : Addr} {o : HO}
theorem Un.any (u:Un fs ex H H1 h h1){b:Addr}{ob:Obj}(q:h.get? b=some ob)(n:H b=none)(hx:b ∉ ex):∃ sl,h1.get? b=some {ob with slots:=sl}:=by
 by_cases hb:b∈fs
 · exact u.slot b ob q n hb hx
 · exact⟨ob.slots,u.keep b ob q n hb hx⟩
theorem Un.trans (a:Un fs ex H H1 h h1)(b:Un fs ex H1 H2 h1 h2):Un fs ex H H2 h h2 where
 keep:=fun c ob q n hc hx=>b.keep c ob (a.keep c ob q n hc hx) (a.free c ob q n hx) hc hx
 slot:=fun c ob q n hc hx=>by
  obtain⟨sl,e1⟩:=a.slot c ob q n hc hx
  obtain⟨sl',e2⟩:=b.slot c _ e1 (a.free c ob q n hx) hc hx
  exact⟨sl',e2⟩
 free:=fun c ob q n hx=>by
  obtain⟨o',e1⟩:=a.there c ob q hx
  exact b.free c o' e1 (a.free c ob q n hx) hx
 there:=fun c ob q hx=>by
  obtain⟨o',e1⟩:=a.there c ob q hx
  exact b.there c o' e1 hx
 tups:=fun c xs q=>b.tups c xs (a.tups c xs q)
 frzs:=fun c ob xs q=>b.frzs c ob xs (a.frzs c ob xs q)
 tbls:=fun c ps q=>by
  obtain⟨m1,e1⟩:=a.tbls c ps q
  obtain⟨m2,e2⟩:=b.tbls c _ e1
  exact⟨m1++m2,by rw [e2,Array.append_assoc]⟩
theorem Un.kept (k:∀ b u,h.get? b=some u→h'.get? b=some u):Un fs ex H H h h':=
 ⟨fun b ob q _ _ _=>k b ob q,fun b ob q _ _ _=>⟨ob.slots,k b ob q⟩,fun _ _ _ n _=>n,fun b ob q _=>⟨ob,k b ob q⟩,fun _ _ q=>q,fun _ _ _ q=>q,fun _ ps q=>⟨#[],by rw [q];simp⟩⟩
theorem Un.refl:Un fs ex H H h h:=Un.kept fun _ _ q=>q
theorem Un.laid (k:∀ b u,h.get? b=some u→h'.get? b=some u)(hp:h.objs.size≤a)(hn:H a=none):Un fs ex H (upd H a o) h h' where
 keep:=fun b u q _ _ _=>k b u q
 slot:=fun b u q _ _ _=>⟨u.slots,k b u q⟩
 free:=fun b u q n _=>by rw [qZ (Nat.ne_of_lt (Nat.lt_of_lt_of_le (Heap.lt_size q) hp))];exact n
 there:=fun b u q _=>⟨u,k b u q⟩
 tups:=fun b xs q=>by rw [qZ (qH q hn)];exact q
 frzs:=fun b u xs q=>by rw [qZ (qH q hn)];exact q
 tbls:=fun b ps q=>⟨#[],by rw [qZ (qH q hn),q];simp⟩
theorem Un.write (mu:Mut (H x))(he:e=x∨H e=some (.own x))(k:∀ b u,b≠e→h.get? b=some u→h'.get? b=some u)(heo:∃ u,h'.get? e=some u):Un fs ex H (upd H x o) h h':=by
 have hx:∀ b,H b=none→b≠x:=fun b n z=>by subst z;rw [n] at mu;exact mu
 have hb:∀ b,H b=none→b≠e:=fun b n z=>by
  subst z
  rcases he with r | r
  · exact hx b n r
  · rw [n] at r;cases r
 have hm:∀ b u,H b=some u→¬ Mut (some u)→b≠x:=fun b u q nm z=>by subst z;rw [q] at mu;exact nm mu
 refine⟨fun b u q n _ _=>k b u (hb b n) q,fun b u q n _ _=>⟨u.slots,k b u (hb b n) q⟩,fun b u q n _=>by rw [qZ (hx b n)];exact n,fun b u q _=>?_,
  fun b xs q=>by rw [qZ (hm b _ q fun z=>z)];exact q,fun b u xs q=>by rw [qZ (hm b _ q fun z=>z)];exact q,fun b ps q=>⟨#[],by rw [qZ (hm b _ q fun z=>z),q];simp⟩⟩
 by_cases hbe:b=e
 · subst hbe;exact heo
 · exact⟨u,k b u hbe q⟩
end
def trk (h:Heap)(H:Hp):List Addr:=(List.range h.objs.size).filter fun a=>(H a).isSome
def qJ3 (h:Heap)(H:Hp):Heap:=PySem.W.hideAll h (trk h H)
theorem qHz (h:Heap)(H:Hp):(qJ3 h H).objs.size=h.objs.size:=PySem.W.hideAll_size _ _
theorem qJs {h:Heap}{H:Hp}{b:Addr}{o:Obj}(e:h.get? b=some o)(n:H b=none):(qJ3 h H).get? b=some o:=
 PySem.W.hideAll_get _ e fun hm=>by
  have q:(H b).isSome=true:=(List.mem_filter.mp hm).2
  rw [n] at q;simp at q
theorem qLd {h:Heap}{H:Hp}{b:Addr}{o:Obj}(e:(qJ3 h H).get? b=some o):h.get? b=some o∧H b=none:=by
 have e':h.get? b=some o:=PySem.W.of_hideAll (trk h H) e
 refine⟨e',?_⟩
 cases q:H b with
 | none=>rfl
 | some x=>
  have hm:b∈trk h H:=List.mem_filter.mpr ⟨List.mem_range.mpr (Heap.lt_size e'),by simp [q]⟩
  have z:(qJ3 h H).get? b=none:=PySem.W.hideAll_none (trk h H) hm
  rw [z] at e;cases e
def qLk (g h:Heap)(L:Addr):List (Addr × Obj):=(List.range h.objs.size).filterMap fun a=>if a=L∨(g.get? a).isSome=true then none else (h.get? a).map fun o=>(a,o)
def kY (g h:Heap)(L d:Addr):List (Addr × Obj):=(qLk g h L).filter fun p=>decide (p.1≠d)
end L2
namespace L2
open PySem PySem.Spec PyProof.Rows
structure Mod (K:PySem.W.Frag)(mg:Str→Option Value)(base:Heap):Prop where
 kin:K.In base
 glob:base.Ns mainGlobals mg
 blt:∃ mb,base.Ns builtinsNs mb∧∀ x:Str,x≠"__name__"→mb x=bootBuiltins x
 nolimit:base.NoLimit
structure Cx where
 prog:Program
 w:World
 K:PySem.W.Frag
 mg:Str→Option Value
 base:Heap
 A:Around
 N:List Str
 s₀:Shared
 H₀:Hp
 env:Env
 outer:List Env
 stack:List Env
 ex:List Addr
 fn:Str→Bool
 calm:Bool
 pn:List (Addr × Obj)
 xe:Value→Shared→Prop
def frs (l:List Env):List Addr:=l.filterMap (·.frame)
abbrev Cx.fs (X:Cx):List Addr:=frs X.outer
def Vis (sc:Scope)(x:Str):Prop:=sc.names.lookup x=some .local∨sc.names.lookup x=some .cell∨sc.names.lookup x=some .free
def Loc (sc:Scope)(x:Str):Prop:=sc.names.lookup x=some .local∨sc.names.lookup x=some .cell
def qQe (env:Env)(h:Heap)(m:Str→Option Value)(x:Str)(u:Value):Prop:=
 (env.kindOf x=some .local∧m x=some u)∨((env.kindOf x=some .cell∨env.kindOf x=some .free)∧∃ c,env.cells.lookup x=some c∧h.IsCell c (some u))
structure Cx.Ok (X:Cx):Prop where
 mod:Mod X.K X.mg X.base
 kind:X.env.scope.kind= .function
 glob:X.env.globals=mainGlobals
 blt:X.env.builtins=builtinsNs
 above:X.s₀.heap.objs.size≤X.env.locals
 inj:∀ x y c,X.env.cells.lookup x=some c→X.env.cells.lookup y=some c→x=y
 has:∀ x,(X.env.kindOf x=some .cell∨X.env.kindOf x=some .free)→∃ c,X.env.cells.lookup x=some c
 cab:∀ x c,X.fn x=true→X.env.cells.lookup x=some c→X.s₀.heap.objs.size≤c
 hd:X.calm=true→X.A.handled=none
 frames:X.A.frames=some X.stack
 stk:X.stack=X.outer∨(X.stack=X.env::X.outer∧X.env.frame=some X.env.locals)
 exf:∀ b∈X.ex,b≠X.env.locals∧∀ x c,X.env.cells.lookup x=some c→c≠b
 bs:∀ b o,X.base.get? b=some o→X.s₀.heap.get? b=some o∧X.H₀ b=none
 bsz:X.base.objs.size≤X.s₀.heap.objs.size
 noex:∀ b o,X.base.get? b=some o→b ∉ X.ex
 exfs:∀ b∈X.ex,b ∉ X.fs
 funs:X.s₀.heap.FunFrames X.base X.outer
 frf:∀ b∈X.fs,X.H₀ b=none
structure Inv (X:Cx)(pins:List (Addr × Obj))(σ:List (Option V))(H:Hp)(s:Shared):Prop where
 ok:X.Ok
 os:s.os=X.s₀.os
 bare:AllBare s.gens
 base:Un X.fs X.ex X.H₀ H X.s₀.heap s.heap
 loc:∃ m,s.heap.Ns X.env.locals m∧∀ (i:Nat) (x:Str) (v:V),X.N[i]? =some x→σ[i]? =some (some v)→Vis X.env.scope x→∃ u,RelV v u∧qQe X.env s.heap m x u
 cell:∀ x c,X.env.cells.lookup x=some c→∃ v,s.heap.IsCell c v
 free:H X.env.locals=none
 freeC:∀ x c,X.env.cells.lookup x=some c→H c=none
 pin:∀ p∈X.pn++pins,s.heap.get? p.1=some p.2∧H p.1=none∧p.1≠X.env.locals∧p.1 ∉ X.fs∧∀ v,p.2.data≠ .cell v
 hok:HOk X.prog X.w H s.heap
 len:σ.length=X.N.length
section
variable {X : Cx} {pins : List (Addr × Obj)} {σ : List (Option V)} {H H' : Hp} {s : Shared} {h' : Heap}
theorem Cx.Ok.nofr (ok:X.Ok){b:Addr}{o:Obj}(e:X.base.get? b=some o):b ∉ X.fs:=fun hb=>by
 have:=(ok.funs.mem hb).1
 rw [e] at this;cases this
theorem Inv.bs (I:Inv X pins σ H s):∀ b o,X.base.get? b=some o→s.heap.get? b=some o∧H b=none:=fun b o e=>
 ⟨I.base.keep b o (I.ok.bs b o e).1 (I.ok.bs b o e).2 (I.ok.nofr e) (I.ok.noex b o e),I.base.free b o (I.ok.bs b o e).1 (I.ok.bs b o e).2 (I.ok.noex b o e)⟩
theorem Inv.bk (I:Inv X pins σ H s):∀ b o,X.base.get? b=some o→s.heap.get? b=some o:=fun b o e=>(I.bs b o e).1
theorem Inv.mod (I:Inv X pins σ H s):Mod X.K X.mg X.base:=I.ok.mod
theorem Inv.kIn (I:Inv X pins σ H s):X.K.In s.heap:=I.ok.mod.kin.keeps I.bk
theorem Inv.nolimit (I:Inv X pins σ H s):s.heap.NoLimit:=I.ok.mod.nolimit.keeps I.bk
theorem Inv.fr (I:Inv X pins σ H s):∃ m,Fr X.base X.env.locals s.heap m:=
 let ⟨m,hn,_⟩:=I.loc
 ⟨m,hn,I.bk,Nat.le_trans I.ok.bsz I.ok.above⟩
theorem Inv.lt (I:Inv X pins σ H s):X.env.locals < s.heap.objs.size:=let ⟨_,hn,_⟩:=I.loc;hn.lt
theorem Inv.sz (I:Inv X pins σ H s):X.s₀.heap.objs.size≤s.heap.objs.size:=Nat.le_trans I.ok.above (Nat.le_of_lt I.lt)
theorem Inv.nofs (I:Inv X pins σ H s){a:Addr}(h:s.heap.objs.size≤a):a ∉ X.fs:=fun hb=>by
 obtain⟨_,o,ho,_⟩:=I.ok.funs.mem hb
 exact absurd (Nat.lt_of_lt_of_le (Heap.lt_size ho) (Nat.le_trans I.sz h)) (Nat.lt_irrefl _)
theorem Inv.cne (I:Inv X pins σ H s):∀ x c,X.env.cells.lookup x=some c→c≠X.env.locals:=fun x c e z=>by
 obtain⟨v,o,ho,hd⟩:=I.cell x c e
 obtain⟨m,⟨o',es,ep,ho',hd',_⟩,_⟩:=I.loc
 rw [z,ho'] at ho;cases ho;rw [hd'] at hd;cases hd
theorem Inv.funs (I:Inv X pins σ H s):s.heap.FunFrames X.base X.outer:=by
 have all:∀ (l:List Env),(∀ b∈frs l,b∈X.fs)→X.s₀.heap.FunFrames X.base l→s.heap.FunFrames X.base l:=by
  intro l
  induction l with
  | nil=>intro _ _;trivial
  | cons env r ih=>
   intro hs hl
   obtain⟨hk,⟨L,o,hf,hn,ho,hd⟩,hr⟩:=hl
   have hL:L∈X.fs:=hs L (by unfold frs;rw [List.filterMap_cons,hf];exact List.mem_cons_self)
   obtain⟨sl,e⟩:=I.base.slot L o ho (I.ok.frf L hL) hL fun z=>I.ok.exfs L z hL
   exact⟨hk,⟨L,_,hf,hn,e,hd⟩,ih (fun b hb=>hs b (by unfold frs;rw [List.filterMap_cons,hf];exact List.mem_cons_of_mem _ hb)) hr⟩
 exact all X.outer (fun _ hb=>hb) I.ok.funs
theorem Inv.stack (I:Inv X pins σ H s):s.heap.FunFrames X.base X.stack:=by
 rcases I.ok.stk with e | ⟨e,hf⟩
 · rw [e];exact I.funs
 · rw [e]
   obtain⟨m,hn,_⟩:=I.loc
   refine .cons (by rw [I.ok.kind];decide) hf hn ?_ I.funs
   exact Heap.get?_none_of_le (Nat.le_trans I.ok.bsz I.ok.above)
theorem Inv.stkSub (I:Inv X pins σ H s):∀ b∈frs X.stack,b∈X.env.locals::X.fs:=fun b hb=>by
 rcases I.ok.stk with e | ⟨e,hf⟩
 · rw [e] at hb;exact List.mem_cons_of_mem _ hb
 · rw [e] at hb
   unfold frs at hb
   rw [List.filterMap_cons,hf] at hb
   exact hb
theorem Inv.stkFree (I:Inv X pins σ H s):∀ b∈frs X.stack,H b=none:=fun b hb=>by
 rcases List.mem_cons.mp (I.stkSub b hb) with e | hb
 · rw [e];exact I.free
 · obtain⟨_,o,ho,_⟩:=I.ok.funs.mem hb
   exact I.base.free b o ho (I.ok.frf b hb) fun z=>I.ok.exfs b z hb
theorem Inv.step {g':Array GenState}{t':Nat}{d':Drawn}{ch:List Addr}(I:Inv X pins σ H s)
 (hch:∀ b∈ch,(b∈X.ex∨X.s₀.heap.objs.size≤b)∧b≠X.env.locals∧(∀ x c,X.env.cells.lookup x=some c→c≠b)∧∀ p∈X.pn++pins,p.1≠b)
 (keep:∀ b o,b≠X.env.locals→b ∉ X.fs→b ∉ ch→s.heap.get? b=some o→H b=none→h'.get? b=some o)
 (slot:∀ b o,b≠X.env.locals→b∈X.fs→b ∉ ch→s.heap.get? b=some o→H b=none→∃ sl,h'.get? b=some {o with slots:=sl}) (free:∀ b o,b ∉ ch→s.heap.get? b=some o→H b=none→H' b=none)
 (there:∀ b o,b ∉ ch→s.heap.get? b=some o→∃ o',h'.get? b=some o')
 (tups:∀ b xs,H b=some (.tup xs)→H' b=some (.tup xs)) (frzs:∀ b o u,H b=some (.frz o u)→H' b=some (.frz o u)) (tbls:∀ b ps,H b=some (.tbl ps)→∃ more,H' b=some (.tbl (ps++more)))
 (ns:∀ m,s.heap.Ns X.env.locals m→h'.Ns X.env.locals m) (hok:HOk X.prog X.w H' h') (hg:AllBare g'):
 Inv X pins σ H' {s with heap:=h',gens:=g',drawn:=d',toks:=t'}:=by
 have neL:∀ b o,X.s₀.heap.get? b=some o→b≠X.env.locals:=fun b o e=>Nat.ne_of_lt (Nat.lt_of_lt_of_le (Heap.lt_size e) I.ok.above)
 have neC:∀ b o,X.s₀.heap.get? b=some o→b ∉ X.ex→b ∉ ch:=fun b o e hx hb=>by
  rcases (hch b hb).1 with z | z
  · exact hx z
  · exact absurd (Nat.lt_of_lt_of_le (Heap.lt_size e) z) (Nat.lt_irrefl _)
 have cellK:∀ x c,X.env.cells.lookup x=some c→∀ v,s.heap.IsCell c v→h'.IsCell c v:=fun x c e v ⟨o,ho,hd⟩=>by
  have nch:c ∉ ch:=fun z=>(hch c z).2.2.1 x c e rfl
  by_cases hc:c∈X.fs
  · obtain⟨sl,q⟩:=slot c o (I.cne x c e) hc nch ho (I.freeC x c e)
    exact⟨_,q,hd⟩
  · exact⟨o,keep c o (I.cne x c e) hc nch ho (I.freeC x c e),hd⟩
 refine⟨I.ok,I.os,hg,⟨fun b o e n hb hx=>?_,fun b o e n hb hx=>?_,fun b o e n hx=>?_,fun b o e hx=>?_,fun b xs e=>tups b xs (I.base.tups b xs e),fun b o xs e=>frzs b o xs (I.base.frzs b o xs e),fun b ps e=>?_⟩,?_,fun x c e=>?_,?_,fun x c e=>?_,fun p hp=>?_,hok,I.len⟩
 · exact keep b o (neL b o e) hb (neC b o e hx) (I.base.keep b o e n hb hx) (I.base.free b o e n hx)
 · obtain⟨sl,e1⟩:=I.base.slot b o e n hb hx
   obtain⟨sl',e2⟩:=slot b _ (neL b o e) hb (neC b o e hx) e1 (I.base.free b o e n hx)
   exact⟨sl',e2⟩
 · obtain⟨o',e1⟩:=I.base.there b o e hx
   exact free b o' (neC b o e hx) e1 (I.base.free b o e n hx)
 · obtain⟨o',e1⟩:=I.base.there b o e hx
   exact there b o' (neC b o e hx) e1
 · obtain⟨m1,e1⟩:=I.base.tbls b ps e
   obtain⟨m2,e2⟩:=tbls b _ e1
   exact⟨m1++m2,by rw [e2,Array.append_assoc]⟩
 · obtain⟨m,hn,hl⟩:=I.loc
   refine⟨m,ns m hn,fun i x v e1 e2 e3=>?_⟩
   obtain⟨u,r,l⟩:=hl i x v e1 e2 e3
   refine⟨u,r,?_⟩
   rcases l with l | ⟨k,c,e,z⟩
   · exact .inl l
   · exact .inr ⟨k,c,e,cellK x c e _ z⟩
 · obtain⟨v,z⟩:=I.cell x c e
   exact⟨v,cellK x c e v z⟩
 · obtain⟨m,⟨o,_,_,ho,_⟩,_⟩:=I.loc
   exact free _ o (fun z=>(hch _ z).2.1 rfl) ho I.free
 · obtain⟨v,o,ho,hd⟩:=I.cell x c e
   exact free c o (fun z=>(hch c z).2.2.1 x c e rfl) ho (I.freeC x c e)
 · obtain⟨e,n,ne,nf,d⟩:=I.pin p hp
   have nch:p.1 ∉ ch:=fun z=>(hch p.1 z).2.2.2 p hp rfl
   exact⟨keep p.1 p.2 ne nf nch e n,free p.1 p.2 nch e n,ne,nf,d⟩
theorem Inv.un {t':Nat}(I:Inv X pins σ H s)(u:Un X.fs [] H H' s.heap h')(hok:HOk X.prog X.w H' h'):Inv X pins σ H' {s with heap:=h',toks:=t'}:=by
 obtain⟨m,⟨o,es,ep,ho,r⟩,_⟩:=id I.loc
 obtain⟨sl,hL⟩:=u.any ho I.free (by simp)
 exact I.step (g':=s.gens) (d':=s.drawn) (ch:=[]) (fun _ z=>nomatch z) (fun b o _ hb _ e n=>u.keep b o e n hb (by simp)) (fun b o _ hb _ e n=>u.slot b o e n hb (by simp)) (fun b o _ e n=>u.free b o e n (by simp)) (fun b o _ e=>u.there b o e (by simp)) u.tups u.frzs u.tbls (fun m' hm=>by
  obtain⟨o',es',ep',ho',r'⟩:=hm
  rw [ho] at ho';cases ho'
  exact⟨_,es',ep',hL,r'⟩) hok I.bare
theorem Inv.call {g':Array GenState}{t':Nat}{d':Drawn}{ch:List Addr}(I:Inv X pins σ H s)(u:Un (frs X.stack) ch H H' s.heap h')(hok:HOk X.prog X.w H' h')(hg:AllBare g')
 (hch:∀ b∈ch,(b∈X.ex∨X.s₀.heap.objs.size≤b)∧b≠X.env.locals∧(∀ x c,X.env.cells.lookup x=some c→c≠b)∧∀ p∈X.pn++pins,p.1≠b):
 Inv X pins σ H' {s with heap:=h',gens:=g',drawn:=d',toks:=t'}:=by
 obtain⟨m,⟨o,es,ep,ho,r⟩,_⟩:=id I.loc
 obtain⟨sl,hL⟩:=u.any ho I.free fun z=>(hch _ z).2.1 rfl
 exact I.step (ch:=ch) hch (fun b o hL hb hc e n=>u.keep b o e n (fun z=>(List.mem_cons.mp (I.stkSub b z)).elim hL hb) hc) (fun b o _ _ hc e n=>u.any e n hc) (fun b o hc e n=>u.free b o e n hc) (fun b o hc e=>u.there b o e hc) u.tups u.frzs u.tbls (fun m' hm=>by
  obtain⟨o',es',ep',ho',r'⟩:=hm
  rw [ho] at ho';cases ho'
  exact⟨_,es',ep',hL,r'⟩) hok hg
theorem Inv.turned {t':Nat}{it:Addr}(I:Inv X pins σ H s)(k:∀ b o,b≠it→s.heap.get? b=some o→h'.get? b=some o)(hn:H it=none)(hL:it≠X.env.locals)
 (h1:it∈X.ex∨X.s₀.heap.objs.size≤it) (h2:∀ x c,X.env.cells.lookup x=some c→c≠it) (h3:∀ p∈X.pn++pins,p.1≠it):Inv X pins σ H {s with heap:=h',toks:=t'}:=by
 have nit:∀ b u,H b=some u→b≠it:=fun b u e z=>by rw [z,hn] at e;cases e
 refine I.step (g':=s.gens) (d':=s.drawn) (ch:=[it]) (fun b hb=>?_) (fun b o _ _ hc e _=>k b o (fun z=>hc (by simp [z])) e) (fun b o _ _ hc e _=>⟨o.slots,k b o (fun z=>hc (by simp [z])) e⟩) (fun _ _ _ _ n=>n)
  (fun b o hc e=>⟨o,k b o (fun z=>hc (by simp [z])) e⟩) (fun _ _ e=>e) (fun _ _ _ e=>e) (fun b ps e=>⟨#[],by rw [e];simp⟩) (fun m hm=>?_) (fun b u e=>?_) I.bare
 · have e:b=it:=by simpa using hb
   subst e
   exact⟨h1,hL,h2,h3⟩
 · obtain⟨o,es,ep,ho,r⟩:=hm
   exact⟨o,es,ep,k _ o (Ne.symm hL) ho,r⟩
 · refine(I.hok b u e).stay (fun c v hc q=>k c v ?_ q) (fun _ q=>q) fun _ _ q=>q
   rcases hc with z | z
   · rw [z];exact nit b u e
   · exact nit c _ z
theorem Inv.tok (I:Inv X pins σ H s)(t:Nat):Inv X pins σ H {s with toks:=t}:=I.un (h':=s.heap) (t':=t) Un.refl I.hok
theorem Inv.kept {t':Nat}(I:Inv X pins σ H s)(k:∀ b u,s.heap.get? b=some u→h'.get? b=some u):Inv X pins σ H {s with heap:=h',toks:=t'}:=I.un (Un.kept k) (I.hok.kept k)
theorem Inv.laid {a:Addr}{o:HO}{t':Nat}(I:Inv X pins σ H s)(k:∀ b u,s.heap.get? b=some u→h'.get? b=some u)(hp:s.heap.objs.size≤a)(new:ObjOk X.prog X.w (upd H a o) h' a o):
 Inv X pins σ (upd H a o) {s with heap:=h',toks:=t'}:=I.un (Un.laid k hp (I.hok.fresh hp)) (I.hok.laid k hp new)
theorem Inv.write {x e:Addr}{o:HO}{t':Nat}(I:Inv X pins σ H s)(mu:Mut (H x))(he:e=x∨H e=some (.own x))(k:∀ b u,b≠e→s.heap.get? b=some u→h'.get? b=some u)(heo:∃ u,h'.get? e=some u)
 (new:ObjOk X.prog X.w (upd H x o) h' x o):Inv X pins σ (upd H x o) {s with heap:=h',toks:=t'}:=I.un (Un.write mu he k heo) (I.hok.write mu he k heo new)
theorem Inv.weak {σ':List (Option V)}(I:Inv X pins σ H s)(hl:σ'.length=σ.length)(w:∀ (i:Nat) v,σ'[i]? =some (some v)→σ[i]? =some (some v)):Inv X pins σ' H s:=
 ⟨I.ok,I.os,I.bare,I.base,let ⟨m,hn,hl'⟩:=I.loc;⟨m,hn,fun i x v e1 e2 e3=>hl' i x v e1 (w i v e2) e3⟩,I.cell,I.free,I.freeC,I.pin,I.hok,hl.trans I.len⟩
theorem Inv.pins_of {pins':List (Addr × Obj)}(I:Inv X pins σ H s)(h:∀ p∈pins',s.heap.get? p.1=some p.2∧H p.1=none∧p.1≠X.env.locals∧p.1 ∉ X.fs∧∀ v,p.2.data≠ .cell v):Inv X pins' σ H s:=
 ⟨I.ok,I.os,I.bare,I.base,I.loc,I.cell,I.free,I.freeC,fun p hp=>(List.mem_append.mp hp).elim (fun z=>I.pin p (List.mem_append_left _ z)) (h p),I.hok,I.len⟩
theorem qCf {N:List Str}(hN:N.Nodup){i j:Nat}{x:Str}(a:N[i]? =some x)(b:N[j]? =some x):i=j:=by
 obtain⟨h1,e1⟩:=List.getElem?_eq_some_iff.mp a
 obtain⟨h2,e2⟩:=List.getElem?_eq_some_iff.mp b
 exact(List.getElem_inj hN).mp (e1.trans e2.symm)
theorem qEh {M:Model}{A:Around}{E:Value→Shared→Prop}{i:Nat}{x:Str}{v:V}{u:Value}{Q:Unit→Shared→Prop}(I:Inv X pins σ H s)(hN:X.N.Nodup)(hi:X.N[i]? =some x)(hx:Loc X.env.scope x)(r:RelV v u)
 (h:∀ s',Inv X pins (σ.set i (some v)) H s'→(∃ a,Heap.SameBut a s.heap s'.heap∧(a=X.env.locals∨X.env.cells.lookup x=some a))→Q () s') (hf:X.fn x=true∨X.env.scope.names.lookup x=some .local:=by first | exact .inl rfl | exact .inr rfl | assumption):wpAny M A (storeName X.env x u) Q E s:=by
 obtain⟨m,hn,hl⟩:=id I.loc
 have hcls:(X.env.scope.kind == .class || (X.env.scope.kind == .module && X.env.locals != X.env.globals))=false:=by rw [I.ok.kind];rfl
 have hiσ:i < σ.length:=by rw [I.len];exact(List.getElem?_eq_some_iff.mp hi).1
 have cne:=I.cne
 have tracked:∀ {a:Addr} {h':Heap},(∃ o,s.heap.get? a=some o∧H a=none)→Heap.SameBut a s.heap h'→HOk X.prog X.w H h':=fun {a h'} ha hs b ob e=>by
  obtain⟨_,_,hfree⟩:=ha
  refine(I.hok b ob e).stay (fun c w' hc q=>(hs.2 c ?_).trans q) (fun _ q=>q) fun _ _ q=>q
  rintro rfl
  rcases hc with rfl | hc
  · rw [hfree] at e;cases e
  · rw [hfree] at hc;cases hc
 rcases hx with hk | hk
 · refine wpAny_storeName_local hk hn (fun h' hn' hs=>?_) hcls
   obtain⟨oL,_,_,hoL,_⟩:=id hn
   refine h _ ⟨I.ok,I.os,I.bare,⟨fun b o e n hb hx=>?_,fun b o e n hb hx=>?_,I.base.free,fun b o e hx=>?_,I.base.tups,I.base.frzs,I.base.tbls⟩,⟨_,hn',fun j y v' e1 e2 e3=>?_⟩,fun y c e=>?_,I.free,I.freeC,fun p hp=>?_,tracked ⟨oL,hoL,I.free⟩ hs,by simpa using I.len⟩ ⟨_,hs,.inl rfl⟩
   · exact(hs.2 b (Nat.ne_of_lt (Nat.lt_of_lt_of_le (Heap.lt_size e) I.ok.above))).trans (I.base.keep b o e n hb hx)
   · obtain⟨sl,e1⟩:=I.base.slot b o e n hb hx
     exact⟨sl,(hs.2 b (Nat.ne_of_lt (Nat.lt_of_lt_of_le (Heap.lt_size e) I.ok.above))).trans e1⟩
   · obtain⟨o',e1⟩:=I.base.there b o e hx
     exact⟨o',(hs.2 b (Nat.ne_of_lt (Nat.lt_of_lt_of_le (Heap.lt_size e) I.ok.above))).trans e1⟩
   · by_cases hj:j=i
     · subst hj
       rw [hi] at e1;cases e1
       rw [List.getElem?_set_self hiσ] at e2
       cases e2
       exact⟨u,r,.inl ⟨hk,by simp⟩⟩
     · rw [List.getElem?_set_ne (Ne.symm hj)] at e2
       obtain⟨u',r',q⟩:=hl j y v' e1 e2 e3
       refine⟨u',r',?_⟩
       rcases q with ⟨k,e⟩ | ⟨k,c,e,z⟩
       · refine .inl ⟨k,?_⟩
         have:y≠x:=fun e=>hj (qCf hN e1 (e ▸ hi))
         simp [this,e]
       · exact .inr ⟨k,c,e,z.sameBut hs (cne y c e)⟩
   · obtain⟨w',z⟩:=I.cell y c e
     exact⟨w',z.sameBut hs (cne y c e)⟩
   · obtain⟨e,n,ne,nf,d⟩:=I.pin p hp
     exact⟨(hs.2 p.1 ne).trans e,n,ne,nf,d⟩
 · have hfn:X.fn x=true:=by
    rcases hf with z | z
    · exact z
    · rw [z] at hk;cases hk
   obtain⟨c,hc⟩:=I.ok.has x (.inl hk)
   obtain⟨w',z⟩:=I.cell x c hc
   refine wpAny_storeName_cell I.ok.kind hk hc z (fun h' hc' hs=>?_)
   obtain⟨oc,hoc,hocd⟩:=id z
   refine h {s with heap:=h'} ⟨I.ok,I.os,I.bare,⟨fun b o e n hb hx=>?_,fun b o e n hb hx=>?_,I.base.free,fun b o e hx=>?_,I.base.tups,I.base.frzs,I.base.tbls⟩,⟨m,hn.sameBut hs (Ne.symm (cne x c hc)),fun j y v' e1 e2 e3=>?_⟩,fun y c' e=>?_,I.free,I.freeC,fun p hp=>?_,tracked ⟨oc,hoc,I.freeC x c hc⟩ hs,by simpa using I.len⟩ ⟨c,hs,.inr hc⟩
   · exact(hs.2 b (Nat.ne_of_lt (Nat.lt_of_lt_of_le (Heap.lt_size e) (I.ok.cab x c hfn hc)))).trans (I.base.keep b o e n hb hx)
   · obtain⟨sl,e1⟩:=I.base.slot b o e n hb hx
     exact⟨sl,(hs.2 b (Nat.ne_of_lt (Nat.lt_of_lt_of_le (Heap.lt_size e) (I.ok.cab x c hfn hc)))).trans e1⟩
   · obtain⟨o',e1⟩:=I.base.there b o e hx
     exact⟨o',(hs.2 b (Nat.ne_of_lt (Nat.lt_of_lt_of_le (Heap.lt_size e) (I.ok.cab x c hfn hc)))).trans e1⟩
   · by_cases hj:j=i
     · subst hj
       rw [hi] at e1;cases e1
       rw [List.getElem?_set_self hiσ] at e2
       cases e2
       exact⟨u,r,.inr ⟨.inl hk,c,hc,hc'⟩⟩
     · rw [List.getElem?_set_ne (Ne.symm hj)] at e2
       obtain⟨u',r',q⟩:=hl j y v' e1 e2 e3
       refine⟨u',r',?_⟩
       rcases q with q | ⟨k,c',e,z'⟩
       · exact .inl q
       · refine .inr ⟨k,c',e,z'.sameBut hs ?_⟩
         rintro rfl
         exact hj (qCf hN e1 (I.ok.inj _ _ _ e hc ▸ hi))
   · by_cases hcc:c'=c
     · subst hcc;exact⟨_,hc'⟩
     · obtain⟨w2,z2⟩:=I.cell y c' e
       exact⟨w2,z2.sameBut hs hcc⟩
   · obtain⟨e,n,ne,nf,d⟩:=I.pin p hp
     refine⟨(hs.2 p.1 ?_).trans e,n,ne,nf,d⟩
     intro q
     rw [q,hoc] at e
     have q':oc=p.2:=Option.some.inj e
     exact d w' (by rw [← q'];exact hocd)
theorem kF {M:Model}{A:Around}{E:Value→Shared→Prop}{i:Nat}{x:Str}{v:V}{u:Value}{Q:Unit→Shared→Prop}(I:Inv X pins σ H s)(hN:X.N.Nodup)(hi:X.N[i]? =some x)(hx:Loc X.env.scope x)(r:RelV v u)
 (h:∀ s',Inv X pins (σ.set i (some v)) H s'→Q () s') (hf:X.fn x=true∨X.env.scope.names.lookup x=some .local:=by first | exact .inl rfl | exact .inr rfl | assumption):wpAny M A (storeName X.env x u) Q E s:=
 qEh I hN hi hx r (fun s' I' _=>h s' I') hf
theorem Inv.call' {s':Shared}{ch:List Addr}(I:Inv X pins σ H s)(ho:s'.os=s.os)(u:Un (frs X.stack) ch H H' s.heap s'.heap)(hok:HOk X.prog X.w H' s'.heap)(hg:AllBare s'.gens)
 (hch:∀ b∈ch,(b∈X.ex∨X.s₀.heap.objs.size≤b)∧b≠X.env.locals∧(∀ x c,X.env.cells.lookup x=some c→c≠b)∧∀ p∈X.pn++pins,p.1≠b):Inv X pins σ H' s':=by
 obtain⟨h',g',d',t',o'⟩:=s'
 have e:o'=s.os:=ho
 subst e
 exact I.call (g':=g') (t':=t') (d':=d') u hok hg hch
end
abbrev XK:=Value→Option Addr→Hp→Prop
abbrev St:=List (Option V)
abbrev VK:=V→Hp→Prop
abbrev TE:=St→Hp→VK→Prop
abbrev TT:=St→Hp→(Bool→Hp→Prop)→Prop
abbrev TA:=St→Hp→(List V→Hp→Prop)→Prop
structure qHk where
 nx:St→Hp→Prop
 rt:VK
 bk:St→Hp→Prop:=fun _ _=>False
 ct:St→Hp→Prop:=fun _ _=>False
abbrev TS:=qHk→St→Hp→Prop
def EP (X:Cx)(pins:List (Addr × Obj))(σ:St)(Q:VK)(u:Value)(s':Shared):Prop:=∃ v H',Inv X pins σ H' s'∧RelV v u∧Q v H'
def TP (X:Cx)(pins:List (Addr × Obj))(σ:St)(Q:Bool→Hp→Prop)(b:Bool)(s':Shared):Prop:=∃ H',Inv X pins σ H' s'∧Q b H'
def AP (X:Cx)(pins:List (Addr × Obj))(σ:St)(Q:List V→Hp→Prop)(us:List Value)(s':Shared):Prop:=∃ vs H',Inv X pins σ H' s'∧Vals vs us∧Q vs H'
def SP (X:Cx)(pins:List (Addr × Obj))(D:qHk)(f:Flow)(s':Shared):Prop:=
 match f with
 | .next=>∃ σ' H',Inv X pins σ' H' s'∧D.nx σ' H'
 | .brk=>∃ σ' H',Inv X pins σ' H' s'∧D.bk σ' H'
 | .cont=>∃ σ' H',Inv X pins σ' H' s'∧D.ct σ' H'
 | .ret u=>∃ v σ' H',Inv X pins σ' H' s'∧RelV v u∧D.rt v H'
def PE (X:Cx)(e:Expr)(t:TE):Prop:=
 ∀ (pins:List (Addr × Obj)) (s:Shared) (σ:St) (H:Hp) (Q:VK),Inv X pins σ H s→t σ H Q→wpAny (model X.prog X.w) X.A (eval e X.env) (EP X pins σ Q) X.xe s
def PT (X:Cx)(e:Expr)(t:TT):Prop:=
 ∀ (pins:List (Addr × Obj)) (s:Shared) (σ:St) (H:Hp) (Q:Bool→Hp→Prop),Inv X pins σ H s→t σ H Q→wpAny (model X.prog X.w) X.A (isTrue e X.env (eval e X.env)) (TP X pins σ Q) X.xe s
def PW (X:Cx)(e:Expr)(t:TT):Prop:=
 ∀ (whole:Sem Value) (pins:List (Addr × Obj)) (s:Shared) (σ:St) (H:Hp) (Q:Bool→Hp→Prop),Inv X pins σ H s→t σ H Q→wpAny (model X.prog X.w) X.A (isTrue e X.env whole) (TP X pins σ Q) X.xe s
theorem PW.pt {X:Cx}{e:Expr}{t:TT}(h:PW X e t):PT X e t:=h _
def PA (X:Cx)(es:List Expr)(t:TA):Prop:=
 ∀ (pos:Pos) (pins:List (Addr × Obj)) (s:Shared) (σ:St) (H:Hp) (Q:List V→Hp→Prop),Inv X pins σ H s→t σ H Q→wpAny (model X.prog X.w) X.A (spliced (backTo pos (starEach es X.env))) (AP X pins σ Q) X.xe s
def PS (X:Cx)(st:Stmt)(t:TS):Prop:=
 ∀ (pins:List (Addr × Obj)) (s:Shared) (σ:St) (H:Hp) (D:qHk),Inv X pins σ H s→t D σ H→wpAny (model X.prog X.w) X.A (exec st X.env) (SP X pins D) X.xe s
def PSs (X:Cx)(st:List Stmt)(t:TS):Prop:=
 ∀ (pins:List (Addr × Obj)) (s:Shared) (σ:St) (H:Hp) (D:qHk),Inv X pins σ H s→t D σ H→wpAny (model X.prog X.w) X.A (execs st X.env) (SP X pins D) X.xe s
theorem thn {α:Type}{t:Sem α}{Q Q':α→Shared→Prop}{M:Model}{A:Around}{E:Value→Shared→Prop}{s:Shared}(h:wpAny M A t Q E s)(hQ:∀ a s,Q a s→Q' a s):wpAny M A t Q' E s:=wpAny_mono h hQ fun _ _ x=>x
end L2
namespace L2
open PySem PySem.Spec PyProof.Rows
section
variable {X : Cx}
theorem bin {a b:Expr}{ta tb:TE}(ha:PE X a ta)(hb:PE X b tb){pins:List (Addr × Obj)}{s:Shared}{σ:St}{H:Hp}{R:V→V→Hp→Prop}(I:Inv X pins σ H s)(h:ta σ H fun x H1=>tb σ H1 fun y H2=>R x y H2)
 {α:Type} {Q:α→Shared→Prop} {f:Value→Value→Sem α}
 (hf:∀ v u s2 x y H2,Inv X pins σ H2 s2→RelV x v→RelV y u→R x y H2→wpAny (model X.prog X.w) X.A (f v u) Q X.xe s2):
 wpAny (model X.prog X.w) X.A (eval a X.env) (fun v s₁=>wpAny (model X.prog X.w) X.A (eval b X.env) (fun u s₂=>wpAny (model X.prog X.w) X.A (f v u) Q X.xe s₂) X.xe s₁) X.xe s:=by
 refine thn (ha pins s σ H _ I h) fun v s1 ⟨x,H1,I1,r1,q1⟩=>?_
 refine thn (hb pins s1 σ H1 _ I1 q1) fun u s2 ⟨y,H2,I2,r2,q2⟩=>?_
 exact hf v u s2 x y H2 I2 r1 r2 q2
inductive qOk (i:Nat)(σ:L2.St)(H:Hp)(Q:VK):Prop
| mk v (_:σ[i]? =some (some v)) (_:Q v H)
def tC (v:V):TE:=fun _ H Q=>Q v H
theorem qNf {i:Nat}{x:Str}{pos:Pos}(hN:X.N[i]? =some x)(hv:Vis X.env.scope x)(hd:(x == ("__debug__":Str))=false:=by decide)(hcd:(x == ("__classdict__":Str))=false:=by decide):PE X (.Name x pos) (qOk i):=by
 intro pins s σ H Q I h
 obtain⟨v,e,h⟩:=h
 obtain⟨m,hn,hl⟩:=I.loc
 obtain⟨u,r,l⟩:=hl i x v hN e hv
 have fin:EP X pins σ Q u s:=⟨v,H,I,r,h⟩
 rcases l with ⟨hk,hm⟩ | ⟨hk,c,hc,hcell⟩
 · exact wpAny_Name (wpAny_loadName_local I.ok.kind hk hn hm fin) hd
 · rcases hk with hk | hk
   · exact wpAny_Name (wpAny_loadName_cell I.ok.kind hk hc hcell fin) hd
   · exact wpAny_Name (wpAny_loadName_free I.ok.kind hk hc hcell fin hcd) hd
theorem qE {i j pos}:PE X (.Constant (.int i) j pos) (tC (.int i)):=fun _ _ _ H _ I h=>wpAny_Constant_int ⟨.int i,H,I.tok _,⟨_,rfl⟩,h⟩
theorem xq {b j pos}:PE X (.Constant (.bool b) j pos) (tC (.bl b)):=fun _ _ _ H _ I h=>Constant_bool ⟨.bl b,H,I,rfl,h⟩
theorem qGs {j pos}:PE X (.Constant .none j pos) (tC .non):=fun _ _ _ H _ I h=>Constant_none ⟨.non,H,I,rfl,h⟩
theorem qI {x j pos}:PE X (.Constant (.str x) j pos) (tC (.str x)):=fun _ _ _ H _ I h=>Calls.Constant_str ⟨.str x,H,I.tok _,⟨_,rfl⟩,h⟩
def Gl (X:Cx)(x:Str):Prop:=X.env.kindOf x=some .globalImplicit
theorem kc {E:Value→Shared→Prop}{pins:List (Addr × Obj)}{s:Shared}{σ:St}{H:Hp}{x:Str}{u:Value}{pos:Pos}{Q:Value→Shared→Prop}(I:Inv X pins σ H s)(hg:Gl X x)(hm:X.mg x=some u)(h:Q u s)
 (hd:(x == ("__debug__":Str))=false:=by decide):wpAny (model X.prog X.w) X.A (eval (.Name x pos) X.env) Q E s:=
 Calls.Name_function_global I.ok.kind hg (Calls.loadGlobal_global (by rw [I.ok.glob];exact I.mod.glob.keeps I.bk) hm h) hd
theorem qBj {E:Value→Shared→Prop}{pins:List (Addr × Obj)}{s:Shared}{σ:St}{H:Hp}{x:Str}{u:Value}{pos:Pos}{Q:Value→Shared→Prop}(I:Inv X pins σ H s)(hg:Gl X x)(hm:X.mg x=none)(hv:bootBuiltins x=some u)(h:Q u s)
 (hn:x≠"__name__":=by decide) (hd:(x == ("__debug__":Str))=false:=by decide):wpAny (model X.prog X.w) X.A (eval (.Name x pos) X.env) Q E s:=by
 obtain⟨mb,h1,h2⟩:=I.mod.blt
 exact Calls.Name_function_global I.ok.kind hg (Calls.loadGlobal_builtin (by rw [I.ok.glob];exact I.mod.glob.keeps I.bk) hm (by rw [I.ok.blt];exact h1.keeps I.bk) ((h2 x hn).trans hv) h) hd
theorem ju {x:Str}{v:V}{u:Value}{pos:Pos}(hg:Gl X x)(hm:X.mg x=some u)(r:RelV v u)(hd:(x == ("__debug__":Str))=false:=by decide):PE X (.Name x pos) (tC v):=
 fun _ _ _ H _ I h=>kc I hg hm ⟨v,H,I,r,h⟩ hd
theorem qL2 {x:Str}{v:V}{u:Value}{pos:Pos}(hg:Gl X x)(hm:X.mg x=none)(hv:bootBuiltins x=some u)(r:RelV v u)(hn:x≠"__name__":=by decide)(hd:(x == ("__debug__":Str))=false:=by decide):PE X (.Name x pos) (tC v):=
 fun _ _ _ H _ I h=>qBj I hg hm hv ⟨v,H,I,r,h⟩ hn hd
variable {a b : Expr} {ta tb : TE} {pos : Pos}
def PC (X:Cx)(op:CmpOp)(a b:Expr)(t:TE):Prop:=
 ∀ (pins:List (Addr × Obj)) (s:Shared) (σ:St) (H:Hp) (Q:VK),Inv X pins σ H s→t σ H Q→
  wpAny (model X.prog X.w) X.A (eval a X.env) (fun v s₁=>wpAny (model X.prog X.w) X.A (eval b X.env) (fun u s₂=>wpAny (model X.prog X.w) X.A (compareOp op v u) (EP X pins σ Q) X.xe s₂) X.xe s₁) X.xe s
theorem qGk (b:Expr){op:CmpOp}(h:op≠ .In)(h2:op≠ .NotIn):behindInMarks op b=false:=by
 have e1:(op == CmpOp.In)=false:=by cases op <;> first | rfl | exact absurd rfl h
 have e2:(op == CmpOp.NotIn)=false:=by cases op <;> first | rfl | exact absurd rfl h2
 cases b <;> simp [behindInMarks,e1,e2]
def qQh (ta:TE):TE:=fun σ H Q=>ta σ H fun x H1=>Q (.bl (decide (x= .non))) H1
def qPp (ta:TE):TE:=fun σ H Q=>ta σ H fun x H1=>Q (.bl (!decide (x= .non))) H1
theorem RelV.none_iff {x:V}{v:Value}(r:RelV x v):(v == Value.none)=decide (x= .non):=by
 cases x with
 | non=>cases r;rfl
 | bl _=>cases r;rfl
 | int _=>obtain⟨t,rfl⟩:=r;rfl
 | str _=>obtain⟨t,rfl⟩:=r;rfl
 | byt _=>obtain⟨t,rfl⟩:=r;rfl
 | flt _=>obtain⟨t,rfl⟩:=r;rfl
 | ref _=>cases r;rfl
 | ty _=>cases r;rfl
theorem qEb {j pos'}(ha:PE X a ta):PC X .Is a (.Constant .none j pos') (qQh ta):=by
 intro pins s σ H Q I h
 refine thn (ha pins s σ H _ I h) fun v s1 ⟨x,H1,I1,r1,q1⟩=>?_
 exact Constant_none (is_none_gen ⟨.bl _,H1,I1,by rw [r1.none_iff];rfl,q1⟩)
theorem qIq {j pos'}(ha:PE X a ta):PC X .IsNot a (.Constant .none j pos') (qPp ta):=by
 intro pins s σ H Q I h
 refine thn (ha pins s σ H _ I h) fun v s1 ⟨x,H1,I1,r1,q1⟩=>?_
 exact Constant_none (isnot_none_gen ⟨.bl _,H1,I1,by rw [r1.none_iff];rfl,q1⟩)
inductive tBI (Q:Bool→Hp→Prop)(x:V)(H1:Hp):Prop
| mk c (_:x= .bl c) (_:Q c H1)
def tB (t:TE):TT:=fun σ H Q=>t σ H fun x H1=>tBI Q x H1
theorem qH8 {op:CmpOp}{t:TE}(h:PC X op a b t)(h1:behindInMarks op b=false:=by first | exact qGk _ (by decide) (by decide) | rfl):PE X (.Compare a [op] [b] pos) t:=fun pins s σ H Q I hw=>wpAny_Compare1 (h pins s σ H Q I hw) h1
theorem qAs {op:CmpOp}{t:TE}(h:PC X op a b t)(h1:behindInMarks op b=false:=by first | exact qGk _ (by decide) (by decide) | rfl):PT X (.Compare a [op] [b] pos) (tB t):=by
 intro pins s σ H Q I hw
 refine wpAny_isTrue_Compare1 (thn (h pins s σ H _ I hw) fun v s1 h1=>thn h1 fun u s2 h2=>thn h2 fun c s3 ⟨x,H1,I1,r1,q1⟩=>?_) h1
 obtain⟨d,rfl,q⟩:=q1
 cases r1
 exact wpAny_truthy_bool ⟨H1,I1,q⟩
theorem qp {e:Expr}{t:TE}(h:PE X e t)(he:∀ whole,isTrue e X.env whole=(do let v ← whole;standAt e.pos;holding [v] (truthy v)):=by intro _;rfl):PT X e (tB t):=by
 intro pins s σ H Q I hw
 refine isTrue_plain (thn (h pins s σ H _ I hw) fun v s1 ⟨x,H1,I1,r1,q1⟩=>?_) (he _)
 obtain⟨d,rfl,q⟩:=q1
 cases r1
 exact wpAny_truthy_bool ⟨H1,I1,q⟩
variable {tA tB' : TT} {kY : List Expr}
def qQb (t u:TT):TT:=fun σ H Q=>t σ H fun c H1=>if c=true then u σ H1 Q else Q false H1
def tOr (t u:TT):TT:=fun σ H Q=>t σ H fun c H1=>if c=true then Q true H1 else u σ H1 Q
def qQc (t:TT):TT:=fun σ H Q=>t σ H fun c H1=>Q (!c) H1
theorem qCk (ha:PT X a tA):PW X (.BoolOp .And [a] pos) tA:=by
 intro wh pins s σ H Q I h
 refine isTrue_and (thn (ha pins s σ H Q I h) fun c s1 e=>?_)
 cases c with
 | true=>exact isTrue_and_nil e
 | false=>exact e
theorem jU (ha:PT X a tA):PW X (.BoolOp .Or [a] pos) tA:=by
 intro wh pins s σ H Q I h
 refine isTrue_or (thn (ha pins s σ H Q I h) fun c s1 e=>?_)
 cases c with
 | false=>exact isTrue_or_nil e
 | true=>exact e
theorem qDv (ha:PT X a tA)(hb:PW X (.BoolOp .And (b::kY) pos) tB'):PW X (.BoolOp .And (a::b::kY) pos) (qQb tA tB'):=by
 intro wh pins s σ H Q I h
 refine isTrue_and (thn (ha pins s σ H _ I h) fun c s1 ⟨H1,I1,q1⟩=>?_)
 cases c with
 | true=>exact hb wh pins s1 σ H1 Q I1 q1
 | false=>exact⟨H1,I1,q1⟩
theorem jw (ha:PT X a tA)(hb:PW X (.BoolOp .Or (b::kY) pos) tB'):PW X (.BoolOp .Or (a::b::kY) pos) (tOr tA tB'):=by
 intro wh pins s σ H Q I h
 refine isTrue_or (thn (ha pins s σ H _ I h) fun c s1 ⟨H1,I1,q1⟩=>?_)
 cases c with
 | true=>exact⟨H1,I1,q1⟩
 | false=>exact hb wh pins s1 σ H1 Q I1 q1
theorem qr (ha:PT X a tA):PT X (.UnaryOp .Not a pos) (qQc tA):=by
 intro pins s σ H Q I h
 exact isTrue_not (ha pins s σ H (fun c H1=>Q (!c) H1) I h)
inductive qMx (tb:TE)(σ:L2.St)(Q:VK)(x:V)(H1:Hp):Prop
| mk c (_:x= .bl c) (_:if c=true then tb σ H1 Q else Q (.bl false) H1)
def qPs (ta tb:TE):TE:=fun σ H Q=>ta σ H fun x H1=>qMx tb σ Q x H1
inductive qNx (Q:VK)(x:V)(H1:Hp):Prop
| mk c (_:x= .bl c) (_:Q (.bl (!c)) H1)
def qPw (ta:TE):TE:=fun σ H Q=>ta σ H fun x H1=>qNx Q x H1
theorem zQ {op}{t:TE}(h:PE X a t):PE X (.BoolOp op [a] pos) t:=fun pins s σ H Q I hw=>BoolOp_one (h pins s σ H Q I hw)
theorem xU (ha:PE X a ta)(hb:PE X (.BoolOp .And (b::kY) pos) tb):PE X (.BoolOp .And (a::b::kY) pos) (qPs ta tb):=by
 intro pins s σ H Q I h
 refine BoolOp_and (thn (ha pins s σ H _ I h) fun v s1 ⟨x,H1,I1,r1,q1⟩=>?_)
 obtain⟨c,rfl,q1⟩:=q1
 cases r1
 refine wpAny_truthy_bool ?_
 cases c with
 | true=>exact hb pins s1 σ H1 Q I1 q1
 | false=>exact⟨.bl false,H1,I1,rfl,q1⟩
theorem qIf (ha:PE X a ta):PE X (.UnaryOp .Not a pos) (qPw ta):=by
 intro pins s σ H Q I h
 refine UnaryOp_ (thn (ha pins s σ H _ I h) fun v s1 ⟨x,H1,I1,r1,q1⟩=>?_)
 obtain⟨c,rfl,q1⟩:=q1
 cases r1
 exact not_of (wpAny_truthy_bool ⟨.bl (!c),H1,I1,rfl,q1⟩)
def tIf (t:TT)(ta tb:TE):TE:=fun σ H Q=>t σ H fun c H1=>if c=true then ta σ H1 Q else tb σ H1 Q
theorem qCg {c:Expr}(hc:PT X c tA)(ha:PE X a ta)(hb:PE X b tb):PE X (.IfExp c a b pos) (tIf tA ta tb):=by
 intro pins s σ H Q I h
 refine wpAny_IfExp (thn (hc pins s σ H _ I h) fun d s1 ⟨H1,I1,q1⟩=>?_)
 cases d with
 | true=>exact ha pins s1 σ H1 Q I1 q1
 | false=>exact hb pins s1 σ H1 Q I1 q1
end
end L2
namespace L2
open PySem PySem.Spec PyProof.Rows
def SqL (K:PySem.W.Frag)(H:Hp)(a:Addr)(xs:List V):Prop:=
 Rd H a (.lst xs)∨
  ∃ (o:Obj) (its:Array Value) (n:Nat),K.lookup a=some o∧o.cls= .type "list"∧o.dict=none∧o.data= .seq its n∧its.size≤sizeLine∧Vals xs its.toList
def SqT (K:PySem.W.Frag)(H:Hp)(a:Addr)(xs:List V):Prop:=
 Rd H a (.tup xs)∨
  ∃ (o:Obj) (its:Array Value) (n:Nat),K.lookup a=some o∧o.cls= .type "tuple"∧o.data= .seq its n∧its.size≤sizeLine∧Vals xs its.toList
def qQz:Value→Option V
 | .none=>some .non
 | .bool b=>some (.bl b)
 | .int i _=>some (.int i)
 | .str x _=>some (.str x)
 | .bytes b _=>some (.byt b)
 | .float b _=>some (.flt b)
 | .ref a=>some (.ref a)
 | .type n=>some (.ty n)
 | _=>none
theorem RelV.abs {x:V}{u:Value}(r:RelV x u):qQz u=some x:=by
 cases x with
 | non=>cases r;rfl
 | bl _=>cases r;rfl
 | int _=>obtain⟨t,rfl⟩:=r;rfl
 | str _=>obtain⟨t,rfl⟩:=r;rfl
 | byt _=>obtain⟨t,rfl⟩:=r;rfl
 | flt _=>obtain⟨t,rfl⟩:=r;rfl
 | ref _=>cases r;rfl
 | ty _=>cases r;rfl
theorem RelV.inj {x y:V}{u:Value}(r:RelV x u)(q:RelV y u):x=y:=Option.some.inj (r.abs.symm.trans q.abs)
theorem Vals.inj:∀ {xs ys:List V} {us:List Value},Vals xs us→Vals ys us→xs=ys
 | _,_,_,.nil,.nil=>rfl
 | _,_,_,.cons r t,.cons r' t'=>by rw [r.inj r',Vals.inj t t']
section
variable {X : Cx} {pins : List (Addr × Obj)} {σ : St} {H : Hp} {s : Shared} {a : Addr} {xs ys : List V}
theorem SqL.of {K:PySem.W.Frag}(h:H a=some (.lst xs)):SqL K H a xs:=.inl (.inl h)
theorem SqT.of {K:PySem.W.Frag}(h:H a=some (.tup xs)):SqT K H a xs:=.inl (.inl h)
theorem Inv.list (I:Inv X pins σ H s)(h:SqL X.K H a xs):∃ its:List Value,Vals xs its∧PlainL s.heap a its.toArray∧xs.length≤sizeLine:=by
 rcases h with h | ⟨o,its,n,hk,hc,hd,hs,hz,r⟩
 · obtain⟨z,its,n,r,e⟩:=h.ok I.hok
   exact⟨its,r,⟨_,n,e,rfl,rfl,rfl⟩,z⟩
 · refine⟨its.toList,r,⟨o,n,I.kIn a o hk,hc,hd,by simpa using hs⟩,?_⟩
   have e:=r.length
   simp only [Array.length_toList] at e
   omega
theorem Inv.tuple (I:Inv X pins σ H s)(h:SqT X.K H a xs):∃ its:List Value,Vals xs its∧IsTup s.heap a its.toArray∧xs.length≤sizeLine:=by
 rcases h with h | ⟨o,its,n,hk,hc,hs,hz,r⟩
 · obtain⟨z,its,r,p⟩:=h.ok I.hok
   exact⟨its,r,p,z⟩
 · refine⟨its.toList,r,⟨o,I.kIn a o hk,hc,n,by simpa using hs⟩,?_⟩
   have e:=r.length
   simp only [Array.length_toList] at e
   omega
theorem Inv.list_inj (I:Inv X pins σ H s)(h:SqL X.K H a xs)(h':SqL X.K H a ys):xs=ys:=by
 obtain⟨its,r,⟨o,n,e,_,_,d⟩,_⟩:=I.list h
 obtain⟨its',r',⟨o',n',e',_,_,d'⟩,_⟩:=I.list h'
 rw [e] at e';cases e'
 rw [d] at d'
 injection d' with d1 _
 have:its=its':=by simpa using congrArg Array.toList d1
 subst this
 exact r.inj r'
theorem Inv.tuple_inj (I:Inv X pins σ H s)(h:SqT X.K H a xs)(h':SqT X.K H a ys):xs=ys:=by
 obtain⟨its,r,⟨o,e,_,n,d⟩,_⟩:=I.tuple h
 obtain⟨its',r',⟨o',e',_,n',d'⟩,_⟩:=I.tuple h'
 rw [e] at e';cases e'
 rw [d] at d'
 injection d' with d1 _
 have:its=its':=by simpa using congrArg Array.toList d1
 subst this
 exact r.inj r'
end
abbrev Cx.wish (X:Cx)(E:Value→Shared→Prop):Cx:={X with xe:=E}
abbrev Cx.nox (X:Cx):Cx:=X.wish fun _ _=>False
theorem Cx.Ok.wish {X:Cx}(ok:X.Ok)(E:Value→Shared→Prop):(X.wish E).Ok:=
 ⟨ok.mod,ok.kind,ok.glob,ok.blt,ok.above,ok.inj,ok.has,ok.cab,ok.hd,ok.frames,ok.stk,ok.exf,ok.bs,ok.bsz,ok.noex,ok.exfs,ok.funs,ok.frf⟩
theorem Cx.Ok.unwish {X:Cx}{E:Value→Shared→Prop}(ok:(X.wish E).Ok):X.Ok:=
 ⟨ok.mod,ok.kind,ok.glob,ok.blt,ok.above,ok.inj,ok.has,ok.cab,ok.hd,ok.frames,ok.stk,ok.exf,ok.bs,ok.bsz,ok.noex,ok.exfs,ok.funs,ok.frf⟩
section
variable {X : Cx} {pins : List (Addr × Obj)} {σ : St} {H : Hp} {s : Shared} {E : Value → Shared → Prop}
theorem Inv.wish (I:Inv X pins σ H s)(E:Value→Shared→Prop):Inv (X.wish E) pins σ H s:=⟨I.ok.wish E,I.os,I.bare,I.base,I.loc,I.cell,I.free,I.freeC,I.pin,I.hok,I.len⟩
theorem Inv.unwish (I:Inv (X.wish E) pins σ H s):Inv X pins σ H s:=⟨I.ok.unwish,I.os,I.bare,I.base,I.loc,I.cell,I.free,I.freeC,I.pin,I.hok,I.len⟩
theorem SP.unwish {D:qHk}{f:Flow}{s':Shared}(h:SP (X.wish E) pins D f s'):SP X pins D f s':=by
 cases f with
 | next=>obtain⟨σ',H',I,q⟩:=h;exact⟨σ',H',I.unwish,q⟩
 | brk=>obtain⟨σ',H',I,q⟩:=h;exact⟨σ',H',I.unwish,q⟩
 | cont=>obtain⟨σ',H',I,q⟩:=h;exact⟨σ',H',I.unwish,q⟩
 | ret u=>obtain⟨v,σ',H',I,r,q⟩:=h;exact⟨v,σ',H',I.unwish,r,q⟩
theorem PSs.nox {st:List Stmt}{t:TS}(h:PSs X.nox st t):PSs X st t:=fun pins s σ H D I hw=>
 wpAny_mono (h pins s σ H D (I.wish _) hw) (fun _ _ q=>q.unwish) fun _ _ z=>False.elim z
end
section
variable {X : Cx} {st : Stmt} {kY : List Stmt} {t u : TS} {e : Expr} {te : TE} {pos : Pos}
def qOx:TS:=fun D σ H=>D.nx σ H
def qP6 (t u:TS):TS:=fun D σ H=>t {D with nx:=u D} σ H
theorem qR:PSs X [] qOx:=fun _ _ σ H _ I h=>wpAny_execs_nil ⟨σ,H,I,h⟩
theorem qF (h1:PS X st t)(h2:PSs X kY u):PSs X (st::kY) (qP6 t u):=by
 intro pins s σ H D I h
 refine wpAny_execs_cons (thn (h1 pins s σ H {D with nx:=u D} I h) fun f s1 q=>?_)
 cases f with
 | next=>
  obtain⟨σ',H',I',q⟩:=q
  exact h2 pins s1 σ' H' D I' q
 | ret v=>exact q
 | brk=>exact q
 | cont=>exact q
theorem qG (h1:PS X st t):PSs X [st] t:=by
 intro pins s σ H D I h
 refine wpAny_execs_cons (thn (h1 pins s σ H D I h) fun f s1 q=>?_)
 cases f with
 | next=>exact wpAny_execs_nil q
 | ret v=>exact q
 | brk=>exact q
 | cont=>exact q
theorem Inv.quiet {pins:List (Addr × Obj)}{σ:St}{H:Hp}{s:Shared}(I:Inv X pins σ H s):interactive X.env=false:=by simp [interactive,I.ok.kind]
def qPx (te:TE):TS:=fun D σ H=>te σ H fun _ H1=>D.nx σ H1
theorem qf (he:PE X e te)(hs:swapsWith e none pos.line X.env=pure false:=by rfl):PS X (.Expr e pos) (qPx te):=by
 intro pins s σ H D I h
 exact wpAny_Expr_any (thn (he pins s σ H _ I h) fun v s1 ⟨x,H1,I1,r1,q1⟩=>⟨σ,H1,I1,q1⟩) I.quiet hs
def qQn (te:TE):TS:=fun D σ H=>te σ H D.rt
theorem qU (he:PE X e te):PS X (.Return (some e) pos) (qQn te):=by
 intro pins s σ H D I h
 exact wpAny_Return_some (thn (he pins s σ H _ I h) fun v s1 ⟨x,H1,I1,r1,q1⟩=>⟨x,σ,H1,I1,r1,q1⟩)
def qQg (c:TT)(t u:TS):TS:=fun D σ H=>c σ H fun b H1=>if b=true then t D σ H1 else u D σ H1
theorem qh {c:Expr}{a b:List Stmt}{tc:TT}(hc:PT X c tc)(ha:PSs X a t)(hb:PSs X b u):PS X (.If c a b pos) (qQg tc t u):=by
 intro pins s σ H D I h
 refine wpAny_If (thn (hc pins s σ H _ I h) fun d s1 ⟨H1,I1,q1⟩=>?_)
 cases d with
 | true=>exact ha pins s1 σ H1 D I1 q1
 | false=>exact hb pins s1 σ H1 D I1 q1
def qMm:TS:=fun _ _ _=>False
theorem wg {sts:List Stmt}:PSs X sts qMm:=fun _ _ _ _ _ _ h=>h.elim
end
abbrev TG:=V→St→Hp→(St→Hp→Prop)→Prop
abbrev TGs:=List V→St→Hp→(St→Hp→Prop)→Prop
def PG (X:Cx)(target:Expr)(t:TG):Prop:=
 ∀ (pins:List (Addr × Obj)) (s:Shared) (σ:St) (H:Hp) (v:V) (u:Value) (Q:St→Hp→Prop),Inv X pins σ H s→RelV v u→t v σ H Q→
  wpAny (model X.prog X.w) X.A (assign target X.env u) (fun _ s'=>∃ σ' H',Inv X pins σ' H' s'∧Q σ' H') X.xe s
def PGs (X:Cx)(ts:List Expr)(t:TGs):Prop:=
 ∀ (pins:List (Addr × Obj)) (s:Shared) (σ:St) (H:Hp) (vs:List V) (us:List Value) (Q:St→Hp→Prop),Inv X pins σ H s→Vals vs us→t vs σ H Q→
  wpAny (model X.prog X.w) X.A (assignInOrder ((assignEach ts X.env).map (·.2)) us) (fun _ s'=>∃ σ' H',Inv X pins σ' H' s'∧Q σ' H') X.xe s
abbrev qPm:=V→V→V→Hp→(Hp→Prop)→Prop
def qP1 (X:Cx)(t:qPm):Prop:=
 ∀ (pins:List (Addr × Obj)) (s:Shared) (σ:St) (H:Hp) (o i v:V) (ov iv u:Value) (Q:Hp→Prop),Inv X pins σ H s→RelV o ov→RelV i iv→RelV v u→t o i v H Q→
  wpAny (model X.prog X.w) X.A (setItem ov iv u) (fun _ s'=>∃ H',Inv X pins σ H' s'∧Q H') X.xe s
section
variable {X : Cx} {pos : Pos}
def zw (i:Nat):TG:=fun v σ H Q=>Q (σ.set i (some v)) H
theorem qq {i:Nat}{x:Str}(hN:X.N.Nodup)(hi:X.N[i]? =some x)(hx:Loc X.env.scope x)(hf:X.fn x=true∨X.env.scope.names.lookup x=some .local:=by first | exact .inl rfl | exact .inr rfl | assumption):PG X (.Name x pos) (zw i):=by
 intro pins s σ H v u Q I r h
 exact wpAny_assign_Name (kF I hN hi hx r (fun s' I'=>⟨_,H,I',h⟩) hf)
def qOh:TGs:=fun vs σ H Q=>vs=[]∧Q σ H
inductive qAx (t:TG)(u:TGs)(vs:List V)(σ:L2.St)(H:Hp)(Q:L2.St→Hp→Prop):Prop
| mk v r (_:vs=v::r) (_:t v σ H fun σ' H'=>u r σ' H' Q)
theorem wj:PGs X [] qOh:=by
 intro pins s σ H vs us Q I r h
 obtain⟨e,h⟩:=h
 subst e
 cases r
 exact assignInOrder_nil ⟨σ,H,I,h⟩
theorem jy {e:Expr}{es:List Expr}{t:TG}{u:TGs}(h1:PG X e t)(h2:PGs X es u)
 (hs:(assignEach (e::es) X.env).map (·.2)=assign e X.env::(assignEach es X.env).map (·.2):=by rfl):PGs X (e::es) (qAx t u):=by
 intro pins s σ H vs us Q I r h
 obtain⟨v,vr,e1,h⟩:=h
 subst e1
 cases r with
 | cons r rr=>
  rw [hs]
  refine assignInOrder_cons (thn (h1 pins s σ H _ _ _ I r h) fun _ s1 ⟨σ1,H1,I1,q1⟩=>?_)
  exact h2 pins s1 σ1 H1 _ _ Q I1 rr q1
inductive qOf (K:PySem.W.Frag)(n:Nat)(t:TGs)(v:V)(σ:L2.St)(H:Hp)(Q:L2.St→Hp→Prop):Prop
| mk a xs (_:v= .ref a) (_:SqT K H a xs) (_:xs.length=n) (_:t xs σ H Q)
theorem qD0 {es:List Expr}{k:Nat}{t:TGs}{n:Nat}(hc:X.calm=true)(h:PGs X es t)
 (hn:(assignEach es X.env).length=n:=by rfl) (hst:(assignEach es X.env).findIdx? (·.1)=none:=by rfl):PG X (.Tuple es k pos) (qOf X.K n t):=by
 intro pins s σ H v u Q I r hw
 obtain⟨a,xs,e1,hq,hl,hw⟩:=hw
 subst e1
 cases r
 obtain⟨its,rv,ht,hz⟩:=I.tuple hq
 refine assign_Tuple_tuple (I.ok.hd hc) ht (by simp [hn,← hl,rv.length]) hst fun h' hx=>?_
 have I1:Inv X pins σ H {s with heap:=h'}:=I.kept (t':=s.toks) fun b o e=>hx b o (Nat.ne_of_lt (Heap.lt_size e)) e
 exact h pins _ σ H xs _ Q I1 (by simpa using rv) hw
def qQl (to ti:TE)(t:qPm):TG:=fun v σ H Q=>to σ H fun o H1=>ti σ H1 fun i H2=>t o i v H2 fun H3=>Q σ H3
theorem qN9 {o i:Expr}{to ti:TE}{t:qPm}(ho:PE X o to)(hi:PE X i ti)(hs:qP1 X t)
 (ha:∀ v,assign (.Subscript o i pos) X.env v=(do
   let ov ← holding [v] (eval o X.env)
   let iv ← holding [v,ov] (eval i X.env)
   standAt pos
   holding [v,ov,iv] (setItem ov iv v)
   release [v,ov,iv] []):=by intro _;rfl):PG X (.Subscript o i pos) (qQl to ti t):=by
 intro pins s σ H v u Q I r h
 rw [ha]
 refine wpAny_bind (wpAny_holding (thn (ho pins s σ H _ I h) fun ov s1 ⟨x,H1,I1,r1,q1⟩=>?_))
 refine wpAny_bind (wpAny_holding (thn (hi pins s1 σ H1 _ I1 q1) fun iv s2 ⟨y,H2,I2,r2,q2⟩=>?_))
 refine wpAny_bind (wpAny_standAt (wpAny_bind (wpAny_holding (thn (hs pins s2 σ H2 x y v ov iv u _ I2 r1 r2 r q2) fun _ s3 ⟨H3,I3,q3⟩=>?_))))
 exact wpAny_release ⟨σ,H3,I3,q3⟩
def qMk (te:TE)(g:TG):TS:=fun D σ H=>te σ H fun x H1=>g x σ H1 D.nx
theorem qNs {tg e:Expr}{te:TE}{g:TG}(he:PE X e te)(hg:PG X tg g)(hs:swapsWithSole [tg] e pos.line X.env=pure false:=by rfl)(hw:swappedStores [tg] e X.env=pure none:=by rfl)
 (h1:(assignEach [tg] X.env).map (·.2)=[assign tg X.env]:=by rfl):PS X (.Assign [tg] e pos) (qMk te g):=by
 intro pins s σ H D I h
 refine wpAny_Assign_stores (thn (he pins s σ H _ I h) fun v s1 ⟨x,H1,I1,r1,q1⟩=>?_) hs hw
 rw [h1]
 exact thn (hg pins s1 σ H1 x v _ I1 r1 q1) fun _ s2 q=>q
theorem qF4 {i:Nat}{x:Str}{e:Expr}{te:TE}{pos':Pos}(hN:X.N.Nodup)(hi:X.N[i]? =some x)(hx:Loc X.env.scope x)(he:PE X e te)(hs:swapsWith e (some (.Name x pos')) pos.line X.env=pure false:=by rfl)(hf:X.fn x=true∨X.env.scope.names.lookup x=some .local:=by first | exact .inl rfl | exact .inr rfl | assumption):
 PS X (.Assign [.Name x pos'] e pos) (qMk te (zw i)):=by
 intro pins s σ H D I h
 refine wpAny_Assign_Name (thn (he pins s σ H _ I h) fun v s1 ⟨y,H1,I1,r1,q1⟩=>?_) hs
 exact kF I1 hN hi hx r1 (fun s2 I2=>⟨_,H1,I2,q1⟩) hf
inductive qOu (i:Nat)(j:Nat)(D:qHk)(σ:L2.St)(vs:List V)(H1:Hp):Prop
| mk v w (_:vs=[v,w]) (_:D.nx ((σ.set i (some v)).set j (some w)) H1)
def qP9 (i j:Nat)(ta:TA):TS:=fun D σ H=>ta σ H fun vs H1=>qOu i j D σ vs H1
theorem qNu {i j:Nat}{x y:Str}{a b:Expr}{ta:TA}{px py pt:Pos}{kt k2 pt2}(hc:X.calm=true)(hN:X.N.Nodup)(hi:X.N[i]? =some x)(hj:X.N[j]? =some y)(hij:i≠j)
 (hx:X.env.scope.names.lookup x=some .local) (hy:X.env.scope.names.lookup y=some .local) (ha:PA X [a,b] ta)
 (hw:swappedStores [.Tuple [.Name x px,.Name y py] kt pt] (.Tuple [a,b] k2 pt2) X.env=pure (some [x,y]))
 (hs:swapsWithSole [.Tuple [.Name x px,.Name y py] kt pt] (.Tuple [a,b] k2 pt2) pos.line X.env=pure false:=by rfl):
 PS X (.Assign [.Tuple [.Name x px,.Name y py] kt pt] (.Tuple [a,b] k2 pt2) pos) (qP9 i j ta):=by
 intro pins s σ H D I h
 rw [exec_Assign_arm]
 refine wpAny_bind (wpAny_standAt ?_)
 rw [hs]
 refine wpAny_bind (wpAny_pure ?_)
 rw [if_neg (by decide)]
 refine wpAny_bind (Tuple_ (thn (ha _ pins s σ H _ I h) fun us s1 ⟨vs,H1,I1,r1,q1⟩=>?_))
 obtain⟨v,w,e1,q1⟩:=q1
 subst e1
 obtain⟨u1,u2,rfl,rv,rw'⟩:∃ u1 u2,us=[u1,u2]∧RelV v u1∧RelV w u2:=by
  cases r1 with
  | cons p q=>
   cases q with
   | cons p' q'=>
    cases q'
    exact⟨_,_,rfl,p,p'⟩
 refine wpAny_newObj_type ?_ (by show 2≤sizeLine;decide)
 have I2:Inv X pins σ H1 {s1 with heap:=s1.heap.push {cls:=.type "tuple",data:=.seq [u1,u2].toArray}}:=I1.kept (t':=s1.toks) fun b o e=>Heap.get?_push_of_some _ e
 rw [hw]
 refine wpAny_bind (wpAny_pure ?_)
 show wpAny (model X.prog X.w) X.A (do rule "assign.swapped-stores";let items ← unpackItems (.ref s1.heap.objs.size) 2 none;assignInOrder [fun v=>bindName X.env y v,fun v=>bindName X.env x v] items.reverse;pure Flow.next) _ _ _
 refine wpAny_bind (wpAny_rule (wpAny_bind (unpackItems_tuple (items:=#[u1,u2]) (I.ok.hd hc) (IsTup.new s1.heap _) fun h' hx'=>?_)))
 have I3:=I2.kept (h':=h') (t':=s1.toks) fun b o e=>hx' b o (Nat.ne_of_lt (Heap.lt_size e)) e
 show wpAny _ _ (assignInOrder [fun v=>bindName X.env y v,fun v=>bindName X.env x v] [u2,u1] >>=fun _=>pure Flow.next) _ _ _
 refine wpAny_bind (assignInOrder_cons (wpAny_bindName (kF I3 hN hj (.inl hy) rw' (fun s2 I4=>?_) (.inr hy))))
 refine assignInOrder_cons (wpAny_bindName (kF I4 hN hi (.inl hx) rv (fun s3 I5=>assignInOrder_nil (wpAny_pure ?_)) (.inr hx)))
 rw [List.set_comm _ _ (Ne.symm hij)] at I5
 exact⟨_,H1,I5,q1⟩
end
section
variable {X : Cx} {pos : Pos}
def qKu (c:TT)(tb:TS):TS:=fun D σ H=>∃ W:Nat→St→Hp→Prop,(∃ m,W m σ H)∧∀ m σ H,W m σ H→
 c σ H fun b H1=>if b=true then ∃ N:St→Hp→Prop,(∀ σ' H',N σ' H'→∃ m',m' < m∧W m' σ' H')∧tb {D with nx:=N,ct:=N,bk:=D.nx} σ H1 else D.nx σ H1
theorem qF6 {c:Expr}{body:List Stmt}{tc:TT}{tb:TS}(hp:PassesOwn (model X.prog X.w) X.A X.env X.xe)(hc:PT X c tc)(hb:PSs X body tb):PS X (.While c body [] pos) (qKu tc tb):=by
 intro pins s σ H D I h
 obtain⟨W,⟨m0,w0⟩,turn⟩:=h
 refine wpAny_While (codeAny_whileLoop (fun n s'=>∃ σ' H',Inv X pins σ' H' s'∧W n σ' H') ?_ m0 ⟨σ,H,I,w0⟩)
 rintro n s1 ⟨σ1,H1,I1,w1⟩
 refine wpAny_passesOwn hp (thn (hc pins s1 σ1 H1 _ I1 (turn n σ1 H1 w1)) fun b s2 ⟨H2,I2,q2⟩=>?_)
 cases b with
 | true=>
  obtain⟨N,hN,q2⟩:=q2
  rw [if_pos rfl]
  refine wpAny_passesOwn hp (thn (hb pins s2 σ1 H2 _ I2 q2) fun f s3 q3=>?_)
  cases f with
  | next=>
   obtain⟨σ3,H3,I3,n3⟩:=q3
   obtain⟨m',hm,w3⟩:=hN σ3 H3 n3
   exact⟨m',hm,σ3,H3,I3,w3⟩
  | cont=>
   obtain⟨σ3,H3,I3,n3⟩:=q3
   obtain⟨m',hm,w3⟩:=hN σ3 H3 n3
   exact⟨m',hm,σ3,H3,I3,w3⟩
  | brk=>exact q3
  | ret v=>exact q3
 | false=>
  rw [if_neg Bool.false_ne_true]
  exact wpAny_execs_nil ⟨σ1,H2,I2,q2⟩
end
structure It where
 go:Nat→Hp→Prop
 yld:Nat→Hp→V→Hp→Prop
 stop:Nat→Hp→Prop
def qKn (X:Cx)(pins:List (Addr × Obj))(H:Hp)(b:Addr):Prop:=
 H b=none∧b≠X.env.locals∧b ∉ X.fs∧(b∈X.ex∨X.s₀.heap.objs.size≤b)∧(∀ x c,X.env.cells.lookup x=some c→c≠b)∧∀ p∈X.pn++pins,p.1≠b
theorem Inv.fpOk {X:Cx}{pins:List (Addr × Obj)}{σ:St}{H H':Hp}{s:Shared}{b:Addr}(I:Inv X pins σ H s)(hb:s.heap.objs.size≤b)(hn:H' b=none):qKn X pins H' b:=by
 refine⟨hn,Nat.ne_of_gt (Nat.lt_of_lt_of_le I.lt hb),I.nofs hb,.inr (Nat.le_trans I.sz hb),fun x c e z=>?_,fun p hp z=>?_⟩
 · obtain⟨v,q⟩:=I.cell x c e
   exact absurd (Nat.lt_of_lt_of_le q.lt (by rw [z];exact hb)) (Nat.lt_irrefl _)
 · exact absurd (Nat.lt_of_lt_of_le (Heap.lt_size (I.pin p hp).1) (by rw [z];exact hb)) (Nat.lt_irrefl _)
structure qLl (P:Program)(w:World)(K:PySem.W.Frag)(tg:Expr)(J:It)(fp:List Addr)(it:Addr)(tn:Nat→Heap→Prop):Prop where
 mem:it∈fp
 obj:∀ i h,tn i h→∀ b∈fp,∃ o,h.get? b=some o∧∀ v,o.data≠ .cell v
 keep:∀ i h h',tn i h→(∀ b∈fp,∀ o,h.get? b=some o→h'.get? b=some o)→tn i h'
 item:∀ (X:Cx),X.prog=P→X.w=w→X.K=K→X.calm=true→∀ (i:Nat) (pins:List (Addr × Obj)) (s:Shared) (σ:St) (H:Hp) (E:Value→Shared→Prop),Inv X pins σ H s→(∀ b∈fp,qKn X pins H b)→tn i s.heap→J.go i H→
  wpAny (model P w) X.A (pyNext (.ref it)) (fun r s1=>∃ u,r=some u∧
   wpAny (model P w) X.A (letOwnedTupleGo tg (.ref it) u) (fun _ s2=>∃ x H',Inv X pins σ H' s2∧RelV x u∧J.yld i H x H'∧tn (i+1) s2.heap∧∀ b∈fp,H' b=none) E s1) E s
 done:∀ (X:Cx),X.prog=P→X.w=w→X.K=K→X.calm=true→∀ (i:Nat) (pins:List (Addr × Obj)) (s:Shared) (σ:St) (H:Hp) (E:Value→Shared→Prop),Inv X pins σ H s→(∀ b∈fp,qKn X pins H b)→tn i s.heap→J.stop i H→
  wpAny (model P w) X.A (pyNext (.ref it)) (fun r s1=>r=none∧Inv X pins σ H s1) E s
 self:∀ (A:Around) (i:Nat) (s:Shared) (Q:Value→Shared→Prop) (E:Value→Shared→Prop),tn i s.heap→Q (.ref it) s→wpAny (model P w) A (pyIter (.ref it)) Q E s
abbrev TI:=St→Hp→(It→Hp→Prop)→Prop
def PIE (X:Cx)(pins:List (Addr × Obj))(σ:St)(tg:Expr)(R:It→Hp→Prop)(itv:Value)(s2:Shared):Prop:=
 ∃ (it:Addr) (fp:List Addr) (tn:Nat→Heap→Prop) (J:It) (H':Hp),itv= .ref it∧Inv X pins σ H' s2∧qLl X.prog X.w X.K tg J fp it tn∧tn 0 s2.heap∧(∀ b∈fp,qKn X pins H' b)∧R J H'
def PI (X:Cx)(tg iter:Expr)(wi:TI):Prop:=
 ∀ (pins:List (Addr × Obj)) (s:Shared) (σ:St) (H:Hp) (R:It→Hp→Prop),Inv X pins σ H s→wi σ H R→
  wpAny (model X.prog X.w) X.A (eval iter X.env) (fun v s1=>wpAny (model X.prog X.w) X.A (pyIter v) (PIE X pins σ tg R) X.xe s1) X.xe s
theorem qKh {M:Model}{A:Around}{E:Value→Shared→Prop}{s:Shared}{tg:Expr}{it:Addr}{u:Value}{o:Obj}{n:String}{vs:Array Value}{Q:Unit→Shared→Prop}(ho:s.heap.get? it=some o)(hc:o.cls= .type n)(hd:o.data= .fields vs)
 (hn:["enumerate","zip","dict_itemiterator","dict_reverseitemiterator","odict_iterator","itertools.zip_longest","itertools.pairwise"].contains n=false) (hQ:Q () s):wpAny M A (letOwnedTupleGo tg (.ref it) u) Q E s:=by
 unfold letOwnedTupleGo
 cases tg <;> first
  | exact wpAny_pure hQ
  | (cases u <;> first
      | exact wpAny_pure hQ
      | (refine wpAny_bind (wpAny_load ho ?_)
         rw [hc,hd]
         show wpAny M A (if (["enumerate","zip","dict_itemiterator","dict_reverseitemiterator","odict_iterator","itertools.zip_longest","itertools.pairwise"].contains n && vs[0]? == some (rawInt _))=true then _ else _) Q E s
         rw [if_neg (by intro h;rw [hn,Bool.false_and] at h;cases h)]
         exact wpAny_pure hQ))
def Itl (K:PySem.W.Frag)(a:Addr):It:=
 ⟨fun i H=>∃ xs x,SqL K H a xs∧xs[i]? =some x,fun i H x H'=>H'=H∧∀ xs,SqL K H a xs→xs[i]? =some x,fun i H=>∃ xs,SqL K H a xs∧xs.length≤i⟩
def Itr (lo:Int)(n:Nat):It:=⟨fun i _=>i < n,fun i H x H'=>H'=H∧x= .int (lo+i),fun i _=>n≤i⟩
theorem qIe {P:Program}{w:World}{K:PySem.W.Frag}{tg:Expr}(a it:Addr):qLl P w K tg (Itl K a) [it] it (fun i h=>h.IsListIter it a i) where
 mem:=by simp
 obj:=fun i h st b hb=>by
  have e:b=it:=by simpa using hb
  subst e
  obtain⟨o,e,c,d⟩:=st
  exact⟨o,e,fun v z=>by rw [d] at z;cases z⟩
 keep:=fun i h h' st k=>st.at fun o e=>k it (by simp) o e
 item:=by
  intro X hP hw hK hc i pins s σ H E I hf st hg
  subst hP hw hK
  obtain⟨xs,x,hq,hx⟩:=hg
  obtain⟨its,rv,p,hz⟩:=I.list hq
  obtain⟨u,hu,ru⟩:=rv.get hx
  obtain⟨f0,f1,f2,f3,f4,f5⟩:=hf it (by simp)
  refine wpAny_pyNext_list_item st p.isList (x:=u) (by simpa using hu) fun h' st' sb=>?_
  have I1:Inv X pins σ H {s with heap:=h'}:=I.turned (t':=s.toks) (fun b o hb e=>(sb.2 b hb).trans e) f0 f1 f3 f4 f5
  obtain⟨o,e,c,d⟩:=id st'
  exact⟨u,rfl,qKh (s:={s with heap:=h'}) e c d (by decide) ⟨x,H,I1,ru,⟨rfl,fun ys hy=>by rw [I.list_inj hy hq];exact hx⟩,st',fun b hb=>(hf b hb).1⟩⟩
 done:=by
  intro X hP hw hK hc i pins s σ H E I hf st hg
  subst hP hw hK
  obtain⟨xs,hq,hx⟩:=hg
  obtain⟨its,rv,p,hz⟩:=I.list hq
  obtain⟨f0,f1,f2,f3,f4,f5⟩:=hf it (by simp)
  have hl:=rv.length
  exact wpAny_pyNext_list_end (I.ok.hd hc) st p.isList (by simp;omega) fun h' eb=>⟨rfl,I.turned (t':=s.toks) (fun b o hb e=>eb b o hb e) f0 f1 f3 f4 f5⟩
 self:=fun _ _ _ _ _ st h=>wpAny_pyIter_listiter st h
theorem qHm {P:Program}{w:World}{K:PySem.W.Frag}{tg:Expr}(it:Addr)(lo:Int)(n:Nat):qLl P w K tg (Itr lo n) [it] it (fun i h=>IsRangeIter h it (lo+(i:Nat)*1) ((n:Int) - (i:Nat)) 1) where
 mem:=by simp
 obj:=fun i h st b hb=>by
  have e:b=it:=by simpa using hb
  subst e
  exact⟨_,st,fun v z=>by
   have z':Data.fields _=Data.cell v:=z
   cases z'⟩
 keep:=fun i h h' st k=>k it (by simp) _ st
 item:=by
  intro X hP hw hK hc i pins s σ H E I hf st hg
  subst hP hw hK
  obtain⟨f0,f1,f2,f3,f4,f5⟩:=hf it (by simp)
  have W:=Walks.range (prog:=X.prog) (w:=X.w) (I.ok.hd hc) it lo 1 n
  refine W.item i s _ _ hg st fun v h' tk hv st' kk=>?_
  obtain⟨t,rfl⟩:=hv
  have I1:Inv X pins σ H {s with heap:=h',toks:=tk}:=I.turned (fun b o hb e=>kk b o (by simpa using hb) e) f0 f1 f3 f4 f5
  refine⟨_,rfl,qKh (s:={s with heap:=h',toks:=tk}) (n:="range_iterator") st' rfl rfl (by decide) ⟨.int (lo+i),H,I1,⟨t,?_⟩,⟨rfl,rfl⟩,st',fun b hb=>(hf b hb).1⟩⟩
  rw [Int.mul_one]
 done:=by
  intro X hP hw hK hc i pins s σ H E I hf st hg
  subst hP hw hK
  obtain⟨f0,f1,f2,f3,f4,f5⟩:=hf it (by simp)
  exact wpAny_pyNext_range_end (I.ok.hd hc) st (by have:n≤i:=hg;omega) fun h' eb=>⟨rfl,I.turned (t':=s.toks) (fun b o hb e=>eb b o hb e) f0 f1 f3 f4 f5⟩
 self:=fun _ _ _ _ _ st h=>wpAny_pyIter_rangeiter st h
end L2
namespace L2
open PySem PySem.Spec PyProof.Rows
section
variable {X : Cx} {tg : Expr}
inductive qN4 (K:PySem.W.Frag)(R:It→Hp→Prop)(x:V)(H1:Hp):Prop
| mk a (_:x= .ref a) (_:(∃ xs,SqL K H1 a xs)) (_:R (Itl K a) H1)
def qO0 (K:PySem.W.Frag)(tl:TE):TI:=fun σ H R=>tl σ H fun x H1=>qN4 K R x H1
theorem jp {l:Expr}{tl:TE}(hl:PE X l tl):PI X tg l (qO0 X.K tl):=by
 intro pins s σ H R I h
 refine thn (hl pins s σ H _ I h) fun v s1 ⟨x,H1,I1,r1,q1⟩=>?_
 obtain⟨a,e,⟨xs,hq⟩,q⟩:=q1
 subst e
 cases r1
 obtain⟨its,rv,p,hz⟩:=I1.list hq
 refine wpAny_pyIter_list p.isList ?_
 refine⟨s1.heap.objs.size,[s1.heap.objs.size],_,_,H1,rfl,I1.kept (t':=s1.toks) fun b o e=>Heap.get?_push_of_some _ e,qIe a _,⟨_,Heap.get?_push_size _ rfl,rfl,rfl⟩,fun b hb=>?_,q⟩
 have e:b=s1.heap.objs.size:=by simpa using hb
 subst e
 exact I1.fpOk (Nat.le_refl _) (I1.hok.fresh (Nat.le_refl _))
theorem qGm {pins:List (Addr × Obj)}{σ:St}{H:Hp}{s:Shared}{R:It→Hp→Prop}{E:Value→Shared→Prop}{lo hi:Int}{t u v:Tok}{tk:Nat}(I:Inv X pins σ H s)(h1:-(2 ^ 62)≤lo)(h2:lo < 2 ^ 62)(h3:-(2 ^ 62)≤hi)(h4:hi < 2 ^ 62)
 (q:R (Itr lo (hi - lo).toNat) H):wpAny (model X.prog X.w) X.A (pyIter (.ref s.heap.objs.size)) (PIE X pins σ tg R) E {s with heap:=s.heap.push {cls:=.type "range",data:=.fields #[.int lo t,.int hi u,.int 1 v]},toks:=tk}:=by
 refine wpAny_pyIter_range (IsRange.new ..) (small_one h1 h2 h3 h4) ?_
 have I1:Inv X pins σ H {s with heap:=s.heap.push {cls:=.type "range",data:=.fields #[.int lo t,.int hi u,.int 1 v]},toks:=tk}:=I.kept fun b o e=>Heap.get?_push_of_some _ e
 refine⟨(s.heap.push {cls:=.type "range",data:=.fields #[.int lo t,.int hi u,.int 1 v]}).objs.size,[(s.heap.push {cls:=.type "range",data:=.fields #[.int lo t,.int hi u,.int 1 v]}).objs.size],_,_,H,rfl,
  I1.kept (t':=tk) fun b o e=>Heap.get?_push_of_some _ e,qHm _ lo (hi - lo).toNat,?_,fun b hb=>?_,q⟩
 · have e1:lo+((0:Nat):Int)*1=lo:=by simp
   have e2:(((hi - lo).toNat:Nat):Int) - ((0:Nat):Int)=Builtin.Range.rangeSize lo hi 1:=by rw [rangeSize_one];split <;> omega
   show IsRangeIter _ _ (lo+((0:Nat):Int)*1) ((((hi - lo).toNat:Nat):Int) - ((0:Nat):Int)) 1
   rw [e1,e2]
   exact Heap.get?_push_size _ rfl
 · have e:b=(s.heap.push {cls:=.type "range",data:=.fields #[.int lo t,.int hi u,.int 1 v]}).objs.size:=by simpa using hb
   subst e
   exact I1.fpOk (Nat.le_refl _) (I1.hok.fresh (Nat.le_refl _))
def qO1 (ta:TA):TI:=fun σ H R=>ta σ H fun vs H1=>∃ j:Int,vs=[.int j]∧-(2 ^ 62)≤j∧j < 2 ^ 62∧R (Itr 0 j.toNat) H1
def qO4 (ta:TA):TI:=fun σ H R=>ta σ H fun vs H1=>∃ i j:Int,vs=[.int i,.int j]∧(-(2 ^ 62)≤i∧i < 2 ^ 62∧-(2 ^ 62)≤j∧j < 2 ^ 62)∧R (Itr i (j - i).toNat) H1
theorem xM {a:Expr}{ta:TA}{p pos:Pos}(hg:Gl X "range")(hm:X.mg "range"=none)(ha:PA X [a] ta)(hs:starEach [a] X.env=[(false,eval a X.env)]:=by rfl):PI X tg (.Call (.Name "range" p) [a] [] pos) (qO1 ta):=by
 intro pins s σ H R I h
 refine Call_ (qBj I hg hm boot_range (PyProof.Rows.callWith_type1 (thn (ha pos pins s σ H _ I h) fun us s1 ⟨vs,H1,I1,r1,q1⟩=>?_) hs rfl))
 obtain⟨j,e,q1,q2,q⟩:=q1
 subst e
 cases r1 with
 | cons r rr=>
  cases rr
  obtain⟨t,rfl⟩:=r
  exact call_range_1 (qGm I1 (by omega) (by omega) q1 q2 (by simpa using q))
theorem qIz {a b:Expr}{ta:TA}{p pos:Pos}(hg:Gl X "range")(hm:X.mg "range"=none)(ha:PA X [a,b] ta)(hs:starEach [a,b] X.env=[(false,eval a X.env),(false,eval b X.env)]:=by rfl)(hs2:starEach [b] X.env=[(false,eval b X.env)]:=by rfl):
 PI X tg (.Call (.Name "range" p) [a,b] [] pos) (qO4 ta):=by
 intro pins s σ H R I h
 refine Call_ (qBj I hg hm boot_range (PyProof.Rows.callWith_type1 (thn (ha pos pins s σ H _ I h) fun us s1 ⟨vs,H1,I1,r1,q1⟩=>?_) (by rw [hs,hs2]) (by rw [hs2];rfl)))
 obtain⟨i,j,e,⟨q1,q2,q3,q4⟩,q⟩:=q1
 subst e
 cases r1 with
 | cons r rr=>
  cases rr with
  | cons r' rr=>
   cases rr
   obtain⟨t,rfl⟩:=r
   obtain⟨t',rfl⟩:=r'
   exact call_range_2 (qGm I1 q1 q2 q3 q4 q)
def qQr (wi:TI)(g:TG)(tb:TS):TS:=fun D σ H=>wi σ H fun J H1=>∃ W:Nat→Nat→St→Hp→Prop,(∃ m,W 0 m σ H1)∧∀ i m σ H,W i m σ H→
 (J.stop i H∧D.nx σ H)∨(J.go i H∧∃ N:St→Hp→Prop,(∀ σ' H',N σ' H'→∃ m',m' < m∧W (i+1) m' σ' H')∧∀ x H',J.yld i H x H'→g x σ H' fun σ2 H2=>tb {D with nx:=N,ct:=N,bk:=D.nx} σ2 H2)
def qDc (fp:List Addr)(h:Heap):List (Addr × Obj):=fp.filterMap fun b=>(h.get? b).map fun o=>(b,o)
theorem vy {fp:List Addr}{h:Heap}{b:Addr}{o:Obj}(hb:b∈fp)(e:h.get? b=some o):(b,o)∈qDc fp h:=List.mem_filterMap.mpr ⟨b,hb,by rw [e];rfl⟩
theorem qIg {fp:List Addr}{h:Heap}{p:Addr × Obj}(hp:p∈qDc fp h):p.1∈fp∧h.get? p.1=some p.2:=by
 obtain⟨b,hb,e⟩:=List.mem_filterMap.mp hp
 cases q:h.get? b with
 | none=>rw [q] at e;cases e
 | some o=>
  rw [q] at e
  have e':(b,o)=p:=Option.some.inj e
  subst e'
  exact⟨hb,q⟩
theorem Inv.pinned {pins:List (Addr × Obj)}{σ:St}{H:Hp}{s:Shared}{fp:List Addr}(I:Inv X pins σ H s)(hf:∀ b∈fp,qKn X pins H b)(ho:∀ b∈fp,∃ o,s.heap.get? b=some o∧∀ v,o.data≠ .cell v):Inv X (pins++qDc fp s.heap) σ H s:=
 I.pins_of fun p hp=>(List.mem_append.mp hp).elim (fun z=>I.pin p (List.mem_append_right _ z)) fun z=>by
  obtain⟨hb,e⟩:=qIg z
  obtain⟨f0,f1,f2,_⟩:=hf p.1 hb
  obtain⟨o,e',d⟩:=ho p.1 hb
  rw [e] at e';cases e'
  exact⟨e,f0,f1,f2,d⟩
theorem Inv.unpinned {pins pl:List (Addr × Obj)}{σ:St}{H:Hp}{s:Shared}(I:Inv X (pins++pl) σ H s):Inv X pins σ H s:=I.pins_of fun p hp=>I.pin p (List.mem_append_right _ (List.mem_append_left _ hp))
theorem jk {iter:Expr}{body:List Stmt}{wi:TI}{g:TG}{tb:TS}{pos:Pos}(hp:PassesOwn (model X.prog X.w) X.A X.env X.xe)(hc:X.calm=true)(hi:PI X tg iter wi)(hg:PG X tg g)(hb:PSs X body tb)
 (hs:∀ x,foldedSetIterable iter X.env x=pure x:=by intro _;rfl):PS X (.For tg iter body [] pos) (qQr wi g tb):=by
 intro pins s σ H D I h
 refine wpAny_For (thn (hi pins s σ H _ I h) fun v s1 h1=>thn h1 fun itv s2 h2=>?_) hs
 obtain⟨it,fp,tn,J,H2,e,I2,T,st2,f2,W,⟨m0,w0⟩,turn⟩:=h2
 subst e
 have stat:∀ {H':Hp},(∀ b∈fp,H' b=none)→∀ b∈fp,qKn X pins H' b:=fun hn b hb=>⟨hn b hb,(f2 b hb).2⟩
 refine codeAny_forLoop_any (fun n s'=>∃ i σ' H',Inv X pins σ' H' s'∧tn i s'.heap∧(∀ b∈fp,H' b=none)∧W i n σ' H') ?_ m0 ⟨0,σ,H2,I2,st2,fun b hb=>(f2 b hb).1,w0⟩
 rintro n s3 ⟨i,σ3,H3,I3,st3,fr3,w3⟩
 rcases turn i n σ3 H3 w3 with ⟨stop,qn⟩ | ⟨go,N,hN,step⟩
 · refine wpAny_passesOwn hp (thn (T.done X rfl rfl rfl hc i pins s3 σ3 H3 X.xe I3 (stat fr3) st3 stop) fun r s4 ⟨hr,I4⟩=>?_)
   subst hr
   exact wpAny_execs_nil ⟨σ3,H3,I4,qn⟩
 · refine wpAny_passesOwn hp (thn (T.item X rfl rfl rfl hc i pins s3 σ3 H3 X.xe I3 (stat fr3) st3 go) fun r s4 ⟨u,hr,h4⟩=>?_)
   subst hr
   refine wpAny_passesOwn hp (thn h4 fun _ s5 ⟨x,H5,I5,r5,y5,st5,fr5⟩=>?_)
   have I5':=I5.pinned (stat fr5) (T.obj _ _ st5)
   refine wpAny_passesOwn hp (thn (hg _ s5 σ3 H5 x u _ I5' r5 (step x H5 y5)) fun _ s6 ⟨σ6,H6,I6,q6⟩=>?_)
   refine wpAny_passesOwn hp (thn (hb _ s6 σ6 H6 _ I6 q6) fun f s7 q7=>?_)
   have again:∀ {σ7:St} {H7:Hp},Inv X (pins++qDc fp s5.heap) σ7 H7 s7→N σ7 H7→∃ m,m < n∧∃ i σ' H',Inv X pins σ' H' s7∧tn i s7.heap∧(∀ b∈fp,H' b=none)∧W i m σ' H':=fun {σ7 H7} I7 n7=>by
    obtain⟨m',hm,w7⟩:=hN σ7 H7 n7
    refine⟨m',hm,i+1,σ7,H7,I7.unpinned,T.keep _ _ _ st5 fun b hb o e=>(I7.pin (b,o) (List.mem_append_right _ (List.mem_append_right _ (vy hb e)))).1,fun b hb=>?_,w7⟩
    obtain⟨o,e,d⟩:=T.obj _ _ st5 b hb
    exact(I7.pin (b,o) (List.mem_append_right _ (List.mem_append_right _ (vy hb e)))).2.1
   cases f with
   | next=>obtain⟨σ7,H7,I7,n7⟩:=q7;exact again I7 n7
   | cont=>obtain⟨σ7,H7,I7,n7⟩:=q7;exact again I7 n7
   | brk=>obtain⟨σ7,H7,I7,q7⟩:=q7;exact⟨σ7,H7,I7.unpinned,q7⟩
   | ret v=>obtain⟨x7,σ7,H7,I7,r7,q7⟩:=q7;exact⟨x7,σ7,H7,I7.unpinned,r7,q7⟩
end
theorem j0 {K:PySem.W.Frag}{a:Addr}{xs:List V}{g:TG}{tb:TS}{D:qHk}{σ:St}{H:Hp}(Pv:Nat→St→Hp→Prop)(h0:Pv 0 σ H)(hl:∀ i σ H,i≤xs.length→Pv i σ H→SqL K H a xs)
 (hs:∀ i x σ H,xs[i]? =some x→Pv i σ H→g x σ H fun σ2 H2=>tb {D with nx:=Pv (i+1),ct:=Pv (i+1),bk:=D.nx} σ2 H2) (hd:∀ σ H,Pv xs.length σ H→D.nx σ H):
 ∃ W:Nat→Nat→St→Hp→Prop,(∃ m,W 0 m σ H)∧∀ i m σ H,W i m σ H→
  ((Itl K a).stop i H∧D.nx σ H)∨((Itl K a).go i H∧∃ N:St→Hp→Prop,(∀ σ' H',N σ' H'→∃ m',m' < m∧W (i+1) m' σ' H')∧∀ x H',(Itl K a).yld i H x H'→g x σ H' fun σ2 H2=>tb {D with nx:=N,ct:=N,bk:=D.nx} σ2 H2):=by
 refine⟨fun i m σ H=>m=xs.length - i∧i≤xs.length∧Pv i σ H,⟨xs.length,by simp,Nat.zero_le _,h0⟩,?_⟩
 rintro i m σ H ⟨rfl,hi,p⟩
 have q:=hl i σ H hi p
 by_cases hlt:i < xs.length
 · refine .inr ⟨⟨xs,xs[i],q,by simp [hlt]⟩,Pv (i+1),fun σ' H' p'=>⟨xs.length - (i+1),by omega,rfl,hlt,p'⟩,fun x H' y=>?_⟩
   obtain⟨e,y⟩:=y
   subst e
   exact hs i x σ _ (y xs q) p
 · have e:i=xs.length:=by omega
   subst e
   exact .inl ⟨⟨xs,q,Nat.le_refl _⟩,hd σ H p⟩
theorem xm {lo:Int}{n:Nat}{g:TG}{tb:TS}{D:qHk}{σ:St}{H:Hp}(Pv:Nat→St→Hp→Prop)(h0:Pv 0 σ H)
 (hs:∀ i σ H,i < n→Pv i σ H→g (.int (lo+i)) σ H fun σ2 H2=>tb {D with nx:=Pv (i+1),ct:=Pv (i+1),bk:=D.nx} σ2 H2) (hd:∀ σ H,Pv n σ H→D.nx σ H):
 ∃ W:Nat→Nat→St→Hp→Prop,(∃ m,W 0 m σ H)∧∀ i m σ H,W i m σ H→
  ((Itr lo n).stop i H∧D.nx σ H)∨((Itr lo n).go i H∧∃ N:St→Hp→Prop,(∀ σ' H',N σ' H'→∃ m',m' < m∧W (i+1) m' σ' H')∧∀ x H',(Itr lo n).yld i H x H'→g x σ H' fun σ2 H2=>tb {D with nx:=N,ct:=N,bk:=D.nx} σ2 H2):=by
 refine⟨fun i m σ H=>m=n - i∧i≤n∧Pv i σ H,⟨n,by simp,Nat.zero_le _,h0⟩,?_⟩
 rintro i m σ H ⟨rfl,hi,p⟩
 by_cases hlt:i < n
 · refine .inr ⟨hlt,Pv (i+1),fun σ' H' p'=>⟨n - (i+1),by omega,rfl,hlt,p'⟩,fun x H' y=>?_⟩
   obtain⟨e,y⟩:=y
   subst e y
   exact hs i σ _ hlt p
 · have e:i=n:=by omega
   subst e
   exact .inl ⟨Nat.le_refl _,hd σ H p⟩
theorem qGn {c:TT}{tb:TS}{D:qHk}{σ:St}{H:Hp}(Pv:St→Hp→Prop)(μ:St→Hp→Nat)(h0:Pv σ H)
 (hs:∀ σ H,Pv σ H→c σ H fun b H1=>if b=true then tb {D with nx:=fun σ' H'=>Pv σ' H'∧μ σ' H' < μ σ H,ct:=fun σ' H'=>Pv σ' H'∧μ σ' H' < μ σ H,bk:=D.nx} σ H1 else D.nx σ H1)
 (mono:∀ σ H Q Q',(∀ b H1,Q b H1→Q' b H1)→c σ H Q→c σ H Q'):qKu c tb D σ H:=by
 refine⟨fun m σ H=>m=μ σ H∧Pv σ H,⟨_,rfl,h0⟩,?_⟩
 rintro m σ H ⟨rfl,p⟩
 refine mono σ H _ _ (fun b H1 q=>?_) (hs σ H p)
 cases b with
 | true=>exact⟨_,fun σ' H' ⟨p',l⟩=>⟨_,l,rfl,p'⟩,q⟩
 | false=>exact q
end L2
namespace L2
open PySem PySem.Spec PyProof.Rows
abbrev R2:=V→V→Hp→VK→Prop
def OpR (X:Cx)(f:Value→Value→Sem Value)(r:R2):Prop:=
 ∀ (pins:List (Addr × Obj)) (s:Shared) (σ:St) (H:Hp) (x y:V) (v u:Value) (Q:VK),Inv X pins σ H s→RelV x v→RelV y u→r x y H Q→
  wpAny (model X.prog X.w) X.A (f v u) (EP X pins σ Q) X.xe s
def UnR (X:Cx)(f:Value→Sem Value)(r:V→Hp→VK→Prop):Prop:=
 ∀ (pins:List (Addr × Obj)) (s:Shared) (σ:St) (H:Hp) (x:V) (v:Value) (Q:VK),Inv X pins σ H s→RelV x v→r x H Q→
  wpAny (model X.prog X.w) X.A (f v) (EP X pins σ Q) X.xe s
def zg (X:Cx)(f:Value)(r:List V→Hp→VK→Prop):Prop:=
 ∀ (pins:List (Addr × Obj)) (s:Shared) (σ:St) (H:Hp) (xs:List V) (us:List Value) (Q:VK),Inv X pins σ H s→Vals xs us→r xs H Q→
  wpAny (model X.prog X.w) X.A (call f us) (EP X pins σ Q) X.xe s
def tOp (r:R2)(ta tb:TE):TE:=fun σ H Q=>ta σ H fun x H1=>tb σ H1 fun y H2=>r x y H2 Q
def tUn (r:V→Hp→VK→Prop)(ta:TE):TE:=fun σ H Q=>ta σ H fun x H1=>r x H1 Q
inductive rI (C:Int→Int→Prop)(g:Int→Int→V)(x:V)(y:V)(H:Hp)(Q:VK):Prop
| mk i j (_:x= .int i) (_:y= .int j) (_:C i j) (_:Q (g i j) H)
inductive rI0 (g:Int→Int→V)(x:V)(y:V)(H:Hp)(Q:VK):Prop
| mk i j (_:x= .int i) (_:y= .int j) (_:Q (g i j) H)
inductive rU (g:Int→V)(x:V)(H:Hp)(Q:VK):Prop
| mk i (_:x= .int i) (_:Q (g i) H)
section
variable {X : Cx} {a b c : Expr} {ta tb tc : TE} {pos : Pos}
theorem qOm (ha:PE X a ta)(hb:PE X b tb){pins:List (Addr × Obj)}{s:Shared}{σ:St}{H:Hp}{R:V→V→Hp→Prop}(I:Inv X pins σ H s)
 (h:ta σ H fun x H1=>tb σ H1 fun y H2=>R x y H2) {Q:Value→Shared→Prop} {f:Value→Value→Sem Value}
 (hf:∀ v u s2 x y H2,Inv X pins σ H2 s2→RelV x v→RelV y u→R x y H2→wpAny (model X.prog X.w) X.A (f v u) Q X.xe s2):
 wpAny (model X.prog X.w) X.A (eval a X.env) (fun v s₁=>wpAny (model X.prog X.w) X.A (eval b X.env) (fun u s₂=>wpAny (model X.prog X.w) X.A (f v u) Q X.xe s₂) X.xe s₁) X.xe s:=by
 refine thn (ha pins s σ H _ I h) fun v s1 ⟨x,H1,I1,r1,q1⟩=>?_
 refine thn (hb pins s1 σ H1 _ I1 q1) fun u s2 ⟨y,H2,I2,r2,q2⟩=>?_
 exact hf v u s2 x y H2 I2 r1 r2 q2
theorem qN {op:Operator}{r:R2}(ho:OpR X (binaryOp op) r)(ha:PE X a ta)(hb:PE X b tb):PE X (.BinOp a op b pos) (tOp r ta tb):=by
 intro pins s σ H Q I h
 exact wpAny_BinOp (qOm ha hb I h fun v u s2 x y H2 I2 rx ry q=>ho pins s2 σ H2 x y v u Q I2 rx ry q)
theorem wP {op:UnaryOp}{r:V→Hp→VK→Prop}(ho:UnR X (unaryOp op) r)(ha:PE X a ta):PE X (.UnaryOp op a pos) (tUn r ta):=by
 intro pins s σ H Q I h
 exact UnaryOp_ (thn (ha pins s σ H _ I h) fun v s1 ⟨x,H1,I1,r1,q1⟩=>ho pins s1 σ H1 x v Q I1 r1 q1)
theorem opI {f:Value→Value→Sem Value}{C:Int→Int→Prop}{g:Int→Int→Int}
 (rule:∀ (i j:Int) (t u:Tok) (s:Shared) (Q:Value→Shared→Prop) (E:Value→Shared→Prop),C i j→Q (.int (g i j) s.toks) {s with toks:=s.toks+1}→wpAny (model X.prog X.w) X.A (f (.int i t) (.int j u)) Q E s):
 OpR X f (rI C fun i j=>.int (g i j)):=by
 intro pins s σ H x y v u Q I rx ry h
 obtain⟨i,j,rfl,rfl,hc,q⟩:=h
 obtain⟨t,rfl⟩:=rx
 obtain⟨t',rfl⟩:=ry
 exact rule i j t t' s _ _ hc ⟨.int (g i j),H,I.tok _,⟨_,rfl⟩,q⟩
theorem qP3 {f:Value→Value→Sem Value}{g:Int→Int→Int}
 (rule:∀ (i j:Int) (t u:Tok) (s:Shared) (Q:Value→Shared→Prop) (E:Value→Shared→Prop),Q (.int (g i j) s.toks) {s with toks:=s.toks+1}→wpAny (model X.prog X.w) X.A (f (.int i t) (.int j u)) Q E s):
 OpR X f (rI0 fun i j=>.int (g i j)):=by
 intro pins s σ H x y v u Q I rx ry h
 obtain⟨i,j,rfl,rfl,q⟩:=h
 obtain⟨t,rfl⟩:=rx
 obtain⟨t',rfl⟩:=ry
 exact rule i j t t' s _ _ ⟨.int (g i j),H,I.tok _,⟨_,rfl⟩,q⟩
theorem qOg {f:Value→Value→Sem Value}{g:Int→Int→Bool}
 (rule:∀ (i j:Int) (t u:Tok) (s:Shared) (Q:Value→Shared→Prop) (E:Value→Shared→Prop),Q (.bool (g i j)) s→wpAny (model X.prog X.w) X.A (f (.int i t) (.int j u)) Q E s):
 OpR X f (rI0 fun i j=>.bl (g i j)):=by
 intro pins s σ H x y v u Q I rx ry h
 obtain⟨i,j,rfl,rfl,q⟩:=h
 obtain⟨t,rfl⟩:=rx
 obtain⟨t',rfl⟩:=ry
 exact rule i j t t' s _ _ ⟨.bl (g i j),H,I,rfl,q⟩
def qP8 (i j:Int):Prop:=0≤j∧j≤1000000∧i.natAbs < 2 ^ 64
def CMul (i j:Int):Prop:=(-(2 ^ 64) < i∧i < 2 ^ 64)∨(-(2 ^ 64) < j∧j < 2 ^ 64)
theorem CMul.ok {i j:Int}(h:CMul i j):IntMulOk i j:=by
 rcases h with ⟨h1,h2⟩ | ⟨h1,h2⟩
 · exact .of_left (intBits_le_64 h1 h2)
 · exact .of_right (intBits_le_64 h1 h2)
theorem jE:OpR X (binaryOp .Add) (rI0 fun i j=>.int (i+j)):=qP3 fun _ _ _ _ _ _ _ q=>add_int q
theorem jZ:OpR X (binaryOp .Sub) (rI0 fun i j=>.int (i - j)):=qP3 fun _ _ _ _ _ _ _ q=>sub_int q
theorem qm:OpR X (binaryOp .Mod) (rI (fun _ j=>j≠0) fun i j=>.int (i.fmod j)):=opI fun _ _ _ _ _ _ _ hc q=>mod_int' hc q
theorem qC5:OpR X (binaryOp .Pow) (rI qP8 fun i j=>.int (i ^ j.toNat)):=opI fun _ _ _ _ _ _ _ hc q=>pow_int_small hc.1 hc.2.1 hc.2.2 q
theorem unI {f:Value→Sem Value}{g:Int→Int}
 (rule:∀ (i:Int) (t:Tok) (s:Shared) (Q:Value→Shared→Prop) (E:Value→Shared→Prop),Q (.int (g i) s.toks) {s with toks:=s.toks+1}→wpAny (model X.prog X.w) X.A (f (.int i t)) Q E s):
 UnR X f (rU fun i=>.int (g i)):=by
 intro pins s σ H x v Q I rx h
 obtain⟨i,rfl,q⟩:=h
 obtain⟨t,rfl⟩:=rx
 exact rule i t s _ _ ⟨.int (g i),H,I.tok _,⟨_,rfl⟩,q⟩
theorem zO:UnR X (unaryOp .USub) (rU fun i=>.int (-i)):=unI fun _ _ _ _ _ q=>neg_int q
end
def qOl:V→V→Bool
 | .non,.non=>true | .non,.int _=>true | .int _,.non=>true | .non,.bl _=>true | .bl _,.non=>true | .non,.str _=>true | .str _,.non=>true
 | .int _,.int _=>true | .bl _,.bl _=>true | .str _,.str _=>true | .byt _,.byt _=>true
 | .int _,.str _=>true | .str _,.int _=>true | .bl _,.str _=>true | .str _,.bl _=>true
 | _,_=>false
inductive rEq (x:V)(y:V)(H:Hp)(Q:VK):Prop
| mk (_:qOl x y=true) (_:Q (.bl (decide (x=y))) H)
inductive rNe (x:V)(y:V)(H:Hp)(Q:VK):Prop
| mk (_:qOl x y=true) (_:Q (.bl (!decide (x=y))) H)
theorem qIr {i j:Int}:decide (V.int i=V.int j)=(i == j):=by
 rw [Bool.eq_iff_iff]
 simp
theorem qK5 {i j:Bool}:decide (V.bl i=V.bl j)=(i == j):=by
 rw [Bool.eq_iff_iff]
 simp
theorem qJe {i j:Str}:decide (V.str i=V.str j)=(i == j):=by
 rw [Bool.eq_iff_iff]
 simp
theorem qIl {i j:Array UInt8}:decide (V.byt i=V.byt j)=(i.toList == j.toList):=by
 rw [Bool.eq_iff_iff]
 cases i
 cases j
 simp
section
variable {X : Cx} {a b c : Expr} {ta tb tc : TE} {pos : Pos}
theorem jA {pins:List (Addr × Obj)}{σ:St}{H:Hp}{s:Shared}{Q:VK}{k k':Bool}(I:Inv X pins σ H s)(q:Q (.bl k) H)(e:k=k'):EP X pins σ Q (.bool k') s:=by
 subst e
 exact⟨.bl k,H,I,rfl,q⟩
theorem xA:OpR X (compareOp .Eq) rEq:=by
 intro pins s σ H x y v u Q I rx ry h
 obtain⟨hs,q⟩:=h
 cases x with
 | non=>
  cases rx
  cases y with
  | non=>cases ry;exact PySem.EqNone.eq_none_none (jA I q (by simp))
  | bl j=>cases ry;exact PySem.EqNone.eq_none_bool (jA I q (by simp))
  | int j=>obtain⟨t',rfl⟩:=ry;exact PySem.EqNone.eq_none_int (jA I q (by simp))
  | str j=>obtain⟨t',rfl⟩:=ry;exact PySem.EqNone.eq_none_str (jA I q (by simp))
  | _=>exact absurd (show false=true from hs) Bool.false_ne_true
 | bl i=>
  cases rx
  cases y with
  | non=>cases ry;exact PySem.EqNone.eq_bool_none (jA I q (by simp))
  | bl j=>cases ry;exact eq_bool (jA I q qK5)
  | str j=>obtain⟨t',rfl⟩:=ry;exact PySem.EqMixed.eq_bool_str (jA I q (by simp))
  | _=>exact absurd (show false=true from hs) Bool.false_ne_true
 | int i=>
  obtain⟨t,rfl⟩:=rx
  cases y with
  | non=>cases ry;exact PySem.EqNone.eq_int_none (jA I q (by simp))
  | int j=>obtain⟨t',rfl⟩:=ry;exact eq_int (jA I q qIr)
  | str j=>obtain⟨t',rfl⟩:=ry;exact PySem.EqMixed.eq_int_str (jA I q (by simp))
  | _=>exact absurd (show false=true from hs) Bool.false_ne_true
 | str i=>
  obtain⟨t,rfl⟩:=rx
  cases y with
  | non=>cases ry;exact PySem.EqNone.eq_str_none (jA I q (by simp))
  | bl j=>cases ry;exact PySem.EqMixed.eq_str_bool (jA I q (by simp))
  | int j=>obtain⟨t',rfl⟩:=ry;exact PySem.EqMixed.eq_str_int (jA I q (by simp))
  | str j=>obtain⟨t',rfl⟩:=ry;exact eq_str (jA I q qJe)
  | _=>exact absurd (show false=true from hs) Bool.false_ne_true
 | byt i=>
  obtain⟨t,rfl⟩:=rx
  cases y with
  | byt j=>obtain⟨t',rfl⟩:=ry;exact PySem.W.eq_bytes (jA I q qIl)
  | _=>exact absurd (show false=true from hs) Bool.false_ne_true
 | _=>cases y <;> exact absurd (show false=true from hs) Bool.false_ne_true
theorem kN:OpR X (compareOp .NotEq) rNe:=by
 intro pins s σ H x y v u Q I rx ry h
 obtain⟨hs,q⟩:=h
 cases x with
 | non=>
  cases rx
  cases y with
  | non=>cases ry;exact PySem.EqNone.ne_none_none (jA I q (by simp))
  | bl j=>cases ry;exact PySem.EqNone.ne_none_bool (jA I q (by simp))
  | int j=>obtain⟨t',rfl⟩:=ry;exact PySem.EqNone.ne_none_int (jA I q (by simp))
  | str j=>obtain⟨t',rfl⟩:=ry;exact PySem.EqNone.ne_none_str (jA I q (by simp))
  | _=>exact absurd (show false=true from hs) Bool.false_ne_true
 | bl i=>
  cases rx
  cases y with
  | non=>cases ry;exact PySem.EqNone.ne_bool_none (jA I q (by simp))
  | bl j=>cases ry;exact ne_bool (jA I q (congrArg not qK5))
  | str j=>obtain⟨t',rfl⟩:=ry;exact PySem.EqMixed.ne_bool_str (jA I q (by simp))
  | _=>exact absurd (show false=true from hs) Bool.false_ne_true
 | int i=>
  obtain⟨t,rfl⟩:=rx
  cases y with
  | non=>cases ry;exact PySem.EqNone.ne_int_none (jA I q (by simp))
  | int j=>obtain⟨t',rfl⟩:=ry;exact ne_int (jA I q (congrArg not qIr))
  | str j=>obtain⟨t',rfl⟩:=ry;exact PySem.EqMixed.ne_int_str (jA I q (by simp))
  | _=>exact absurd (show false=true from hs) Bool.false_ne_true
 | str i=>
  obtain⟨t,rfl⟩:=rx
  cases y with
  | non=>cases ry;exact PySem.EqNone.ne_str_none (jA I q (by simp))
  | bl j=>cases ry;exact PySem.EqMixed.ne_str_bool (jA I q (by simp))
  | int j=>obtain⟨t',rfl⟩:=ry;exact PySem.EqMixed.ne_str_int (jA I q (by simp))
  | str j=>obtain⟨t',rfl⟩:=ry;exact ne_str (jA I q (congrArg not qJe))
  | _=>exact absurd (show false=true from hs) Bool.false_ne_true
 | byt i=>
  obtain⟨t,rfl⟩:=rx
  cases y with
  | byt j=>obtain⟨t',rfl⟩:=ry;exact PySem.W.ne_bytes (jA I q (congrArg not qIl))
  | _=>exact absurd (show false=true from hs) Bool.false_ne_true
 | _=>cases y <;> exact absurd (show false=true from hs) Bool.false_ne_true
theorem wv:OpR X (compareOp .Lt) (rI0 fun i j=>.bl (decide (i < j))):=qOg fun _ _ _ _ _ _ _ q=>lt_int q
theorem qJn:OpR X (compareOp .LtE) (rI0 fun i j=>.bl (decide (i≤j))):=qOg fun _ _ _ _ _ _ _ q=>le_int q
theorem qHn:OpR X (compareOp .Gt) (rI0 fun i j=>.bl (decide (j < i))):=qOg fun _ _ _ _ _ _ _ q=>gt_int q
theorem qCz:OpR X (compareOp .GtE) (rI0 fun i j=>.bl (decide (j≤i))):=qOg fun _ _ _ _ _ _ _ q=>ge_int q
theorem OpR.or {f:Value→Value→Sem Value}{r r':R2}(h:OpR X f r)(h':OpR X f r'):OpR X f (fun x y H Q=>r x y H Q∨r' x y H Q):=by
 intro pins s σ H x y v u Q I rx ry q
 rcases q with q | q
 · exact h pins s σ H x y v u Q I rx ry q
 · exact h' pins s σ H x y v u Q I rx ry q
theorem qW (b:Expr){op:CmpOp}(h:op≠ .In:=by decide)(h2:op≠ .NotIn:=by decide):behindInMarks op b=false:=by
 have e1:(op == CmpOp.In)=false:=by cases op <;> first | rfl | exact absurd rfl h
 have e2:(op == CmpOp.NotIn)=false:=by cases op <;> first | rfl | exact absurd rfl h2
 cases b <;> simp [behindInMarks,e1,e2]
theorem ja {op:CmpOp}{r:R2}(ho:OpR X (compareOp op) r)(ha:PE X a ta)(hb:PE X b tb)(hm:behindInMarks op b=false):PE X (.Compare a [op] [b] pos) (tOp r ta tb):=by
 intro pins s σ H Q I h
 exact wpAny_Compare1 (qOm ha hb I h fun v u s2 x y H2 I2 rx ry q=>ho pins s2 σ H2 x y v u Q I2 rx ry q) hm
inductive qNz (Q:Bool→Hp→Prop)(x:V)(H':Hp):Prop
| mk k (_:x= .bl k) (_:Q k H')
def qPo (t:TE):TT:=fun σ H Q=>t σ H fun x H'=>qNz Q x H'
theorem qQ {op:CmpOp}{r:R2}(ho:OpR X (compareOp op) r)(ha:PE X a ta)(hb:PE X b tb)(hm:behindInMarks op b=false):PT X (.Compare a [op] [b] pos) (qPo (tOp r ta tb)):=by
 intro pins s σ H Q I h
 refine wpAny_isTrue_Compare1 (thn (ha pins s σ H _ I h) fun v s1 ⟨x,H1,I1,r1,q1⟩=>thn (hb pins s1 σ H1 _ I1 q1) fun u s2 ⟨y,H2,I2,r2,q2⟩=>
  thn (ho pins s2 σ H2 x y v u _ I2 r1 r2 q2) fun c s3 ⟨z,H3,I3,r3,k,e,q3⟩=>?_) hm
 subst e
 cases r3
 exact wpAny_truthy_bool ⟨H3,I3,q3⟩
theorem qEe:(sizeLine:Nat) < 2 ^ 63:=by rw [sizeLine_eq];decide
theorem qC7 {x:V}{us:List Value}(r:Vals [x] us):∃ u,us=[u]∧RelV x u:=by
 cases r with
 | cons r1 r2=>cases r2;exact⟨_,rfl,r1⟩
theorem qHt {x y:V}{us:List Value}(r:Vals [x,y] us):∃ u w',us=[u,w']∧RelV x u∧RelV y w':=by
 cases r with
 | cons r1 r2=>
  cases r2 with
  | cons r3 r4=>cases r4;exact⟨_,_,rfl,r1,r3⟩
theorem qB9:zg X (.builtin "abs") (fun xs H Q=>∃ i,xs=[.int i]∧Q (.int (if i < 0 then -i else i)) H):=by
 intro pins s σ H xs us Q I r h
 obtain⟨i,rfl,q⟩:=h
 obtain⟨u,rfl,t,rfl⟩:=qC7 r
 exact call_abs_int fun u tk=>⟨.int (if i < 0 then -i else i),H,I.tok _,⟨_,rfl⟩,q⟩
theorem qD3 (hc:X.calm=true):zg X (.builtin "max") (fun xs H Q=>∃ i j,xs=[.int i,.int j]∧Q (.int (if j > i then j else i)) H):=by
 intro pins s σ H xs us Q I r h
 obtain⟨i,j,rfl,q⟩:=h
 obtain⟨u,w',rfl,⟨t,rfl⟩,⟨t',rfl⟩⟩:=qHt r
 refine max_two_ints (I.ok.hd hc) fun h' tk k=>⟨_,H,I.kept k,?_,q⟩
 by_cases hj:j > i
 · rw [if_pos hj,if_pos hj];exact⟨_,rfl⟩
 · rw [if_neg hj,if_neg hj];exact⟨_,rfl⟩
theorem we (hc:X.calm=true):zg X (.builtin "min") (fun xs H Q=>∃ i j,xs=[.int i,.int j]∧Q (.int (if j < i then j else i)) H):=by
 intro pins s σ H xs us Q I r h
 obtain⟨i,j,rfl,q⟩:=h
 obtain⟨u,w',rfl,⟨t,rfl⟩,⟨t',rfl⟩⟩:=qHt r
 refine min_two_ints (I.ok.hd hc) fun h' tk k=>⟨_,H,I.kept k,?_,q⟩
 by_cases hj:j < i
 · rw [if_pos hj,if_pos hj];exact⟨_,rfl⟩
 · rw [if_neg hj,if_neg hj];exact⟨_,rfl⟩
end
end L2
namespace L2
open PySem PySem.Spec PyProof.Rows
structure ObjM (h:Heap)(x dx C:Addr)(mA:Str→Option Value):Prop where
 obj:h.get? x=some (PySem.W.instObj C dx)
 ns:h.Ns1 dx mA
 ne:dx≠x
theorem qJa {h:Heap}{dx:Addr}{mA:Str→Option Value}(n:h.Ns1 dx mA):∃ od,h.get? dx=some od∧∀ name,PySem.W.lookIn name od=some (mA name):=by
 obtain⟨o,es,ep,ho,hd,hk,_,hm⟩:=n
 refine⟨o,ho,fun name=>?_⟩
 have e:=hm name
 unfold nsFind findBy at e
 rw [← Array.find?_toList] at e
 unfold PySem.W.lookIn
 rw [hd]
 dsimp only
 split
 · rename_i y q
   rw [q] at e
   exact congrArg some e
 · rename_i q
   rw [q] at e
   have a:es.toList.any (·.refKey)=false:=by
    rw [List.any_eq_false]
    intro y hy
    obtain⟨z,t,hkey⟩:=hk y (Array.mem_toList_iff.mp hy)
    simp [DictEntry.refKey,hkey]
   have a':¬ es.toList.any (·.refKey)=true:=by rw [a];exact Bool.false_ne_true
   rw [if_neg a']
   exact congrArg some e
theorem ObjM.look {h:Heap}{x dx C:Addr}{mA:Str→Option Value}(I:ObjM h x dx C mA):∃ od,PySem.W.InstAt h x (PySem.W.instObj C dx) C (some od)∧∀ name,PySem.W.lookIn name od=some (mA name):=
 let ⟨od,ho,hl⟩:=qJa I.ns
 ⟨od,⟨I.obj,rfl,rfl,ho⟩,hl⟩
section
variable {prog : Program} {w : World} {A : Around} {E : Value → Shared → Prop} {s : Shared} {K : PySem.W.Frag} {x dx C f : Addr} {mA : Str → Option Value} {name : Str} {v : Value}
end
theorem RelO.some_of {v:V}{o:Option Value}(r:RelO (some v) o):∃ u,o=some u∧RelV v u:=by
 cases o with
 | none=>exact(show False from r).elim
 | some u=>exact⟨u,rfl,r⟩
section
variable {P : Program} {w : World} {H H' : Hp} {h h' : Heap} {a C dx : Addr} {fs fs' : List (Str × V)}
theorem qL3 (hok:HOk P w H h)(e:H a=some (.ins C dx fs)):∃ mA,ObjM h a dx C mA∧(∀ f,RelO (fs.lookup f) (mA f))∧PySem.Within mA (fs.map (·.1))∧fs.length≤1000∧H dx=some (.own a):=by
 obtain⟨d,z,ne,ob,mA,n,r,q⟩:=(show ObjOk P w H h a (.ins C dx fs) from hok a _ e)
 exact⟨mA,⟨ob,n,ne⟩,r,q,z,d⟩
end
structure Cls (K:PySem.W.Frag)(C:Addr):Prop where
 pg:PySem.W.plainGet K C Str.empty=true
 hd:PySem.W.hasDictIn K C=true
 po:PySem.W.plainOver K C=true
 sa:PySem.W.findIn K (.ref C) "__setattr__"=some (some (.builtin "object.__setattr__"))
theorem Cls.get {K:PySem.W.Frag}{C:Addr}(c:Cls K C)(f:Str):PySem.W.plainGet K C f=true:=c.pg
section
variable {X : Cx} {pins : List (Addr × Obj)} {σ : St} {H : Hp} {s : Shared} {a C dx : Addr} {fs : List (Str × V)} {f : Str} {v : V} {A : Around} {E : Value → Shared → Prop}
theorem Inv.made (I:Inv X pins σ H s):Inv X pins σ (upd (upd H s.heap.objs.size (.own (s.heap.objs.size+1))) (s.heap.objs.size+1) (.ins C s.heap.objs.size []))
 {s with heap:=(s.heap.push PySem.W.emptyDict).push (PySem.W.instObj C s.heap.objs.size)}:=by
 have e1:(s.heap.push PySem.W.emptyDict).get? s.heap.objs.size=some PySem.W.emptyDict:=Heap.get?_push_size s.heap rfl
 have e2:((s.heap.push PySem.W.emptyDict).push (PySem.W.instObj C s.heap.objs.size)).get? (s.heap.objs.size+1)=some (PySem.W.instObj C s.heap.objs.size):=by
  have:=Heap.get?_push_size (s.heap.push PySem.W.emptyDict) (o:=PySem.W.instObj C s.heap.objs.size) rfl
  rwa [Heap.size_push] at this
 have e3:(s.heap.push PySem.W.emptyDict).Ns s.heap.objs.size (fun _=>none):=⟨PySem.W.emptyDict,#[],_,e1,rfl,(fun e he=>absurd he (by simp)),fun _=>rfl⟩
 have I1:=I.laid (a:=s.heap.objs.size) (o:=.own (s.heap.objs.size+1)) (h':=s.heap.push PySem.W.emptyDict) (t':=s.toks) (fun b u q=>Heap.get?_push_of_some _ q) (Nat.le_refl _) ⟨_,e1⟩
 refine I1.laid (a:=s.heap.objs.size+1) (o:=.ins C s.heap.objs.size []) (t':=s.toks) (fun b u q=>Heap.get?_push_of_some _ q) (Nat.le_of_eq (Heap.size_push _ _)) ?_
 have ne:s.heap.objs.size≠s.heap.objs.size+1:=Nat.ne_of_lt (Nat.lt_succ_self _)
 refine⟨by rw [qZ ne,qB],Nat.zero_le _,ne,e2,fun _=>none,(Heap.Ns1.of_empty e3).at fun o q=>Heap.get?_push_of_some _ q,fun _=>True.intro,fun y hy=>absurd rfl hy⟩
end
section
variable {X : Cx} {o e value : Expr} {f : Str} {pos pos' tpos : Pos} {ta tv : TE}
end
section
variable {X : Cx} {pins : List (Addr × Obj)} {σ : St} {H : Hp} {s : Shared} {A : Around} {E : Value → Shared → Prop} {Q : Value → Shared → Prop} {c : Value} {b : Bool}
inductive qAz (K:PySem.W.Frag)(H:Hp):V→Value→Prop where
 | non:qAz K H .non (.type "NoneType")
 | bl (x:Bool):qAz K H (.bl x) (.type "bool")
 | int (i:Int):qAz K H (.int i) (.type "int")
 | str (x:Str):qAz K H (.str x) (.type "str")
 | flt (x:UInt64):qAz K H (.flt x) (.type "float")
 | lst {a:Addr} {xs:List V} (e:H a=some (.lst xs)):qAz K H (.ref a) (.type "list")
 | frz {a:Addr} {o:Obj} {xs:List V} (e:H a=some (.frz o (.lst xs))):qAz K H (.ref a) (.type "list")
 | tup {a:Addr} {xs:List V} (e:H a=some (.tup xs)):qAz K H (.ref a) (.type "tuple")
 | dK {a:Addr} {kvs:List (Key × V)} (e:H a=some (.dK kvs)):qAz K H (.ref a) (.type "dict")
 | dT {a:Addr} {kvs:List (List Key × V)} (e:H a=some (.dT kvs)):qAz K H (.ref a) (.type "dict")
 | ins {a C dx:Addr} {fs:List (Str × V)} (e:H a=some (.ins C dx fs)) (cl:Cls K C) (ha:PySem.W.findIn K (.ref C) "__class__"=some (some (.builtin "object.__class__")))
  (hn:PySem.W.specialIn K (.builtin "object.__class__") "__get__"=some (some (.builtin "getset_descriptor.__get__"))) (htk:PySem.W.takesIn K (.builtin "object.__class__")=some true)
  (hm:PySem.W.mroIn K C (.type "object")=some true):qAz K H (.ref a) (.ref C)
theorem qD7 {x:V}{u t:Value}(I:Inv X pins σ H s)(rx:RelV x u)(ty:qAz X.K H x t)(e:PySem.W.kitOne X.K t c=some b)(h:∀ tk,Q (.bool b) {s with toks:=tk}):
 wpAny (model X.prog X.w) A (call (.builtin "isinstance") [u,c]) Q E s:=by
 cases ty with
 | non=>cases (show u=Value.none from rx);exact PySem.W.kia_one PySem.W.kitx_none I.kIn True.intro e (fun z=>nomatch z) h
 | bl y=>cases (show u=Value.bool y from rx);exact PySem.W.kia_one PySem.W.kitx_bool I.kIn True.intro e (fun z=>nomatch z) h
 | int i=>obtain⟨t,q⟩:=(show ∃ t,u=Value.int i t from rx);cases q;exact PySem.W.kia_one PySem.W.kitx_int I.kIn True.intro e (fun z=>nomatch z) h
 | str y=>obtain⟨t,q⟩:=(show ∃ t,u=Value.str y t from rx);cases q;exact PySem.W.kia_one PySem.W.kitx_str I.kIn True.intro e (fun z=>nomatch z) h
 | flt y=>obtain⟨t,q⟩:=(show ∃ t,u=Value.float y t from rx);cases q;exact PySem.W.kia_one PySem.W.kitx_float I.kIn True.intro e (fun z=>nomatch z) h
 | @lst a xs ea=>
  cases (show u=Value.ref a from rx)
  obtain⟨_,_,n,_,h1⟩:=(show ObjOk X.prog X.w H s.heap a (.lst xs) from I.hok a _ ea)
  exact PySem.W.kia_one PySem.W.kitx_list I.kIn ⟨_,h1,rfl⟩ e (fun z=>nomatch z) h
 | @frz a ob xs ea=>
  cases (show u=Value.ref a from rx)
  obtain⟨_,_,_,n,_,h1⟩:=(show ObjOk X.prog X.w H s.heap a (.frz ob (.lst xs)) from I.hok a _ ea)
  exact PySem.W.kia_one PySem.W.kitx_list I.kIn ⟨_,h1,rfl⟩ e (fun z=>nomatch z) h
 | @tup a xs ea=>
  cases (show u=Value.ref a from rx)
  obtain⟨_,_,_,p⟩:=(show ObjOk X.prog X.w H s.heap a (.tup xs) from I.hok a _ ea)
  obtain⟨o,h1,h2,_⟩:=p
  exact PySem.W.kia_one PySem.W.kitx_tuple I.kIn ⟨o,h1,h2⟩ e (fun z=>nomatch z) h
 | @dK a kvs ea=>
  cases (show u=Value.ref a from rx)
  obtain⟨_,_,vs,_,p⟩:=(show ObjOk X.prog X.w H s.heap a (.dK kvs) from I.hok a _ ea)
  obtain⟨o,es,ep,h1,h2,_⟩:=p
  exact PySem.W.kia_one PySem.W.kitx_dict I.kIn ⟨o,h1,h2.1⟩ e (fun z=>nomatch z) h
 | @dT a kvs ea=>
  cases (show u=Value.ref a from rx)
  obtain⟨_,_,xs,_,o,es,ep,h1,h2,_⟩:=(show ObjOk X.prog X.w H s.heap a (.dT kvs) from I.hok a _ ea)
  exact PySem.W.kia_one PySem.W.kitx_dict I.kIn ⟨o,h1,h2.1⟩ e (fun z=>nomatch z) h
 | @ins a C dx fs ea cl ha hn htk hm=>
  cases (show u=Value.ref a from rx)
  obtain⟨mA,O,_⟩:=qL3 I.hok ea
  obtain⟨od,J,_⟩:=O.look
  exact PySem.W.kia_one (PySem.W.kitx_own (cl.get _) cl.hd ha hn htk hm) I.kIn J e (fun z=>nomatch z) h
end
end L2
namespace L2
open PySem PySem.Spec PyProof.Rows
structure Room (k:Nat)(A:Around):Prop where
 hd:A.handled=none
 dp:A.depth+3*k+5 < recursionLimit
 un:A.units+16*k+200 < cLine
theorem Room.mono {j k:Nat}{A:Around}(r:Room k A)(h:j≤k):Room j A:=⟨r.hd,by have:=r.dp;omega,by have:=r.un;omega⟩
theorem Room.deeper {k:Nat}{A:Around}(r:Room (k+1) A)(env:Env):Room k (A.deeper env):=
 ⟨r.hd,by have:=r.dp;show A.depth+1+3*k+5 < _;omega,by have:=r.un;show A.units+3+16*k+200 < _;omega⟩
theorem Room.in1 {k:Nat}{A:Around}(r:Room (k+1) A):Room k A.in1:=
 ⟨r.hd,by have:=r.dp;show A.depth+3*k+5 < _;omega,by have:=r.un;show A.units+1+16*k+200 < _;omega⟩
theorem Room.depth {k:Nat}{A:Around}(r:Room k A):A.depth < recursionLimit:=by have:=r.dp;omega
theorem Room.units {k:Nat}{A:Around}(r:Room k A):A.units+64 < cLine:=by have:=r.un;omega
theorem Room.units0 {k:Nat}{A:Around}(r:Room k A):A.units < cLine:=by have:=r.un;omega
def qQo:TA:=fun _ H Q=>Q [] H
def qPy (ta:TE)(tr:TA):TA:=fun σ H Q=>ta σ H fun x H1=>tr σ H1 fun xs H2=>Q (x::xs) H2
section
variable {X : Cx} {e : Expr} {es : List Expr} {te : TE} {t : TA} {pos : Pos}
theorem qD:PA X [] qQo:=fun _ _ _ _ H Q I h=>Calls.spliced_nil ⟨[],H,I,.nil,h⟩
theorem qA (ha:PE X e te)(hr:PA X es t)(hs:starEach (e::es) X.env=(false,eval e X.env)::starEach es X.env:=by rfl):PA X (e::es) (qPy te t):=by
 intro pos pins s σ H Q I h
 rw [hs]
 show wpAny _ _ (spliced ((false,eval e X.env)::backTo pos (starEach es X.env))) _ _ s
 refine Calls.spliced_cons (thn (ha pins s σ H _ I h) fun u s1 ⟨x,H1,I1,r1,q1⟩=>?_)
 exact thn (hr pos pins s1 σ H1 _ I1 q1) fun us s2 ⟨xs,H2,I2,r2,q2⟩=>⟨x::xs,H2,I2,.cons r1 r2,q2⟩
inductive qOw (Q:VK)(xs:List V)(H1:Hp):Prop
| mk (_:xs.length≤sizeLine) (_:∀ p,H1 p=none→Q (.ref p) (upd H1 p (.tup xs)))
def qQf (t:TA):TE:=fun σ H Q=>t σ H fun xs H1=>qOw Q xs H1
inductive qPk (Q:VK)(xs:List V)(H1:Hp):Prop
| mk (_:xs.length≤sizeLine) (_:∀ p,H1 p=none→Q (.ref p) (upd H1 p (.lst xs)))
def qQs (t:TA):TE:=fun σ H Q=>t σ H fun xs H1=>qPk Q xs H1
theorem qK {x1}(h:PA X es t):PE X (.Tuple es x1 pos) (qQf t):=by
 intro pins s σ H Q I hq
 refine wpAny_Tuple_spliced (thn (h pos pins s σ H _ I hq) fun us s1 ⟨xs,H1,I1,r,z,q⟩=>⟨by rw [← r.length];exact z,?_⟩)
 have hf:H1 s1.heap.objs.size=none:=I1.hok.fresh (Nat.le_refl _)
 refine⟨.ref s1.heap.objs.size,upd H1 s1.heap.objs.size (.tup xs),I1.laid (t':=s1.toks) (fun b u e=>Heap.get?_push_of_some _ e) (Nat.le_refl _) ?_,rfl,q _ hf⟩
 exact⟨z,us,r,⟨_,Heap.get?_push_size _ rfl,rfl,_,rfl⟩⟩
theorem qO (h:PA X es t):PE X (.List es pos) (qQs t):=by
 intro pins s σ H Q I hq
 refine wpAny_List_spliced (thn (h pos pins s σ H _ I hq) fun us s1 ⟨xs,H1,I1,r,z,q⟩=>⟨by rw [← r.length];exact z,?_⟩)
 have hf:H1 s1.heap.objs.size=none:=I1.hok.fresh (Nat.le_refl _)
 refine⟨.ref s1.heap.objs.size,upd H1 s1.heap.objs.size (.lst xs),I1.laid (t':=s1.toks) (fun b u e=>Heap.get?_push_of_some _ e) (Nat.le_refl _) ?_,rfl,q _ hf⟩
 exact⟨z,us,0,r,Heap.get?_push_size _ rfl⟩
end
abbrev Sp:=List V→Hp→VK→XK→Prop
abbrev CXT:=List Env→Hp→Shared→XK→Value→Shared→Prop
structure qOi (P:Program)(w:World)(K:PySem.W.Frag)(mg:Str→Option Value)(base:Heap)(A:Around)(outer:List Env)(s:Shared)(H:Hp):Prop where
 frames:A.frames=some outer
 mod:Mod K mg base
 bs:∀ b o,base.get? b=some o→s.heap.get? b=some o∧H b=none
 bsz:base.objs.size≤s.heap.objs.size
 funs:s.heap.FunFrames base outer
 frf:∀ b∈frs outer,H b=none
 hok:HOk P w H s.heap
 bare:AllBare s.gens
def CE (outer:List Env)(P:Program)(w:World)(H:Hp)(s:Shared)(Q:VK)(u:Value)(s':Shared):Prop:=
 ∃ v H',s'.os=s.os∧AllBare s'.gens∧Un (frs outer) [] H H' s.heap s'.heap∧HOk P w H' s'.heap∧RelV v u∧Q v H'
def CR (CX:CXT)(outer:List Env)(P:Program)(w:World)(H:Hp)(s:Shared)(Q:VK)(E:XK)(r:Result)(s':Shared):Prop:=
 match r with
 | .ok (.ret u)=>CE outer P w H s Q u s'
 | .ok _=>False
 | .error e=>CX outer H s E e s'
structure FnOk (P:Program)(w:World)(K:PySem.W.Frag)(mg:Str→Option Value)(base:Heap)(CX:CXT)(k:Nat)(f:Addr)(fd:FuncData)(ps:List Str)(sp:Sp):Prop where
 len:∀ vs H Q E,sp vs H Q E→vs.length=ps.length
 run:∀ (A:Around) (outer:List Env) (s:Shared) (H:Hp) (args:Args) (us:List Value) (vs:List V) (Q:VK) (E:XK),Room k A→qOi P w K mg base A outer s H→BindsTo s fd args (ps.zip us)→Vals vs us→sp vs H Q E→
  codeAny (model P w) A (.call (.ref f) args) (CR CX outer P w H s Q E) s
theorem FnOk.imp {P:Program}{w:World}{K:PySem.W.Frag}{mg:Str→Option Value}{base:Heap}{CX:CXT}{k:Nat}{f:Addr}{fd:FuncData}{ps:List Str}{sp sp':Sp}(F:FnOk P w K mg base CX k f fd ps sp)
 (h:∀ vs H Q E,sp' vs H Q E→sp vs H Q E):FnOk P w K mg base CX k f fd ps sp':=
 ⟨fun vs H Q E q=>F.len vs H Q E (h _ _ _ _ q),fun A outer s H args us vs Q E hr he hb hv hs=>F.run A outer s H args us vs Q E hr he hb hv (h _ _ _ _ hs)⟩
section
variable {X : Cx} {pins : List (Addr × Obj)} {σ : St} {H : Hp} {s s' : Shared}
theorem Inv.env0 (I:Inv X pins σ H s):qOi X.prog X.w X.K X.mg X.base X.A X.stack s H:=
 ⟨I.ok.frames,I.ok.mod,I.bs,Nat.le_trans I.ok.bsz I.sz,I.stack,I.stkFree,I.hok,I.bare⟩
theorem Inv.after {Q:VK}{u:Value}(I:Inv X pins σ H s)(h:CE X.stack X.prog X.w H s Q u s'):EP X pins σ Q u s':=by
 obtain⟨v,H',os,bare,un,hok,r,q⟩:=h
 obtain⟨hh,g,d,t,os'⟩:=s'
 obtain rfl:os'=s.os:=os
 exact⟨v,H',I.call (h':=hh) (g':=g) (d':=d) (t':=t) (ch:=[]) un hok bare (fun b z=>absurd z (by simp)),r,q⟩
end
def qJ7 (sp:Sp)(dvs:List V)(E:XK)(t:TA):TE:=fun σ H Q=>t σ H fun vs H1=>sp (vs++dvs) H1 Q E
def Binds (K:PySem.W.Frag)(fd:FuncData)(ps:List Str)(ds:List Value):Prop:=
 ∀ (s:Shared) (us:List Value),K.In s.heap→(us++ds).length=ps.length→BindsTo s fd ⟨us,[]⟩ (ps.zip (us++ds))
theorem Binds.all {K:PySem.W.Frag}{fd:FuncData}{ps:List Str}(h:∀ us:List Value,us.length=ps.length→bindArgs fd ⟨us,[]⟩=pure (ps.zip us)):Binds K fd ps []:=fun s us _ hl=>by
 rw [List.append_nil] at hl ⊢
 exact .of_eq (h us hl)
def qDq (CX:CXT)(X:Cx)(E:XK):Prop:=∀ (pins:List (Addr × Obj)) (σ:St) (H:Hp) (s:Shared) (e:Value) (s':Shared),Inv X pins σ H s→CX X.stack H s E e s'→X.xe e s'
section
variable {X : Cx} {CX : CXT} {k : Nat} {f C : Addr} {fd : FuncData} {ps : List Str} {sp : Sp} {dvs : List V} {ds : List Value} {E : XK} {x m : Str} {p pos apos : Pos} {e o : Expr} {es : List Expr} {ta : TE} {t : TA}
theorem qMu {pins:List (Addr × Obj)}{σ:St}{H:Hp}{s:Shared}{Q:VK}{us:List Value}{vs:List V}(F:FnOk X.prog X.w X.K X.mg X.base CX k f fd ps sp)(hr:Room k X.A)(hb:Binds X.K fd ps ds)(hd:Vals dvs ds)(hx:qDq CX X E)
 (I:Inv X pins σ H s) (r:Vals vs us) (h:sp (vs++dvs) H Q E):wpAny (model X.prog X.w) X.A (call (.ref f) us) (EP X pins σ Q) X.xe s:=by
 have r2:Vals (vs++dvs) (us++ds):=r.append hd
 have hl:(us++ds).length=ps.length:=by rw [← r2.length];exact F.len _ _ _ _ h
 refine wpAny_call (codeAny_mono (F.run X.A X.stack s H ⟨us,[]⟩ (us++ds) (vs++dvs) Q E hr I.env0 (hb s us I.kIn hl) r2 h) fun r s' hq=>?_)
 cases r with
 | error e=>exact hx pins σ H s e s' I hq
 | ok fl=>
  cases fl with
  | ret u=>exact I.after hq
  | next=>exact False.elim hq
  | brk=>exact False.elim hq
  | cont=>exact False.elim hq
theorem qFy (F:FnOk X.prog X.w X.K X.mg X.base CX k f fd ps sp)(hr:Room k X.A)(hg:Gl X x)(hm:X.mg x=some (.ref f))(hk:PySem.W.keepIn X.K (.ref f)=true)(hb:Binds X.K fd ps ds)(hd:Vals dvs ds)(hx:qDq CX X E)
 (ha:PA X (e::es) t) (hdb:(x == ("__debug__":Str))=false:=by decide) (he:starEach (e::es) X.env=(false,eval e X.env)::starEach es X.env:=by rfl) (hpl:(backTo pos (starEach es X.env)).any (·.1)=false:=by rfl):
 PE X (.Call (.Name x p) (e::es) [] pos) (qJ7 sp dvs E t):=by
 intro pins s σ H Q I h
 refine wpAny_Call_Name_kw (kc I hg hm ?_ hdb)
 refine PySem.W.callWith_K (h₀:=X.base) I.ok.mod.kin hk (thn (ha pos pins s σ H _ I h) fun us s1 ⟨vs,H1,I1,r,q⟩=>⟨I1.kIn,?_⟩) he hpl
 exact qMu F hr hb hd hx I1 r q
end
section
variable {X : Cx} {CX : CXT} {k : Nat} {f C : Addr} {fd : FuncData} {ps ks : List Str} {sp : Sp} {E : XK} {x m : Str} {p pos apos kpos : Pos} {e o : Expr} {es : List Expr} {kws : List Keyword} {te ta : TE} {t tk : TA} {nm : Option Str}
variable {g : List Value → List Value → List Value} {gV : List V → List V → List V}
end
structure qP (N P:List Str)(sc:Scope):Prop where
 kind:sc.kind= .function
 co:sc.isCoroutine=false
 gen:sc.isGenerator=false
 nd:N.Nodup
 pre:N.take P.length=P
 par:∀ x∈P,sc.names.lookup x=some .local∨sc.names.lookup x=some .cell
 nofree:∀ y∈sc.names,y.2≠ .free
theorem qDd {kindOf:Str→Option NameKind}{x:Str}:∀ {binds:List (Str × Value)} {m:Str→Option Value},(∀ v,(x,v) ∉ binds)→bindL kindOf binds m x=m x
 | [],_,_=>rfl
 | (n,v)::r,m,h=>by
  unfold bindL
  rw [qDd fun w hw=>h w (List.mem_cons_of_mem _ hw)]
  split
  · have:x≠n:=by rintro rfl;exact h v List.mem_cons_self
    simp [this]
  · rfl
theorem qDr {kindOf:Str→Option NameKind}{x:Str}:∀ {binds:List (Str × Value)} {m:Str→Option Value},(∀ v,(x,v) ∉ binds)→bindC kindOf binds m x=m x
 | [],_,_=>rfl
 | (n,v)::r,m,h=>by
  unfold bindC
  rw [qDr fun w hw=>h w (List.mem_cons_of_mem _ hw)]
  split
  · rfl
  · have:x≠n:=by rintro rfl;exact h v List.mem_cons_self
    simp [this]
theorem qDm {kindOf:Str→Option NameKind}{x:Str}{v:Value}:∀ {P:List Str} {vs:List Value} {i:Nat} {m:Str→Option Value},P.Nodup→P[i]? =some x→vs[i]? =some v→kindOf x=some .local→
 bindL kindOf (P.zip vs) m x=some v
 | [],_,_,_,_,h,_,_=>by simp at h
 | _::_,[],_,_,_,_,h,_=>by simp at h
 | p::P,w::vs,0,m,nd,h1,h2,hk=>by
  simp at h1 h2;subst h1;subst h2
  show bindL kindOf ((p,w)::P.zip vs) m p=_
  unfold bindL
  rw [qDd fun v hv=>(List.nodup_cons.mp nd).1 (List.of_mem_zip hv).1,if_pos hk]
  simp
 | p::P,w::vs,i+1,m,nd,h1,h2,hk=>by
  show bindL kindOf ((p,w)::P.zip vs) m x=_
  unfold bindL
  exact qDm (i:=i) (List.nodup_cons.mp nd).2 (by simpa using h1) (by simpa using h2) hk
theorem qDe {kindOf:Str→Option NameKind}{x:Str}{v:Value}:∀ {P:List Str} {vs:List Value} {i:Nat} {m:Str→Option Value},P.Nodup→P[i]? =some x→vs[i]? =some v→kindOf x≠some .local→
 bindC kindOf (P.zip vs) m x=some v
 | [],_,_,_,_,h,_,_=>by simp at h
 | _::_,[],_,_,_,_,h,_=>by simp at h
 | p::P,w::vs,0,m,nd,h1,h2,hk=>by
  simp at h1 h2;subst h1;subst h2
  show bindC kindOf ((p,w)::P.zip vs) m p=_
  unfold bindC
  rw [qDr fun v hv=>(List.nodup_cons.mp nd).1 (List.of_mem_zip hv).1,if_neg hk]
  simp
 | p::P,w::vs,i+1,m,nd,h1,h2,hk=>by
  show bindC kindOf ((p,w)::P.zip vs) m x=_
  unfold bindC
  exact qDe (i:=i) (List.nodup_cons.mp nd).2 (by simpa using h1) (by simpa using h2) hk
def qBa (N:List Str)(vs:List V):St:=vs.map some++List.replicate (N.length - vs.length) none
def qHp (CX:CXT)(P:Program)(w:World)(K:PySem.W.Frag)(mg:Str→Option Value)(base:Heap)(N:List Str)(qual:Str)(scope:Scope)(f:Addr)(cd:Value)(A:Around)(outer:List Env)(s:Shared)(H:Hp)(E:XK):Cx where
 prog:=P
 w:=w
 K:=K
 mg:=mg
 base:=base
 A:=A.deeper (envOfC qual scope s.heap.objs.size f cd)
 N:=N
 s₀:=s
 H₀:=H
 env:=envOfC qual scope s.heap.objs.size f cd
 outer:=outer
 stack:=envOfC qual scope s.heap.objs.size f cd::outer
 ex:=[]
 calm:=true
 fn:=fun _=>true
 pn:=[]
 xe:=fun e s'=>wpAny (model P w) (A.deeper (envOfC qual scope s.heap.objs.size f cd)) (leaving (envOfC qual scope s.heap.objs.size f cd) e) (fun _ s''=>CX outer H s E e s'') (fun e' s''=>CX outer H s E e' s'') s'
theorem qGh {sc:Scope}{n:Nat}{x:Str}(h:sc.names.lookup x=some .cell):∃ c,(cellsFrom n sc.names []).lookup x=some c:=by
 have q:=PySem.W.cellsFrom_some sc.names n [] (.inl h)
 exact Option.isSome_iff_exists.mp q
theorem qHv {CX:CXT}{P:Program}{w:World}{K:PySem.W.Frag}{mg:Str→Option Value}{base:Heap}{N ps:List Str}{qual:Str}{scope:Scope}{f:Addr}{cd:Value}{A:Around}{outer:List Env}{s s1:Shared}{H:Hp}{E:XK}{us:List Value}{vs:List V}
 (S:qP N ps scope) (hd:A.handled=none) (e0:qOi P w K mg base A outer s H) (hl:vs.length=ps.length) (r:Vals vs us)
 (x:InCallC s s.heap.objs.size (bindL (envOfC qual scope s.heap.objs.size f cd).kindOf (ps.zip us) fun _=>none) (cellsFrom (s.heap.objs.size+1) scope.names []) (bindC (envOfC qual scope s.heap.objs.size f cd).kindOf (ps.zip us) fun _=>none) s1):
 Inv (qHp CX P w K mg base N qual scope f cd A outer s H E) [] (qBa N vs) H s1:=by
 have hpl:ps.length≤N.length:=by have:=congrArg List.length S.pre;rw [List.length_take] at this;omega
 obtain⟨h1,tk,rfl,hk⟩:=x.done
 have noA:∀ b:Addr,b ∉ (qHp CX P w K mg base N qual scope f cd A outer s H E).ex:=fun b z=>absurd (show b∈([]:List Addr) from z) (by simp)
 refine⟨⟨e0.mod,S.kind,rfl,rfl,Nat.le_refl _,fun y z c h1 h2=>?_,fun y hy=>?_,fun y c _ h=>?_,fun _=>hd,Around.frames_deeper e0.frames,.inr ⟨rfl,rfl⟩,fun b z=>absurd z (noA b),e0.bs,e0.bsz,fun b _ _=>noA b,fun b z=>absurd z (noA b),e0.funs,e0.frf⟩,
  rfl,e0.bare,Un.kept hk,⟨_,x.toInCall.ns,fun i y v h1 h2 h3=>?_⟩,fun y c h=>⟨_,x.cell y c h⟩,e0.hok.fresh (Nat.le_refl _),fun y c h=>?_,fun p hp=>absurd (show p∈([]:List (Addr × Obj)) from hp) (by simp),e0.hok.kept hk,?_⟩
 · exact name_of_addr x.apart (PySem.mem_of_lookup h1) (PySem.mem_of_lookup h2)
 · have hy:scope.names.lookup y=some .cell∨scope.names.lookup y=some .free:=hy
   rcases hy with hy | hy
   · exact qGh hy
   · exact absurd rfl (S.nofree _ (PySem.mem_of_lookup hy))
 · exact Nat.le_of_lt (x.above y c (PySem.mem_of_lookup h))
 · have hi:i < vs.length:=by
    unfold qBa at h2
    by_cases hi:i < vs.length
    · exact hi
    · rw [List.getElem?_append_right (by simpa using hi)] at h2
      rw [List.getElem?_replicate] at h2
      split at h2 <;> cases h2
   have ha:vs[i]? =some v:=by
    unfold qBa at h2
    rw [List.getElem?_append_left (by simpa using hi),List.getElem?_map] at h2
    cases e:vs[i]? with
    | none=>rw [e] at h2;cases h2
    | some a=>rw [e] at h2;cases h2;rfl
   obtain⟨u,hu,rv⟩:=r.get ha
   have hp:ps[i]? =some y:=by
    rw [← S.pre,List.getElem?_take_of_lt (by omega)];exact h1
   have ndP:ps.Nodup:=by rw [← S.pre];exact S.nd.sublist (List.take_sublist _ _)
   refine⟨u,rv,?_⟩
   rcases S.par y (List.mem_of_getElem? hp) with k | k
   · exact .inl ⟨k,qDm ndP hp hu k⟩
   · obtain⟨c,e⟩:=qGh (n:=s.heap.objs.size+1) k
     refine .inr ⟨.inl k,c,e,?_⟩
     have q:=x.cell y c e
     rw [qDe ndP hp hu (by show scope.names.lookup y≠_;rw [k];decide)] at q
     exact q
 · exact e0.hok.fresh (Nat.le_of_lt (x.above y c (PySem.mem_of_lookup h)))
 · unfold qBa
   show _=N.length
   rw [List.length_append,List.length_map,List.length_replicate]
   omega
theorem qL9 {CX:CXT}{P:Program}{w:World}{K:PySem.W.Frag}{mg:Str→Option Value}{base:Heap}{k:Nat}{f:Addr}{name qual:Str}{params:Arguments}{body:List Stmt}{scope:Scope}{dV kV doc pm cdv ct oc:Value}{an od:Option Addr}
 {osl:Array (Option Value)} {N ps:List Str} {sp:Sp} (lk:K.lookup f=some ⟨oc,od,.func (PySem.W.fnOf name qual params body scope dV kV doc pm an cdv ct),osl⟩) (hcd:PySem.W.codeIn K cdv qual=true) (S:qP N ps scope)
 (len:∀ vs H Q E,sp vs H Q E→vs.length=ps.length)
 (hbody:∀ (A:Around) (outer:List Env) (s:Shared) (H:Hp) (vs:List V) (Q:VK) (E:XK),Room k (A.deeper (envOfC qual scope s.heap.objs.size f cdv))→sp vs H Q E→
   ∃ t,PSs (qHp CX P w K mg base N qual scope f cdv A outer s H E) body t∧t {nx:=fun _ H'=>Q .non H',rt:=Q} (qBa N vs) H):
 FnOk P w K mg base CX (k+1) f (PySem.W.fnOf name qual params body scope dV kV doc pm an cdv ct) ps sp:=by
 refine⟨len,fun A outer s H args us vs Q E hr e0 hb r hsp=>?_⟩
 have hl:=len _ _ _ _ hsp
 have KX:K.In s.heap:=e0.mod.kin.keeps fun b o e=>(e0.bs b o e).1
 have lim:s.heap.NoLimit:=e0.mod.nolimit.keeps fun b o e=>(e0.bs b o e).1
 have hkind:∀ y∈ps.zip us,scope.names.lookup y.1=some .local∨(scope.names.lookup y.1=some .cell∧((cellsFrom (s.heap.objs.size+1) scope.names []).lookup y.1).isSome=true):=fun⟨n,v⟩ hy=>by
  rcases S.par n (List.of_mem_zip hy).1 with q | q
  · exact .inl q
  · exact .inr ⟨q,PySem.W.cellsFrom_some _ _ _ (.inl q)⟩
 refine codeAny_call_function hr.depth (KX _ _ lk) rfl S.co S.gen rfl (PySem.W.codeRec_of KX hcd) (hb _ _ _ _ ?_)
 refine wpAny_newFunctionEnv_cells S.kind hkind fun env he s1 x=>?_
 subst he
 refine⟨lim.keeps x.toInCall.keep,codeAny_func ?_⟩
 obtain⟨t,ht,hq⟩:=hbody A outer s H vs Q E (hr.deeper _) hsp
 have I:Inv (qHp CX P w K mg base N qual scope f cdv A outer s H E) [] (qBa N vs) H s1:=qHv S hr.hd e0 hl r x
 refine wpAny_mono (ht [] s1 (qBa N vs) H _ I hq) (fun fl s' hs=>?_) fun e s' hs=>hs
 have fin:∀ {σ':St} {H':Hp} {v:V} {u:Value},Inv (qHp CX P w K mg base N qual scope f cdv A outer s H E) [] σ' H' s'→RelV v u→Q v H'→CE outer P w H s Q u s':=
  fun {σ' H' v u} J rv q=>⟨v,H',J.os,J.bare,J.base,J.hok,rv,q⟩
 cases fl with
 | ret u=>
  obtain⟨v,σ',H',J,rv,q⟩:=hs
  exact fin J rv q
 | next=>
  obtain⟨σ',H',J,q⟩:=hs
  exact fin (v:=V.non) (u:=Value.none) J rfl q
 | brk=>
  obtain⟨_,_,_,q⟩:=hs
  exact False.elim q
 | cont=>
  obtain⟨_,_,_,q⟩:=hs
  exact False.elim q
end L2
namespace L2
open PySem PySem.Spec PyProof.Rows
section
variable {X : Cx} {x : Str} {p pos : Pos} {e : Expr} {es : List Expr} {t : TA} {id T : String} {r : List V → Hp → VK → Prop}
def tCB (r:List V→Hp→VK→Prop)(t:TA):TE:=fun σ H Q=>t σ H fun vs H1=>r vs H1 Q
theorem qV (hc:zg X (.builtin id) r)(hg:Gl X x)(hm:X.mg x=none)(hv:bootBuiltins x=some (.builtin id))(ha:PA X (e::es) t)(hn:x≠"__name__":=by decide)(hdb:(x == ("__debug__":Str))=false:=by decide)
 (he:starEach (e::es) X.env=(false,eval e X.env)::starEach es X.env:=by rfl) (hpl:(backTo pos (starEach es X.env)).any (·.1)=false:=by rfl):PE X (.Call (.Name x p) (e::es) [] pos) (tCB r t):=by
 intro pins s σ H Q I h
 refine wpAny_Call_Name_kw (qBj I hg hm hv ?_ hn hdb)
 exact PyProof.Rows.callWith_builtin1 (thn (ha pos pins s σ H _ I h) fun us s1 ⟨vs,H1,I1,r1,q1⟩=>hc pins s1 σ H1 vs us Q I1 r1 q1) he hpl
theorem jN (hc:zg X (.type T) r)(hg:Gl X x)(hm:X.mg x=none)(hv:bootBuiltins x=some (.type T))(ha:PA X (e::es) t)(hn:x≠"__name__":=by decide)(hdb:(x == ("__debug__":Str))=false:=by decide)
 (he:starEach (e::es) X.env=(false,eval e X.env)::starEach es X.env:=by rfl) (hpl:(backTo pos (starEach es X.env)).any (·.1)=false:=by rfl):PE X (.Call (.Name x p) (e::es) [] pos) (tCB r t):=by
 intro pins s σ H Q I h
 refine wpAny_Call_Name_kw (qBj I hg hm hv ?_ hn hdb)
 exact PyProof.Rows.callWith_type1 (thn (ha pos pins s σ H _ I h) fun us s1 ⟨vs,H1,I1,r1,q1⟩=>hc pins s1 σ H1 vs us Q I1 r1 q1) he hpl
end
end L2
namespace HT
open PySem PyProof.Rows
section
open PySem.SeqAt
open PySem.AutoSeq1 (wpAny_loadPart')
open PySem.MeetsSeq PySem.MeetsSeq2 PySem.MeetsSeq3
end
section
variable {prog : Program} {w : World} {A : Around} {E : Value → Shared → Prop} {s : Shared}
def sIx (n d:Nat):Option Int→Nat
 | none=>d
 | some v=>if v < 0 then (v+(n:Int)).toNat else min v.toNat n
end
end HT
namespace L2
open PySem PySem.Spec PyProof.Rows
abbrev TO:=St→Hp→(Option Int→Hp→Prop)→Prop
def PO (X:Cx)(e:Option Expr)(t:TO):Prop:=
 ∀ (pins:List (Addr × Obj)) (s:Shared) (σ:St) (H:Hp) (Q:Option Int→Hp→Prop),Inv X pins σ H s→t σ H Q→
  wpAny (model X.prog X.w) X.A (evalPart e X.env) (fun u s'=>∃ o H',Inv X pins σ H' s'∧IsPart u o∧Q o H') X.xe s
inductive qM1 (Q:Option Int→Hp→Prop)(x:V)(H1:Hp):Prop
| mk i (_:x= .int i) (_:Q (some i) H1)
def qPa (t:TE):TO:=fun σ H Q=>t σ H fun x H1=>qM1 Q x H1
section
variable {X : Cx} {e : Expr} {te : TE} {lo hi : Option Expr} {tl th : TO} {pos p2 : Pos}
theorem qLg (h:PE X e te):PO X (some e) (qPa te):=by
 intro pins s σ H Q I hw
 rw [evalPart_some]
 refine thn (h pins s σ H _ I hw) fun u s1 ⟨x,H1,I1,r1,q1⟩=>?_
 obtain⟨i,rfl,q⟩:=q1
 obtain⟨t,rfl⟩:=r1
 exact⟨some i,H1,I1,.int i t,q⟩
def SlR (X:Cx)(r:V→Option Int→Option Int→Hp→VK→Prop):Prop:=
 ∀ (pins:List (Addr × Obj)) (s:Shared) (σ:St) (H:Hp) (x:V) (v vl vu:Value) (lo hi:Option Int) (sl:Addr) (Q:VK),Inv X pins σ H s→RelV x v→s.heap.IsSliceOf sl vl vu .none→IsPart vl lo→IsPart vu hi→r x lo hi H Q→
  ∃ T id,typeLookup (.type T) "__getitem__"=pure (some (.builtin id))∧s.TypeIs v T∧wpAny (model X.prog X.w) X.A (getItem v (.ref sl)) (EP X pins σ Q) X.xe s
def qOj (xs:List V)(lo hi:Option Int):List V:=(xs.drop (HT.sIx xs.length 0 lo)).take (HT.sIx xs.length xs.length hi - HT.sIx xs.length 0 lo)
theorem qFq (xs:List V)(lo hi:Option Int):(qOj xs lo hi).length≤xs.length:=by
 unfold qOj
 rw [List.length_take,List.length_drop]
 omega
end
end L2
namespace L2
open PySem PySem.Spec PyProof.Rows
def ixN (n:Nat)(i:Int):Option Nat:=if 0≤i then (if i < n then some i.toNat else none) else if -(n:Int)≤i then some (i+n).toNat else none
def atI {α:Type}(xs:List α)(i:Int):Option α:=(ixN xs.length i).bind fun j=>xs[j]?
theorem qIp {n:Nat}{i:Int}{j:Nat}(h:ixN n i=some j):seqIndex? i n=some j∧j < n∧-(n:Int)≤i∧i < n:=by
 unfold ixN at h
 by_cases h0:0≤i
 · rw [if_pos h0] at h
   by_cases h1:i < n
   · rw [if_pos h1] at h
     have e:i.toNat=j:=Option.some.inj h
     exact⟨by rw [seqIndex_of h0 h1,e],by omega,by omega,h1⟩
   · rw [if_neg h1] at h;cases h
 · rw [if_neg h0] at h
   by_cases h1:-(n:Int)≤i
   · rw [if_pos h1] at h
     have e:(i+n).toNat=j:=Option.some.inj h
     exact⟨by rw [seqIndex_neg (by omega) h1,e],by omega,h1,by omega⟩
   · rw [if_neg h1] at h;cases h
theorem qH6 {α:Type}{xs:List α}{i:Int}{v:α}(h:atI xs i=some v):∃ j,seqIndex? i xs.length=some j∧xs[j]? =some v∧j < xs.length∧-(xs.length:Int)≤i∧i < xs.length:=by
 unfold atI at h
 cases e:ixN xs.length i with
 | none=>rw [e] at h;cases h
 | some j=>
  rw [e] at h
  obtain⟨h1,h2,h3,h4⟩:=qIp e
  exact⟨j,h1,h,h2,h3,h4⟩
theorem xX {α:Type}{xs:List α}{j:Nat}{v:α}(h:xs[j]? =some v):atI xs (j:Int)=some v:=by
 have hj:j < xs.length:=(List.getElem?_eq_some_iff.mp h).1
 have e:ixN xs.length (j:Int)=some j:=by
  unfold ixN
  rw [if_pos (by omega),if_pos (by omega)];simp
 unfold atI;rw [e];exact h
def qLb (b:Expr):Prop:=∀ o i,subscripted b false o i=operate [o,i] (getItem o i)
def IxR (X:Cx)(r:R2):Prop:=
 ∀ (value slice:Expr) (pins:List (Addr × Obj)) (s:Shared) (σ:St) (H:Hp) (x y:V) (v u:Value) (Q:VK),Inv X pins σ H s→RelV x v→RelV y u→r x y H Q→
  subscripted slice false v u=operate [v,u] (getItem v u)→wpAny (model X.prog X.w) X.A (subscriptTail value slice v u) (EP X pins σ Q) X.xe s
def MtR (X:Cx)(id:String)(r:V→List V→Hp→VK→Prop):Prop:=
 ∀ (pins:List (Addr × Obj)) (s:Shared) (σ:St) (H:Hp) (x:V) (xs:List V) (v:Value) (us:List Value) (Q:VK),Inv X pins σ H s→RelV x v→Vals xs us→r x xs H Q→
  wpAny (model X.prog X.w) X.A (call (.builtin id) (v::us)) (EP X pins σ Q) X.xe s
section
variable {X : Cx} {a b : Expr} {ta tb : TE} {pos : Pos}
theorem jr {r:R2}(hr:IxR X r)(ha:PE X a ta)(hb:PE X b tb)(hs:qLb b):PE X (.Subscript a b pos) (tOp r ta tb):=by
 intro pins s σ H Q I h
 exact Subscript_ (qOm ha hb I h fun v u s2 x y H2 I2 rx ry q=>hr a b pins s2 σ H2 x y v u Q I2 rx ry q (hs _ _))
inductive qQy (K:PySem.W.Frag)(x:V)(y:V)(H:Hp)(Q:VK):Prop
| mk p xs i v (_:x= .ref p) (_:y= .int i) (_:SqL K H p xs) (_:atI xs i=some v) (_:Q v H)
inductive qMj (K:PySem.W.Frag)(x:V)(y:V)(H:Hp)(Q:VK):Prop
| mk p xs i v (_:x= .ref p) (_:y= .int i) (_:SqT K H p xs) (_:atI xs i=some v) (_:Q v H)
theorem jL:IxR X (qQy X.K):=by
 intro value slice pins s σ H x y v u Q I rx ry h hs
 obtain⟨p,xs,i,z,rfl,rfl,hq,he,q⟩:=h
 cases rx
 obtain⟨t,rfl⟩:=ry
 obtain⟨its,r,pl,hz⟩:=I.list hq
 obtain⟨j,h1,h2,h3,h4,h5⟩:=qH6 he
 obtain⟨w,ew,rw'⟩:=r.get h2
 have hl:=r.length
 have hn:=qEe
 have fin:EP X pins σ Q w s:=⟨z,H,I,rw',q⟩
 by_cases h0:0≤i
 · have hj:i.toNat=j:=by
    rw [seqIndex_of h0 h5] at h1
    exact Option.some.inj h1
   exact item_listR pl.isList h0 (by omega) (by rw [hj];simpa using ew) fin hs
 · have hj:(i+(its.toArray.size:Int)).toNat=j:=by
    rw [seqIndex_neg (by omega) h4] at h1
    rw [List.size_toArray,← hl]
    exact Option.some.inj h1
   exact subscriptTail_builtinR (x:=w) pl.isList.typeIs slot_list_getitem.lookup
    (wpAny_getItem_list_neg (Q:=fun r s'=>r=w∧EP X pins σ Q r s') pl.isList (by omega) (by rw [List.size_toArray] <;> omega) (by omega) (by rw [hj];simpa using ew) ⟨rfl,fin⟩) hs
theorem qJj:IxR X (qMj X.K):=by
 intro value slice pins s σ H x y v u Q I rx ry h hs
 obtain⟨p,xs,i,z,rfl,rfl,hq,he,q⟩:=h
 cases rx
 obtain⟨t,rfl⟩:=ry
 obtain⟨its,r,pl,hz⟩:=I.tuple hq
 obtain⟨j,h1,h2,h3,h4,h5⟩:=qH6 he
 obtain⟨w,ew,rw'⟩:=r.get h2
 have hl:=r.length
 have hn:=qEe
 have fin:EP X pins σ Q w s:=⟨z,H,I,rw',q⟩
 exact subscriptTail_builtinR (x:=w) pl.typeIs slot_tuple_getitem.lookup
  (getItem_tuple (j:=j) (Q:=fun r s'=>r=w∧EP X pins σ Q r s') pl (by omega) (by omega) (by rw [List.size_toArray,← hl];exact h1) (by simpa using ew) ⟨rfl,fin⟩) hs
theorem qG2 (its:List Value)(n j:Nat)(u:Value):Obj.mapSeq (·.setIfInBounds j u) {cls:=.type "list",data:=.seq its.toArray n}={cls:=.type "list",data:=.seq (its.set j u).toArray n}:=by
 simp [Obj.mapSeq]
theorem Inv.lst {pins:List (Addr × Obj)}{σ:St}{H:Hp}{s:Shared}{p:Addr}{xs:List V}(I:Inv X pins σ H s)(h:H p=some (.lst xs)):
 ∃ (its:List Value) (n:Nat),Vals xs its∧s.heap.get? p=some {cls:=.type "list",data:=.seq its.toArray n}∧xs.length≤sizeLine:=by
 obtain⟨z,its,n,r,e⟩:=I.hok p _ h
 exact⟨its,n,r,e,z⟩
theorem Inv.lstUpd {pins:List (Addr × Obj)}{σ:St}{H:Hp}{s:Shared}{p:Addr}{xs ys:List V}{its its':List Value}{n n':Nat}{f:Obj→Obj}(I:Inv X pins σ H s)(h:H p=some (.lst xs))
 (ho:s.heap.get? p=some {cls:=.type "list",data:=.seq its.toArray n}) (hf:f {cls:=.type "list",data:=.seq its.toArray n}={cls:=.type "list",data:=.seq its'.toArray n'}) (r:Vals ys its') (hz:ys.length≤sizeLine) (t:Nat):
 Inv X pins σ (upd H p (.lst ys)) {s with heap:=s.heap.update p f,toks:=t}:=by
 have e:(s.heap.update p f).get? p=some {cls:=.type "list",data:=.seq its'.toArray n'}:=by
  rw [Heap.get?_update_self f ho (by rw [hf] <;> rfl),hf]
 refine I.write (x:=p) (e:=p) (by rw [h];trivial) (.inl rfl) (fun b u hb q=>(Heap.get?_update_other _ _ (Ne.symm hb)).trans q) ⟨_,e⟩ ?_
 exact⟨hz,its',n',r,e⟩
def qOo:V→V→V→Hp→(Hp→Prop)→Prop:=fun o i v H Q=>∃ p xs k j,o= .ref p∧i= .int k∧H p=some (.lst xs)∧ixN xs.length k=some j∧Q (upd H p (.lst (xs.set j v)))
theorem qJz:qP1 X qOo:=by
 intro pins s σ H o i v ov iv u Q I ro ri rv h
 obtain⟨p,xs,k,j,rfl,rfl,hp,hj,q⟩:=h
 cases ro
 obtain⟨t,rfl⟩:=ri
 obtain⟨its,n,r,ho,hz⟩:=I.lst hp
 obtain⟨h1,h2,h3,h4⟩:=qIp hj
 have hl:=r.length
 have hn:=qEe
 have I':Inv X pins σ (upd H p (.lst (xs.set j v))) {s with heap:=s.heap.update p (Obj.mapSeq (·.setIfInBounds j u))}:=
  I.lstUpd hp ho (qG2 its n j u) (r.set rv j) (by rw [List.length_set];exact hz) s.toks
 by_cases h0:0≤k
 · have hk:k.toNat=j:=by
    rw [seqIndex_of h0 h4] at h1
    exact Option.some.inj h1
   exact PySem.W.ki_setAt ho h0 (by omega) (by rw [List.size_toArray,← hl];exact h4) (by rw [hk];exact⟨_,I',q⟩)
 · have hk:(k+(its.toArray.size:Int)).toNat=j:=by
    rw [seqIndex_neg (by omega) h3] at h1
    rw [List.size_toArray,← hl]
    exact Option.some.inj h1
   exact PySem.W.ki_setBack ho (by omega) (by rw [List.size_toArray,← hl];exact h3) (by omega) (by rw [hk];exact⟨_,I',q⟩)
theorem qEl (lo hi:Option Int)(n:Nat):(sliceBounds lo hi none n).1=((HT.sIx n 0 lo:Nat):Int)∧(sliceBounds lo hi none n).2.1=((HT.sIx n n hi:Nat):Int)∧(sliceBounds lo hi none n).2.2=1:=by
 refine⟨?_,?_,rfl⟩
 · cases lo with
   | none=>simp [sliceBounds,HT.sIx]
   | some i=>
    simp only [sliceBounds,HT.sIx,Option.getD_none,show (1:Int) > 0 by decide,if_true]
    by_cases h:i < 0
    · simp only [h,if_true] <;> omega
    · simp only [h,if_false] <;> omega
 · cases hi with
   | none=>simp [sliceBounds,HT.sIx]
   | some i=>
    simp only [sliceBounds,HT.sIx,Option.getD_none,show (1:Int) > 0 by decide,if_true]
    by_cases h:i < 0
    · simp only [h,if_true] <;> omega
    · simp only [h,if_false] <;> omega
theorem qCx (its:List Value)(lo hi:Option Int):slicePick its.toArray lo hi none=((its.drop (HT.sIx its.length 0 lo)).take (HT.sIx its.length its.length hi - HT.sIx its.length 0 lo)).toArray:=by
 obtain⟨h1,h2,h3⟩:=qEl lo hi its.toArray.size
 unfold slicePick
 rw [h1,h2,h3]
 simp only [sliceRange_one,pick_run,List.size_toArray] <;> rfl
inductive qQp (K:PySem.W.Frag)(x:V)(lo:Option Int)(hi:Option Int)(H:Hp)(Q:VK):Prop
| mk a xs (_:x= .ref a) (_:SqL K H a xs) (_:∀ p,H p=none→Q (.ref p) (upd H p (.lst (qOj xs lo hi))))
theorem sl_list:SlR X (qQp X.K):=by
 intro pins s σ H x v vl vu lo hi sl Q I rx hs pl pu h
 obtain⟨a,xs,rfl,hx,q⟩:=h
 cases rx
 obtain⟨its,r,ht,hz⟩:=I.list hx
 have hlen:=r.length
 refine⟨"list",_,slot_list_getitem.lookup,ht.isList.typeIs,?_⟩
 refine wpAny_getItem_list_slice ht.isList hs pl pu .none (by simp) ?_ (by rw [List.size_toArray] <;> omega)
 rw [qCx,← hlen]
 refine⟨.ref s.heap.objs.size,_,I.laid (t':=s.toks) (o:=.lst (qOj xs lo hi)) (fun b ob q=>Heap.get?_push_of_some _ q) (Nat.le_refl _) ?_,rfl,q _ (I.hok.fresh (Nat.le_refl _))⟩
 exact⟨Nat.le_trans (qFq xs lo hi) hz,_,0,(r.drop (HT.sIx xs.length 0 lo)).take (HT.sIx xs.length xs.length hi - HT.sIx xs.length 0 lo),Heap.get?_push_size _ rfl⟩
def zT:V→Bool
 | .non=>true
 | .bl _=>true
 | .int _=>true
 | .str _=>true
 | _=>false
def eqV:V→V→Bool
 | .non,.non=>true
 | .bl a,.bl b=>a == b
 | .bl a,.int b=>(if a then 1 else 0) == b
 | .int a,.bl b=>a == (if b then 1 else 0)
 | .int a,.int b=>a == b
 | .str a,.str b=>a == b
 | _,_=>false
theorem qGf {A:Around}{s:Shared}{y x:V}{u v:Value}(ry:RelV y u)(rx:RelV x v)(fy:zT y=true)(fx:zT x=true):SeqAt.EqAt A s u v (eqV y x):=by
 cases y with
 | non=>
  cases ry
  cases x with
  | non=>cases rx;exact SeqAt.EqAt.same _
  | bl b=>cases rx;exact SeqAt.EqAt.none_bool b
  | int b=>obtain⟨t,rfl⟩:=rx;exact SeqAt.EqAt.none_int b t
  | str b=>obtain⟨t,rfl⟩:=rx;exact SeqAt.EqAt.none_str b t
  | _=>exact absurd (show false=true from fx) Bool.false_ne_true
 | bl a=>
  cases ry
  cases x with
  | non=>cases rx;exact SeqAt.EqAt.bool_none a
  | bl b=>cases rx;exact SeqAt.EqAt.bool_bool a b
  | int b=>obtain⟨t,rfl⟩:=rx;exact SeqAt.EqAt.bool_int a b t
  | str b=>obtain⟨t,rfl⟩:=rx;exact SeqAt.EqAt.bool_str a b t
  | _=>exact absurd (show false=true from fx) Bool.false_ne_true
 | int a=>
  obtain⟨t',rfl⟩:=ry
  cases x with
  | non=>cases rx;exact SeqAt.EqAt.int_none a t'
  | bl b=>cases rx;exact SeqAt.EqAt.int_bool a t' b
  | int b=>obtain⟨t,rfl⟩:=rx;exact SeqAt.EqAt.int_int a t' b t
  | str b=>obtain⟨t,rfl⟩:=rx;exact SeqAt.EqAt.int_str a t' b t
  | _=>exact absurd (show false=true from fx) Bool.false_ne_true
 | str a=>
  obtain⟨t',rfl⟩:=ry
  cases x with
  | non=>cases rx;exact SeqAt.EqAt.str_none a t'
  | bl b=>cases rx;exact SeqAt.EqAt.str_bool a t' b
  | int b=>obtain⟨t,rfl⟩:=rx;exact SeqAt.EqAt.str_int a t' b t
  | str b=>obtain⟨t,rfl⟩:=rx;exact SeqAt.EqAt.str_str a t' b t
  | _=>exact absurd (show false=true from fx) Bool.false_ne_true
 | _=>exact absurd (show false=true from fy) Bool.false_ne_true
def eqU (x:V)(u:Value):Bool:=match u with
 | .none=>eqV .non x
 | .bool b=>eqV (.bl b) x
 | .int i _=>eqV (.int i) x
 | .str z _=>eqV (.str z) x
 | _=>false
theorem qKv {x y:V}{u:Value}(r:RelV y u)(f:zT y=true):eqU x u=eqV y x:=by
 cases y with
 | non=>cases r;rfl
 | bl b=>cases r;rfl
 | int i=>obtain⟨t,rfl⟩:=r;rfl
 | str z=>obtain⟨t,rfl⟩:=r;rfl
 | _=>exact absurd (show false=true from f) Bool.false_ne_true
theorem qFp {x:V}:∀ {xs:List V} {us:List Value},Vals xs us→xs.all zT=true→us.any (eqU x)=xs.any fun y=>eqV y x
 | _,_,.nil,_=>rfl
 | y::xs,u::us,.cons r t,f=>by
  rw [List.all_cons,Bool.and_eq_true] at f
  rw [List.any_cons,List.any_cons,qKv r f.1,qFp t f.2]
theorem qCt {A:Around}{s:Shared}{x:V}{v:Value}(rx:RelV x v)(fx:zT x=true):∀ {xs:List V} {us:List Value},Vals xs us→xs.all zT=true→∀ u∈us,SeqAt.EqAt A s u v (eqU x u)
 | _,_,.nil,_=>fun u hu=>by cases hu
 | y::xs,u::us,.cons r t,f=>fun u' hu=>by
  rw [List.all_cons,Bool.and_eq_true] at f
  rcases List.mem_cons.mp hu with rfl | hu
  · rw [qKv r f.1];exact qGf r rx f.1 fx
  · exact qCt rx fx t f.2 u' hu
def inV (x:V)(xs:List V):Bool:=xs.any fun y=>eqV y x
inductive rIn (K:PySem.W.Frag)(neg:Bool)(x:V)(y:V)(H:Hp)(Q:VK):Prop
| mk p xs (_:y= .ref p) (_:(SqL K H p xs∨SqT K H p xs)) (_:zT x=true) (_:xs.all zT=true) (_:Q (.bl (if neg then !inV x xs else inV x xs)) H)
theorem qI3:OpR X (compareOp .In) (rIn X.K false):=by
 intro pins s σ H x y v u Q I rx ry h
 obtain⟨p,xs,rfl,hq,fx,fs,q⟩:=h
 cases ry
 rcases hq with hq | hq
 · obtain⟨its,r,pl,hz⟩:=I.list hq
   refine SeqAt.in_listAt (eqU x) pl.isList (fun w hw=>qCt rx fx r fs w (by simpa using hw)) ⟨.bl _,H,I,rfl,?_⟩
   rw [show its.toArray.any (eqU x)=its.any (eqU x) by simp,qFp r fs]
   exact q
 · obtain⟨its,r,pl,hz⟩:=I.tuple hq
   refine SeqAt.in_tupleAt (eqU x) pl (fun w hw=>qCt rx fx r fs w (by simpa using hw)) ⟨.bl _,H,I,rfl,?_⟩
   rw [show its.toArray.any (eqU x)=its.any (eqU x) by simp,qFp r fs]
   exact q
theorem ql:zg X (.builtin "len") (fun xs H Q=>∃ p ys,xs=[.ref p]∧(SqL X.K H p ys∨SqT X.K H p ys)∧Q (.int ys.length) H):=by
 intro pins s σ H xs us Q I r h
 obtain⟨p,ys,rfl,hq,q⟩:=h
 obtain⟨u,rfl,rx⟩:=qC7 r
 cases rx
 have hn:=qEe
 rcases hq with hq | hq
 · obtain⟨its,r',pl,hz⟩:=I.list hq
   have hlen:=r'.length
   exact Calls.call_len_list pl.isList (by simp only [List.size_toArray] <;> omega) ⟨.int ys.length,H,I.tok _,⟨s.toks+1,by rw [List.size_toArray,hlen]⟩,q⟩
 · obtain⟨its,r',pl,hz⟩:=I.tuple hq
   have hlen:=r'.length
   exact len_tuple pl (by simp only [List.size_toArray] <;> omega) ⟨.int ys.length,H,I.tok _,⟨s.toks+1,by rw [List.size_toArray,hlen]⟩,q⟩
theorem wD:zg X (.builtin "len") (fun xs H Q=>∃ z,xs=[.str z]∧z.length≤sizeLine∧Q (.int z.length) H):=by
 intro pins s σ H xs us Q I r h
 obtain⟨z,rfl,hz,q⟩:=h
 obtain⟨u,rfl,t,rfl⟩:=qC7 r
 have hn:=qEe
 exact len_str (by omega) ⟨.int z.length,H,I.tok _,⟨_,rfl⟩,q⟩
theorem jb:zg X (.type "list") (fun xs H Q=>∃ p ys,xs=[.ref p]∧(SqL X.K H p ys∨SqT X.K H p ys)∧∀ l,H l=none→Q (.ref l) (upd H l (.lst ys))):=by
 intro pins s σ H xs us Q I r h
 obtain⟨p,ys,rfl,hq,q⟩:=h
 obtain⟨u,rfl,rx⟩:=qC7 r
 cases rx
 have fin:∀ (its:List Value),Vals ys its→ys.length≤sizeLine→∀ (h':Heap) (c':Nat),(∀ b o',s.heap.get? b=some o'→h'.get? b=some o')→
  h'.get? s.heap.objs.size=some {cls:=.type "list",dict:=none,data:=.seq its.toArray c',slots:=#[]}→EP X pins σ Q (.ref s.heap.objs.size) {s with heap:=h'}:=fun its r' hz h' c' kp e=>
  ⟨.ref s.heap.objs.size,_,I.laid (t':=s.toks) kp (Nat.le_refl _) (show ObjOk X.prog X.w _ h' _ (.lst ys) from ⟨hz,its,c',r',e⟩),rfl,q _ (I.hok.fresh (Nat.le_refl _))⟩
 rcases hq with hq | hq
 · obtain⟨its,r',pl,hz⟩:=I.list hq
   have hlen:=r'.length
   obtain⟨o,ho,hc,n,hd⟩:=pl.isList
   exact call_list_seq p (.inl rfl) ho hc hd (fun h' c' kp e=>fin its r' hz h' c' kp e) (by simp only [List.size_toArray] <;> omega)
 · obtain⟨its,r',pl,hz⟩:=I.tuple hq
   have hlen:=r'.length
   obtain⟨o,ho,hc,n,hd⟩:=pl
   exact call_list_seq p (.inr rfl) ho hc hd (fun h' c' kp e=>fin its r' hz h' c' kp e) (by simp only [List.size_toArray] <;> omega)
def tyV (K:PySem.W.Frag)(T:String)(x:V)(H:Hp):Prop:=match x with
 | .str _=>T="str"
 | .int _=>T="int"
 | .ref p=>(T="list"∧∃ xs,SqL K H p xs)∨(T="tuple"∧∃ o,K.lookup p=some o∧o.cls= .type "tuple"∧o.dict=none)∨
  (T="dict"∧((∃ kvs,H p=some (.dK kvs))∨∃ kvs,H p=some (.dT kvs)))∨(T="set"∧∃ S n,H p=some (.set S n))
 | _=>False
theorem qKt {pins:List (Addr × Obj)}{σ:St}{H:Hp}{s:Shared}{T:String}{x:V}{v:Value}(I:Inv X pins σ H s)(r:RelV x v)(ty:tyV X.K T x H):
 s.TypeIs v T∧∀ a,v= .ref a→∃ ob,s.heap.get? a=some ob∧ob.dict=none:=by
 cases x with
 | str z=>
  obtain⟨t,rfl⟩:=r
  cases (show T="str" from ty)
  exact⟨typeIs_str s z t,fun _ e=>nomatch e⟩
 | int i=>
  obtain⟨t,rfl⟩:=r
  cases (show T="int" from ty)
  exact⟨typeIs_int s i t,fun _ e=>nomatch e⟩
 | ref p=>
  cases r
  rcases ty with ⟨rfl,xs,hq⟩ | ⟨rfl,o,hk,hc,hd⟩ | ⟨rfl,hk⟩ | ⟨rfl,S,n,hk⟩
  · obtain⟨its,_,pl,_⟩:=I.list hq
    refine⟨pl.isList.typeIs,fun a e=>?_⟩
    cases e
    obtain⟨o,n,e,c,hd,_⟩:=pl
    exact⟨o,e,hd⟩
  · refine⟨⟨o,I.kIn p o hk,hc⟩,fun a e=>?_⟩
    cases e
    exact⟨o,I.kIn _ o hk,hd⟩
  · have z:∃ o,s.heap.get? p=some o∧o.ExactDict:=by
     rcases hk with ⟨kvs,hk⟩ | ⟨kvs,hk⟩
     · obtain⟨_,_,_,_,o,_,_,e,ex,_⟩:=I.hok p _ hk
       exact⟨o,e,ex⟩
     · obtain⟨_,_,_,_,o,_,_,e,ex,_⟩:=I.hok p _ hk
       exact⟨o,e,ex⟩
    obtain⟨o,e,ex⟩:=z
    refine⟨⟨o,e,ex.1⟩,fun a e2=>?_⟩
    cases e2
    exact⟨o,e,ex.2.1⟩
  · obtain⟨o,_,_,_,e,ex,_⟩:=I.hok p _ hk
    refine⟨⟨o,e,ex.1⟩,fun a e2=>?_⟩
    cases e2
    exact⟨o,e,ex.2.1⟩
 | _=>exact False.elim ty
def qQq (K:PySem.W.Frag)(T:String)(r:V→List V→Hp→VK→Prop)(to:TE):TE:=fun σ H Q=>to σ H fun x H1=>tyV K T x H1∧r x [] H1 Q
def tBM (K:PySem.W.Frag)(T:String)(r:V→List V→Hp→VK→Prop)(to:TE)(t:TA):TE:=fun σ H Q=>to σ H fun x H1=>tyV K T x H1∧t σ H1 fun xs H2=>r x xs H2 Q
variable {o e : Expr} {es : List Expr} {to : TE} {t : TA} {name : Str} {apos cpos : Pos} {T id : String} {r : V → List V → Hp → VK → Prop}
theorem zP (pa:PlainAttrs T)(slot:Slot T name id)(hty:typeOf (.builtin id)=pure (.type "method_descriptor"))(hm:MtR X id r)(ho:PE X o to)
 (hbase:attributeBase o name X.env (eval o X.env)=eval o X.env:=by rfl) (hline:(apos.endLine == cpos.line)=true:=by rfl):PE X (.Call (.Attribute o name apos) [] [] cpos) (qQq X.K T r to):=by
 intro pins s σ H Q I h
 refine wpAny_Call_method0_late hbase hline (thn (ho pins s σ H _ I h) fun v s1 ⟨x,H1,I1,r1,ty,q1⟩=>?_)
 obtain⟨h1,h2⟩:=qKt I1 r1 ty
 exact⟨T,id,pa,slot,hty,h1,h2,Calls.callWith_builtin rfl (PySem.evalArgs_none (hm pins s1 σ H1 x [] v [] Q I1 r1 .nil q1))⟩
theorem j6 (pa:PlainAttrs T)(slot:Slot T name id)(hty:typeOf (.builtin id)=pure (.type "method_descriptor"))(hm:MtR X id r)(ho:PE X o to)(ha:PA X (e::es) t)
 (hbase:attributeBase o name X.env (eval o X.env)=eval o X.env:=by rfl)
 (hfew:((backTo cpos (starEach (e::es) X.env)).all (fun x=>!x.1) && (backToKw cpos (keywordEach [] X.env)).all (fun x=>x.1.isSome)
   && decide ((e::es).length+([]:List Keyword).length+(if ([]:List Keyword).isEmpty then 0 else 1) < 30))=true:=by rfl)
 (hline:(apos.endLine == cpos.line)=true:=by rfl) (hs:starEach (e::es) X.env=(false,eval e X.env)::starEach es X.env:=by rfl) (hplain:(backTo cpos (starEach es X.env)).any (·.1)=false:=by rfl):
 PE X (.Call (.Attribute o name apos) (e::es) [] cpos) (tBM X.K T r to t):=by
 intro pins s σ H Q I h
 refine wpAny_Call_method_late hbase hfew hline rfl (thn (ho pins s σ H _ I h) fun v s1 ⟨x,H1,I1,r1,ty,q1⟩=>?_)
 obtain⟨h1,h2⟩:=qKt I1 r1 ty
 refine⟨T,id,pa,slot,hty,h1,h2,?_⟩
 have hA:=ha cpos pins s1 σ H1 _ I1 q1
 rw [hs] at hA ⊢
 refine Calls.callWith_builtin (by show (false || (backTo cpos (starEach es X.env)).any (·.1))=false;rw [hplain] <;> rfl) (Calls.evalArgs_plain ?_)
 exact thn hA fun us s2 ⟨vs,H2,I2,r2,q2⟩=>hm pins s2 σ H2 x vs v us Q I2 r1 r2 q2
end
end L2
namespace L2
open PySem PySem.Spec PyProof.Rows
def MtM (X:Cx)(id:String)(r:V→List V→Hp→VK→Prop):Prop:=
 ∀ (pins:List (Addr × Obj)) (s:Shared) (σ:St) (H:Hp) (x:V) (xs:List V) (v:Value) (us:List Value) (Q:VK),Inv X pins σ H s→RelV x v→Vals xs us→r x xs H Q→
  wpAny (model X.prog X.w) X.A (call (.builtin id) (v::us)) (EP X pins σ Q) X.xe s
theorem Vals.one:∀ {x:V} {us:List Value},Vals [x] us→∃ u,us=[u]∧RelV x u
 | _,_,.cons r .nil=>⟨_,rfl,r⟩
theorem Vals.two:∀ {x y:V} {us:List Value},Vals [x,y] us→∃ u v,us=[u,v]∧RelV x u∧RelV y v
 | _,_,_,.cons r (.cons q .nil)=>⟨_,_,rfl,r,q⟩
theorem Vals.zero:∀ {us:List Value},Vals [] us→us=[]
 | _,.nil=>rfl
theorem Vals.dropLast {xs:List V}{us:List Value}(h:Vals xs us):Vals xs.dropLast us.dropLast:=by
 induction h with
 | nil=>exact .nil
 | cons r t ih=>
  cases t with
  | nil=>exact .nil
  | cons q t'=>exact .cons r ih
theorem Vals.eraseIdx:∀ {xs:List V} {us:List Value} (i:Nat),Vals xs us→Vals (xs.eraseIdx i) (us.eraseIdx i)
 | _,_,_,.nil=>.nil
 | _,_,0,.cons _ t=>t
 | _,_,i+1,.cons r t=>.cons r (Vals.eraseIdx i t)
theorem Vals.reverse {xs:List V}{us:List Value}(h:Vals xs us):Vals xs.reverse us.reverse:=by
 induction h with
 | nil=>exact .nil
 | cons r t ih=>rw [List.reverse_cons,List.reverse_cons];exact Vals.append ih (.cons r .nil)
theorem qG5 {α:Type}(l:List α):l.eraseIdx (l.length - 1)=l.dropLast:=by
 induction l with
 | nil=>rfl
 | cons a r ih=>
  cases r with
  | nil=>rfl
  | cons b r=>
   have e:(a::b::r).length - 1=((b::r).length - 1)+1:=by
    have h1:(a::b::r).length=r.length+2:=rfl
    have h2:(b::r).length=r.length+1:=rfl
    omega
   rw [e,List.eraseIdx_cons_succ,ih]
   all_goals rfl
section
variable {X : Cx} {pins : List (Addr × Obj)} {σ : St} {H : Hp} {s : Shared} {l b : Addr} {xs ys zs : List V}
theorem Inv.lset {its its':List Value}{n:Nat}{f:Array Value→Array Value}{t':Nat}(I:Inv X pins σ H s)(hH:H l=some (.lst xs))
 (e:s.heap.get? l=some {cls:=.type "list",data:=.seq its.toArray n}) (hf:f its.toArray=its'.toArray) (hv:Vals ys its') (hz:ys.length≤sizeLine):
 Inv X pins σ (upd H l (.lst ys)) {s with heap:=s.heap.update l (Obj.mapSeq f),toks:=t'}:=by
 have q:=PySem.IsL.update e f
 rw [hf] at q
 refine I.write (x:=l) (e:=l) (by rw [hH];exact trivial) (.inl rfl) (fun b' u hb hu=>(Heap.get?_update_other s.heap (Obj.mapSeq f) (Ne.symm hb)).trans hu) ⟨_,q⟩ ?_
 exact⟨hz,its',_,hv,q⟩
theorem Inv.lstM (I:Inv X pins σ H s)(hH:H l=some (.lst xs)):xs.length≤sizeLine∧∃ (its:List Value) (n:Nat),Vals xs its∧xs.length=its.length∧s.heap.get? l=some {cls:=.type "list",data:=.seq its.toArray n}:=by
 obtain⟨z,its,n,r,e⟩:=I.hok l _ hH
 exact⟨z,its,n,r,r.length,e⟩
theorem qKg {n:Nat}(h:n≤sizeLine):Builtin.List.listTooLong n=false:=by
 unfold Builtin.List.listTooLong
 exact decide_eq_false (by omega)
end
section
variable {X : Cx}
inductive qL6 (x:V)(vs:List V)(H:Hp)(Q:VK):Prop
| mk l xs y (_:x= .ref l) (_:vs=[y]) (_:H l=some (.lst xs)) (_:xs.length < sizeLine) (_:Q .non (upd H l (.lst (xs++[y]))))
theorem qc:MtM X "list.append" qL6:=by
 intro pins s σ H x vs v us Q I rx rv h
 obtain⟨l,xs,y,rfl,rfl,hH,hz,q⟩:=h
 cases rx
 obtain⟨u,rfl,ru⟩:=rv.one
 obtain⟨z,its,n,r,hl,e⟩:=I.lstM hH
 refine call_meets F.slot_list_append ⟨_,e,rfl⟩ F.entry_list_append (F.args_list_append_2 _ _) (PySem.list_append l its.toArray n u (by rw [List.size_toArray];omega)) ⟨e,?_⟩
 refine⟨.non,_,I.lset (its':=its++[u]) hH e (by simp) (r.append (.cons ru .nil)) ?_,rfl,q⟩
 rw [List.length_append,List.length_singleton]
 omega
inductive qLj (x:V)(vs:List V)(H:Hp)(Q:VK):Prop
| mk l b xs zs (_:x= .ref l) (_:vs=[.ref b]) (_:H l=some (.lst xs)) (_:H b=some (.lst zs)) (_:xs.length+zs.length≤sizeLine) (_:Q .non (upd H l (.lst (xs++zs))))
theorem qIx:MtM X "list.extend" qLj:=by
 intro pins s σ H x vs v us Q I rx rv h
 obtain⟨l,b,xs,zs,rfl,rfl,hH,hB,hz,q⟩:=h
 cases rx
 obtain⟨u,rfl,ru⟩:=rv.one
 cases ru
 obtain⟨z,its,n,r,hl,e⟩:=I.lstM hH
 obtain⟨z2,its2,n2,r2,hl2,e2⟩:=I.lstM hB
 have hsz:its.toArray.size+its2.toArray.size≤sizeLine:=by rw [List.size_toArray,List.size_toArray];omega
 have hlong:¬ (!its.toArray.isEmpty && Builtin.List.listTooLong (its.toArray.size+its2.toArray.size))=true:=by
  rw [qKg hsz,Bool.and_false]
  exact Bool.false_ne_true
 refine call_meets F.slot_list_extend ⟨_,e,rfl⟩ F.entry_list_extend (F.args_list_extend_2 _ _)
  (AutoSeq1.list_extend_list_list_0 l its.toArray n b its2.toArray n2 hlong (by rw [List.size_toArray];omega) (by omega)) ⟨e,e2,?_⟩
 refine⟨.non,_,I.lset (its':=its++its2) hH e (by simp) (r.append r2) ?_,rfl,q⟩
 rw [List.length_append]
 omega
def qP4:V→List V→Hp→VK→Prop:=fun x vs H Q=>∃ l xs y,x= .ref l∧vs=[]∧H l=some (.lst xs)∧xs[xs.length - 1]? =some y∧Q y (upd H l (.lst xs.dropLast))
theorem zM:MtM X "list.pop" qP4:=by
 intro pins s σ H x vs v us Q I rx rv h
 obtain⟨l,xs,y,rfl,rfl,hH,hy,q⟩:=h
 cases rx
 have hus:=rv.zero
 subst hus
 obtain⟨z,its,n,r,hl,e⟩:=I.lstM hH
 obtain⟨u,hu,ru⟩:=r.get hy
 have hy':its.toArray[its.toArray.size - 1]? =some u:=by
  show its.toArray[its.length - 1]? =some u
  rw [← Array.getElem?_toList,← hl]
  exact hu
 refine call_meets F.slot_list_pop ⟨_,e,rfl⟩ F.entry_list_pop (F.args_list_pop_1 _) (MeetsSeq.list_pop_last l its.toArray n u hy' (by rw [List.size_toArray];omega)) ⟨e,?_⟩
 refine⟨y,_,I.lset (its':=its.dropLast) hH e ?_ r.dropLast ?_,ru,q⟩
 · show its.toArray.eraseIdxIfInBounds (its.toArray.size - 1)=its.dropLast.toArray
   rw [List.size_toArray,List.eraseIdxIfInBounds_toArray,qG5]
 · rw [List.length_dropLast]
   omega
theorem qMb {α:Type}(xs:List α)(k:Nat):(List.replicate k xs).flatten.length=k*xs.length:=by
 induction k with
 | zero=>simp
 | succ k ih=>rw [List.replicate_succ,List.flatten_cons,List.length_append,ih,Nat.succ_mul,Nat.add_comm]
end
section
variable {prog : Program} {w : World} {A : Around} {E : Value → Shared → Prop} {s : Shared}
end
section
variable {X : Cx}
end
end L2
namespace Att
open PySem PySem.W PySem.Calls PyProof.Rows
theorem qAq {P:Params}{h:Heap}:∀ (ns:List Int) (vs:List Value),WellAll P h vs (ns.map WData.int)→IntsAre vs ns:=by
 intro ns
 induction ns with
 | nil=>
  intro vs w
  rw [List.map_nil] at w
  cases w
  exact .nil
 | cons n ns ih=>
  intro vs w
  rw [List.map_cons] at w
  cases w with
  | cons a b=>
   cases a
   exact .cons _ _ (ih _ b)
theorem qIm {l:OpenLaw}{n:Nat}(hn:l.most=some n){P:Params}{h:Heap}{args:List WData}{vals:List Value}
 (hpre:l.row.toRowW.claim.pre args=true) (hwl:WellAll P h vals args):
 ∃ a vs ns,vals=[Value.ref a]∧args=[WData.list (ns.map WData.int)]∧h.get? a=some {cls:=.type "list",data:=.seq vs.toArray}∧IntsAre vs ns∧ns.length≤n:=by
 have hsh:WShape.hasAll [] args [.list .int]=true:=(pre_splitW hpre).1
 have hc:l.pre.holds [] {args:=args}=true:=(pre_splitW hpre).2
 obtain⟨d,r,rfl,h1,h2⟩:=hasAllW_cons hsh
 obtain rfl:=hasAllW_nil h2
 obtain⟨xs,rfl,h3⟩:=hasW_list h1
 obtain⟨ns,rfl⟩:=items_int h3
 have hlen:ns.length≤n:=by
  unfold OpenLaw.pre at hc
  have h4:(WTm.not (.lt (.lit (.int (n:Int))) (.len (.arg 0)))).holds [] {args:=[.list (ns.map .int)]}=true:=by
   have h4:=(holds_andW hc).1
   rw [hn] at h4
   exact h4
  have h5:=condW_of h4 (w_not (w_lt w_lit (w_len_list (w_arg rfl))))
  rw [List.length_map] at h5
  refine Nat.le_of_not_lt fun q=>?_
  have q':(n:Int) < ((ns.length:Nat):Int):=by omega
  first
   | (rw [decide_eq_true q'] at h5;exact absurd h5 (by decide))
   | (simp at h5;omega)
 cases hwl with
 | cons w1 w2=>
  cases w2
  cases w1 with
  | list ho hall=>exact⟨_,_,ns,rfl,rfl,ho,qAq ns _ hall,hlen⟩
theorem qHr (l:OpenLaw)(args:List WData):l.row.toRowW.claim.post args (.bool true) args=true:=
 postW_of (r:=l.row.toRowW) (X:=(true == true))
  (show WShape.has [] (.bool true) .bool=true by first | rfl | decide | simp [WShape.has,WShape.arms,WShape.armsAll])
  (show (WTm.eq .res (.lit (.bool true))).value [] {args:=args,res:=some (.bool true),after:=args}=some (.bool (true == true)) from w_eq_bool (w_res rfl) w_lit) rfl
theorem attach_call {l:OpenLaw}{n:Nat}{q:Program}{loose:List Str}{XP:(Str→Option Value)→Heap→Prop}{YP:World→Heap→Prop}{d:DefRec}
 (hn:l.most=some n) (hdf:d.params.defaults=[])
 (call:∀ (w:World) (s₀ s₁:Shared) (mg mb:Str→Option Value) (fa:Addr) (o:Obj) (pm cd doc:Value) (a:Addr) (vs:List Value) (ns:List Int),
   Ground q loose [] XP w s₀ mg mb s₁.heap→YP w s₁.heap→
   s₁.heap.get? fa=some o→o.data= .func (docDef d.name d.params d.body d.scope pm cd doc)→s₁.heap.CodeRec cd d.name→mg d.name=some (.ref fa)→
   s₁.heap.get? a=some {cls:=.type "list",data:=.seq vs.toArray}→IntsAre vs ns→ns.length≤n→s₁.gens=#[]→
   codeAny (model l.prog w) callerA (.call (.ref fa) ⟨[.ref a],[]⟩) (fun r s'=>r= .ok (.ret (.bool true))∧OldK s₁.heap s'.heap∧s'.os=s₁.os∧AllBare s'.gens) s₁):
 WalkO q loose XP YP l.row.toRowW d [] (fun f vs=>PySem.call f vs):=by
 intro w s₀ s₁ mg mb G Y fa o pm cd doc dV kV ho hd hcd hD hmg hg args vals as hpre hlay hrd hwl hlo
 obtain rfl:dV= .none:=Dflts.none hD hdf
 obtain rfl:kV= .none:=Dflts.noKw hD
 obtain⟨a,vs,ns,rfl,rfl,hobj,hints,hlen⟩:=qIm hn hpre hwl
 refine enter_call (codeAny_mono (call w s₀ s₁ mg mb fa o pm cd doc a vs ns G Y ho (fd_plain hd) hcd hmg hobj hints hlen hg) fun r s' hq=>?_)
 obtain⟨rfl,h2,h3,h4⟩:=hq
 exact⟨.inl ⟨.bool true,.bool true,[],rfl,fun _=>rfl,.bool true,qHr l _,fun _=>⟨List.Pairwise.nil,fun _ hm=>(nomatch hm)⟩⟩,h2,h3,h4⟩
section
variable {prog : Program} {w : World} {A : Around} {E : Value → Shared → Prop} {s : Shared} {K : Frag}
def ledger (h:Heap)(L d:Addr):List (Addr × Obj):=(List.range h.objs.size).filterMap fun a=>if a=L∨a=d then none else (h.get? a).map fun o=>(a,o)
end
end Att
namespace L2
open PySem PySem.Spec PyProof.Rows
theorem qDn:∀ {vs:List Value} {ns:List Int},IntsAre vs ns→Vals (ns.map V.int) vs
 | _,_,.nil=>.nil
 | _,_,.cons n t h=>.cons ⟨t,rfl⟩ (qDn h)
def qO2 (H:Hp):Prop:=∀ b,H b=none∨∃ o xs,H b=some (.frz o (.lst xs))
theorem qJ8 {P:Program}{w:World}{K:PySem.W.Frag}{mg mb:Str→Option Value}{CX:CXT}{k:Nat}{fa a:Addr}{fd:FuncData}{x:Str}{sp:Sp}{s₁:Shared}{vs:List Value}{ns:List Int}
 (KX:K.In s₁.heap) (hns:s₁.heap.Ns mainGlobals mg) (hb:s₁.heap.Ns builtinsNs mb) (hbb:∀ x:Str,x≠"__name__"→mb x=bootBuiltins x) (hlim:s₁.heap.NoLimit) (hg:s₁.gens=#[])
 (ha:s₁.heap.get? a=some {cls:=.type "list",data:=.seq vs.toArray}) (hi:IntsAre vs ns) (hl:ns.length≤sizeLine) (hr:Room k callerA)
 (F:∀ base:Heap,K.In base→base.Ns mainGlobals mg→FnOk P w K mg base CX k fa fd [x] sp) (hbind:∀ (s:Shared) (u:Value),BindsTo s fd ⟨[u],[]⟩ [(x,u)])
 (hsp:∀ H:Hp,qO2 H→SqL K H a (ns.map V.int)→sp [.ref a] H (fun v _=>v= .bl true) fun _ _ _=>False)
 (hCX:∀ H e s',CX [] H s₁ (fun _ _ _=>False) e s'→False):
 codeAny (model P w) callerA (.call (.ref fa) ⟨[.ref a],[]⟩) (fun r s'=>r= .ok (.ret (.bool true))∧OldK s₁.heap s'.heap∧s'.os=s₁.os∧AllBare s'.gens) s₁:=by
 have rv:=qDn hi
 have lenV:=hi.length
 have core:∀ H:Hp,qO2 H→SqL K H a (ns.map V.int)→HOk P w H s₁.heap→(∀ b,H b≠none→b=a)→(H a≠none→K.lookup a=none)→
  codeAny (model P w) callerA (.call (.ref fa) ⟨[.ref a],[]⟩) (fun r s'=>r= .ok (.ret (.bool true))∧OldK s₁.heap s'.heap∧s'.os=s₁.os∧AllBare s'.gens) s₁:=by
  intro H hO hS hok hA hK
  have base_of:∀ {b:Addr} {o:Obj},s₁.heap.get? b=some o→H b=none→(qJ3 s₁.heap H).get? b=some o:=fun e n=>qJs e n
  have noA:∀ {b:Addr} {o:Obj} {es:Array DictEntry} {ep:Nat},s₁.heap.get? b=some o→o.data= .dict es ep→H b=none:=fun {b o es ep} e d=>by
   cases q:H b with
   | none=>rfl
   | some u=>
    have e':b=a:=hA b (by rw [q];simp)
    subst e'
    rw [ha] at e;cases e
    have d':Data.seq vs.toArray _=Data.dict es ep:=d
    cases d'
  have nsK:∀ {b:Addr} {m:Str→Option Value},s₁.heap.Ns b m→(qJ3 s₁.heap H).Ns b m:=fun {b m} ⟨o,es,ep,e,d,r⟩=>⟨o,es,ep,base_of e (noA e d),d,r⟩
  have hKb:K.In (qJ3 s₁.heap H):=fun b o e=>base_of (KX b o e) (by
   cases q:H b with
   | none=>rfl
   | some u=>
    have e':b=a:=hA b (by rw [q];simp)
    subst e'
    rw [hK (by rw [q];simp)] at e;cases e)
  have hM:Mod K mg (qJ3 s₁.heap H):=⟨hKb,nsK hns,⟨mb,nsK hb,hbb⟩,let ⟨mc,h1,h2⟩:=hlim;⟨mc,nsK h1,h2⟩⟩
  have e0:qOi P w K mg (qJ3 s₁.heap H) callerA [] s₁ H:=⟨rfl,hM,fun b o e=>qLd e,Nat.le_of_eq (qHz _ _),trivial,fun b hb=>absurd (show b∈([]:List Addr) from hb) (by simp),hok,.of_eq hg⟩
  refine codeAny_mono ((F _ hKb (nsK hns)).run callerA [] s₁ H ⟨[.ref a],[]⟩ [.ref a] [.ref a] _ _ hr e0 (hbind s₁ (.ref a)) (.cons rfl .nil) (hsp H hO hS)) fun r s' h=>?_
  cases r with
  | error e=>exact(hCX H e s' h).elim
  | ok fl=>
   cases fl with
   | next=>exact False.elim h
   | brk=>exact False.elim h
   | cont=>exact False.elim h
   | ret u=>
    obtain⟨v,H',os,bare,un,hok',r',q⟩:=h
    have q':v= .bl true:=q
    subst q'
    obtain rfl:u=Value.bool true:=r'
    refine⟨rfl,OldK.of_keep fun b o e=>?_,os,bare⟩
    cases q:H b with
    | none=>exact un.keep b o e q (by intro z;exact absurd (show b∈([]:List Addr) from z) (by simp)) (by simp)
    | some u=>
     rcases hO b with z | ⟨ob,xs,z⟩
     · rw [q] at z;cases z
     · have z2:=un.frzs b ob _ z
       obtain⟨e1,_⟩:=hok b _ z
       obtain⟨e2,_⟩:=hok' b _ z2
       rw [e] at e1;cases e1
       exact e2
 cases hk:K.lookup a with
 | some o=>
  have e:=KX a o hk
  rw [ha] at e
  cases e
  refine core (fun _=>none) (fun _=>.inl rfl) (.inr ⟨_,vs.toArray,_,hk,rfl,rfl,rfl,by rw [List.size_toArray,lenV];exact hl,by simpa using rv⟩) (fun b u z=>by have z':(none:Option HO)=some u:=z;cases z') (fun b z=>absurd rfl z) fun z=>absurd rfl z
 | none=>
  refine core (fun b=>if b=a then some (.frz {cls:=.type "list",data:=.seq vs.toArray} (.lst (ns.map V.int))) else none) (fun b=>?_) (.inl (.inr ⟨{cls:=.type "list",data:=.seq vs.toArray},if_pos rfl⟩)) (fun b u z=>?_) (fun b z=>?_) fun _=>hk
  · by_cases hb:b=a
    · exact .inr ⟨_,_,if_pos hb⟩
    · exact .inl (if_neg hb)
  · by_cases hb:b=a
    · have z':=(if_pos hb).symm.trans z
      cases z'
      subst hb
      exact⟨ha,by rw [List.length_map];exact hl,vs,_,rv,ha⟩
    · have z':=(if_neg hb).symm.trans z
      cases z'
  · by_cases hb:b=a
    · exact hb
    · exact absurd (if_neg hb) z
end L2
namespace L2
open PySem PySem.Spec PyProof.Rows
theorem walk_of {l:PySem.W.OpenLaw}{n k:Nat}{q:Program}{loose:List Str}{XP:(Str→Option Value)→Heap→Prop}{YP:World→Heap→Prop}{d:DefRec}{K:Params→PySem.W.Frag}{CX:World→CXT}{sp:World→Sp}{x:Str}
 (hn:l.most=some n) (hn2:n≤sizeLine) (hdf:d.params.defaults=[]) (hr:Room k callerA)
 (hY:∀ (w:World) (h:Heap),YP w h→(K w.params).In h)
 (F:∀ (w:World) (mg:Str→Option Value) (fa:Addr) (h:Heap),(K w.params).In h→h.Ns mainGlobals mg→mg d.name=some (.ref fa)→
   ∃ fd:FuncData,(∀ (s:Shared) (u:Value),BindsTo s fd ⟨[u],[]⟩ [(x,u)])∧
    ∀ base:Heap,(K w.params).In base→base.Ns mainGlobals mg→FnOk l.prog w (K w.params) mg base (CX w) k fa fd [x] (sp w))
 (hsp:∀ (w:World) (H:Hp) (a:Addr) (ns:List Int),ns.length≤n→qO2 H→SqL (K w.params) H a (ns.map V.int)→sp w [.ref a] H (fun v _=>v= .bl true) fun _ _ _=>False)
 (hCX:∀ (w:World) (H:Hp) (s:Shared) (e:Value) (s':Shared),CX w [] H s (fun _ _ _=>False) e s'→False):
 PySem.W.WalkO q loose XP YP l.row.toRowW d [] (fun f vs=>PySem.call f vs):=by
 refine Att.attach_call hn hdf fun w s₀ s₁ mg mb fa o pm cd doc a vs ns G Y ho hd hcd hmg hobj hints hlen hg=>?_
 have KX:=hY w _ Y
 obtain⟨fd,hb,hF⟩:=F w mg fa _ KX G.T.g hmg
 exact qJ8 KX G.T.g G.T.b G.T.builtins G.T.nolimit hg hobj hints (Nat.le_trans hlen hn2) hr hF hb (fun H hO hS=>hsp w H a ns hlen hO hS) fun H e s'=>hCX w H s₁ e s'
end L2
namespace L2
open PySem PySem.Spec PyProof.Rows
def kf (s:Stmt):Arguments:=match s with
 | .FunctionDef _ a _ _ _ _ _ _ _ _=>a
 | _=>{posonlyargs:=[],args:=[],vararg:=none,kwonlyargs:=[],kw_defaults:=[],kwarg:=none,defaults:=[]}
def xf (s:Stmt):List Stmt:=match s with
 | .FunctionDef _ _ b _ _ _ _ _ _ _=>b
 | _=>[]
def qJ (s:Stmt):Scope:=match s with
 | .FunctionDef _ _ _ _ _ _ sc _ _ _=>sc
 | _=>{kind:=.function,names:=[],isGenerator:=false,isCoroutine:=false}
abbrev CX0:CXT:=fun _ _ _ _ _ _=>False
abbrev E0:XK:=fun _ _ _=>False
theorem qPd {X:Cx}:qDq CX0 X E0:=fun _ _ _ _ _ _ _ h=>h.elim
structure Fun (K:PySem.W.Frag)(x qual:Str)(st:Stmt)(f:Addr)(fd:FuncData):Prop where
 ex:∃ (oc:Value) (od:Option Addr) (kV doc pm:Value) (an:Option Addr) (cdv ct:Value) (osl:Array (Option Value)),
  fd=PySem.W.fnOf x qual (kf st) (xf st) (qJ st) .none kV doc pm an cdv ct∧K.lookup f=some ⟨oc,od,.func fd,osl⟩∧PySem.W.codeIn K cdv qual=true
 kp:PySem.W.keepIn K (.ref f)=true
section
variable {P : Program} {w : World} {K : PySem.W.Frag} {mg : Str → Option Value} {base : Heap}
theorem Fun.ok {x qual:Str}{st:Stmt}{f:Addr}{fd:FuncData}{N ps:List Str}{k:Nat}{sp:Sp}(F:Fun K x qual st f fd)(S:qP N ps (qJ st))(len:∀ vs H Q E,sp vs H Q E→vs.length=ps.length)
 (hbody:∀ (cdv:Value) (A:Around) (outer:List Env) (s:Shared) (H:Hp) (vs:List V) (Q:VK) (E:XK),Room k (A.deeper (envOfC qual (qJ st) s.heap.objs.size f cdv))→sp vs H Q E→
   ∃ t,PSs (qHp CX0 P w K mg base N qual (qJ st) f cdv A outer s H E).nox (xf st) t∧t {nx:=fun _ H'=>Q .non H',rt:=Q} (qBa N vs) H):FnOk P w K mg base CX0 (k+1) f fd ps sp:=by
 obtain⟨oc,od,kV,doc,pm,an,cdv,ct,osl,rfl,lk,hcd⟩:=F.ex
 refine qL9 lk hcd S len fun A outer s H vs Q E hr hsp=>?_
 obtain⟨t,h,q⟩:=hbody cdv A outer s H vs Q E hr hsp
 exact⟨t,h.nox,q⟩
theorem Fun.binds {x qual:Str}{st:Stmt}{f:Addr}{fd:FuncData}{ps:List Str}(F:Fun K x qual st f fd)
 (h:∀ (kV doc pm:Value) (an:Option Addr) (cdv ct:Value) (us:List Value),us.length=ps.length→bindArgs (PySem.W.fnOf x qual (kf st) (xf st) (qJ st) .none kV doc pm an cdv ct) ⟨us,[]⟩=pure (ps.zip us)):Binds K fd ps []:=by
 obtain⟨oc,od,kV,doc,pm,an,cdv,ct,osl,rfl,lk,hcd⟩:=F.ex
 exact .all (h kV doc pm an cdv ct)
theorem qN7 {x qual:Str}{st:Stmt}{f:Addr}{oc:Value}{od an:Option Addr}{osl:Array (Option Value)}{kV doc pm cdv ct:Value}(l:K.lookup f=some ⟨oc,od,.func (PySem.W.fnOf x qual (kf st) (xf st) (qJ st) .none kV doc pm an cdv ct),osl⟩)
 (c:PySem.W.codeIn K cdv qual=true) (k:PySem.W.keepIn K (.ref f)=true):Fun K x qual st f (PySem.W.fnOf x qual (kf st) (xf st) (qJ st) .none kV doc pm an cdv ct):=⟨⟨oc,od,kV,doc,pm,an,cdv,ct,osl,rfl,l,c⟩,k⟩
end
theorem qBg {A:Around}{k:Nat}(hr:Room k A):A.units+1 < cLine:=Nat.lt_of_le_of_lt (Nat.add_le_add_left (by decide:1≤64) _) hr.units
theorem qS {n:Nat}(h:n≤1000):n < sizeLine:=Nat.lt_of_le_of_lt h (by decide)
section
variable {X : Cx}
theorem pv (i:Nat){x:Str}{pos:Pos}(hN:X.N[i]? =some x:=by rfl)(hv:Vis X.env.scope x:=by first | exact Or.inl rfl | exact Or.inr (Or.inl rfl) | exact Or.inr (Or.inr rfl))(hd:(x == ("__debug__":Str))=false:=by decide)
 (hcd:(x == ("__classdict__":Str))=false:=by decide):PE X (.Name x pos) (qOk i):=qNf hN hv hd hcd
end
theorem qd {A B:Prop}(h:B):if false=true then A else B:=by
 rw [if_neg Bool.false_ne_true]
 exact h
theorem qz {A B:Prop}(h:A):if true=true then A else B:=by
 rw [if_pos rfl]
 exact h
theorem kD {c A B:Prop} [Decidable c] (h1:c→A)(h2:¬ c→B):if c then A else B:=by
 by_cases h:c
 · rw [if_pos h]
   exact h1 h
 · rw [if_neg h]
   exact h2 h
theorem qIh {c A B:Prop} [Decidable c] (hc:c)(h:B):if (!decide c)=true then A else B:=by
 rw [decide_eq_true hc]
 exact qd h
def Same (H H':Hp):Prop:=∀ b o,H b=some o→H' b=some o
theorem Same.refl (H:Hp):Same H H:=fun _ _ h=>h
theorem Same.trans {H H1 H2:Hp}(a:Same H H1)(b:Same H1 H2):Same H H2:=fun c o h=>b c o (a c o h)
theorem Same.free {H H':Hp}(e:Same H H'){l:Addr}(h:H' l=Option.none):H l=Option.none:=by
 cases q:H l with
 | none=>rfl
 | some o=>
  rw [e l o q] at h
  cases h
theorem Same.seq {K:PySem.W.Frag}{H H':Hp}{a:Addr}{xs:List V}(e:Same H H')(h:SqL K H a xs):SqL K H' a xs:=by
 rcases h with (h | ⟨o,h⟩) | h
 · exact .inl (.inl (e _ _ h))
 · exact .inl (.inr ⟨o,e _ _ h⟩)
 · exact .inr h
end L2
namespace L2
open PySem PySem.Spec PyProof.Rows
section
variable {κ : Type} [DecidableEq κ]
def xv (kvs:List (κ × V))(k:κ):Option V:=(kvs.find? fun kv=>decide (kv.1=k)).map (·.2)
def qAr (kvs:List (κ × V))(k:κ)(v:V):List (κ × V):=
 if (kvs.any fun kv=>decide (kv.1=k))=true then kvs.map (fun kv=>if kv.1=k then (kv.1,v) else kv) else kvs++[(k,v)]
theorem vL {p:κ × V}{r:List (κ × V)}{k:κ}(e:p.1=k):xv (p::r) k=some p.2:=by simp [xv,List.find?_cons,e]
theorem kG {p:κ × V}{r:List (κ × V)}{k:κ}(e:¬ p.1=k):xv (p::r) k=xv r k:=by simp [xv,List.find?_cons,e]
theorem vN (k:κ):∀ kvs:List (κ × V),(kvs.any fun kv=>decide (kv.1=k))=(xv kvs k).isSome
 | []=>rfl
 | p::r=>by
  rw [List.any_cons]
  by_cases e:p.1=k
  · simp only [vL e,decide_eq_true e,Bool.true_or,Option.isSome_some]
  · rw [kG e,decide_eq_false e,Bool.false_or];exact vN k r
theorem kh (kvs:List (κ × V))(k:κ)(v:V):(qAr kvs k v).length≤kvs.length+1:=by
 unfold qAr
 split
 · rw [List.length_map];omega
 · rw [List.length_append,List.length_cons,List.length_nil];omega
theorem xJ {kvs:List (κ × V)}{k:κ}(v:V)(h:xv kvs k=none):qAr kvs k v=kvs++[(k,v)]:=by
 unfold qAr
 rw [vN,h]
 exact if_neg (by decide)
theorem RelO.isSome_eq {o:Option V}{u:Option Value}(r:RelO o u):o.isSome=u.isSome:=by
 cases o with
 | none=>cases u with
  | none=>rfl
  | some _=>exact(show False from r).elim
 | some _=>cases u with
  | none=>exact(show False from r).elim
  | some _=>rfl
theorem RelO.getD {o:Option V}{u:Option Value}{d:V}{d':Value}(r:RelO o u)(rd:RelV d d'):RelV (o.getD d) (u.getD d'):=by
 cases o with
 | none=>cases u with
  | none=>exact rd
  | some _=>exact(show False from r).elim
 | some _=>cases u with
  | none=>exact(show False from r).elim
  | some _=>exact r
theorem KV.val {kvs:List (κ × V)}{vs:List (κ × Value)}(r:KV kvs vs)(k:κ):RelO (xv kvs k) (valueAt vs k):=by
 unfold KV at r
 induction r with
 | nil=>exact True.intro
 | @cons p q ps qs h t ih=>
  obtain⟨h1,h2⟩:=h
  by_cases e:p.1=k
  · have e':q.1=k:=h1.symm.trans e
    have b:valueAt (q::qs) k=some q.2:=by simp [valueAt,List.find?_cons,e']
    rw [vL e,b];exact h2
  · have e':¬ q.1=k:=fun z=>e (h1.trans z)
    have b:valueAt (q::qs) k=valueAt qs k:=by simp [valueAt,List.find?_cons,e']
    rw [kG e,b];exact ih
theorem KV.any {kvs:List (κ × V)}{vs:List (κ × Value)}(r:KV kvs vs)(k:κ):(kvs.any fun kv=>decide (kv.1=k))=vs.any fun kv=>decide (kv.1=k):=by
 unfold KV at r
 induction r with
 | nil=>rfl
 | cons h t ih=>rw [List.any_cons,List.any_cons,ih,h.1]
theorem KV.repl {kvs:List (κ × V)}{vs:List (κ × Value)}(r:KV kvs vs)(k:κ){y:V}{u:Value}(ry:RelV y u):
 KV (kvs.map fun kv=>if kv.1=k then (kv.1,y) else kv) (vs.map fun kv=>if kv.1=k then (kv.1,u) else kv):=by
 unfold KV at r ⊢
 induction r with
 | nil=>exact .nil
 | @cons p q ps qs h t ih=>
  rw [List.map_cons,List.map_cons]
  refine .cons ?_ ih
  obtain⟨h1,h2⟩:=h
  by_cases e:p.1=k
  · rw [if_pos e,if_pos (h1.symm.trans e)];exact⟨h1,ry⟩
  · rw [if_neg e,if_neg (fun z=>e (h1.trans z))];exact⟨h1,h2⟩
theorem KV.put {kvs:List (κ × V)}{vs:List (κ × Value)}(r:KV kvs vs)(k:κ){y:V}{u:Value}(ry:RelV y u):KV (qAr kvs k y) (stored vs k u):=by
 unfold qAr stored
 rw [r.any k]
 by_cases e:(vs.any fun kv=>decide (kv.1=k))=true
 · rw [if_pos e,if_pos e];exact r.repl k ry
 · rw [if_neg e,if_neg e];exact Paired.snoc r ⟨rfl,ry⟩
theorem KV.keys {kvs:List (κ × V)}{vs:List (κ × Value)}(r:KV kvs vs):kvs.map (·.1)=vs.map (·.1):=by
 unfold KV at r
 induction r with
 | nil=>rfl
 | cons h t ih=>rw [List.map_cons,List.map_cons,ih,h.1]
theorem KV.length {kvs:List (κ × V)}{vs:List (κ × Value)}(r:KV kvs vs):kvs.length=vs.length:=Paired.length r
end
theorem qHf {P:Program}{w:World}{k:Key}{u:Value}(r:RelV (kV k) u):(qx P w).is k u=true:=by
 cases k with
 | inl i=>obtain⟨t,e⟩:=(show ∃ t,u=Value.int i t from r);subst e;exact qEz P w i t
 | inr x=>obtain⟨t,e⟩:=(show ∃ t,u=Value.str x t from r);subst e;exact qE4 P w x t
theorem qDl {P:Program}{w:World}:∀ {ks:List Key} {us:List Value},Vals (ks.map kV) us→ItemsAre (qx P w) ks us
 | [],_,r=>by rw [List.map_nil] at r;cases r;exact .nil
 | k::ks,_,r=>by
  rw [List.map_cons] at r
  cases r with
  | cons h t=>exact .cons (qHf h) (qDl t)
abbrev KT (H:Hp):List (List Key × V)→List (List Key × Addr × Value)→Prop:=Paired fun p q=>p.1=q.1∧H q.2.1=some (.tup (p.1.map kV))∧RelV p.2 q.2.2
theorem KT.val {H:Hp}{kvs:List (List Key × V)}{xs:List (List Key × Addr × Value)}(r:KT H kvs xs)(k:List Key):RelO (xv kvs k) ((atKey xs k).map (·.2)):=by
 induction r with
 | nil=>exact True.intro
 | @cons p q ps qs h t ih=>
  obtain⟨h1,_,h2⟩:=h
  by_cases e:p.1=k
  · have e':q.1=k:=h1.symm.trans e
    have b:atKey (q::qs) k=some q.2:=by simp [atKey,List.find?_cons,e']
    rw [vL e,b];exact h2
  · have e':¬ q.1=k:=fun z=>e (h1.trans z)
    have b:atKey (q::qs) k=atKey qs k:=by simp [atKey,List.find?_cons,e']
    rw [kG e,b];exact ih
theorem KT.repl {H:Hp}{kvs:List (List Key × V)}{xs:List (List Key × Addr × Value)}(r:KT H kvs xs)(k:List Key){y:V}{u:Value}(ry:RelV y u):
 KT H (kvs.map fun kv=>if kv.1=k then (kv.1,y) else kv) (xs.map (putAt k u)):=by
 induction r with
 | nil=>exact .nil
 | @cons p q ps qs h t ih=>
  rw [List.map_cons,List.map_cons]
  refine .cons ?_ ih
  obtain⟨h1,h2,h3⟩:=h
  unfold putAt
  by_cases e:p.1=k
  · rw [if_pos e,if_pos (h1.symm.trans e)];exact⟨h1,h2,ry⟩
  · rw [if_neg e,if_neg (fun z=>e (h1.trans z))];exact⟨h1,h2,h3⟩
theorem KT.put {H:Hp}{kvs:List (List Key × V)}{xs:List (List Key × Addr × Value)}(r:KT H kvs xs)(k:List Key){b:Addr}{y:V}{u:Value}(hb:H b=some (.tup (k.map kV)))(ry:RelV y u):
 KT H (qAr kvs k y) (storedH xs k b u):=by
 have e:(kvs.any fun kv=>decide (kv.1=k))=(atKey xs k).isSome:=by
  rw [vN,(r.val k).isSome_eq,Option.isSome_map]
 unfold qAr storedH
 rw [e]
 by_cases q:(atKey xs k).isSome=true
 · rw [if_pos q,if_pos q];exact r.repl k ry
 · rw [if_neg q,if_neg q];exact Paired.snoc r ⟨rfl,hb,ry⟩
theorem KT.keeps {H H':Hp}{kvs:List (List Key × V)}{xs:List (List Key × Addr × Value)}(r:KT H kvs xs)(ht:∀ b ys,H b=some (.tup ys)→H' b=some (.tup ys)):KT H' kvs xs:=
 Paired.mapP r fun _ _ z=>⟨z.1,ht _ _ z.2.1,z.2.2⟩
section
variable {P : Program} {w : World} {H : Hp} {h : Heap} {a : Addr}
theorem qN6 {u:HO}(ok:HOk P w H h)(e:Rd H a u):ObjOk P w H h a u:=e.ok ok
theorem qA1 {kvs:List (Key × V)}(ok:HOk P w H h)(e:Rd H a (.dK kvs)):kvs.length≤sizeLine∧(a == sysModules)=false∧∃ vs,KV kvs vs∧h.DictOf (qx P w) a vs:=
 show ObjOk P w H h a (.dK kvs) from qN6 ok e
theorem qMn {kvs:List (Key × V)}(ok:HOk P w H h)(e:H a=some (.dK kvs)):kvs.length≤sizeLine∧(a == sysModules)=false∧∃ vs,KV kvs vs∧h.DictOf (qx P w) a vs:=qA1 ok (.inl e)
theorem qEo {ks:List Key}(ok:HOk P w H h)(e:H a=some (.tup (ks.map kV))):(tupleKind (qx P w)).is h ks a:=by
 obtain⟨_,its,r,o,h1,h2,n,h3⟩:=(show ObjOk P w H h a (.tup (ks.map kV)) from ok a _ e)
 exact⟨o,its.toArray,n,h1,h2,h3,by simpa using qDl r⟩
theorem qI1 {kvs:List (List Key × V)}(ok:HOk P w H h)(e:Rd H a (.dT kvs)):kvs.length≤sizeLine∧(a == sysModules)=false∧
 ∃ xs,KT H kvs xs∧h.DictOfH (tupleKind (qx P w)) a xs:=by
 obtain⟨z,y,xs,r,o,es,ep,h1,h2,h3,h4,h5⟩:=(show ObjOk P w H h a (.dT kvs) from qN6 ok e)
 refine⟨z,y,xs,r,o,es,ep,h1,h2,h3,h4,fun x hx=>?_,h5⟩
 have all:∀ {l:List (List Key × V)} {m:List (List Key × Addr × Value)},KT H l m→∀ x∈m,(tupleKind (qx P w)).is h x.1 x.2.1:=by
  intro l m q
  induction q with
  | nil=>intro x hx;exact nomatch hx
  | @cons p q ps qs hq t ih=>
   intro x hx
   rcases List.mem_cons.mp hx with e | hx
   · subst e
     exact qEo ok (by rw [← hq.1];exact hq.2.1)
   · exact ih x hx
 exact all r x hx
theorem qPn {kvs:List (List Key × V)}(ok:HOk P w H h)(e:H a=some (.dT kvs)):kvs.length≤sizeLine∧(a == sysModules)=false∧
 ∃ xs,KT H kvs xs∧h.DictOfH (tupleKind (qx P w)) a xs:=qI1 ok (.inl e)
end
def DGet (H:Hp)(a:Addr)(y:V)(r:Option V):Prop:=
 (∃ kvs k,Rd H a (.dK kvs)∧y=kV k∧r=xv kvs k)∨∃ kvs k b,Rd H a (.dT kvs)∧y= .ref b∧H b=some (.tup (k.map kV))∧r=xv kvs k
def DPut (H:Hp)(a:Addr)(y v:V)(H':Hp):Prop:=
 (∃ kvs k,H a=some (.dK kvs)∧y=kV k∧kvs.length < sizeLine∧H'=upd H a (.dK (qAr kvs k v)))∨
 ∃ kvs k b,H a=some (.dT kvs)∧y= .ref b∧H b=some (.tup (k.map kV))∧kvs.length < sizeLine∧H'=upd H a (.dT (qAr kvs k v))
theorem DGet.k {H:Hp}{a:Addr}{kvs:List (Key × V)}{k:Key}(e:H a=some (.dK kvs)):DGet H a (kV k) (xv kvs k):=.inl ⟨kvs,k,.inl e,rfl,rfl⟩
theorem DGet.t {H:Hp}{a b:Addr}{kvs:List (List Key × V)}{k:List Key}(e:H a=some (.dT kvs))(eb:H b=some (.tup (k.map kV))):DGet H a (.ref b) (xv kvs k):=.inr ⟨kvs,k,b,.inl e,rfl,eb,rfl⟩
theorem DPut.k {H:Hp}{a:Addr}{kvs:List (Key × V)}{k:Key}{v:V}(e:H a=some (.dK kvs))(hl:kvs.length < sizeLine):DPut H a (kV k) v (upd H a (.dK (qAr kvs k v))):=.inl ⟨kvs,k,e,rfl,hl,rfl⟩
section
variable {X : Cx} {pins : List (Addr × Obj)} {σ : St} {H : Hp} {s : Shared} {a : Addr} {y v : V} {u r : Value} {o : Option V} {A : Around} {E : Value → Shared → Prop}
theorem Inv.big (I:Inv X pins σ H s):sysModules < s.heap.objs.size:=by
 have h:mainGlobals < s.heap.objs.size:=(I.mod.glob.keeps I.bk).lt
 exact Nat.lt_trans (by decide) h
theorem qIs {Q:Value→Shared→Prop}(hu:A.units+1 < cLine)(I:Inv X pins σ H s)(g:DGet H a y (some v))(ry:RelV y u)(h:∀ w' s',Inv X pins σ H s'→RelV v w'→Q w' s'):
 wpAny (model X.prog X.w) A (getItem (.ref a) u) Q E s:=by
 rcases g with ⟨kvs,k,e,ey,l⟩ | ⟨kvs,k,b,e,ey,eb,l⟩
 · subst ey
   obtain⟨z,hd,vs,rel,dd⟩:=qA1 I.hok e
   obtain⟨w',hw,rw'⟩:=RelO.some_of (v:=v) (o:=valueAt vs k) (by rw [l];exact rel.val k)
   exact wpAny_getItem_of (qHf ry) dd.mapOf hw (h w' _ (I.tok _) rw')
 · subst ey
   cases (show u=Value.ref b from ry)
   obtain⟨z,hd,xs,rel,dd⟩:=qI1 I.hok e
   obtain⟨w',hw,rw'⟩:=RelO.some_of (v:=v) (o:=(atKey xs k).map (·.2)) (by rw [l];exact rel.val k)
   obtain⟨p,hp,hp2⟩:=Option.map_eq_some_iff.mp hw
   refine wpAny_getItem_heap (tupleKind_room_in1 hu) (qEo I.hok eb) dd hp ?_
   rw [hp2]
   exact h w' _ (I.tok _) rw'
theorem qQm {Q:Value→Shared→Prop}(hu:A.units+1 < cLine)(I:Inv X pins σ H s)(g:DGet H a y o)(ry:RelV y u)(h:∀ s',Inv X pins σ H s'→Q (.bool o.isSome) s'):
 wpAny (model X.prog X.w) A (compareOp .In u (.ref a)) Q E s:=by
 rcases g with ⟨kvs,k,e,ey,l⟩ | ⟨kvs,k,b,e,ey,eb,l⟩
 · subst ey
   obtain⟨z,hd,vs,rel,dd⟩:=qA1 I.hok e
   refine wpAny_in_of (qHf ry) hd dd.mapOf ?_
   rw [← (rel.val k).isSome_eq,← l]
   exact h _ (I.tok _)
 · subst ey
   cases (show u=Value.ref b from ry)
   obtain⟨z,hd,xs,rel,dd⟩:=qI1 I.hok e
   refine wpAny_in_heap (tupleKind_room_in1 hu) (qEo I.hok eb) hd dd ?_
   have q:=(rel.val k).isSome_eq
   rw [Option.isSome_map] at q
   rw [← q,← l]
   exact h _ (I.tok _)
theorem qL8 {Q:Value→Shared→Prop}(hu:A.units+1 < cLine)(I:Inv X pins σ H s)(g:DGet H a y o)(ry:RelV y u)(h:∀ s',Inv X pins σ H s'→Q (.bool (!o.isSome)) s'):
 wpAny (model X.prog X.w) A (compareOp .NotIn u (.ref a)) Q E s:=by
 rcases g with ⟨kvs,k,e,ey,l⟩ | ⟨kvs,k,b,e,ey,eb,l⟩
 · subst ey
   obtain⟨z,hd,vs,rel,dd⟩:=qA1 I.hok e
   refine wpAny_notIn_of (qHf ry) hd dd.mapOf ?_
   rw [← (rel.val k).isSome_eq,← l]
   exact h _ (I.tok _)
 · subst ey
   cases (show u=Value.ref b from ry)
   obtain⟨z,hd,xs,rel,dd⟩:=qI1 I.hok e
   refine wpAny_notIn_heap (tupleKind_room_in1 hu) (qEo I.hok eb) hd dd ?_
   have q:=(rel.val k).isSome_eq
   rw [Option.isSome_map] at q
   rw [← q,← l]
   exact h _ (I.tok _)
theorem qEw {h':Heap}{t':Nat}{ob:HO}(I:Inv X pins σ H s)(mu:Mut (H a))(hs:Heap.SameBut a s.heap h')(he:∃ q,h'.get? a=some q)(new:ObjOk X.prog X.w (upd H a ob) h' a ob):
 Inv X pins σ (upd H a ob) {s with heap:=h',toks:=t'}:=
 I.write (x:=a) (e:=a) mu (.inl rfl) (fun b q hb z=>(hs.2 b hb).trans z) he new
theorem qIk {P:Program}{w:World}{H':Hp}{h':Heap}{kvs:List (Key × V)}{vs:List (Key × Value)}(z:kvs.length≤sizeLine)(hd:(a == sysModules)=false)(rel:KV kvs vs)(dd:h'.DictOf (qx P w) a vs):
 ObjOk P w H' h' a (.dK kvs):=⟨z,hd,vs,rel,dd⟩
theorem qI4 {H':Hp}{Q:Unit→Shared→Prop}(hu:A.units+1 < cLine)(I:Inv X pins σ H s)(g:DPut H a y v H')(ry:RelV y u)(rv:RelV v r)(h:∀ s',Inv X pins σ H' s'→Q () s'):
 wpAny (model X.prog X.w) A (setItem (.ref a) u r) Q E s:=by
 rcases g with ⟨kvs,k,e,ey,l,eH⟩ | ⟨kvs,k,b,e,ey,eb,l,eH⟩
 · subst ey eH
   obtain⟨z,hd,vs,rel,dd⟩:=qMn I.hok e
   have hz:vs.length≤sizeLine:=by rw [← rel.length];exact z
   have hl:(qAr kvs k v).length≤sizeLine:=by have:=kh kvs k v;omega
   refine wpAny_setItem_pairs (hsz:=hz) (qHf ry) dd fun h' dd' hs=>h _ ?_
   have he:∃ q,h'.get? a=some q:=let ⟨q,_,_,hq,_⟩:=dd';⟨q,hq⟩
   exact qEw I (by rw [e];exact True.intro) hs he (qIk hl hd (rel.put k rv) dd')
 · subst ey eH
   cases (show u=Value.ref b from ry)
   obtain⟨z,hd,xs,rel,dd⟩:=qPn I.hok e
   have hz:xs.length≤sizeLine:=by rw [← Paired.length rel];exact z
   have hl:(qAr kvs k v).length≤sizeLine:=by have:=kh kvs k v;omega
   refine wpAny_setItem_heap (hsz:=hz) (tupleKind_room_in1 hu) (qEo I.hok eb) dd fun h' dd' hs=>h _ ?_
   obtain⟨q,es,ep,hq,h2,h3,h4,_,h5⟩:=dd'
   refine qEw I (by rw [e];exact True.intro) hs ⟨q,hq⟩ ⟨hl,hd,_,(rel.put k eb rv).keeps fun c ys ec=>?_,q,es,ep,hq,h2,h3,h4,h5⟩
   rw [qZ (zG ec e (fun z=>nomatch z))]
   exact ec
end
section
variable {X : Cx} {pins : List (Addr × Obj)} {σ : St} {H : Hp} {s : Shared} {a : Addr} {kvs : List (Key × V)} {k : Key} {u : Value} {A : Around} {E : Value → Shared → Prop}
theorem qO5 {Q:Value→Shared→Prop}(I:Inv X pins σ H s)(e:Rd H a (.dK kvs))(h:∀ t s',Inv X pins σ H s'→Q (.int kvs.length t) s'):wpAny (model X.prog X.w) A (call (.builtin "len") [.ref a]) Q E s:=by
 obtain⟨z,hd,vs,rel,dd⟩:=qA1 I.hok e
 refine call_len_dict hd dd (by rw [← rel.length];rw [sizeLine_eq] at z;omega) ?_
 rw [← rel.length]
 exact h _ _ (I.tok _)
end
def qP7 (i:Expr):Prop:=∀ ov iv,subscripted i false ov iv=operate [ov,iv] (getItem ov iv)
theorem qLx {prog:Program}{w:World}{A:Around}{E:Value→Shared→Prop}{s:Shared}{env:Env}{value slice:Expr}{pos:Pos}{T id:String}{Q:Value→Shared→Prop}
 (hl:typeLookup (.type T) "__getitem__"=pure (some (.builtin id))) (hs:qP7 slice)
 (h:wpAny (model prog w) A (eval value env) (fun o s₁=>wpAny (model prog w) A (eval slice env) (fun i s₂=>s₂.TypeIs o T∧wpAny (model prog w) A (getItem o i) Q E s₂) E s₁) E s):
 wpAny (model prog w) A (eval (.Subscript value slice pos) env) Q E s:=by
 refine Subscript_ (wpAny_mono h (fun o s₁ h₁=>wpAny_mono h₁ (fun i s₂ h₂=>?_) fun _ _ x=>x) fun _ _ x=>x)
 obtain⟨hT,h₂⟩:=h₂
 unfold subscriptTail
 refine wpAny_bind ?_
 rw [getitemInPython_of_ne hT.not_modules]
 refine wpAny_bind (wpAny_specialOf hT hl ?_)
 have fin:wpAny (model prog w) A (subscripted slice false o i) (fun r s₃=>wpAny (model prog w) A (letTemporaryGo value o r >>=fun _=>pure r) Q E s₃) E s₂:=by
  rw [hs o i]
  exact wpAny_operating (wpAny_mono h₂ (fun r s₃ h₃=>wpAny_bind (wpAny_letTemporaryGo (wpAny_pure h₃))) fun _ _ x=>x)
 first
  | exact wpAny_pure (wpAny_bind fin)
  | exact wpAny_bind (wpAny_pure (wpAny_bind fin))
  | exact wpAny_bind fin
theorem qF2 {X:Cx}{pins:List (Addr × Obj)}{σ:St}{H:Hp}{s:Shared}{a:Addr}{y:V}{o:Option V}(I:Inv X pins σ H s)(g:DGet H a y o):s.TypeIs (.ref a) "dict":=by
 rcases g with ⟨kvs,k,e,_,_⟩ | ⟨kvs,k,b,e,_,_,_⟩
 · obtain⟨_,_,vs,_,dd⟩:=qA1 I.hok e
   exact dd.typeIs
 · obtain⟨_,_,xs,_,dd⟩:=qI1 I.hok e
   exact dd.typeIs
def qPu (td ty:TE):TE:=fun σ H Q=>td σ H fun x H1=>ty σ H1 fun y H2=>∃ a v,x= .ref a∧DGet H2 a y (some v)∧Q v H2
def qQu (ty td:TE):TE:=fun σ H Q=>ty σ H fun y H1=>td σ H1 fun x H2=>∃ a o,x= .ref a∧DGet H2 a y o∧Q (.bl o.isSome) H2
def qMf (ty td:TE):TE:=fun σ H Q=>ty σ H fun y H1=>td σ H1 fun x H2=>∃ a o,x= .ref a∧DGet H2 a y o∧Q (.bl (!o.isSome)) H2
def qPq (td ty tv:TE):TS:=fun D σ H=>tv σ H fun v H1=>td σ H1 fun x H2=>ty σ H2 fun y H3=>∃ a H4,x= .ref a∧DPut H3 a y v H4∧D.nx σ H4
section
variable {X : Cx} {o i e value : Expr} {pos pos' tpos : Pos} {td ty tv : TE}
theorem kq (hu:X.A.units+1 < cLine)(ho:PE X o td)(hi:PE X i ty)(hs:qP7 i):PE X (.Subscript o i pos) (qPu td ty):=by
 intro pins s σ H Q I h
 refine qLx PySem.F.slot_dict_getitem.lookup hs (thn (ho pins s σ H _ I h) fun u s1 ⟨x,H1,I1,rx,q1⟩=>thn (hi pins s1 σ H1 _ I1 q1) fun iv s2 ⟨y,H2,I2,ry,a,v,ex,g,q2⟩=>?_)
 subst ex
 obtain rfl:u=Value.ref a:=rx
 exact⟨qF2 I2 g,qIs hu I2 g ry fun w' s3 I3 rw'=>⟨v,H2,I3,rw',q2⟩⟩
theorem qNt (hu:X.A.units+1 < cLine)(hi:PE X i ty)(ho:PE X o td):PC X .In i o (qQu ty td):=by
 intro pins s σ H Q I h
 refine thn (hi pins s σ H _ I h) fun iv s1 ⟨y,H1,I1,ry,q1⟩=>thn (ho pins s1 σ H1 _ I1 q1) fun u s2 ⟨x,H2,I2,rx,a,ov,ex,g,q2⟩=>?_
 subst ex
 obtain rfl:u=Value.ref a:=rx
 exact qQm hu I2 g ry fun s3 I3=>⟨.bl ov.isSome,H2,I3,rfl,q2⟩
theorem qEa (hu:X.A.units+1 < cLine)(hi:PE X i ty)(ho:PE X o td):PC X .NotIn i o (qMf ty td):=by
 intro pins s σ H Q I h
 refine thn (hi pins s σ H _ I h) fun iv s1 ⟨y,H1,I1,ry,q1⟩=>thn (ho pins s1 σ H1 _ I1 q1) fun u s2 ⟨x,H2,I2,rx,a,ov,ex,g,q2⟩=>?_
 subst ex
 obtain rfl:u=Value.ref a:=rx
 exact qL8 hu I2 g ry fun s3 I3=>⟨.bl (!ov.isSome),H2,I3,rfl,q2⟩
theorem jX (hu:X.A.units+1 < cLine)(ho:PE X o td)(hi:PE X i ty)(hv:PE X value tv)(hs:swapsWith value (some (.Subscript o i pos')) pos.line X.env=pure false):
 PS X (.Assign [.Subscript o i pos'] value pos) (qPq td ty tv):=by
 intro pins s σ H D I h
 refine wpAny_Assign_Subscript (thn (hv pins s σ H _ I h) fun r s1 ⟨v,H1,I1,rv,q1⟩=>thn (ho pins s1 σ H1 _ I1 q1) fun u s2 ⟨x,H2,I2,rx,q2⟩=>thn (hi pins s2 σ H2 _ I2 q2) fun iv s3 ⟨y,H3,I3,ry,a,H4,ex,g,q3⟩=>?_) hs
 subst ex
 obtain rfl:u=Value.ref a:=rx
 exact qI4 hu I3 g ry rv fun s4 I4=>⟨σ,H4,I4,q3⟩
end
theorem qGp {P:Program}{w:World}{H:Hp}(h:Heap)(hb:sysModules < h.objs.size):ObjOk P w H (h.push {cls:=.type "dict",data:=.dict #[]}) h.objs.size (.dK []):=
 ⟨Nat.zero_le _,beq_eq_false_iff_ne.mpr (Ne.symm (Nat.ne_of_lt hb)),[],.nil,Heap.DictOf.new h⟩
def qMy:TE:=fun _ H Q=>∀ p,H p=none→Q (.ref p) (upd H p (.dK []))
section
variable {X : Cx} {pos : Pos}
theorem qCu:PE X (.Dict [] [] pos) qMy:=fun pins s σ H Q I h=>
 wpAny_Dict_empty ⟨.ref s.heap.objs.size,_,I.laid (a:=s.heap.objs.size) (o:=.dK []) (t':=s.toks) (fun _ _ q=>Heap.get?_push_of_some _ q) (Nat.le_refl _) (qGp s.heap I.big),rfl,h _ (I.hok.fresh (Nat.le_refl _))⟩
end
def qIw:List (TE × TE)→St→Hp→(List (V × V)→Hp→Prop)→Prop
 | [],_,H,Q=>Q [] H
 | (tk,tv)::r,σ,H,Q=>tk σ H fun x H1=>tv σ H1 fun y H2=>qIw r σ H2 fun ps H3=>Q ((x,y)::ps) H3
abbrev VV:List (V × V)→List (Value × Value)→Prop:=Paired fun p q=>RelV p.1 q.1∧RelV p.2 q.2
def PPs (X:Cx)(pos:Pos)(keys:List (Option Expr))(values:List Expr)(trs:List (TE × TE)):Prop:=
 ∀ (pins:List (Addr × Obj)) (s:Shared) (σ:St) (H:Hp) (Q:List (V × V)→Hp→Prop),Inv X pins σ H s→qIw trs σ H Q→
  wpAny (model X.prog X.w) X.A (evalPairs (pairTrees keys values X.env pos)) (fun vs s'=>∃ ps H',Inv X pins σ H' s'∧VV ps vs∧Q ps H') X.xe s
theorem qFm {X:Cx}{pos:Pos}:PPs X pos [] [] []:=fun pins s σ H Q I h=>pairTrees_nil_walk ⟨[],H,I,.nil,h⟩
theorem kH {X:Cx}{pos:Pos}{k v:Expr}{ks:List (Option Expr)}{vs:List Expr}{tk tv:TE}{trs:List (TE × TE)}(hk:PE X k tk)(hv:PE X v tv)(hr:PPs X pos ks vs trs):
 PPs X pos (some k::ks) (v::vs) ((tk,tv)::trs):=fun pins s σ H Q I h=>
 pairTrees_cons_walk (thn (hk pins s σ H _ I h) fun u s1 ⟨x,H1,I1,rx,q1⟩=>thn (hv pins s1 σ H1 _ I1 q1) fun w2 s2 ⟨y,H2,I2,ry,q2⟩=>
  thn (hr pins s2 σ H2 _ I2 q2) fun ws s3 ⟨ps,H3,I3,rel,q3⟩=>⟨(x,y)::ps,H3,I3,.cons ⟨rx,ry⟩ rel,q3⟩)
def wI (kvs more:List (Key × V)):List (Key × V):=more.foldl (fun acc kv=>qAr acc kv.1 kv.2) kvs
theorem KV.merge:∀ {more:List (Key × V)} {rs:List (Key × Value)} {kvs:List (Key × V)} {vs:List (Key × Value)},KV more rs→KV kvs vs→KV (wI kvs more) (merged vs rs):=by
 intro more rs kvs vs r
 unfold KV at r
 induction r generalizing kvs vs with
 | nil=>intro q;exact q
 | @cons p q ps qs h t ih=>
  intro r0
  have e:KV (qAr kvs p.1 p.2) (stored vs q.1 q.2):=by
   have:=r0.put p.1 h.2
   rw [← h.1];exact this
  exact ih e
theorem vc:∀ (more kvs:List (Key × V)),(wI kvs more).length≤kvs.length+more.length
 | [],kvs=>by show kvs.length≤kvs.length+0;omega
 | p::r,kvs=>by
  have h1:=vc r (qAr kvs p.1 p.2)
  have h2:=kh kvs p.1 p.2
  show (wI (qAr kvs p.1 p.2) r).length≤_
  rw [List.length_cons];omega
theorem qBr {P:Program}{w:World}:∀ {kvs:List (Key × V)} {ws:List (Value × Value)},VV (kvs.map fun kv=>(kV kv.1,kv.2)) ws→∃ rs,Carries (qx P w) ws rs∧KV kvs rs
 | [],_,r=>by rw [List.map_nil] at r;cases r;exact⟨[],True.intro,.nil⟩
 | p::kvs,_,r=>by
  rw [List.map_cons] at r
  cases r with
  | @cons a b as bs h t=>
   obtain⟨rs,c,q⟩:=qBr (P:=P) (w:=w) t
   obtain⟨b1,b2⟩:=b
   exact⟨(p.1,b2)::rs,⟨qHf h.1,rfl,c⟩,.cons ⟨rfl,h.2⟩ q⟩
def qO7 (trs:List (TE × TE)):TE:=fun σ H Q=>∀ p,H p=none→qIw trs σ (upd H p (.dK [])) fun ps H2=>H2 p=some (.dK [])∧∃ kvs:List (Key × V),ps=kvs.map (fun kv=>(kV kv.1,kv.2))∧kvs.length≤15∧Q (.ref p) (upd H2 p (.dK (wI [] kvs)))
theorem qEy {X:Cx}{pos:Pos}{keys:List (Option Expr)}{values:List Expr}{trs:List (TE × TE)}(h:PPs X pos keys values trs)(hall:keys.all (·.isSome)=true)(hl:keys.length=values.length)(h0:keys≠[])
 (h15:keys.length≤15):PE X (.Dict keys values pos) (qO7 trs):=by
 intro pins s σ H Q I q
 have hn:=I.hok.fresh (Nat.le_refl s.heap.objs.size)
 have I1:=I.laid (a:=s.heap.objs.size) (o:=.dK []) (h':=s.heap.push {cls:=.type "dict",data:=.dict #[]}) (t':=s.toks) (fun _ _ q=>Heap.get?_push_of_some _ q) (Nat.le_refl _) (qGp s.heap I.big)
 refine wpAny_Dict_walk (knd:=qx X.prog X.w) hall hl h0 h15 (thn (h pins _ σ _ _ I1 (q _ hn)) fun ws s2 ⟨ps,H2,I2,rel,e,kvs,ep,lk,q2⟩=>?_)
 subst ep
 obtain⟨rs,c,rk⟩:=qBr (P:=X.prog) (w:=X.w) rel
 obtain⟨z,hd,vs0,r0,dd⟩:=qMn I2.hok e
 cases r0
 refine⟨rs,c,dd,fun h' dd' hs=>⟨.ref s.heap.objs.size,_,?_,rfl,q2⟩⟩
 have hz:(wI [] kvs).length≤sizeLine:=by
  have h1:=vc kvs []
  rw [List.length_nil] at h1
  rw [sizeLine_eq];omega
 have he:∃ q,h'.get? s.heap.objs.size=some q:=let ⟨q,_,_,hq,_⟩:=dd';⟨q,hq⟩
 exact qEw I2 (by rw [e];exact True.intro) hs he (qIk hz hd (rk.merge .nil) dd')
structure M1 (X:Cx)(o:Expr)(m:Str)(apos:Pos)(e:Expr)(cpos:Pos):Prop where
 base:attributeBase o m X.env (eval o X.env)=eval o X.env
 few:((backTo cpos (starEach [e] X.env)).all (fun x=>!x.1) && (backToKw cpos (keywordEach [] X.env)).all (fun x=>x.1.isSome)
  && decide (([e]:List Expr).length+([]:List Keyword).length+(if ([]:List Keyword).isEmpty then 0 else 1) < 30))=true
 line:(apos.endLine == cpos.line)=true
 trees:backTo cpos (starEach [e] X.env)=[(false,eval e X.env)]
structure M2 (X:Cx)(o:Expr)(m:Str)(apos:Pos)(e f:Expr)(cpos:Pos):Prop where
 base:attributeBase o m X.env (eval o X.env)=eval o X.env
 few:((backTo cpos (starEach [e,f] X.env)).all (fun x=>!x.1) && (backToKw cpos (keywordEach [] X.env)).all (fun x=>x.1.isSome)
  && decide (([e,f]:List Expr).length+([]:List Keyword).length+(if ([]:List Keyword).isEmpty then 0 else 1) < 30))=true
 line:(apos.endLine == cpos.line)=true
 trees:backTo cpos (starEach [e,f] X.env)=[(false,eval e X.env),(false,eval f X.env)]
section
variable {X : Cx} {pins : List (Addr × Obj)} {σ : St} {H : Hp} {s : Shared} {a : Addr} {y d : V} {u r : Value} {o : Option V} {A : Around} {E : Value → Shared → Prop}
end
section
variable {X : Cx} {o e f : Expr} {apos cpos : Pos} {td ty tx : TE}
end
section
variable {X : Cx} {pins : List (Addr × Obj)} {σ : St} {H : Hp} {s : Shared} {a : Addr} {kvs : List (Key × V)} {A : Around} {E : Value → Shared → Prop}
theorem qGc {Q:Value→Shared→Prop}(I:Inv X pins σ H s)(e:Rd H a (.dK kvs))(h:∀ p s',H p=none→Inv X pins σ (upd H p (.dK kvs)) s'→Q (.ref p) s'):wpAny (model X.prog X.w) A (call (.type "dict") [.ref a]) Q E s:=by
 obtain⟨z,hd,vs,rel,dd⟩:=qA1 I.hok e
 refine kt_call_dict hd dd (by rw [← rel.length];exact z) fun h' dd' hs=>?_
 refine h _ _ (I.hok.fresh (Nat.le_refl _)) (I.laid (a:=s.heap.objs.size) (o:=.dK kvs) (t':=s.toks) (fun b q hq=>?_) (Nat.le_refl _) (qIk z (beq_eq_false_iff_ne.mpr (Ne.symm (Nat.ne_of_lt I.big))) rel dd'))
 exact(hs.2 b (Nat.ne_of_lt (Heap.lt_size hq))).trans (Heap.get?_push_of_some _ hq)
end
section
variable {X : Cx} {pins : List (Addr × Obj)} {σ : St} {H : Hp} {s : Shared} {a : Addr} {y : V} {u : Value} {A : Around} {E : Value → Shared → Prop}
end
end L2
namespace Att
open PySem PySem.W PySem.Calls PyProof.Rows
section
variable {prog : Program} {w : World} {A : Around} {E : Value → Shared → Prop} {s : Shared} {K : Frag}
end
end Att
namespace L2
open PySem PySem.Spec PyProof.Rows
end L2
namespace L2
open PySem PySem.Spec PyProof.Rows
end L2
namespace L2
open PySem PySem.Spec PyProof.Rows
section
variable {P : Program} {w : World} {K : PySem.W.Frag} {mg : Str → Option Value} {base : Heap}
end
section
variable {X : Cx}
end
section
variable {κ : Type} [DecidableEq κ]
end
end L2
namespace Mt
theorem qLp (a b:Int):a.fmod b=a - b*a.fdiv b:=by
 have:=Int.fmod_add_mul_fdiv a b
 omega
theorem qGa (a b:Int):Int.gcd b (a.fmod b)=Int.gcd a b:=by
 apply Nat.dvd_antisymm
 · refine Int.dvd_gcd ?_ (Int.gcd_dvd_left b (a.fmod b))
   have h1:((Int.gcd b (a.fmod b):Nat):Int) ∣ b:=Int.gcd_dvd_left ..
   have h2:((Int.gcd b (a.fmod b):Nat):Int) ∣ a.fmod b:=Int.gcd_dvd_right ..
   have h3:=Int.dvd_add h2 (Int.dvd_trans h1 (Int.dvd_mul_right b (a.fdiv b)))
   have e:a.fmod b+b*a.fdiv b=a:=Int.fmod_add_mul_fdiv a b
   rwa [e] at h3
 · refine Int.dvd_gcd (Int.gcd_dvd_right ..) ?_
   rw [qLp]
   exact Int.dvd_sub (Int.gcd_dvd_left ..) (Int.dvd_trans (Int.gcd_dvd_right ..) (Int.dvd_mul_right ..))
theorem qHu (a b:Int)(h:b≠0):(a.fmod b).natAbs < b.natAbs:=by
 rcases Int.lt_or_gt_of_ne h with h | h
 · have h1:=Int.fmod_lt_of_pos (-a) (show 0 < -b by omega)
   have h2:=Int.fmod_nonneg_of_pos (-a) (show 0 < -b by omega)
   rw [Int.neg_fmod_neg] at h1 h2
   omega
 · have h1:=Int.fmod_lt_of_pos a h
   have h2:=Int.fmod_nonneg_of_pos a h
   omega
def sg (t b:Int):Int:=if b < 0 then -((Int.gcd t b:Nat):Int) else ((Int.gcd t b:Nat):Int)
def jf (t b:Int):Int:=t.fdiv (sg t b)
def jP (t b:Int):Int:=b.fdiv (sg t b)
theorem vg {t b:Int}(h:b≠0):0 < Int.gcd t b:=by
 rcases Nat.eq_zero_or_pos (Int.gcd t b) with z | z
 · rw [Int.gcd_eq_zero_iff] at z
   exact absurd z.2 h
 · exact z
theorem qOv {t b:Int}(h:b≠0):sg t b≠0:=by
 have:=vg (t:=t) h
 unfold sg;split <;> omega
theorem qKa (t b:Int):sg t b ∣ t:=by
 unfold sg;split
 · exact Int.neg_dvd.mpr (Int.gcd_dvd_left ..)
 · exact Int.gcd_dvd_left ..
theorem qJ6 (t b:Int):sg t b ∣ b:=by
 unfold sg;split
 · exact Int.neg_dvd.mpr (Int.gcd_dvd_right ..)
 · exact Int.gcd_dvd_right ..
theorem qGw (t b:Int):(sg t b).natAbs=Int.gcd t b:=by
 unfold sg;split <;> omega
theorem qJ2 (t b:Int):jf t b*sg t b=t:=Int.fdiv_mul_cancel (qKa t b)
theorem qI7 (t b:Int):jP t b*sg t b=b:=Int.fdiv_mul_cancel (qJ6 t b)
theorem jv {t b:Int}(h:b≠0):0 < jP t b:=by
 have e:=qI7 t b
 have g:=vg (t:=t) h
 by_cases hb:b < 0
 · have s:sg t b= -((Int.gcd t b:Nat):Int):=by unfold sg;rw [if_pos hb]
   rw [s] at e
   rcases Int.lt_trichotomy (jP t b) 0 with z | z | z
   · have:=Int.mul_pos_of_neg_of_neg z (show -((Int.gcd t b:Nat):Int) < 0 by omega)
     omega
   · rw [z] at e;omega
   · exact z
 · have s:sg t b=((Int.gcd t b:Nat):Int):=by unfold sg;rw [if_neg hb]
   rw [s] at e
   rcases Int.lt_trichotomy (jP t b) 0 with z | z | z
   · have:=Int.mul_neg_of_neg_of_pos z (show 0 < ((Int.gcd t b:Nat):Int) by omega)
     omega
   · rw [z] at e;omega
   · exact z
theorem qFb {t b:Int}(h:b≠0):Int.gcd (jf t b) (jP t b)=1:=by
 have e:=Int.gcd_mul_right (jf t b) (sg t b) (jP t b)
 rw [qJ2,qI7,qGw] at e
 have g:=vg (t:=t) h
 have e':1*Int.gcd t b=(jf t b).gcd (jP t b)*Int.gcd t b:=by omega
 exact(Nat.eq_of_mul_eq_mul_right g e').symm
theorem xo (t b:Int):jf t b*b=t*jP t b:=by
 have e1:=qJ2 t b
 have e2:=qI7 t b
 calc jf t b*b=jf t b*(jP t b*sg t b):=by rw [e2]
  _=(jf t b*sg t b)*jP t b:=by rw [Int.mul_comm (jP t b),Int.mul_assoc]
  _=t*jP t b:=by rw [e1]
theorem wX {t b:Int}(h:b≠0):(jf t b).natAbs≤t.natAbs:=by
 have e:=congrArg Int.natAbs (qJ2 t b)
 rw [Int.natAbs_mul,qGw] at e
 have g:=vg (t:=t) h
 rw [← e]
 exact Nat.le_mul_of_pos_right _ g
theorem zH {t b:Int}(h:b≠0):(jP t b).natAbs≤b.natAbs:=by
 have e:=congrArg Int.natAbs (qI7 t b)
 rw [Int.natAbs_mul,qGw] at e
 have g:=vg (t:=t) h
 have:=Nat.le_mul_of_pos_right (jP t b).natAbs g
 omega
end Mt
namespace Mt
theorem qLh {p q p' q':Int}(hq:0 < q)(hq':0 < q')(g:Int.gcd p q=1)(g':Int.gcd p' q'=1)(c:p*q'=p'*q):p=p'∧q=q':=by
 have d1:q ∣ q':=by
  have h:q ∣ p*q':=by rw [c];exact Int.dvd_mul_left ..
  have n:q.natAbs ∣ p.natAbs*q'.natAbs:=by
   have:=Int.natAbs_dvd_natAbs.mpr h
   rwa [Int.natAbs_mul] at this
  have co:Nat.Coprime q.natAbs p.natAbs:=by
   show Nat.gcd q.natAbs p.natAbs=1
   rw [Nat.gcd_comm];exact g
  exact Int.natAbs_dvd_natAbs.mp (Nat.Coprime.dvd_of_dvd_mul_left co n)
 have d2:q' ∣ q:=by
  have h:q' ∣ p'*q:=by rw [← c];exact Int.dvd_mul_left ..
  have n:q'.natAbs ∣ p'.natAbs*q.natAbs:=by
   have:=Int.natAbs_dvd_natAbs.mpr h
   rwa [Int.natAbs_mul] at this
  have co:Nat.Coprime q'.natAbs p'.natAbs:=by
   show Nat.gcd q'.natAbs p'.natAbs=1
   rw [Nat.gcd_comm];exact g'
  exact Int.natAbs_dvd_natAbs.mp (Nat.Coprime.dvd_of_dvd_mul_left co n)
 have e:q=q':=by
  have h1:=Int.le_of_dvd hq' d1
  have h2:=Int.le_of_dvd hq d2
  omega
 subst e
 exact⟨Int.eq_of_mul_eq_mul_right (by omega) c,rfl⟩
theorem qIb {t b p q:Int}(h:b≠0)(hq:0 < q)(g:Int.gcd p q=1)(c:p*b=t*q):jf t b=p∧jP t b=q:=by
 have e:=xo t b
 have k:jf t b*q=p*jP t b:=by
  have:(jf t b*q)*b=(p*jP t b)*b:=by
   calc (jf t b*q)*b=(jf t b*b)*q:=by rw [Int.mul_assoc,Int.mul_comm q b,← Int.mul_assoc]
    _=(t*jP t b)*q:=by rw [e]
    _=(t*q)*jP t b:=by rw [Int.mul_assoc,Int.mul_comm (jP t b) q,← Int.mul_assoc]
    _=(p*b)*jP t b:=by rw [c]
    _=(p*jP t b)*b:=by rw [Int.mul_assoc,Int.mul_comm b,← Int.mul_assoc]
  exact Int.eq_of_mul_eq_mul_right h this
 exact qLh (jv h) hq (qFb h) g k
theorem qGi {p q:Int}(hq:0 < q)(g:Int.gcd p q=1):jf p q=p∧jP p q=q:=qIb (by omega) hq g rfl
theorem jI {p q:Int}(hq:0 < q):p.fdiv q*q≤p∧p < (p.fdiv q+1)*q:=by
 have e:=Int.fmod_add_mul_fdiv p q
 have h1:=Int.fmod_nonneg_of_pos p hq
 have h2:=Int.fmod_lt_of_pos p hq
 have c:q*p.fdiv q=p.fdiv q*q:=Int.mul_comm ..
 have d:(p.fdiv q+1)*q=p.fdiv q*q+q:=by rw [Int.add_mul,Int.one_mul]
 omega
end Mt
namespace Mt
theorem vq {A B C D:Int}(hB:0 < B)(hD:0 < D)(h:A*D=C*B):A.fdiv B=C.fdiv D:=by
 obtain⟨h1,h2⟩:=jI (p:=A) hB
 obtain⟨h3,h4⟩:=jI (p:=C) hD
 generalize A.fdiv B=f at h1 h2 ⊢
 generalize C.fdiv D=g at h3 h4 ⊢
 have k1:f*B*D≤A*D:=Int.mul_le_mul_of_nonneg_right h1 (by omega)
 have k2:C*B < (g+1)*D*B:=Int.mul_lt_mul_of_pos_right h4 hB
 have k3:g*D*B≤C*B:=Int.mul_le_mul_of_nonneg_right h3 (by omega)
 have k4:A*D < (f+1)*B*D:=Int.mul_lt_mul_of_pos_right h2 hD
 have p:=Int.mul_pos hB hD
 have e1:f*(B*D) < (g+1)*(B*D):=by grind
 have e2:g*(B*D) < (f+1)*(B*D):=by grind
 have:=Int.lt_of_mul_lt_mul_right e1 (by omega)
 have:=Int.lt_of_mul_lt_mul_right e2 (by omega)
 omega
def plP (p q r s k:Int):Int:=jf (p*s+k*r*q) (q*s)
def plQ (p q r s k:Int):Int:=jP (p*s+k*r*q) (q*s)
theorem qMt {p q r s k:Int}(hq:0 < q)(hs:0 < s):0 < plQ p q r s k:=jv (Int.ne_of_gt (Int.mul_pos hq hs))
theorem qLo {p q r s k:Int}(hq:0 < q)(hs:0 < s):(plP p q r s k).natAbs≤(p*s+k*r*q).natAbs:=wX (Int.ne_of_gt (Int.mul_pos hq hs))
theorem qLf {p q r s k:Int}(hq:0 < q)(hs:0 < s):(plQ p q r s k).natAbs≤(q*s).natAbs:=zH (Int.ne_of_gt (Int.mul_pos hq hs))
end Mt
namespace Mt
def InR (N D m:Int):Prop:=0≤N∧N < m*D
theorem qF0 {N D m:Int}(hD:0 < D):InR N D m↔(0≤N.fdiv D∧N.fdiv D < m):=by
 obtain⟨h1,h2⟩:=jI (p:=N) hD
 generalize N.fdiv D=f at h1 h2 ⊢
 unfold InR
 constructor
 · rintro ⟨a,b⟩
   constructor
   · have:0*D < (f+1)*D:=by rw [Int.zero_mul];omega
     have:=Int.lt_of_mul_lt_mul_right this (by omega)
     omega
   · exact Int.lt_of_mul_lt_mul_right (a:=D) (by omega) (by omega)
 · rintro ⟨a,b⟩
   constructor
   · have:=Int.mul_nonneg a (by omega:0≤D)
     omega
   · have:(f+1)*D≤m*D:=Int.mul_le_mul_of_nonneg_right (by omega) (by omega)
     omega
theorem qH4 {X Y E D m:Int}(hE:0 < E)(hD:0 < D)(h:X*D=Y*E):InR X E m↔InR Y D m:=by
 rw [qF0 hE,qF0 hD,vq hE hD h]
def wS (N R D m:Int):Int:=
 if R=0 then 1000000 else if ¬ (0≤N.fdiv D∧N.fdiv D < m) then 0
 else if 1000000 < (if R < 0 then N.fdiv (-R)+1 else -((N - m*D).fdiv R)) then 1000000 else (if R < 0 then N.fdiv (-R)+1 else -((N - m*D).fdiv R))
end Mt
namespace L3
open PySem PySem.Spec PyProof.Rows L2
def CMulB (i j:Int):Prop:=CMul i j∨(i.natAbs < 2 ^ 60000∧j.natAbs < 2 ^ 60000)
theorem vU {i:Int}(h:i.natAbs < 2 ^ 60000):Builtin.Int.intBits i≤2 ^ 20:=by
 unfold Builtin.Int.intBits
 split
 · exact Nat.zero_le _
 · rename_i h0
   have hz:i.natAbs≠0:=by
    intro z
    apply h0
    have:i=0:=by omega
    rw [this];rfl
   have:=(Nat.log2_lt hz).mpr h
   have e:(2:Nat) ^ 20=1048576:=by decide
   omega
theorem CMulB.ok {i j:Int}(h:CMulB i j):IntMulOk i j:=by
 rcases h with h | ⟨h1,h2⟩
 · exact h.ok
 · exact IntMulOk.of_bits (vU h1) (vU h2)
def CDivB (_ j:Int):Prop:=j≠0∧j.natAbs < 2 ^ 8000
theorem CDivB.ok {i j:Int}(h:CDivB i j):Builtin.divisionGoesByPylong i j=false:=by
 refine PyProof.noPylong_of_log2 ?_
 have hz:j.natAbs≠0:=by have:=h.1;omega
 have:=(Nat.log2_lt hz).mpr h.2
 omega
section
variable {X : Cx}
theorem qy:OpR X (binaryOp .Mult) (rI CMulB fun i j=>.int (i*j)):=opI fun _ _ _ _ _ _ _ hc q=>mul_int q hc.ok
theorem qY:OpR X (binaryOp .FloorDiv) (rI CDivB fun i j=>.int (i.fdiv j)):=opI fun _ _ _ _ _ _ _ hc q=>floordiv_int hc.1 q (.inl hc.ok)
theorem qj:zg X (.builtin "isinstance") (fun xs H Q=>∃ x c t b,xs=[x,c]∧qAz X.K H x t∧
 (∃ n,c= .ty n∧PySem.W.kitOne X.K t (.type n)=some b∨∃ a,c= .ref a∧PySem.W.kitOne X.K t (.ref a)=some b)∧Q (.bl b) H):=by
 intro pins s σ H xs us Q I r h
 obtain⟨x,c,t,b,rfl,ty,hk,q⟩:=h
 obtain⟨u,u',rfl,rx,rc⟩:=qHt r
 obtain⟨n,⟨rfl,e⟩ | ⟨a,rfl,e⟩⟩:=hk
 · cases rc
   exact qD7 I rx ty e fun tk=>⟨.bl b,H,I.tok _,rfl,q⟩
 · cases rc
   exact qD7 I rx ty e fun tk=>⟨.bl b,H,I.tok _,rfl,q⟩
def qJk (xs ys:List V):Bool:=(List.range (min xs.length ys.length)).all (fun j=>eqV (xs.getD j .non) (ys.getD j .non)) && xs.length == ys.length
theorem qG9 {A:Around}{s:Shared}{xs ys:List V}{us ws:List Value}(r1:Vals xs us)(r2:Vals ys ws)(f1:xs.all zT=true)(f2:ys.all zT=true):
 ∀ j (h1:j < us.toArray.size) (h2:j < ws.toArray.size),SeqAt.EqAt A s us.toArray[j] ws.toArray[j] (eqV (xs.getD j .non) (ys.getD j .non)):=by
 intro j h1 h2
 have l1:=r1.length
 have l2:=r2.length
 rw [List.size_toArray] at h1 h2
 have g1:xs[j]? =some xs[j]:=List.getElem?_eq_getElem (by omega)
 have g2:ys[j]? =some ys[j]:=List.getElem?_eq_getElem (by omega)
 obtain⟨u,e1,q1⟩:=r1.get g1
 obtain⟨w,e2,q2⟩:=r2.get g2
 have d1:xs.getD j .non=xs[j]:=by rw [List.getD_eq_getElem?_getD,g1];rfl
 have d2:ys.getD j .non=ys[j]:=by rw [List.getD_eq_getElem?_getD,g2];rfl
 have c1:us.toArray[j]=u:=by
  have:=(List.getElem?_eq_some_iff.mp e1).2
  simpa using this
 have c2:ws.toArray[j]=w:=by
  have:=(List.getElem?_eq_some_iff.mp e2).2
  simpa using this
 rw [d1,d2,c1,c2]
 exact qGf q1 q2 (List.all_eq_true.mp f1 _ (List.getElem_mem _)) (List.all_eq_true.mp f2 _ (List.getElem_mem _))
inductive qQd (K:PySem.W.Frag)(neg:Bool)(x:V)(y:V)(H:Hp)(Q:VK):Prop
| mk p q xs ys (_:x= .ref p) (_:y= .ref q) (_:SqT K H p xs) (_:SqT K H q ys) (_:xs.all zT=true) (_:ys.all zT=true) (_:Q (.bl (if neg then !qJk xs ys else qJk xs ys)) H)
theorem qNo (hu:X.A.units < cLine):OpR X (compareOp .Eq) (qQd X.K false):=by
 intro pins s σ H x y v u Q I rx ry h
 obtain⟨p,q,xs,ys,rfl,rfl,h1,h2,f1,f2,k⟩:=h
 cases rx;cases ry
 obtain⟨us,r1,t1,_⟩:=I.tuple h1
 obtain⟨ws,r2,t2,_⟩:=I.tuple h2
 have l1:us.toArray.size=xs.length:=by rw [List.size_toArray];exact r1.length.symm
 have l2:ws.toArray.size=ys.length:=by rw [List.size_toArray];exact r2.length.symm
 refine SeqAt.eq_tupleAt t1 t2 hu (qG9 r1 r2 f1 f2) ?_
 rw [l1,l2]
 exact⟨.bl (qJk xs ys),H,I,rfl,k⟩
end
def jB (X:Cx)(scope:Scope)(cl:List (Str × Addr))(C:Addr)(N:List Str)(s:Shared)(H:Hp)(fp:List Addr):Cx:=
 {X with N:=N,s₀:=s,H₀:=H,env:=compEnvC scope cl C X.env,outer:=X.stack,stack:=X.stack,ex:=fp,fn:=fun _=>false,pn:=[]}
def vT (js:List Nat)(σ:L2.St):L2.St:=js.map fun j=>(σ[j]?).join
theorem qHg {prog:Program}{w:World}{A:Around}{R:Result→Shared→Prop}{s0:Shared}{el tg src:Expr}{cs:List Expr}{sco:Scope}{po:Pos}{itv lst:Value}{en:Env}(J:Nat→Shared→Prop)
 (step:∀ k st,J k st→wpAny (model prog w) A (pyNext itv) (fun got s1=>match got with
   | none=>R (.ok .next) s1
   | some u=>wpAny (model prog w) A (letOwnedTupleGo tg itv u) (fun _ s1'=>wpAny (model prog w) A (assign tg en u) (fun _ s2=>
    wpAny (model prog w) A (forIn cs true fun c r=>if r=true then do let ok ← isTrue c en (eval c en);pure (ForInStep.yield ok) else pure (ForInStep.yield r)) (fun good s3=>
     if good=true then wpAny (model prog w) A (eval el en) (fun y s4=>
      wpAny (model prog w) A (call (.builtin "list.append") [lst,y]) (fun _ s5=>∃ j,j < k∧J j s5) (notedBy (model prog w) A en fun x z=>R (.error x) z) s4) (notedBy (model prog w) A en fun x z=>R (.error x) z) s3
     else ∃ j,j < k∧J j s3) (notedBy (model prog w) A en fun x z=>R (.error x) z) s2) (notedBy (model prog w) A en fun x z=>R (.error x) z) s1') (notedBy (model prog w) A en fun x z=>R (.error x) z) s1) (notedBy (model prog w) A en fun x z=>R (.error x) z) st)
 (k:Nat) (hJ:J k s0):codeAny (model prog w) A (.compLoop (.ListComp el [⟨tg,src,cs,0⟩] sco po) 0 itv lst en) R s0:=by
 refine codeAny_loop rfl J (fun k st hk=>?_) k hJ
 show wpAny _ A ((compTurn (.ListComp el [⟨tg,src,cs,0⟩] sco po) 0 itv lst en).onRaise (fun x=>do noteFrame x en;theTreesLotGoes x)) _ _ st
 refine wpAny_noted ?_
 rw [compTurn_list]
 refine wpAny_bind (wpAny_standAt (wpAny_bind (wpAny_mono (step k st hk) (fun got s1 g1=>?_) fun _ _ q=>q)))
 match got with
 | none=>exact wpAny_pure g1
 | some u=>
  refine wpAny_bind (wpAny_mono g1 (fun _ s1' g2=>?_) fun _ _ q=>q)
  refine wpAny_bind (wpAny_mono g2 (fun _ s2 g3=>wpAny_bind (wpAny_mono g3 (fun good s3 g4=>?_) fun _ _ q=>q)) fun _ _ q=>q)
  match good with
  | false=>exact wpAny_pure ⟨rfl,g4⟩
  | true=>
   refine wpAny_bind (wpAny_bind (wpAny_mono g4 (fun y s4 g5=>?_) fun _ _ q=>q))
   exact wpAny_bind (wpAny_mono g5 (fun _ s5 g6=>wpAny_pure (wpAny_pure ⟨rfl,g6⟩)) fun _ _ q=>q)
structure COk (X:Cx)(scope:Scope)(cl:List (Str × Addr))(iter:Expr)(xs ys:List Str)(js:List Nat):Prop where
 clos:closureFor scope X.env=pure cl
 cls:cl.map (fun p=>X.env.cells.lookup p.1)=cl.map (fun p=>some p.2)
 cell:(scope.names.all fun p=>p.2 != .cell)=true
 kind:scope.kind= .function
 names:(scope.names.all fun p=>p.2 != .local || scope.names.lookup p.1 == some .local)=true
 has:((relabel scope X.env).names.all fun p=>(p.2 != .cell && p.2 != .free) || (cl.lookup p.1).isSome)=true
 hjs:js.map (fun j=>X.N[j]?)=ys.map some
 hys:(ys.all fun y=>((relabel scope X.env).names.lookup y == some .cell || (relabel scope X.env).names.lookup y == some .free) && (X.env.scope.names.lookup y == some .cell || X.env.scope.names.lookup y == some .free))=true
 set:∀ x,foldedSetIterable iter X.env x=pure x
 nd:(xs++ys).Nodup
def PTs (X:Cx)(cs:List Expr)(t:TT):Prop:=
 ∀ (pins:List (Addr × Obj)) (s:Shared) (σ:L2.St) (H:Hp) (Q:Bool→Hp→Prop),Inv X pins σ H s→t σ H Q→wpAny (model X.prog X.w) X.A (forIn cs true fun c r=>if r=true then do let ok ← isTrue c X.env (eval c X.env);pure (ForInStep.yield ok) else pure (ForInStep.yield r)) (TP X pins σ Q) X.xe s
theorem qLi {X:Cx}:PTs X [] fun _ H Q=>Q true H:=fun _ _ _ H _ I h=>wpAny_pure ⟨H,I,h⟩
theorem qE7 {X:Cx}{c:Expr}{t:TT}(hc:PT X c t):PTs X [c] t:=fun pins s σ H Q I h=>by
 simp only [List.forIn_cons,List.forIn_nil,if_true]
 exact wpAny_bind (wpAny_bind (thn (hc pins s σ H Q I h) fun _ _ q=>wpAny_pure (wpAny_pure q)))
def kE (n:Nat)(js:List Nat)(g:TG)(tc:TT)(te:TE)(σ:L2.St)(Q:VK)(J:It)(H1:Hp):Prop:=∃ W:Nat→Nat→List V→Hp→Prop,(∃ m,W 0 m [] H1)∧∀ i m acc H2,W i m acc H2→
 acc.length < sizeLine∧((J.stop i H2∧∀ D,H2 D=none→Q (.ref D) (upd H2 D (.lst acc)))∨
  (J.go i H2∧∀ x H3,J.yld i H2 x H3→g x (List.replicate n none++vT js σ) H3 fun σ' H4=>∃ vs:L2.St,σ'=vs++vT js σ∧vs.length=n∧tc σ' H4 fun ok H5=>if ok=true then te σ' H5 fun v H6=>∃ m',m' < m∧W (i+1) m' (acc++[v]) H6 else ∃ m',m' < m∧W (i+1) m' acc H5))
theorem qBv {X:Cx}{elt iter tg:Expr}{cs:List Expr}{scope:Scope}{cl:List (Str × Addr)}{pos:Pos}{wi:TI}{g:TG}{tc:TT}{te:TE}{xs ys:List Str}{js:List Nat}{E:It→Hp→Prop}
 (hcm:X.calm=true) (hi:PI X tg iter wi) (hg:∀ C s H fp,PG (jB X scope cl C (xs++ys) s H fp).nox tg g) (hc:∀ C s H fp,PTs (jB X scope cl C (xs++ys) s H fp).nox cs tc) (he:∀ C s H fp,PE (jB X scope cl C (xs++ys) s H fp).nox elt te)
 (hC:COk X scope cl iter xs ys js)
 {pins:List (Addr × Obj)} {s:Shared} {σ:L2.St} {H:Hp} (R:V→Hp→Prop) (use:Option (Value→Sem Unit)) (Q:Value→Shared→Prop) (I:Inv X pins σ H s) (h:wi σ H E) (hE:∀ J H1,E J H1→kE xs.length js g tc te σ R J H1)
 (fin:∀ (v:V) (u:Value) (H':Hp) (s':Shared) (C:Addr),Inv X pins σ H' s'→RelV v u→R v H'→(∃ m,s'.heap.Ns C m)→H' C=none→C≠X.env.locals→X.s₀.heap.objs.size≤C→(∀ y c,X.env.cells.lookup y=some c→c≠C)→(∀ p∈X.pn++pins,p.1≠C)→
   compPost (model X.prog X.w) X.A X.xe use Q u C (.ok .next) s'):
 wpAny (model X.prog X.w) X.A (comprehension (.ListComp elt [⟨tg,iter,cs,0⟩] scope pos) scope X.env (firstIterPos [⟨tg,iter,cs,0⟩] pos) (newList []) false (eval iter X.env) use) Q X.xe s:=by
 obtain⟨hclos,hcl,hcell,hkind,hnames,hhas,hjs,hys,hs,hnd⟩:=hC
 have hcell':∀ y∈scope.names,y.2≠ .cell:=fun y hy=>by
  have:=List.all_eq_true.mp hcell y hy
  simpa using this
 have hnm:∀ y∈scope.names,y.2= .local→scope.names.lookup y.1=some .local:=fun y hy e=>by
  have:=List.all_eq_true.mp hnames y hy
  rw [e] at this
  simpa using this
 have clX:∀ y c,cl.lookup y=some c→X.env.cells.lookup y=some c:=fun y c e=>by
  have hm:=PySem.mem_of_lookup e
  obtain⟨k,hk,e2⟩:=List.mem_iff_getElem.mp hm
  have:=congrArg (fun l=>l[k]?) hcl
  simp only [List.getElem?_map,List.getElem?_eq_getElem hk,Option.map_some,e2] at this
  exact Option.some.inj this
 have has:∀ y,((relabel scope X.env).names.lookup y=some .cell∨(relabel scope X.env).names.lookup y=some .free)→∃ c,cl.lookup y=some c:=fun y hy=>by
  have key:∀ k:NameKind,(k= .cell∨k= .free)→(relabel scope X.env).names.lookup y=some k→∃ c,cl.lookup y=some c:=fun k hk e=>by
   have:=List.all_eq_true.mp hhas _ (PySem.mem_of_lookup e)
   rcases hk with rfl | rfl <;> exact Option.isSome_iff_exists.mp (by simpa using this)
  rcases hy with e | e
  · exact key _ (.inl rfl) e
  · exact key _ (.inr rfl) e
 refine wpAny_comprehension_free (use:=use) rfl hs hclos hkind hnm (thn (hi pins s σ H _ I h) fun v s1 h1=>thn h1 fun itv s2 h2=>?_)
 obtain⟨it,fp,tn,J,H2,e,I2,T,st2,f2,hw⟩:=h2
 obtain⟨W,⟨m0,w0⟩,turn⟩:=hE J H2 hw
 subst e
 refine wpAny_newObj_type (wpAny_newFunctionEnv hcell' (by intro y hy;simp at hy) (fun h₁ hns hsb=>?_) hkind)
 dsimp only at hns hsb ⊢
 generalize hG:s2.heap.push {cls:=.type "list",dict:=none,data:=.seq ([]:List Value).toArray}=G at hns hsb ⊢
 have szG:G.objs.size=s2.heap.objs.size+1:=by rw [← hG,Heap.size_push]
 have inG:∀ b o,s2.heap.get? b=some o→G.get? b=some o:=fun b o e=>hG ▸ Heap.get?_push_of_some _ e
 have ltC:∀ b o,s2.heap.get? b=some o→b≠G.objs.size:=fun b o e=>by rw [szG];exact Nat.ne_of_lt (Nat.lt_succ_of_lt (Heap.lt_size e))
 have ltD:∀ b o,s2.heap.get? b=some o→b≠s2.heap.objs.size:=fun b o e=>Nat.ne_of_lt (Heap.lt_size e)
 have DC:s2.heap.objs.size≠G.objs.size:=by rw [szG];omega
 have old:∀ b o,s2.heap.get? b=some o→h₁.get? b=some o:=fun b o e=>hsb.extBut b o (ltC b o e) (Heap.get?_push_of_some _ (inG b o e))
 have hacc:h₁.PlainList s2.heap.objs.size #[]:=⟨_,hsb.extBut _ _ DC (Heap.get?_push_of_some _ (hG ▸ Heap.get?_push_size _ rfl))⟩
 have fpO:∀ b∈fp,∃ o,s2.heap.get? b=some o:=fun b hb=>let ⟨o,e,_⟩:=T.obj 0 _ st2 b hb;⟨o,e⟩
 have stkO:∀ b∈frs X.stack,∃ o,s2.heap.get? b=some o:=fun b hb=>by
  obtain⟨_,o,ho,_⟩:=I2.stack.mem hb
  exact⟨o,ho⟩
 have freshH:∀ a,s2.heap.objs.size≤a→H2 a=none:=fun a ha=>I2.hok.fresh ha
 have stkFp:∀ b∈fp,b ∉ frs X.stack:=fun b hb z=>by
  rcases List.mem_cons.mp (I2.stkSub b z) with q | q
  · exact(f2 b hb).2.1 q
  · exact(f2 b hb).2.2.1 q
 have okX:(jB X scope cl G.objs.size (xs++ys) s2 H2 fp).Ok:={
  mod:=I2.ok.mod
  kind:=hkind
  glob:=I2.ok.glob
  blt:=I2.ok.blt
  above:=by show s2.heap.objs.size≤G.objs.size;rw [szG];omega
  inj:=fun y z c e1 e2=>I2.ok.inj y z c (clX y c e1) (clX z c e2)
  has:=fun y hy=>has y hy
  cab:=fun y c e _=>absurd (show false=true from e) Bool.false_ne_true
  hd:=I2.ok.hd
  frames:=I2.ok.frames
  stk:=.inl rfl
  exf:=fun b hb=>by
   obtain⟨o,e⟩:=fpO b hb
   exact⟨ltC b o e,fun y c e1=>(f2 b hb).2.2.2.2.1 y c (clX y c e1)⟩
  bs:=I2.bs
  bsz:=Nat.le_trans I2.ok.bsz I2.sz
  noex:=fun b o e hb=>by
   rcases (f2 b hb).2.2.2.1 with q | q
   · exact I2.ok.noex b o e q
   · exact Nat.lt_irrefl _ (Nat.lt_of_lt_of_le (Nat.lt_of_lt_of_le (Heap.lt_size e) I2.ok.bsz) q)
  exfs:=stkFp
  funs:=I2.stack
  frf:=I2.stkFree}
 have lenY:js.length=ys.length:=by have:=congrArg List.length hjs;simpa using this
 have I0:Inv (jB X scope cl G.objs.size (xs++ys) s2 H2 fp) [] (List.replicate xs.length none++vT js σ) H2 {s2 with heap:=h₁,toks:=s2.toks+([]:List (Str × Value)).length}:=by
  refine⟨okX,rfl,I2.bare,Un.kept old,⟨_,hns,fun k y v e1 e2 e3=>?_⟩,fun y c e=>?_,freshH _ (by show s2.heap.objs.size≤G.objs.size;rw [szG];omega),fun y c e=>I2.freeC y c (clX y c e),fun p hp=>absurd (show p∈([]:List (Addr × Obj)) from hp) (by simp),I2.hok.kept old,?_⟩
  · obtain⟨k,e1',e2'⟩:∃ k,ys[k]? =some y∧(vT js σ)[k]? =some (some v):=by
     have e1:(xs++ys)[k]? =some y:=e1
     by_cases hk:k < xs.length
     · rw [List.getElem?_append_left (by simpa using hk),List.getElem?_replicate,if_pos hk] at e2
       cases e2
     · rw [List.getElem?_append_right (by simpa using hk),List.length_replicate] at e2
       rw [List.getElem?_append_right (Nat.le_of_not_lt hk)] at e1
       exact⟨_,e1,e2⟩
    unfold vT at e2'
    rw [List.getElem?_map] at e2'
    cases ej:js[k]? with
    | none=>rw [ej] at e2';cases e2'
    | some j=>
     rw [ej] at e2'
     have e4:(σ[j]?).join=some v:=Option.some.inj e2'
     have e5:σ[j]? =some (some v):=by
      cases q:σ[j]? with
      | none=>rw [q] at e4;cases e4
      | some o=>rw [q] at e4;exact congrArg some e4
     have e6:X.N[j]? =some y:=by
      have:=congrArg (fun l=>l[k]?) hjs
      simp only [List.getElem?_map,ej,e1',Option.map_some] at this
      exact Option.some.inj this
     have hy:=List.all_eq_true.mp hys y (List.mem_of_getElem? e1')
     simp only [Bool.and_eq_true,Bool.or_eq_true,beq_iff_eq] at hy
     obtain⟨ky,ko⟩:=hy
     obtain⟨m,hn,hl⟩:=I2.loc
     obtain⟨u,r,lk⟩:=hl j y v e6 e5 (.inr ko)
     refine⟨u,r,.inr ⟨ky,?_⟩⟩
     rcases lk with ⟨kl,_⟩ | ⟨_,c,ec,hc⟩
     · have kl':X.env.scope.names.lookup y=some .local:=kl
       rw [kl'] at ko
       rcases ko with z | z <;> cases z
     · obtain⟨c',ec'⟩:=has y ky
       have:=clX y c' ec'
       rw [ec] at this
       cases this
       obtain⟨o,ho,hd⟩:=hc
       exact⟨c,ec',o,old c o ho,hd⟩
  · obtain⟨v,o,ho,hd⟩:=I2.cell y c (clX y c e)
    exact⟨v,o,old c o ho,hd⟩
  · show (List.replicate xs.length none++vT js σ).length=(xs++ys).length
    simp [vT,lenY]
 have loop:∀ s3:Shared,s3={s2 with heap:=h₁,toks:=s2.toks+([]:List (Str × Value)).length}→
  codeAny (model X.prog X.w) X.A (.compLoop (.ListComp elt [⟨tg,iter,cs,0⟩] scope pos) 0 (.ref it) (.ref s2.heap.objs.size) (compEnvC scope cl G.objs.size X.env))
   (compPost (model X.prog X.w) X.A X.xe use Q (.ref s2.heap.objs.size) G.objs.size) s3:=by
  rintro s3 rfl
  have stat:∀ {H':Hp} (o:Obj),(∀ b∈fp,H' b=none)→∀ b∈fp,qKn (jB X scope cl G.objs.size (xs++ys) s2 H2 fp) [(s2.heap.objs.size,o)] H' b:=fun {H'} o hn b hb=>by
   obtain⟨ob,eb⟩:=fpO b hb
   refine⟨hn b hb,ltC b ob eb,stkFp b hb,.inl hb,fun y c e1=>(f2 b hb).2.2.2.2.1 y c (clX y c e1),fun p hp=>?_⟩
   have hp':p=(s2.heap.objs.size,o):=by
    have:p∈[(s2.heap.objs.size,o)]:=hp
    simpa using this
   rw [hp']
   exact Ne.symm (ltD b ob eb)
  refine qHg (fun n s'=>∃ i acc its H3,Inv (jB X scope cl G.objs.size (xs++ys) s2 H2 fp) [] (List.replicate xs.length none++vT js σ) H3 s'∧tn i s'.heap∧(∀ b∈fp,H3 b=none)∧s'.heap.PlainList s2.heap.objs.size its.toArray∧Vals acc its∧H3 s2.heap.objs.size=none∧W i n acc H3)
   ?_ m0 ⟨0,[],[],H2,I0,T.keep _ _ _ st2 fun b _ o e=>old b o e,fun b hb=>(f2 b hb).1,hacc,.nil,freshH _ (Nat.le_refl _),w0⟩
  rintro n s3 ⟨i,acc,its,H3,I3,st3,fr3,⟨nn,pl3⟩,va3,hD3,w3⟩
  obtain⟨hlen,cs⟩:=turn i n acc H3 w3
  have hal:acc.length=its.length:=va3.length
  have nD:s2.heap.objs.size ∉ frs X.stack:=fun z=>by
   obtain⟨o,e⟩:=stkO _ z
   exact ltD _ o e rfl
  have I3p:Inv (jB X scope cl G.objs.size (xs++ys) s2 H2 fp) [(s2.heap.objs.size,{cls:=.type "list",data:=.seq its.toArray nn})] (List.replicate xs.length none++vT js σ) H3 s3:=I3.pins_of fun p hp=>by
   have e:p=(s2.heap.objs.size,{cls:=.type "list",data:=.seq its.toArray nn}):=by simpa using hp
   subst e
   exact⟨pl3,hD3,DC,nD,fun v z=>nomatch z⟩
  rcases cs with ⟨stop,q⟩ | ⟨go,step⟩
  · refine thn (T.done (jB X scope cl G.objs.size (xs++ys) s2 H2 fp) rfl rfl rfl hcm i _ s3 _ H3 _ I3p (stat _ fr3) st3 stop) fun r s4 hr=>?_
    obtain⟨hr,I4⟩:=hr
    subst hr
    have pl4:=(I4.pin (s2.heap.objs.size,{cls:=.type "list",data:=.seq its.toArray nn}) (by simp)).1
    obtain⟨m,hn,_⟩:=I4.loc
    have B:=I4.base
    have un':Un (frs X.stack) fp H2 (upd H3 s2.heap.objs.size (.lst acc)) s2.heap s4.heap:=by
     refine⟨fun b o e n hb hx=>B.keep b o e n hb hx,fun b o e n hb hx=>B.slot b o e n hb hx,fun b o e n hx=>?_,fun b o e hx=>B.there b o e hx,fun b xs e=>?_,fun b o u e=>?_,fun b ps e=>?_⟩
     · rw [qZ (ltD b o e)]
       exact B.free b o e n hx
     · have z:=B.tups b xs e
       rw [qZ (qH z hD3)]
       exact z
     · have z:=B.frzs b o u e
       rw [qZ (qH z hD3)]
       exact z
     · obtain⟨more,z⟩:=B.tbls b ps e
       exact⟨more,by rw [qZ (qH z hD3)];exact z⟩
    have freeC4:H3 G.objs.size=none:=I4.free
    have hok':HOk X.prog X.w (upd H3 s2.heap.objs.size (.lst acc)) s4.heap:=fun b u e=>by
     by_cases hb:b=s2.heap.objs.size
     · subst hb
       rw [qB] at e
       cases e
       exact⟨Nat.le_of_lt hlen,its,nn,va3,pl4⟩
     · rw [qZ hb] at e
       exact(I4.hok b u e).stay (fun c v hc z=>z) (fun c z=>by rw [qZ (qH z hD3)];exact z) fun c xs z=>by rw [qZ (qH z hD3)];exact z
    have hch:∀ b∈fp,(b∈X.ex∨X.s₀.heap.objs.size≤b)∧b≠X.env.locals∧(∀ y c,X.env.cells.lookup y=some c→c≠b)∧∀ p∈X.pn++pins,p.1≠b:=fun b hb=>by
     obtain⟨_,z1,_,z3,z4,z5⟩:=f2 b hb
     exact⟨z3,z1,z4,z5⟩
    have I5:=I2.call' (s':=s4) (ch:=fp) I4.os un' hok' I4.bare hch
    refine fin (.ref s2.heap.objs.size) _ _ s4 G.objs.size I5 rfl (q _ hD3) ⟨m,hn⟩ ?_ ?_ ?_ (fun y c e=>?_) fun p hp=>?_
    · rw [qZ (Ne.symm DC)];exact freeC4
    · rw [szG];exact Nat.ne_of_gt (Nat.lt_succ_of_lt I2.lt)
    · rw [szG];exact Nat.le_succ_of_le I2.sz
    · obtain⟨v,o,ho,_⟩:=I2.cell y c e
      exact ltC c o ho
    · exact ltC p.1 p.2 (I2.pin p hp).1
  · refine thn (T.item (jB X scope cl G.objs.size (xs++ys) s2 H2 fp) rfl rfl rfl hcm i _ s3 _ H3 _ I3p (stat _ fr3) st3 go) fun r s4 hr=>?_
    obtain⟨u,hr,h4⟩:=hr
    subst hr
    refine thn h4 fun _ s5 h5=>?_
    obtain⟨v,H5,I5,r5,y5,st5,fr5⟩:=h5
    have I5':=I5.pinned (stat _ fr5) (T.obj _ _ st5)
    refine wpAny_mono (hg G.objs.size s2 H2 fp _ s5 _ H5 v u _ (I5'.wish _) r5 (step v H5 y5)) (fun _ s6 h6=>?_) fun _ _ z=>z.elim
    obtain⟨σ6,H6',I6',vs,eσ,hv,q5⟩:=h6
    subst eσ
    have back:∀ (H7:Hp) (s7:Shared) (σ7:L2.St) (h':Heap) (acc':List V) (its':List Value) (m':Nat),Inv (jB X scope cl G.objs.size (xs++ys) s2 H2 fp) ([(s2.heap.objs.size,{cls:=.type "list",data:=.seq its.toArray nn})]++qDc fp s5.heap) (vs++vT js σ) H7 s7→
     Heap.SameBut s2.heap.objs.size s7.heap h'→h'.PlainList s2.heap.objs.size its'.toArray→Vals acc' its'→m' < n→W (i+1) m' acc' H7→
     ∃ m,m < n∧∃ i acc its H3,Inv (jB X scope cl G.objs.size (xs++ys) s2 H2 fp) [] (List.replicate xs.length none++vT js σ) H3 {s7 with heap:=h'}∧tn i h'∧(∀ b∈fp,H3 b=none)∧h'.PlainList s2.heap.objs.size its.toArray∧Vals acc its∧H3 s2.heap.objs.size=none∧W i m acc H3:=by
     intro H7 s7 _ h' acc' its' m' I7 hsb' hp' va' hm' w7
     have pinD:=I7.pin (s2.heap.objs.size,{cls:=.type "list",data:=.seq its.toArray nn}) (by simp)
     have pf:∀ b∈fp,∀ o,s5.heap.get? b=some o→s7.heap.get? b=some o∧H7 b=none:=fun b hb o e=>by
      have z:=I7.pin (b,o) (List.mem_append_right _ (List.mem_append_right _ (vy hb e)))
      exact⟨z.1,z.2.1⟩
     have I8:Inv (jB X scope cl G.objs.size (xs++ys) s2 H2 fp) [] (List.replicate xs.length none++vT js σ) H7 {s7 with heap:=h'}:=by
      have I7u:Inv (jB X scope cl G.objs.size (xs++ys) s2 H2 fp) [] (List.replicate xs.length none++vT js σ) H7 s7:=(I7.pins_of (pins':=[]) fun p hp=>absurd hp (by simp)).weak (by simp [hv]) fun k v e=>by
       by_cases hk:k < xs.length
       · rw [List.getElem?_append_left (by simpa using hk),List.getElem?_replicate,if_pos hk] at e
         cases e
       · rw [List.getElem?_append_right (by simpa using hk),List.length_replicate] at e
         rw [List.getElem?_append_right (by rw [hv];exact Nat.le_of_not_lt hk),hv]
         exact e
      refine I7u.turned (t':=s7.toks) (it:=s2.heap.objs.size) (fun b o hb e=>hsb'.extBut b o hb e) pinD.2.1 DC (.inr (Nat.le_refl _)) (fun y c e=>?_) fun p hp=>absurd (show p∈([]:List (Addr × Obj)) from hp) (by simp)
      obtain⟨v,o,ho,_⟩:=I2.cell y c (clX y c e)
      exact ltD c o ho
     refine⟨m',hm',i+1,acc',its',H7,I8,?_,fun b hb=>?_,hp',va',pinD.2.1,w7⟩
     · refine T.keep _ _ _ st5 fun b hb o e=>hsb'.extBut b o ?_ (pf b hb o e).1
       obtain⟨ob,eb⟩:=fpO b hb
       exact ltD b ob eb
     · obtain⟨o,e,_⟩:=T.obj _ _ st5 b hb
       exact(pf b hb o e).2
    refine wpAny_mono (hc G.objs.size s2 H2 fp _ s6 _ _ _ I6' q5) (fun ok s6a h6=>?_) fun _ _ z=>z.elim
    obtain⟨H6,I6a,q6⟩:=h6
    cases ok with
    | false=>
     rw [if_neg (by decide)] at q6 ⊢
     obtain⟨m',hm',w7⟩:=q6
     have I7:=I6a.unwish
     have pinD:=I7.pin (s2.heap.objs.size,{cls:=.type "list",data:=.seq its.toArray nn}) (by simp)
     exact back H6 s6a (List.replicate xs.length none++vT js σ) s6a.heap acc its m' I7 (Heap.SameBut.refl _ _) ⟨nn,pinD.1⟩ va3 hm' w7
    | true=>
     rw [if_pos rfl] at q6 ⊢
     refine wpAny_mono (he G.objs.size s2 H2 fp _ s6a _ H6 _ I6a q6) (fun y s7 h7=>?_) fun _ _ z=>z.elim
     obtain⟨v7,H7,I7,r7,m',hm',w7⟩:=h7
     have I7:=I7.unwish
     have pinD:=I7.pin (s2.heap.objs.size,{cls:=.type "list",data:=.seq its.toArray nn}) (by simp)
     refine wpAny_list_append_plain (items:=its.toArray) ⟨nn,pinD.1⟩ (fun h' hp' hsb'=>?_) (by rw [List.size_toArray,← hal];exact Nat.le_of_lt hlen)
     have e8:its.toArray.push y=(its++[y]).toArray:=by simp
     rw [e8] at hp'
     exact back H7 s7 (List.replicate xs.length none++vT js σ) h' (acc++[v7]) (its++[y]) m' I7 hsb' hp' (va3.append (.cons r7 .nil)) hm' w7
 exact codeAny_compStart_list (loop _ rfl) (T.self _ 0 _ _ _ (T.keep _ _ _ st2 fun b _ o e=>old b o e) (loop _ rfl))
theorem qGq {X:Cx}{pins:List (Addr × Obj)}{σ:L2.St}{H:Hp}{s:Shared}{C:Addr}{h':Heap}(I:Inv X pins σ H s)(hsb:Heap.SameBut C s.heap h')(h0:H C=none)(h1:C≠X.env.locals)(h2:X.s₀.heap.objs.size≤C)
 (h3:∀ y c,X.env.cells.lookup y=some c→c≠C) (h4:∀ p∈X.pn++pins,p.1≠C):Inv X pins σ H {s with heap:=h'}:=
 I.turned (t':=s.toks) (it:=C) (fun b o hb e=>hsb.extBut b o hb e) h0 h1 (.inr h2) h3 h4
theorem qF8 {X:Cx}{elt iter tg:Expr}{cs:List Expr}{scope:Scope}{cl:List (Str × Addr)}{pos:Pos}{wi:TI}{g:TG}{tc:TT}{te:TE}{xs ys:List Str}{js:List Nat}{T:L2.St→VK→It→Hp→Prop}
 (hcm:X.calm=true) (hi:PI X tg iter wi) (hg:∀ C s H fp,PG (jB X scope cl C (xs++ys) s H fp).nox tg g) (hc:∀ C s H fp,PTs (jB X scope cl C (xs++ys) s H fp).nox cs tc) (he:∀ C s H fp,PE (jB X scope cl C (xs++ys) s H fp).nox elt te) (hC:COk X scope cl iter xs ys js) (hE:∀ σ Q J H1,T σ Q J H1→kE xs.length js g tc te σ Q J H1):PE X (.ListComp elt [⟨tg,iter,cs,0⟩] scope pos) (fun σ H Q=>wi σ H (T σ Q)):=by
 intro pins s σ H Q I h
 rw [eval_ListComp]
 refine qBv hcm hi hg hc he hC Q none (EP X pins σ Q) I h (hE σ Q) fun v u H' s' C I' r q hm h0 h1 h2 h3 h4=>?_
 obtain⟨m,hm⟩:=hm
 exact⟨m,hm,fun h' hsb=>⟨v,H',qGq I' hsb h0 h1 h2 h3 h4,r,q⟩⟩
theorem qGo {X:Cx}{elt iter tg:Expr}{cs:List Expr}{scope:Scope}{cl:List (Str × Addr)}{pos:Pos}{wi:TI}{g:TG}{tc:TT}{te:TE}{xs ys:List Str}{js:List Nat}{T:L2.St→VK→It→Hp→Prop}{i:Nat}{y:Str}{py spos:Pos}(hN:X.N.Nodup)(hi':X.N[i]? =some y)(hy:X.env.kindOf y=some .local)
 (hcm:X.calm=true) (hi:PI X tg iter wi) (hg:∀ C s H fp,PG (jB X scope cl C (xs++ys) s H fp).nox tg g) (hc:∀ C s H fp,PTs (jB X scope cl C (xs++ys) s H fp).nox cs tc) (he:∀ C s H fp,PE (jB X scope cl C (xs++ys) s H fp).nox elt te) (hC:COk X scope cl iter xs ys js) (hE:∀ σ Q J H1,T σ Q J H1→kE xs.length js g tc te σ Q J H1) (hsw:swapsWith (.ListComp elt [⟨tg,iter,cs,0⟩] scope pos) (some (.Name y py)) spos.line X.env=pure true):PS X (.Assign [.Name y py] (.ListComp elt [⟨tg,iter,cs,0⟩] scope pos) spos) (qMk (fun σ H Q=>wi σ H (T σ Q)) (zw i)):=by
 intro pins s σ H D I h
 rw [exec_Assign_Name_used _ _ _ _ hsw]
 refine wpAny_bind (wpAny_standAt (wpAny_bind ?_))
 have key:=qBv (pos:=pos) hcm hi hg hc he hC (fun v H'=>D.nx (σ.set i (some v)) H') (some (assign (.Name y py) X.env)) (fun _ s'=>SP X pins D .next s') I h (hE σ _) fun v u H' s' C I' r q hm h0 h1 h2 h3 h4=>?_
 · exact wpAny_bind (thn key fun _ s' hq=>wpAny_pure (wpAny_pure hq))
 · refine wpAny_assign_Name (qEh I' hN hi' (.inl hy) r (fun s2 I2 ch=>?_) (.inr hy))
   obtain⟨b,sb,hb⟩:=ch
   obtain⟨m,hm⟩:=hm
   have nb:C≠b:=by
    rcases hb with rfl | hb
    · exact h1
    · exact Ne.symm (h3 y b hb)
   exact⟨m,hm.sameBut sb nb,fun h' hsb=>⟨_,H',qGq I2 hsb h0 h1 h2 h3 h4,q⟩⟩
def CompEnd (js:List Nat)(te:TE)(σ:L2.St)(Q:VK)(J:It)(H1:Hp):Prop:=∃ W:Nat→Nat→List V→Hp→Prop,(∃ m,W 0 m [] H1)∧∀ i m acc H2,W i m acc H2→
 acc.length < sizeLine∧((J.stop i H2∧∀ D,H2 D=none→Q (.ref D) (upd H2 D (.lst acc)))∨
  (J.go i H2∧∀ x H3,J.yld i H2 x H3→te (some x::vT js σ) H3 fun v H4=>∃ m',m' < m∧W (i+1) m' (acc++[v]) H4))
def qPv (js:List Nat)(wi:TI)(te:TE):TE:=fun σ H Q=>wi σ H (CompEnd js te σ Q)
theorem CompEnd.g {js:List Nat}{te:TE}(σ:L2.St)(Q:VK)(J:It)(H1:Hp):CompEnd js te σ Q J H1→kE 1 js (zw 0) (fun _ H Q=>Q true H) te σ Q J H1:=fun⟨W,w0,st⟩=>
 ⟨W,w0,fun i m acc H2 w=>⟨(st i m acc H2 w).1,(st i m acc H2 w).2.imp id fun⟨go,y⟩=>⟨go,fun x H3 z=>⟨[some x],rfl,rfl,(if_pos rfl).mpr (y x H3 z)⟩⟩⟩⟩
theorem vE {X:Cx}{elt iter:Expr}{x:Str}{px:Pos}{scope:Scope}{cl:List (Str × Addr)}{pos:Pos}{wi:TI}{te:TE}(ys:List Str)(js:List Nat)
 (hcm:X.calm=true) (hi:PI X (.Name x px) iter wi) (he:∀ C s H fp,PE (jB X scope cl C (x::ys) s H fp).nox elt te) (hx:scope.names.lookup x=some .local:=by rfl) (hC:COk X scope cl iter [x] ys js:=by exact⟨rfl,rfl,rfl,rfl,rfl,rfl,rfl,rfl,fun _=>rfl,by decide⟩):PE X (.ListComp elt [⟨.Name x px,iter,[],0⟩] scope pos) (qPv js wi te):=
 qF8 (xs:=[x]) (T:=CompEnd js te) hcm hi (fun _ _ _ _=>qq (i:=0) hC.nd rfl (.inl (lookup_relabel_local hx)) (.inr (lookup_relabel_local hx))) (fun _ _ _ _=>qLi) he hC CompEnd.g
def Nxt (n i:Nat)(P:Prop):Prop:=∃ m',m' < n - i∧m'=n - (i+1)∧i+1≤n∧P
theorem Nxt.mk {n i:Nat}{P:Prop}(h:i < n)(p:P):Nxt n i P:=⟨n - (i+1),by omega,rfl,h,p⟩
theorem vX {K:PySem.W.Frag}{a:Addr}{xs:List V}{js:List Nat}{te:TE}{σ:L2.St}{H:Hp}{Q:VK}(Pv:Nat→List V→Hp→Prop)(h0:Pv 0 [] H)(hl:∀ i acc H,i≤xs.length→Pv i acc H→SqL K H a xs∧acc.length < sizeLine)
 (hs:∀ i x acc H,i < xs.length→xs[i]? =some x→Pv i acc H→te (some x::vT js σ) H fun v H'=>Nxt xs.length i (Pv (i+1) (acc++[v]) H')) (hd:∀ acc H,Pv xs.length acc H→∀ D,H D=none→Q (.ref D) (upd H D (.lst acc))):CompEnd js te σ Q (Itl K a) H:=by
 refine⟨fun i m acc H=>m=xs.length - i∧i≤xs.length∧Pv i acc H,⟨xs.length,by simp,Nat.zero_le _,h0⟩,?_⟩
 rintro i m acc H2 ⟨rfl,hi,p⟩
 obtain⟨q,hz⟩:=hl i acc H2 hi p
 refine⟨hz,?_⟩
 by_cases hlt:i < xs.length
 · refine .inr ⟨⟨xs,xs[i],q,by simp [hlt]⟩,fun x H3 y=>?_⟩
   obtain⟨e,y⟩:=y
   subst e
   exact hs i x acc _ hlt (y xs q) p
 · have e:i=xs.length:=by omega
   subst e
   exact .inl ⟨⟨xs,q,Nat.le_refl _⟩,hd acc H2 p⟩
theorem qBi {lo:Int}{n:Nat}{js:List Nat}{te:TE}{σ:L2.St}{H:Hp}{Q:VK}(Pv:Nat→List V→Hp→Prop)(h0:Pv 0 [] H)(hl:∀ i acc H,i≤n→Pv i acc H→acc.length < sizeLine)
 (hs:∀ i acc H,i < n→Pv i acc H→te (some (.int (lo+i))::vT js σ) H fun v H'=>Nxt n i (Pv (i+1) (acc++[v]) H')) (hd:∀ acc H,Pv n acc H→∀ D,H D=none→Q (.ref D) (upd H D (.lst acc))):CompEnd js te σ Q (Itr lo n) H:=by
 refine⟨fun i m acc H=>m=n - i∧i≤n∧Pv i acc H,⟨n,by simp,Nat.zero_le _,h0⟩,?_⟩
 rintro i m acc H2 ⟨rfl,hi,p⟩
 refine⟨hl i acc H2 hi p,?_⟩
 by_cases hlt:i < n
 · refine .inr ⟨hlt,fun x H3 y=>?_⟩
   obtain⟨e,y⟩:=y
   subst e y
   exact hs i acc _ hlt p
 · have e:i=n:=by omega
   subst e
   exact .inl ⟨Nat.le_refl _,hd acc H2 p⟩
structure Def (K:PySem.W.Frag)(mg:Str→Option Value)(x:Str)(st:Stmt)(ps:List Str)(f:Addr)(fd:FuncData):Prop where
 F:Fun K x x st f fd
 b:Binds K fd ps []
 m:mg x=some (.ref f)
section
variable {X : Cx}
theorem qL {k j:Nat}{x:Str}{st:Stmt}{ps:List Str}{f:Addr}{fd:FuncData}{sp:Sp}{e:Expr}{es:List Expr}{t:TA}{p pos:Pos}(D:Def X.K X.mg x st ps f fd)(F:FnOk X.prog X.w X.K X.mg X.base CX0 j f fd ps sp)(hr:Room k X.A)(hg:Gl X x)(ha:PA X (e::es) t)(hj:j≤k:=by decide)
 (hdb:(x == ("__debug__":Str))=false:=by decide) (he:starEach (e::es) X.env=(false,eval e X.env)::starEach es X.env:=by rfl) (hpl:(backTo pos (starEach es X.env)).any (·.1)=false:=by rfl):
 PE X (.Call (.Name x p) (e::es) [] pos) (qJ7 sp [] E0 t):=qFy F (hr.mono hj) hg D.m D.F.kp D.b .nil qPd ha hdb he hpl
theorem zv {x:Str}{n:String}{pos:Pos}(hg:Gl X x)(hm:X.mg x=none)(hv:bootBuiltins x=some (.type n))(hn:x≠"__name__":=by decide)(hd:(x == ("__debug__":Str))=false:=by decide):PE X (.Name x pos) (tC (.ty n)):=
 qL2 hg hm hv rfl hn hd
end
theorem vp {X:Cx}{K:PySem.W.Frag}(h:X.K=K):IxR X (qMj K):=h ▸ qJj
def qO9 (t:TS):TS:=fun D σ H=>∃ R:L2.St→Hp→Prop,t {D with nx:=R} σ H∧∀ σ' H',R σ' H'→D.nx σ' H'
theorem qF3 {X:Cx}{st:Stmt}{t:TS}(h:PS X st t):PS X st (qO9 t):=by
 rintro pins s σ H D I ⟨R,ht,hR⟩
 refine thn (h pins s σ H {D with nx:=R} I ht) fun f s' q=>?_
 cases f with
 | next=>obtain⟨σ',H',I',r⟩:=q;exact⟨σ',H',I',hR _ _ r⟩
 | brk=>exact q
 | cont=>exact q
 | ret u=>exact q
theorem qC {H:Hp}{p:Addr}(h:H p=none)(o:HO):Same H (upd H p o):=fun b u q=>by rw [qZ (qH q h)];exact q
theorem Same.tup {K:PySem.W.Frag}{H H':Hp}{a:Addr}{xs:List V}(e:Same H H')(h:SqT K H a xs):SqT K H' a xs:=by
 rcases h with (h | ⟨o,h⟩) | h
 · exact .inl (.inl (e _ _ h))
 · exact .inl (.inr ⟨o,e _ _ h⟩)
 · exact .inr h
section
variable {X : Cx}
end
abbrev EC:=Value × Option Addr
def xn (h:Heap)(e:Addr)(C:EC)(hd:Option Addr):Prop:=
 ∃ (vs:Array Value) (sl:Array (Option Value)),h.get? e=some {cls:=C.1,dict:=C.2,data:=.fields vs,slots:=sl}∧
  match hd with
  | none=>vs[1]? =some .none
  | some T=>vs[1]? =some (.ref T)∧T≠e∧∃ oT ts m,h.get? T=some oT∧oT.data= .fields ts∧ts[3]? =some m
def qNp (h:Heap)(e:Addr)(c:Value):Prop:=∃ o vs,h.get? e=some o∧o.data= .fields vs∧vs[2]? =some c
structure Noted (fs:List Addr)(e:Addr)(hd:Option Addr)(C:EC)(h h':Heap):Prop where
 keep:∀ b o,h.get? b=some o→b ∉ fs→b≠e→some b≠hd→h'.get? b=some o
 slot:∀ b o,h.get? b=some o→b∈fs→b≠e→some b≠hd→∃ sl,h'.get? b=some {o with slots:=sl}
 ent:∃ T,(h.get? T=none∨hd=some T)∧xn h' e C (some T)
 c2:∀ c,qNp h e c→qNp h' e c
theorem Noted.before {fs:List Addr}{e T:Addr}{C:EC}{h h1 h':Heap}(x:Noted fs e none C h1 h')(k:∀ b,b≠T→h1.get? b=h.get? b)(t:∃ o,h1.get? T=some o)(ne:e≠T):Noted fs e (some T) C h h':=by
 refine⟨fun b o q hf he ht=>x.keep b o ?_ hf he (by simp),fun b o q hf he ht=>x.slot b o ?_ hf he (by simp),?_,fun c ⟨o,vs,q1,q2⟩=>x.c2 c ⟨o,vs,by rw [k e ne];exact q1,q2⟩⟩
 · rw [k b (fun z=>ht (by rw [z]))];exact q
 · rw [k b (fun z=>ht (by rw [z]))];exact q
 · obtain⟨T',n | n,r⟩:=x.ent
   · refine⟨T',.inl ?_,r⟩
     rw [← k T' (fun z=>?_)];exact n
     obtain⟨o,q⟩:=t
     rw [z,q] at n;cases n
   · cases n
section
variable {M : Model} {A : Around} {E : Value → Shared → Prop} {s : Shared}
theorem Noted.then {fs:List Addr}{e T:Addr}{hd:Option Addr}{C:EC}{h h1 h2:Heap}(x:Noted fs e hd C h h1)(hT:h.get? T=none∨hd=some T)(y:Noted fs e (some T) C h1 h2):Noted fs e hd C h h2:=by
 have nt:∀ b o,h.get? b=some o→some b≠hd→(some b:Option Addr)≠some T:=fun b o q hb z=>by
  cases z
  rcases hT with n | n
  · rw [q] at n;cases n
  · exact hb n.symm
 have n1:∀ T',h1.get? T'=none→T'≠e→some T'≠hd→h.get? T'=none:=fun T' n he ht=>by
  cases q:h.get? T' with
  | none=>rfl
  | some o=>
   by_cases hs:T'∈fs
   · obtain⟨sl,z⟩:=x.slot T' o q hs he ht
     rw [n] at z;cases z
   · have z:=x.keep T' o q hs he ht
     rw [n] at z;cases z
 refine⟨fun b o q hf he ht=>y.keep b o (x.keep b o q hf he ht) hf he (nt b o q ht),fun b o q hf he ht=>?_,?_,fun c q=>y.c2 c (x.c2 c q)⟩
 · obtain⟨sl,z⟩:=x.slot b o q hf he ht
   obtain⟨sl',z'⟩:=y.slot b _ z hf he (nt b o q ht)
   exact⟨sl',z'⟩
 · obtain⟨T',n,r⟩:=y.ent
   refine⟨T',?_,r⟩
   rcases n with n | n
   · by_cases hh:hd=some T'
     · exact .inr hh
     · refine .inl (n1 T' n (fun z=>?_) (Ne.symm hh))
       obtain⟨vs,sl,q,r1,nT,_⟩:=r
       exact nT z
   · cases n
     exact hT
theorem qDa {base:Heap}{env:Env}{outer:List Env}{L e:Addr}{C:EC}{head:Value}{vs:Array Value}{sl:Array (Option Value)}{had:Bool}{Q:Unit→Shared→Prop}
 (fr:A.frames=some (env::outer)) (ff:s.heap.FunFrames base (env::outer)) (ef:env.frame=some L) (re:s.heap.get? e=some {cls:=C.1,dict:=C.2,data:=.fields vs,slots:=sl}) (v1:1 < vs.size)
 (k:∀ h',Noted (frs (env::outer)) e none C s.heap h'→Q () {s with heap:=h'}):
 wpAny M A (do let a ← frameOf env;let pl ← entryPlaceOf L had;let b ← EntryCells.newEntry head a .none (rawInt L) .none pl;setField (.ref e) 1 b) Q E s:=by
 have efs:e ∉ frs (env::outer):=fun z=>by
  obtain⟨_,o,q,nf⟩:=ff.mem z
  rw [re] at q;cases q
  exact nf vs rfl
 refine wpAny_bind (wpAny_frameOf_fun fr ff ef fun g so=>?_)
 refine wpAny_bind (wpAny_entryPlaceOf fun pl ip=>?_)
 unfold EntryCells.newEntry newFields
 refine wpAny_bind (wpAny_newObj_type ?_ (ip.sizeOk5 _ _ _ _ _))
 generalize hN:({cls:=.type "traceback",dict:=none,data:=.fields ([head,.ref L,.none,rawInt L,.none]++(if pl.isEmpty then List.replicate 6 Value.none else pl)).toArray}:Obj)=N
 have Nd:N.data= .fields ([head,.ref L,.none,rawInt L,.none]++(if pl.isEmpty then List.replicate 6 Value.none else pl)).toArray:=by rw [← hN]
 have q1:g.get? e=some {cls:=C.1,dict:=C.2,data:=.fields vs,slots:=sl}:=(so.2.1 e efs).trans re
 have q2:=Heap.get?_push_of_some (h:=g) N q1
 have ne:g.objs.size≠e:=Nat.ne_of_gt (Heap.lt_size q1)
 refine wpAny_setField q2 rfl v1 (k _ ?_)
 have q3:=Heap.get?_update_self (Obj.mapFields (·.setIfInBounds 1 (Value.ref g.objs.size))) q2 rfl
 have nf:N.isFreed=false:=Obj.isFreed_of_fields Nd
 have t3:((g.push N).update e (Obj.mapFields (·.setIfInBounds 1 (Value.ref g.objs.size)))).get? g.objs.size=some N:=
  (Heap.get?_update_other (g.push N) _ (Ne.symm ne)).trans (Heap.get?_push_size g nf)
 have oth:∀ b o,b≠e→g.get? b=some o→((g.push N).update e (Obj.mapFields (·.setIfInBounds 1 (Value.ref g.objs.size)))).get? b=some o:=fun b o hb q=>by
  rw [Heap.get?_update_other _ _ (Ne.symm hb)]
  exact Heap.get?_push_of_some _ q
 refine⟨fun b o q hf he _=>oth b o he ((so.2.1 b hf).trans q),fun b o q hf he _=>?_,⟨g.objs.size,.inl ?_,vs.setIfInBounds 1 (.ref g.objs.size),sl,q3,by simp [v1],ne,N,_,rawInt L,t3,Nd,?_⟩,fun c q=>?_⟩
 · obtain⟨sl',q'⟩:=so.2.2 b o q
   exact⟨sl',oth b _ he q'⟩
 · rw [so.1]
   exact Heap.get?_none_of_le (Nat.le_refl _)
 · simp
 · obtain⟨o,ws,z1,z2,z3⟩:=q
   rw [re] at z1
   cases z1
   cases z2
   exact⟨_,vs.setIfInBounds 1 (.ref g.objs.size),q3,rfl,by rw [Array.getElem?_setIfInBounds_ne (by decide)];exact z3⟩
theorem qCo {base:Heap}{env:Env}{outer:List Env}{L e:Addr}{C:EC}{hd:Option Addr}{Q:Unit→Shared→Prop}
 (fr:A.frames=some (env::outer)) (ff:s.heap.FunFrames base (env::outer)) (ef:env.frame=some L) (re:xn s.heap e C hd)
 (k:∀ h',Noted (frs (env::outer)) e hd C s.heap h'→Q () {s with heap:=h'}):wpAny M A (noteFrame (.ref e) env) Q E s:=by
 have re0:=re
 obtain⟨vs,sl,q,r⟩:=re
 unfold noteFrame
 simp only [ef]
 cases hd with
 | none=>
  refine wpAny_bind (wpAny_field q rfl r ?_)
  rw [if_neg (by decide)]
  exact qDa fr ff ef q (Array.getElem?_eq_some_iff.mp r).1 k
 | some T=>
  obtain⟨r1,nT,oT,ts,m,qT,dT,r3⟩:=r
  refine wpAny_bind (wpAny_field q rfl r1 ?_)
  rw [if_pos (by simp)]
  refine wpAny_bind (wpAny_field qT dT r3 ?_)
  by_cases hm:(m == rawInt L)=true
  · rw [if_pos hm]
    exact wpAny_pure (k s.heap ⟨fun b o q _ _ _=>q,fun b o q _ _ _=>⟨o.slots,q⟩,⟨T,.inr rfl,re0⟩,fun _ z=>z⟩)
  rw [if_neg hm]
  refine wpAny_bind (wpAny_setField qT dT (Array.getElem?_eq_some_iff.mp r3).1 ?_)
  have oth:∀ b,b≠T→(s.heap.update T (Obj.mapFields (·.setIfInBounds 3 Value.none))).get? b=s.heap.get? b:=fun b z=>Heap.get?_update_other _ _ (Ne.symm z)
  have qT':=Heap.get?_update_self (Obj.mapFields (·.setIfInBounds 3 Value.none)) qT (Obj.isFreed_of_fields (Obj.data_mapFields dT _))
  have nf:∀ b o,s.heap.get? b=some o→(∀ vs,o.data≠ .fields vs)→b≠T:=fun b o z n w=>by
   rw [w,qT] at z;cases z
   exact n ts dT
  refine qDa (s:={s with heap:=s.heap.update T (Obj.mapFields (·.setIfInBounds 3 Value.none))}) fr (ff.of_keeps fun b o z n=>⟨o,(oth b (nf b o z n)).trans z,rfl⟩) ef ((oth e (Ne.symm nT)).trans q) (Array.getElem?_eq_some_iff.mp r1).1 fun h' x=>?_
  exact k h' (x.before oth ⟨_,qT'⟩ (Ne.symm nT))
theorem vt {e T:Addr}{C:EC}{fo:Option Addr}{Q:Unit→Shared→Prop}(re:xn s.heap e C (some T))
 (k:∀ h',(∀ fs,Noted fs e (some T) C s.heap h')→Q () {s with heap:=h'}):wpAny M A (setFlight (.ref e) fo) Q E s:=by
 obtain⟨vs,sl,q,r1,nT,oT,ts,m,qT,dT,r3⟩:=re
 unfold setFlight
 refine wpAny_bind (wpAny_field q rfl r1 ?_)
 rw [if_pos (by simp)]
 have oth:∀ b,b≠T→(s.heap.update T (Obj.mapFields (·.setIfInBounds 3 (fo.elim Value.none fun f=>rawInt f)))).get? b=s.heap.get? b:=fun b z=>Heap.get?_update_other _ _ (Ne.symm z)
 refine wpAny_setField qT dT (Array.getElem?_eq_some_iff.mp r3).1 (k _ fun fs=>⟨fun b o q _ _ z=>?_,fun b o q _ _ z=>⟨o.slots,?_⟩,⟨T,.inr rfl,?_⟩,fun c ⟨o,ws,z1,z2⟩=>⟨o,ws,(Heap.get?_update_other _ _ nT).trans z1,z2⟩⟩)
 · rw [oth b fun w=>z (by rw [w])];exact q
 · rw [oth b fun w=>z (by rw [w])];exact q
 · refine⟨vs,sl,(Heap.get?_update_other _ _ nT).trans q,r1,nT,_,_,fo.elim Value.none fun f=>rawInt f,Heap.get?_update_self _ qT (Obj.isFreed_of_fields (Obj.data_mapFields dT _)),Obj.data_mapFields dT _,?_⟩
   have h3:=(Array.getElem?_eq_some_iff.mp r3).1
   simp [h3]
theorem vY {e T:Addr}{C:EC}{Q:Unit→Shared→Prop}(re:xn s.heap e C (some T))
 (k:∀ h',(∀ fs,Noted fs e (some T) C s.heap h')→Q () {s with heap:=h'}):wpAny M A (setFlight (.ref e) none) Q E s:=vt re k
theorem qCp {base:Heap}{env:Env}{outer:List Env}{L e:Addr}{C:EC}{hd:Option Addr}{Q:Unit→Shared→Prop}
 (fr:A.frames=some (env::outer)) (ff:s.heap.FunFrames base (env::outer)) (ef:env.frame=some L) (re:xn s.heap e C hd)
 (k:∀ h',Noted (frs (env::outer)) e hd C s.heap h'→Q () {s with heap:=h'}):wpAny M A (noteFrame (.ref e) env) (fun _ s'=>wpAny M A (setFlight (.ref e) none) Q E s') E s:=by
 refine qCo fr ff ef re fun h1 N1=>?_
 obtain⟨T,hT,rT⟩:=N1.ent
 exact vY (s:={s with heap:=h1}) rT fun h2 N2=>k h2 (N1.then hT (N2 _))
theorem qJ4 {base:Heap}{env:Env}{outer:List Env}{L e:Addr}{C:EC}{hd:Option Addr}{E2:Value→Shared→Prop}
 (fr:A.frames=some (env::outer)) (ff:s.heap.FunFrames base (env::outer)) (ef:env.frame=some L) (re:xn s.heap e C hd)
 (k:∀ h',Noted (frs (env::outer)) e hd C s.heap h'→E2 (.ref e) {s with heap:=h'}):notedBy M A env (cameBackBy M A env E2) (.ref e) s:=by
 refine qCo fr ff ef re fun h1 N1=>?_
 obtain⟨T,hT,rT⟩:=N1.ent
 obtain⟨vs,sl,q,r1,_⟩:=id rT
 show wpAny M A _ _ _ _
 refine wpAny_bind (wpAny_field (s:={s with heap:=h1}) q rfl r1 ?_)
 rw [if_neg (by simp)]
 exact vt (s:={s with heap:=h1}) rT fun h2 N2=>k h2 (N1.then hT (N2 _))
end
theorem qGb {P:Program}{w:World}{H:Hp}{h:Heap}{a:Addr}{o:HO}(x:ObjOk P w H h a o):∃ ob,h.get? a=some ob:=by
 cases o with
 | lst xs=>obtain⟨_,_,_,_,e⟩:=x;exact⟨_,e⟩
 | tup xs=>obtain⟨_,_,_,ob,e,_⟩:=x;exact⟨ob,e⟩
 | dK kvs=>obtain⟨_,_,_,_,o,_,_,e,_⟩:=x;exact⟨_,e⟩
 | dT kvs=>obtain⟨_,_,_,_,o,_,_,e,_⟩:=x;exact⟨_,e⟩
 | set S n=>obtain⟨o,_,_,_,e,_⟩:=x;exact⟨_,e⟩
 | ins C dx fs=>obtain⟨_,_,_,e,_⟩:=x;exact⟨_,e⟩
 | own y=>exact x
 | xd fs=>obtain⟨_,⟨_,_,_,e,_⟩,_⟩:=x;exact⟨_,e⟩
 | rng lo hi=>obtain⟨_,_,_,e⟩:=x;exact⟨_,e⟩
 | frz ob u=>obtain⟨e,_⟩:=x;exact⟨_,e⟩
 | tbl ps=>exact⟨_,x⟩
 | met f y=>exact⟨_,x⟩
 | ext φ=>exact x.2.1
def qD5 (h₀:Heap)(H:Hp)(ps:List (Addr × Obj))(e:Addr):Prop:=h₀.get? e=none∧H e=none∧∀ p∈ps,p.1≠e
def qHs (h₀:Heap)(H:Hp)(ps:List (Addr × Obj))(h:Heap)(e:Addr)(C:EC):Prop:=
 qD5 h₀ H ps e∧∃ hd,xn h e C hd∧∀ T,hd=some T→qD5 h₀ H ps T
def CXR (P:Program)(w:World):CXT:=fun outer H s E e s'=>∃ ea C H',e= .ref ea∧s'.os=s.os∧AllBare s'.gens∧Un (frs outer) [] H H' s.heap s'.heap∧HOk P w H' s'.heap∧qHs s.heap H' [] s'.heap ea C∧E C.1 C.2 H'
def XE (X:Cx)(Ex:Value→Option Addr→Hp→Prop):Value→Shared→Prop:=fun e s'=>∃ ea C σ H',e= .ref ea∧Inv X [] σ H' s'∧qHs X.s₀.heap H' X.pn s'.heap ea C∧Ex C.1 C.2 H'
section
variable {X : Cx} {σ : L2.St} {H : Hp} {s : Shared}
theorem jg {e:Addr}{hd:Option Addr}{C:EC}{h':Heap}(I:Inv X [] σ H s)(hex:X.ex=[])(re:xn s.heap e C hd)(n1:qD5 X.s₀.heap H X.pn e)(n3:∀ T,hd=some T→qD5 X.s₀.heap H X.pn T)
 (N:Noted (frs X.stack) e hd C s.heap h'):Inv X [] σ H {s with heap:=h'}∧qHs X.s₀.heap H X.pn h' e C:=by
 have B:=I.base
 rw [hex] at B
 have ne:∀ b o,X.s₀.heap.get? b=some o→b≠e∧some b≠hd∧b≠X.env.locals:=fun b o q=>by
  refine⟨fun z=>?_,fun z=>?_,Nat.ne_of_lt (Nat.lt_of_lt_of_le (Heap.lt_size q) I.ok.above)⟩
  · rw [z,n1.1] at q;cases q
  · rw [(n3 b z.symm).1] at q;cases q
 have nin:∀ b,b ∉ ([]:List Addr):=fun b z=>nomatch z
 have nfl:∀ b o,s.heap.get? b=some o→(∀ vs,o.data≠ .fields vs)→b≠e∧some b≠hd:=fun b o q nf=>by
  obtain⟨vs,sl,qe,r⟩:=re
  refine⟨fun z=>?_,fun z=>?_⟩
  · rw [z,qe] at q;cases q
    exact nf vs rfl
  · subst z
    obtain⟨_,_,oT,ts,_,qT,dT,_⟩:=r
    rw [qT] at q;cases q
    exact nf ts dT
 have up:∀ b o,s.heap.get? b=some o→b≠e→some b≠hd→∃ sl,h'.get? b=some {o with slots:=sl}:=fun b o q z1 z2=>by
  by_cases hs:b∈frs X.stack
  · exact N.slot b o q hs z1 z2
  · exact⟨o.slots,N.keep b o q hs z1 z2⟩
 have un:Un X.fs [] X.H₀ H X.s₀.heap h':=by
  refine⟨fun b o q n hb hx=>?_,fun b o q n hb hx=>?_,fun b o q n hx=>B.free b o q n hx,fun b o q hx=>?_,B.tups,B.frzs,B.tbls⟩
  · obtain⟨z1,z2,z3⟩:=ne b o q
    refine N.keep b o (B.keep b o q n hb hx) (fun z=>?_) z1 z2
    rcases List.mem_cons.mp (I.stkSub b z) with w | w
    · exact z3 w
    · exact hb w
  · obtain⟨z1,z2,z3⟩:=ne b o q
    obtain⟨sl,q1⟩:=B.slot b o q n hb hx
    obtain⟨sl',q2⟩:=up b _ q1 z1 z2
    exact⟨sl',q2⟩
  · obtain⟨z1,z2,z3⟩:=ne b o q
    obtain⟨o',q1⟩:=B.there b o q hx
    obtain⟨sl',q2⟩:=up b _ q1 z1 z2
    exact⟨_,q2⟩
 have hok:HOk X.prog X.w H h':=fun a u q=>by
  have key:∀ c,H c=none→¬ (c=a∨H c=some (.own a)):=fun c z w=>by
   rcases w with w | w
   · rw [w,q] at z;cases z
   · rw [z] at w;cases w
  exact(I.hok a u q).stay (fun c v hc z=>N.keep c v z (fun w=>key c (I.stkFree c w) hc) (fun w=>key c (by rw [w];exact n1.2.1) hc) fun w=>key c (n3 c w.symm).2.1 hc) (fun _ z=>z) fun _ _ z=>z
 have cellK:∀ c v,s.heap.IsCell c v→h'.IsCell c v:=fun c v ⟨o,q,d⟩=>by
  obtain⟨z1,z2⟩:=nfl c o q fun vs w=>by rw [d] at w;cases w
  obtain⟨sl,q'⟩:=up c o q z1 z2
  exact⟨_,q',d⟩
 have I':Inv X [] σ H {s with heap:=h'}:=by
  refine⟨I.ok,I.os,I.bare,by rw [hex];exact un,?_,fun y c e=>?_,I.free,I.freeC,fun p hp=>?_,hok,I.len⟩
  · obtain⟨m,⟨o,es,ep,ho,hd',r⟩,hl⟩:=I.loc
    obtain⟨z1,z2⟩:=nfl _ o ho fun vs w=>by rw [hd'] at w;cases w
    obtain⟨sl,q'⟩:=up _ o ho z1 z2
    refine⟨m,⟨_,es,ep,q',hd',r⟩,fun i x v e1 e2 e3=>?_⟩
    obtain⟨u,r,l⟩:=hl i x v e1 e2 e3
    refine⟨u,r,?_⟩
    rcases l with l | ⟨k,c,ec,z⟩
    · exact .inl l
    · exact .inr ⟨k,c,ec,cellK c _ z⟩
  · obtain⟨v,z⟩:=I.cell y c e
    exact⟨v,cellK c v z⟩
  · obtain⟨q,n,nl,nf,d⟩:=I.pin p hp
    have hp':p∈X.pn:=by simpa using hp
    refine⟨N.keep p.1 p.2 q (fun z=>?_) (n1.2.2 p hp') fun z=>(n3 p.1 z.symm).2.2 p hp' rfl,n,nl,nf,d⟩
    rcases List.mem_cons.mp (I.stkSub p.1 z) with w | w
    · exact nl w
    · exact nf w
 refine⟨I',n1,?_⟩
 obtain⟨T,nT,r⟩:=N.ent
 refine⟨some T,r,fun T' e'=>?_⟩
 cases e'
 rcases nT with nT | nT
 rotate_left
 · exact n3 T nT
 refine⟨?_,?_,fun p hp z=>?_⟩
 · cases q:X.s₀.heap.get? T with
   | none=>rfl
   | some o=>
    obtain⟨o',z⟩:=B.there T o q (nin T)
    rw [nT] at z;cases z
 · cases q:H T with
   | none=>rfl
   | some u=>
    obtain⟨o',z⟩:=qGb (I.hok T u q)
    rw [nT] at z;cases z
 · have q:=(I.pin p (List.mem_append_left _ hp)).1
   rw [z,nT] at q;cases q
end
theorem qHj {X:Cx}{Ex:Value→Option Addr→Hp→Prop}{L:Addr}{env:Env}{outer:List Env}(hst:X.stack=env::outer)(he:X.env=env)(hf:env.frame=some L)(hex:X.ex=[]):PassesOwn (model X.prog X.w) X.A X.env (XE X Ex):=by
 rintro e s' ⟨ea,C,σ,H',rfl,I,⟨n1,hd,r,n3⟩,z⟩
 subst he
 have fr:=I.ok.frames
 rw [hst] at fr
 have ff:=I.stack
 rw [hst] at ff
 refine qJ4 fr ff hf r fun h' N'=>?_
 rw [← hst] at N'
 obtain⟨I',x'⟩:=jg I hex r n1 n3 N'
 exact⟨ea,C,σ,H',rfl,I',x',z⟩
theorem qH9 {X:Cx}{E:Value→Shared→Prop}{st:List Stmt}{t:TS}(h:PSs (X.wish E) st t)(hE:∀ e s',E e s'→X.xe e s'):PSs X st t:=fun pins s σ H D I hw=>
 wpAny_mono (h pins s σ H D (I.wish E) hw) (fun _ _ q=>q.unwish) hE
section
variable {P : Program} {w : World} {K : PySem.W.Frag} {mg : Str → Option Value} {base : Heap}
theorem okX {x qual:Str}{st:Stmt}{f:Addr}{fd:FuncData}{N ps:List Str}{k:Nat}{sp:Sp}(F:Fun K x qual st f fd)(S:qP N ps (qJ st))(len:∀ vs H Q E,sp vs H Q E→vs.length=ps.length)
 (hbody:∀ (cdv:Value) (A:Around) (outer:List Env) (s:Shared) (H:Hp) (vs:List V) (Q:VK) (E:XK),Room k (A.deeper (envOfC qual (qJ st) s.heap.objs.size f cdv))→sp vs H Q E→
   ∃ t,PSs ((qHp (CXR P w) P w K mg base N qual (qJ st) f cdv A outer s H E).wish (XE (qHp (CXR P w) P w K mg base N qual (qJ st) f cdv A outer s H E) E)) (xf st) t∧
    t {nx:=fun _ H'=>Q .non H',rt:=Q} (qBa N vs) H):FnOk P w K mg base (CXR P w) (k+1) f fd ps sp:=by
 obtain⟨oc,od,kV,doc,pm,an,cdv,ct,osl,rfl,lk,hcd⟩:=F.ex
 refine qL9 lk hcd S len fun A outer s H vs Q E hr hsp=>?_
 obtain⟨t,h,q⟩:=hbody cdv A outer s H vs Q E hr hsp
 refine⟨t,qH9 h ?_,q⟩
 rintro e s' ⟨ea,C,σ,H',rfl,I,⟨n1,hd,r,n3⟩,z⟩
 show wpAny _ _ (leaving _ _) _ _ _
 unfold leaving
 refine wpAny_bind (qCp I.ok.frames I.stack rfl r fun h' N'=>?_)
 obtain⟨I',x'⟩:=jg I rfl r n1 n3 N'
 exact⟨ea,C,H',rfl,I.os,I.bare,I'.base,I'.hok,x',z⟩
end
theorem qNw {X:Cx}{Ex:Value→Option Addr→Hp→Prop}(hex:X.ex=[]):qDq (CXR X.prog X.w) (X.wish (XE X Ex)) Ex:=by
 rintro pins σ H s e s' I ⟨ea,C,H',rfl,os,bare,un,hok,⟨n1,hd,r,n3⟩,q⟩
 have I0:=I.unwish
 have I1:Inv X pins σ H' s':=I0.call' (ch:=[]) os un hok bare fun b z=>nomatch z
 have old:∀ b,s.heap.get? b=none→X.s₀.heap.get? b=none:=fun b z=>by
  cases w:X.s₀.heap.get? b with
  | none=>rfl
  | some o=>
   obtain⟨o',w'⟩:=I0.base.there b o w (by rw [hex];intro y;cases y)
   rw [z] at w';cases w'
 have pn:∀ b,s.heap.get? b=none→∀ p∈X.pn,p.1≠b:=fun b z p hp w=>by
  have q:=(I0.pin p (List.mem_append_left _ hp)).1
  rw [w,z] at q;cases q
 exact⟨ea,C,σ,H',rfl,I1.pins_of (pins':=[]) fun p hp=>(nomatch hp),⟨⟨old _ n1.1,n1.2.1,pn _ n1.1⟩,hd,r,fun T e=>⟨old _ (n3 T e).1,(n3 T e).2.1,pn _ (n3 T e).1⟩⟩,q⟩
theorem kn {X:Cx}{Ex:Value→Option Addr→Hp→Prop}{k j:Nat}{x:Str}{st:Stmt}{ps:List Str}{f:Addr}{fd:FuncData}{sp:Sp}{e:Expr}{es:List Expr}{t:TA}{p pos:Pos}(D:Def X.K X.mg x st ps f fd)(F:FnOk X.prog X.w X.K X.mg X.base (CXR X.prog X.w) j f fd ps sp)(hr:Room k X.A)(hg:Gl X x)
 (ha:PA (X.wish (XE X Ex)) (e::es) t) (hj:j≤k:=by decide) (hex:X.ex=[]:=by rfl)
 (hdb:(x == ("__debug__":Str))=false:=by decide) (he:starEach (e::es) X.env=(false,eval e X.env)::starEach es X.env:=by rfl) (hpl:(backTo pos (starEach es X.env)).any (·.1)=false:=by rfl):
 PE (X.wish (XE X Ex)) (.Call (.Name x p) (e::es) [] pos) (qJ7 sp [] Ex t):=
 qFy (X:=X.wish (XE X Ex)) (CX:=CXR X.prog X.w) F (hr.mono hj) hg D.m D.F.kp D.b .nil (qNw hex) ha hdb he hpl
def qOe:List Value:=[.type "ValueError",.type "Exception",.type "BaseException",.type "object"]
def OwnX (K:PySem.W.Frag)(C:Addr):Prop:=PySem.W.excIn K C qOe "ValueError.__new__"=true
theorem qFf {K:PySem.W.Frag}{h:Heap}{mg:Str→Option Value}{x:Str}{C:Addr}(X:K.In h)(b:mg x=some (.ref C))(q:OwnX K C):OwnCls x C qOe "ValueError.__new__" mg h:=by
 refine⟨b,?_⟩
 unfold OwnX PySem.W.excIn at q
 split at q
 · rename_i dd cd sl ho
   split at q
   · rename_i C' bm k0 k1 k2 k3 n k5 hm hs
     simp only [Bool.and_eq_true,beq_iff_eq,Bool.not_eq_true'] at q
     obtain⟨⟨⟨⟨⟨eC,en⟩,del⟩,ht⟩,ok⟩,ni⟩:=q
     subst eC en
     obtain⟨nm,bs,mro,ns,qn,hd,sn,sub,ab,col,dl⟩:=cd
     dsimp only at hm del ok ni
     subst hm del
     have hsl:sl=#[k0,k1,k2,k3,some (.builtin "ValueError.__new__"),k5]:=by
      obtain⟨l⟩:=sl
      simp only at hs
      rw [hs]
     subst hsl
     exact⟨bm,ns,nm,qn,bs,hd,sn,sub,ab,col,dd,k0,k1,k2,k3,k5,_,X _ _ ho,.of_isNs (PySem.W.isNs_of_in X ok),PySem.W.nsMap_none_of_in X ok ni,PySem.W.tail_of_in X ht⟩
   · cases q
 · cases q
def qKw (C:Addr)(Ex:Value→Option Addr→Hp→Prop)(t:TA):TS:=fun _ σ H=>t σ H fun vs H1=>vs.length≤sizeLine∧Ex (.ref C) none H1
theorem jS {X:Cx}{Ex:Value→Option Addr→Hp→Prop}{x:Str}{C:Addr}{np cpos pos:Pos}{e₀:Expr}{kY:List Expr}{t:TA}(hcm:X.calm=true)(hg:Gl X x)(hm:X.mg x=some (.ref C))(hx:OwnX X.K C)(ha:PA (X.wish (XE X Ex)) (e₀::kY) t)
 (he:starEach (e₀::kY) X.env=(false,eval e₀ X.env)::starEach kY X.env:=by rfl) (hpl:(backTo cpos (starEach kY X.env)).any (·.1)=false:=by rfl) (hex:X.ex=[]:=by rfl) (hdb:(x == ("__debug__":Str))=false:=by decide):
 PS (X.wish (XE X Ex)) (.Raise (some (.Call (.Name x np) (e₀::kY) [] cpos)) none pos) (qKw C Ex t):=by
 intro pins s σ H D I h
 obtain⟨tl,N,nm,q,bs,hdct,sn,sub,ab,col,dd,k0,k1,k2,k3,k5,mN,hC,hN,hni,T⟩:=
  (qFf (X:=I.ok.mod.kin) hm hx).obj
 refine wpAny_Raise_call_subT (bm:=tl) (C:=C) (N:=N) (nm:=nm) (q:=q) (bs:=bs) (hdct:=hdct) (sn:=sn) (sub:=sub) (ab:=ab) (col:=col) (dd:=dd) (k5:=k5) (k0:=k0) (k1:=k1) (k2:=k2) (k3:=k3)
  PySem.F.excBase_ValueError (mN:=mN) (T.hasType PySem.F.excBase_ValueError.hasBase) (I.ok.hd hcm) (by rw [he];show (false || (backTo cpos (starEach kY X.env)).any (·.1))=false;rw [hpl];rfl) hni (kc I hg hm ⟨rfl,?_⟩ hdb)
 have z:=ha cpos pins s σ H _ I h
 rw [show (X.wish (XE X Ex)).env=X.env from rfl] at z
 rw [he] at z ⊢
 refine Calls.evalArgs_plain (wpAny_mono z (fun us s2 w=>?_) fun _ _ y=>y)
 obtain⟨vs,H1,I1,r1,hl,ex⟩:=w
 have I1':=I1.unwish
 refine⟨rfl,by rw [← r1.length];exact hl,I1.bk _ _ hC,hN.keeps I1.bk,T.keeps I1.bk,fun h' e hmk=>?_⟩
 obtain⟨tt,q1,q2,q3⟩:=hmk.there
 have I2:Inv X pins σ H1 {s2 with heap:=h'}:=I1'.kept (t':=s2.toks) hmk.keeps
 refine⟨e,(.ref C,none),σ,H1,rfl,I2.pins_of (pins':=[]) fun p hp=>(nomatch hp),⟨⟨?_,?_,fun p hp z=>?_⟩,none,⟨_,_,q1,rfl⟩,fun T e'=>nomatch e'⟩,ex⟩
 · cases w:X.s₀.heap.get? e with
   | none=>rfl
   | some o=>
    obtain⟨o',w'⟩:=I1'.base.there e o w (by rw [hex];intro y;cases y)
    rw [hmk.new] at w';cases w'
 · cases w:H1 e with
   | none=>rfl
   | some u=>
    obtain⟨o',w'⟩:=qGb (I1'.hok e u w)
    rw [hmk.new] at w';cases w'
 · have q':=(I1'.pin p (List.mem_append_left _ hp)).1
   rw [z,hmk.new] at q';cases q'
def pnX (X:Cx)(l:List (Addr × Obj)):Cx:={X with pn:=l}
def hdX (X:Cx)(ea:Addr):Cx:={X with A:=X.A.mark (some (.ref ea)),calm:=false}
section
variable {X : Cx} {pins : List (Addr × Obj)} {σ : L2.St} {H : Hp} {s : Shared}
theorem qK7 (I:Inv X pins σ H s):Inv (pnX X (X.pn++pins)) [] σ H s:=by
 obtain⟨a1,a2,a3,a4,a5,a6,a7,a8,a9,a10,a11,a12,a13,a14,a15,a16,a17,a18⟩:=I.ok
 exact⟨⟨a1,a2,a3,a4,a5,a6,a7,a8,a9,a10,a11,a12,a13,a14,a15,a16,a17,a18⟩,I.os,I.bare,I.base,I.loc,I.cell,I.free,I.freeC,fun p hp=>I.pin p (by have z:p∈(X.pn++pins)++[]:=hp;simpa using z),I.hok,I.len⟩
theorem zt (I:Inv (pnX X (X.pn++pins)) [] σ H s):Inv X pins σ H s:=by
 obtain⟨a1,a2,a3,a4,a5,a6,a7,a8,a9,a10,a11,a12,a13,a14,a15,a16,a17,a18⟩:=I.ok
 exact⟨⟨a1,a2,a3,a4,a5,a6,a7,a8,a9,a10,a11,a12,a13,a14,a15,a16,a17,a18⟩,I.os,I.bare,I.base,I.loc,I.cell,I.free,I.freeC,fun p hp=>I.pin p (by show p∈(X.pn++pins)++[];simpa using hp),I.hok,I.len⟩
theorem qDi {ea:Addr}(I:Inv X pins σ H s):Inv (hdX X ea) pins σ H s:=by
 obtain⟨a1,a2,a3,a4,a5,a6,a7,a8,a9,a10,a11,a12,a13,a14,a15,a16,a17,a18⟩:=I.ok
 exact⟨⟨a1,a2,a3,a4,a5,a6,a7,a8,fun h=>absurd (show false=true from h) Bool.false_ne_true,a10,a11,a12,a13,a14,a15,a16,a17,a18⟩,I.os,I.bare,I.base,I.loc,I.cell,I.free,I.freeC,I.pin,I.hok,I.len⟩
theorem qCr {ea:Addr}(I:Inv (hdX X ea) pins σ H s)(hd:X.calm=true→X.A.handled=none):Inv X pins σ H s:=by
 obtain⟨a1,a2,a3,a4,a5,a6,a7,a8,a9,a10,a11,a12,a13,a14,a15,a16,a17,a18⟩:=I.ok
 exact⟨⟨a1,a2,a3,a4,a5,a6,a7,a8,hd,a10,a11,a12,a13,a14,a15,a16,a17,a18⟩,I.os,I.bare,I.base,I.loc,I.cell,I.free,I.freeC,I.pin,I.hok,I.len⟩
def qFt (e:Addr)(C:EC):HO:=.ext fun h=>∃ (vs:Array Value) (sl:Array (Option Value)),h.get? e=some {cls:=C.1,dict:=C.2,data:=.fields vs,slots:=sl}
theorem qDh {a:Addr}{C:EC}{hd:Option Addr}(I:Inv X [] σ H s)(_:X.ex=[])(n:qD5 X.s₀.heap H X.pn a)(r:xn s.heap a C hd):Inv X [] σ (upd H a (qFt a C)) s:=by
 obtain⟨vs,sl,q,_⟩:=r
 have B:=I.base
 have ne:∀ b o,X.s₀.heap.get? b=some o→b≠a:=fun b o w z=>by rw [z,n.1] at w;cases w
 refine⟨I.ok,I.os,I.bare,⟨B.keep,B.slot,fun b o w z hx=>?_,B.there,fun b xs w=>?_,fun b o u w=>?_,fun b ps w=>?_⟩,I.loc,I.cell,?_,fun y c e=>?_,fun p hp=>?_,fun b u w=>?_,I.len⟩
 · rw [qZ (ne b o w)];exact B.free b o w z hx
 · have z:=B.tups b xs w
   rw [qZ (qH z n.2.1)];exact z
 · have z:=B.frzs b o u w
   rw [qZ (qH z n.2.1)];exact z
 · obtain⟨more,z⟩:=B.tbls b ps w
   exact⟨more,by rw [qZ (qH z n.2.1)];exact z⟩
 · obtain⟨m,⟨o,es,ep,ho,hd',_⟩,_⟩:=I.loc
   rw [qZ (fun z=>by rw [z,q] at ho;cases ho;cases hd')]
   exact I.free
 · obtain⟨v,o,ho,hd'⟩:=I.cell y c e
   rw [qZ (fun z=>by rw [z,q] at ho;cases ho;cases hd')]
   exact I.freeC y c e
 · obtain⟨w1,w2,w3⟩:=I.pin p hp
   have hp':p∈X.pn:=by simpa using hp
   rw [qZ (n.2.2 p hp')]
   exact⟨w1,w2,w3⟩
 · by_cases hb:b=a
   · subst hb
     rw [qB] at w
     cases w
     refine⟨⟨vs,sl,q⟩,⟨_,q⟩,fun h1 h2 z k=>?_⟩
     obtain⟨vs',sl',z⟩:=z
     exact⟨vs',sl',k _ z⟩
   · rw [qZ hb] at w
     exact(I.hok b u w).stay (fun _ _ _ z=>z) (fun c z=>by rw [qZ (qH z n.2.1)];exact z) fun c xs z=>by rw [qZ (qH z n.2.1)];exact z
theorem vP {M:Model}{A:Around}{E:Value→Shared→Prop}{i:Nat}{n:Str}{pos:Pos}{Q:Unit→Shared→Prop}(I:Inv X pins σ H s)(hN:X.N.Nodup)(hi:X.N[i]? =some n)(hl:X.env.scope.names.lookup n=some .local)
 (h:∀ s',Inv X pins (σ.set i none) H s'→Q () s'):wpAny M A (do bindName X.env n .none;unbindBehindTheSuite X.env n pos) Q E s:=by
 refine wpAny_bind (wpAny_bindName (kF (v:=.non) I hN hi (.inl hl) rfl (fun s1 I1=>?_) (.inr hl)))
 unfold unbindBehindTheSuite
 refine wpAny_onRaise ?_
 have hcls:(X.env.scope.kind == .class || (X.env.scope.kind == .module && X.env.locals != X.env.globals))=false:=by rw [I1.ok.kind];rfl
 have hiσ:i < σ.length:=by rw [I.len];exact(List.getElem?_eq_some_iff.mp hi).1
 obtain⟨m,hn,hlk⟩:=I1.loc
 obtain⟨u,r,lk⟩:=hlk i n .non hi (by rw [List.getElem?_set_self hiσ]) (.inl hl)
 have hm:m n=some u:=by
  rcases lk with ⟨_,z⟩ | ⟨z,_⟩
  · exact z
  · have hl':X.env.kindOf n=some .local:=hl
    rw [hl'] at z
    rcases z with z | z <;> cases z
 obtain⟨oL,es,ep,hoL,hdL,_⟩:=id hn
 refine wpAny_unbindName_local hl hn hm hcls fun h' u' hn' hs=>h _ ?_
 have B:=I1.base
 have neL:∀ b o,X.s₀.heap.get? b=some o→b≠X.env.locals:=fun b o e=>Nat.ne_of_lt (Nat.lt_of_lt_of_le (Heap.lt_size e) I1.ok.above)
 refine⟨I1.ok,I1.os,I1.bare,⟨fun b o e n hb hx=>(hs.2 b (neL b o e)).trans (B.keep b o e n hb hx),fun b o e n hb hx=>?_,B.free,fun b o e hx=>?_,B.tups,B.frzs,B.tbls⟩,⟨_,hn',fun j y v e1 e2 e3=>?_⟩,fun y c e=>?_,I1.free,I1.freeC,fun p hp=>?_,fun b ob e=>?_,?_⟩
 · obtain⟨sl,z⟩:=B.slot b o e n hb hx
   exact⟨sl,(hs.2 b (neL b o e)).trans z⟩
 · obtain⟨o',z⟩:=B.there b o e hx
   exact⟨o',(hs.2 b (neL b o e)).trans z⟩
 · have hj:j≠i:=fun z=>by
    subst z
    rw [List.getElem?_set_self hiσ] at e2
    cases e2
   rw [List.getElem?_set_ne (Ne.symm hj)] at e2
   obtain⟨u2,r2,l2⟩:=hlk j y v e1 (by rw [List.getElem?_set_ne (Ne.symm hj)];exact e2) e3
   refine⟨u2,r2,?_⟩
   rcases l2 with ⟨k,z⟩ | ⟨k,c,ec,z⟩
   · refine .inl ⟨k,?_⟩
     have:y≠n:=fun w=>hj (qCf hN e1 (w ▸ hi))
     simp [this,z]
   · exact .inr ⟨k,c,ec,z.sameBut hs (I1.cne y c ec)⟩
 · obtain⟨w',z⟩:=I1.cell y c e
   exact⟨w',z.sameBut hs (I1.cne y c e)⟩
 · obtain⟨e,n,ne,nf,d⟩:=I1.pin p hp
   exact⟨(hs.2 p.1 ne).trans e,n,ne,nf,d⟩
 · refine(I1.hok b ob e).stay (fun c w' hc q=>(hs.2 c fun z=>?_).trans q) (fun _ q=>q) fun _ _ q=>q
   have fr:=I1.free
   rcases hc with hc | hc
   · rw [← hc,z,fr] at e;cases e
   · rw [z,fr] at hc;cases hc
 · have:=I1.len
   simpa using this
end
def qMg (D:qHk)(i:Option Nat):qHk:=
 let f:(L2.St→Hp→Prop)→L2.St→Hp→Prop:=fun q σ H=>match i with | some i=>q (σ.set i none) H | none=>q σ H
 {nx:=f D.nx,rt:=D.rt,bk:=f D.bk,ct:=f D.ct}
def qPi (i:Option Nat)(ea:Addr)(σ:L2.St):L2.St:=match i with | some i=>σ.set i (some (.ref ea)) | none=>σ
def qP2 (K:PySem.W.Frag)(Ex:Value→Option Addr→Hp→Prop)(C:Addr)(i:Option Nat)(tb ts:TS):TS:=fun D σ H=>tb D σ H∧∀ (ea:Addr) (B:EC) (σ':L2.St) (H':Hp),Ex B.1 B.2 H'→H' ea=none→σ'.length=σ.length→
 PySem.W.exmOne K B.1 (.ref C)=some true∧ts (qMg D i) (qPi i ea σ') (upd H' ea (qFt ea B))
def qPf (K:PySem.W.Frag)(Ex:Value→Option Addr→Hp→Prop)(C:Addr)(i:Option Nat)(tb ts te:TS):TS:=fun D σ H=>qP2 K Ex C i (fun _=>tb {D with nx:=te D}) ts D σ H
inductive qC9 (X:Cx):Option Str→Option Nat→Prop where
 | none:qC9 X none none
 | some {n:Str} {i:Nat} (hi:X.N[i]? =some n) (hl:X.env.scope.names.lookup n=some .local):qC9 X (some n) (some i)
theorem qMh {X:Cx}{body:List Stmt}{b₀:Stmt}{suite:List Stmt}{x:Str}{C:Addr}{nm:Option Str}{i:Option Nat}{np hpos pos:Pos}{oe:List Stmt}{tb ts te:TS}(Ex:Value→Option Addr→Hp→Prop)
 (hcl:qC9 X nm i) (hN:X.N.Nodup) (hg:Gl X x) (hm:X.mg x=some (.ref C))
 (hb:∀ l,PSs ((pnX X l).wish (XE (pnX X l) Ex)) body tb) (hs:∀ l ea,PSs (hdX (pnX X l) ea).nox (b₀::suite) ts) (ho:PSs X oe te)
 (hstk:X.stack=X.env::X.outer:=by rfl) (hfr:X.env.frame=some X.env.locals:=by rfl) (hex:X.ex=[]:=by rfl) (hdb:(x == ("__debug__":Str))=false:=by decide):
 PS X (.Try body [.ExceptHandler (some (.Name x np)) nm (b₀::suite) hpos] oe [] pos) (qPf X.K Ex C i tb ts te):=by
 rintro pins s σ H D I ⟨h1,h2⟩
 have I0:=qK7 I
 refine wpAny_Try_except (wpAny_mono (hb (X.pn++pins) [] s σ H {D with nx:=te D} (I0.wish _) h1) (fun f s1 q=>?_) fun e s1 q=>?_)
 · have q:=q.unwish
   cases f with
   | next=>
    obtain⟨σ',H',J,z⟩:=q
    exact ho pins s1 σ' H' D (zt J) z
   | brk=>
    obtain⟨σ',H',J,z⟩:=q
    exact⟨σ',H',zt J,z⟩
   | cont=>
    obtain⟨σ',H',J,z⟩:=q
    exact⟨σ',H',zt J,z⟩
   | ret u=>
    obtain⟨v,σ',H',J,r,z⟩:=q
    exact⟨v,σ',H',zt J,r,z⟩
 · obtain⟨ea,B,σ',H',rfl,I1,⟨n1,hd,r,n3⟩,ex⟩:=q
   have hlen:σ'.length=σ.length:=I1.len.trans I.len.symm
   obtain⟨hx,ht⟩:=h2 ea B σ' H' ex n1.2.1 hlen
   have fr:X.A.frames=some (X.env::X.outer):=by rw [← hstk];exact I.ok.frames
   have ff:s1.heap.FunFrames X.base (X.env::X.outer):=by
    have z:=I1.stack
    rw [show (pnX X (X.pn++pins)).stack=X.env::X.outer from hstk] at z
    exact z
   refine qCp fr ff hfr r fun h' N'=>?_
   have N':Noted (frs X.stack) ea hd B s1.heap h':=by rw [hstk];exact N'
   obtain⟨I2,n1,hd2,r2,n3⟩:=jg I1 hex r n1 n3 N'
   refine wpAny_handleBy_cons (codeAny_handlers_test (kc (X:=hdX (pnX X (X.pn++pins)) ea) (qDi I2) hg hm ?_ hdb)) (by intro z;cases z)
   have LT:PySem.W.Looks (model X.prog X.w) h' (typeOf (.ref ea)) B.1:=by
    obtain⟨vs,sl,qe,_⟩:=r2
    exact(PySem.W.Looks.ld qe).andThen .now
   refine(PySem.W.exm_one (M:=model X.prog X.w) I2.kIn LT hx).here ?_
   show codeAny _ _ _ _ _
   obtain⟨T,rfl,r3⟩:∃ T,hd2=some T∧xn h' ea B (some T):=by
    obtain⟨T,_,_⟩:=N'.ent
    cases hd2 with
    | some T=>exact⟨T,rfl,r2⟩
    | none=>
     obtain⟨T,_,rT⟩:=N'.ent
     obtain⟨vs,sl,q1,q2⟩:=r2
     obtain⟨vs',sl',q1',q2',_⟩:=rT
     rw [q1] at q1'
     cases q1'
     rw [q2] at q2'
     cases q2'
   have run:∀ (s4:Shared) (σ4:L2.St) (Q:Flow→Shared→Prop) (E:Value→Shared→Prop),Inv (hdX (pnX X (X.pn++pins)) ea) [] σ4 (upd H' ea (qFt ea B)) s4→ts (qMg D i) σ4 (upd H' ea (qFt ea B))→
    (∀ f s5,SP (hdX (pnX X (X.pn++pins)) ea) [] (qMg D i) f s5→Q f s5)→wpAny (model X.prog X.w) (X.A.mark (some (.ref ea))) (execs (b₀::suite) X.env) Q E s4:=fun s4 σ4 Q E I4 z k=>
    wpAny_mono (hs (X.pn++pins) ea [] s4 σ4 _ _ (I4.wish _) z) (fun f s5 q=>k f s5 q.unwish) fun _ _ z=>z.elim
   have hdn:(pnX X (X.pn++pins)).calm=true→(pnX X (X.pn++pins)).A.handled=none:=I2.ok.hd
   cases hcl with
   | none=>
    refine codeAny_handlers_suite (vY r3 fun h3 N3=>?_)
    obtain⟨I3,n1,hd3,r4,n3⟩:=jg I2 hex r3 n1 n3 (N3 _)
    refine run _ _ _ _ (qDi (qDh I3 hex n1 r4)) ht fun f s5 q=>?_
    cases f with
    | next=>obtain⟨σ5,H5,J,z⟩:=q;exact⟨σ5,H5,zt (qCr J hdn),z⟩
    | brk=>obtain⟨σ5,H5,J,z⟩:=q;exact⟨σ5,H5,zt (qCr J hdn),z⟩
    | cont=>obtain⟨σ5,H5,J,z⟩:=q;exact⟨σ5,H5,zt (qCr J hdn),z⟩
    | ret u=>obtain⟨v,σ5,H5,J,rv,z⟩:=q;exact⟨v,σ5,H5,zt (qCr J hdn),rv,z⟩
   | some hi hl=>
    refine codeAny_handlers_suite_as (vY r3 fun h3 N3=>?_)
    obtain⟨I3,n1,hd3,r4,n3⟩:=jg I2 hex r3 n1 n3 (N3 _)
    refine kF (X:=hdX (pnX X (X.pn++pins)) ea) (v:=.ref ea) (qDi (qDh I3 hex n1 r4)) hN hi (.inl hl) rfl (fun s4 I4=>?_) (.inr hl)
    refine run _ _ _ _ I4 ht fun f s5 q=>?_
    cases f with
    | next=>obtain⟨σ5,H5,J,z⟩:=q;exact vP (X:=pnX X (X.pn++pins)) (qCr J hdn) hN hi hl fun s6 J6=>⟨_,H5,zt J6,z⟩
    | brk=>obtain⟨σ5,H5,J,z⟩:=q;exact vP (X:=pnX X (X.pn++pins)) (qCr J hdn) hN hi hl fun s6 J6=>⟨_,H5,zt J6,z⟩
    | cont=>obtain⟨σ5,H5,J,z⟩:=q;exact vP (X:=pnX X (X.pn++pins)) (qCr J hdn) hN hi hl fun s6 J6=>⟨_,H5,zt J6,z⟩
    | ret u=>obtain⟨v,σ5,H5,J,rv,z⟩:=q;exact vP (X:=pnX X (X.pn++pins)) (qCr J hdn) hN hi hl fun s6 J6=>⟨v,_,H5,zt J6,rv,z⟩
theorem qN1 {X:Cx}{body:List Stmt}{b₀:Stmt}{suite:List Stmt}{x:Str}{C:Addr}{nm:Option Str}{i:Option Nat}{np hpos pos:Pos}{tb ts:TS}(Ex:Value→Option Addr→Hp→Prop)
 (hcl:qC9 X nm i) (hN:X.N.Nodup) (hg:Gl X x) (hm:X.mg x=some (.ref C))
 (hb:∀ l,PSs ((pnX X l).wish (XE (pnX X l) Ex)) body tb) (hs:∀ l ea,PSs (hdX (pnX X l) ea).nox (b₀::suite) ts)
 (hstk:X.stack=X.env::X.outer:=by rfl) (hfr:X.env.frame=some X.env.locals:=by rfl) (hex:X.ex=[]:=by rfl) (hdb:(x == ("__debug__":Str))=false:=by decide):
 PS X (.Try body [.ExceptHandler (some (.Name x np)) nm (b₀::suite) hpos] [] [] pos) (qP2 X.K Ex C i tb ts):=
 qMh Ex hcl hN hg hm hb hs qR hstk hfr hex hdb
end L3
set_option maxRecDepth 100000
namespace L3
open PySem PySem.Spec PySem.Calls PyProof.Rows PySem.W
section
variable {prog : Program} {w : World} {A : Around} {E : Value → Shared → Prop} {K : Frag} {h : Heap} {g : Array GenState} {d : Drawn} {t : Nat} {os : OsState} {a D : Addr} {ox : Obj} {od : Option Obj}
structure ExcK (K:Frag)(D:Addr):Prop where
 ga:findIn K (.ref D) "__getattribute__"=some (some (.builtin "BaseException.__getattribute__"))
 gt:findIn K (.ref D) "__getattr__"=some none
 ca:findIn K (.ref D) "__class__"=some (some (.builtin "object.__class__"))
 sg:specialIn K (.builtin "object.__class__") "__get__"=some (some (.builtin "getset_descriptor.__get__"))
 tk:takesIn K (.builtin "object.__class__")=some true
 mo:mroIn K D (.type "object")=some true
 mb:mroIn K D (.type "BaseException")=some true
theorem qIn {tk:Tok}{Q:Fin→Shared→Prop}(c:ExcK K D)(X:K.In h)(I:InstAt h a ox D od)(hq:Q (.done (.ret (.ref D))) ⟨h,g,d,t,os⟩):
 wpAny (model prog w) A (Builtin.«object.__getattribute__» ⟨[.ref a,.str "__class__" tk],[]⟩) Q E ⟨h,g,d,t,os⟩:=by
 have L0:=I.type (M:=model prog w)
 have L1:=looks_findIn (M:=model prog w) X c.ca
 have hf:findObj K D od "__class__"=some (.bind (.builtin "getset_descriptor.__get__") (.builtin "object.__class__")):=by
  have mo:=c.mo
  unfold mroIn at mo
  unfold findObj
  cases e:clsIn K D with
  | none=>rw [e] at mo;cases mo
  | some cd=>
   simp only [Option.bind_some,c.ca,c.sg,c.tk]
 have L2:=looks_find (M:=model prog w) X I hf
 unfold Builtin.«object.__getattribute__»
 repeat (any_goals (first | assumption | (with_reducible refine wpAny_bind (L0.at ?_)) | (with_reducible refine wpAny_bind (L2.at ?_)) | wp_step))
 refine class_get (s:=⟨h,g,d,t,os⟩) (ox:=ox) (od:=od) X I c.mo ?_
 exact wpAny_pure hq
theorem qKd {tk:Tok}{R:Result→Shared→Prop}(c:ExcK K D)(X:K.In h)(I:InstAt h a ox D od)(hq:R (.ok (.ret (.ref D))) ⟨h,g,d,t,os⟩):
 codeAny (model prog w) A (.call (.builtin "BaseException.__getattribute__") ⟨[.ref a,.str "__class__" tk],[]⟩) R ⟨h,g,d,t,os⟩:=by
 refine codeAny_call_builtin F.attr_ValueError.ga.plain F.entry_bexc_ga ?_
 have bkd:builtinKind "BaseException.__getattribute__"=some .slot:=by decide+kernel
 have hsp:splitId "BaseException.__getattribute__"=some ("BaseException","__getattribute__"):=by decide+kernel
 have ha:=F.args_bexc_ga (.ref a) (.str "__class__" tk)
 have L0:=I.type (M:=model prog w)
 have L1:Looks (model prog w) h (isInstance (.ref a) (.type "BaseException")) true:=L0.andThen (looks_mroIn X c.mb)
 simp only [checkBuiltinCall,bkd,hsp]
 refine wpAny_bind (L1.at ?_)
 repeat (first | assumption | (with_reducible refine qIn c X I ?_) | exact hq | wp_step)
theorem qMq {tk:Tok}{fill:Bool}{Q:Value→Shared→Prop}(c:ExcK K D)(X:K.In h)(I:InstAt h a ox D od)(hq:Q (.ref D) ⟨h,g,d,t,os⟩):
 wpAny (model prog w) A (getAttrBy (.ref a) (.str "__class__" tk) fill) Q E ⟨h,g,d,t,os⟩:=by
 have L0:=I.type (M:=model prog w)
 have L1:=looks_findIn (M:=model prog w) X c.ga
 have L2:=looks_findIn (M:=model prog w) X c.gt
 have f3:=F.attr_ValueError.ga.bind (.ref a)
 have no2:(Value.builtin "BaseException.__getattribute__" == Value.builtin "object.__getattribute__")=false:=by decide+kernel
 have no1:(onTheHeap (Value.ref D) && Value.builtin "BaseException.__getattribute__" == Value.builtin "object.__getattribute__")=false:=by rw [no2];rfl
 repeat (any_goals (first | assumption | (with_reducible refine wpAny_bind (L0.at ?_)) | (with_reducible refine wpAny_bind (L1.at ?_)) | (with_reducible refine wpAny_bind (L2.at ?_)) | (with_reducible refine L1.at ?_) | (with_reducible refine L2.at ?_) | wp_step))
 refine qKd c X I ?_
 show wpAny _ _ (handedOut (.ref D)) Q E _
 exact wpAny_pure hq
theorem qKp {Q:Option Value→Shared→Prop}(c:ExcK K D)(X:K.In h)(I:InstAt h a ox D od)(hq:Q (some (.ref D)) ⟨h,g,d,t+1,os⟩):wpAny (model prog w) A (getAttr? (.ref a) "__class__") Q E ⟨h,g,d,t,os⟩:=by
 unfold getAttr? getAttrBy?
 repeat (any_goals (first | assumption | with_reducible refine qMq c X I ?_ | wp_step))
theorem qGr (c:ExcK K D):KitX K (.ref a) (.ref D) (fun h=>InstAt h a ox D od) where
 ty:=fun _ _ _ I=>I.type
 it:=fun _ _ X _=>by
  have mo:=c.mo
  unfold mroIn clsIn at mo
  split at mo
  · rename_i kls kdi kcd ksl kob
    intro A' Q' E' s' kp wq
    unfold isType loadHead
    exact wpAny_bind (wpAny_loadPart (kp _ _ (X _ _ kob)) (wpAny_pure wq))
  · cases mo
 ne:=fun h tp dd its n sl X htp=>by
  have mo:=c.mo
  refine Bool.eq_false_iff.mpr fun same=>?_
  have here:D=tp:=Value.ref.inj (beq_iff_eq.mp same)
  subst here
  unfold mroIn clsIn at mo
  split at mo
  · rename_i kls kdi kcd ksl kob
    have z:=(X _ _ kob).symm.trans htp
    cases z
  · cases mo
 ca:=fun {_ _ _ _ _ s} X I k=>by
  obtain⟨h,g,d,t,os⟩:=s
  exact qKp c X I k
end
end L3
namespace L3
open PySem PySem.Spec PyProof.Rows L2
def OwnD (H:Hp)(od:Option Addr):Prop:=od=none∨∃ dx fs,od=some dx∧H dx=some (.xd fs)
theorem OwnD.at {X:Cx}{pins:List (Addr × Obj)}{σ:L2.St}{H:Hp}{s:Shared}{e D:Addr}{od:Option Addr}{vs:Array Value}{sl:Array (Option Value)}(I:Inv X pins σ H s)(h:OwnD H od)
 (qe:s.heap.get? e=some {cls:=.ref D,dict:=od,data:=.fields vs,slots:=sl}):∃ o,PySem.W.InstAt s.heap e {cls:=.ref D,dict:=od,data:=.fields vs,slots:=sl} D o:=by
 rcases h with rfl | ⟨dx,fs,rfl,hd⟩
 · exact⟨none,qe,rfl,rfl,trivial⟩
 · obtain⟨mA,⟨o,es,ep,e',c⟩,r⟩:=I.hok dx _ hd
   exact⟨some o,qe,rfl,rfl,e'⟩
theorem qEp {X:Cx}:zg X (.builtin "isinstance") (fun xs H Q=>∃ e D od c b,xs=[.ref e,c]∧H e=some (qFt e (.ref D,od))∧OwnD H od∧ExcK X.K D∧
 ((∃ n,c= .ty n∧PySem.W.kitOne X.K (.ref D) (.type n)=some b)∨∃ a,c= .ref a∧PySem.W.kitOne X.K (.ref D) (.ref a)=some b)∧Q (.bl b) H):=by
 intro pins s σ H xs us Q I r h
 obtain⟨e,D,od,c,b,rfl,he,hod,hc,hk,q⟩:=h
 obtain⟨u,u',rfl,rx,rc⟩:=qHt r
 cases rx
 obtain⟨⟨vs,sl,qe⟩,_⟩:=I.hok e _ he
 obtain⟨oo,J⟩:=hod.at I qe
 rcases hk with ⟨n,rfl,hk⟩ | ⟨a,rfl,hk⟩
 · cases rc
   exact PySem.W.kia_one (qGr hc) I.kIn J hk (fun z=>nomatch z) fun tk=>⟨.bl b,H,I.tok _,rfl,q⟩
 · cases rc
   exact PySem.W.kia_one (qGr hc) I.kIn J hk (fun z=>nomatch z) fun tk=>⟨.bl b,H,I.tok _,rfl,q⟩
end L3
set_option maxRecDepth 100000
namespace L3
open PySem PySem.Spec PySem.Calls PySem.Builtin PySem.Builtin.ObjectAttr PyProof.Rows
def qMp (K:PySem.W.Frag)(C D:Addr):Bool:=(PySem.W.clsIn K C).any fun cd=>cd.mro == .ref C:: .ref D::qOe
section
variable {prog : Program} {w : World} {A : Around} {E : Value → Shared → Prop} {K : PySem.W.Frag} {s : Shared} {x C D : Addr} {vs : Array Value} {sl : Array (Option Value)} {R : Result → Shared → Prop}
end
section
variable {prog : Program} {w : World} {A : Around} {E : Value → Shared → Prop} {h : Heap} {g : Array GenState} {d : Drawn} {t : Nat} {os : OsState}
variable {nm q : Str} {C N : Addr} {bs bm bmB : List Value} {hdct : Bool} {sn : List Str} {sub : List Value} {ab : Bool} {col : Option Bool} {dd : Option Addr} {k0 k1 k2 k3 k5 : Option Value} {B newId initId : String}
end
section
variable {prog : Program} {w : World} {A : Around} {E : Value → Shared → Prop} {s : Shared} {env : Env}
variable {nm q : Str} {C N : Addr} {bs bm bmB : List Value} {hdct : Bool} {sn : List Str} {sub : List Value} {ab : Bool} {col : Option Bool} {dd : Option Addr} {k0 k1 k2 k3 k5 : Option Value} {B newId initId : String}
end
end L3
namespace L3
open PySem PySem.Spec PyProof.Rows L2
def qJb (K:PySem.W.Frag)(C f:Addr):Bool:=match K.lookup C with
 | some ⟨.type "type",_,.cls cd,sl⟩=>(match cd.mro,sl.toList with
  | .ref C'::bm,[_,_,_,_,some (.builtin n),_]=>C' == C && n == "ValueError.__new__" && !cd.hasDel && PySem.W.tailIn K qOe bm && PySem.W.nsOkIn K cd.ns && PySem.W.nsIn K cd.ns "__init__" == some (some (.ref f))
  | _,_=>false)
 | _=>false
structure XMk (K:PySem.W.Frag)(C D f:Addr):Prop where
 ov:qMp K C D=true
 hd:PySem.W.hasDictIn K C=true
 sa:PySem.W.findIn K (.ref C) "__setattr__"=some (some (.builtin "object.__setattr__"))
 ex:qJb K C f=true
 fn:PySem.W.isFn K (.ref f)=true
section
variable {X : Cx} {pins : List (Addr × Obj)} {σ : L2.St} {H : Hp} {s : Shared}
end
end L3
set_option maxRecDepth 100000
namespace L3
open PySem PySem.Spec PySem.Calls PyProof.Rows PySem.W
section
variable {prog : Program} {w : World} {A : Around} {E : Value → Shared → Prop} {K : Frag} {h : Heap} {g : Array GenState} {d : Drawn} {t : Nat} {os : OsState} {a D : Addr} {ox o : Obj} {name : Str} {v : Value}
end
end L3
namespace L3
open PySem PySem.Spec PyProof.Rows L2
end L3
set_option maxRecDepth 100000
namespace L3
open PySem PySem.Spec PyProof.Rows L2
inductive PHs (X:Cx):List ExceptHandler→List (Addr × Option Nat × TS)→Prop where
 | nil:PHs X [] []
 | cons {x:Str} {np hpos:Pos} {nm:Option Str} {i:Option Nat} {b₀:Stmt} {suite:List Stmt} {C:Addr} {ts:TS} {hs:List ExceptHandler} {cs:List (Addr × Option Nat × TS)} (hcl:qC9 X nm i) (hg:Gl X x) (hm:X.mg x=some (.ref C))
  (h:∀ l ea,PSs (hdX (pnX X l) ea).nox (b₀::suite) ts) (r:PHs X hs cs) (hdb:(x == ("__debug__":Str))=false:=by decide):PHs X (.ExceptHandler (some (.Name x np)) nm (b₀::suite) hpos::hs) ((C,i,ts)::cs)
section
variable {X : Cx}
theorem qKj {bs:List Bool}{its:List Value}{P:Program}{w:World}{A:Around}(r:Vals (bs.map V.bl) its):TruthOf P w A (fun i v=>its.toArray[i]? =some v) (fun i=>(bs[i]?).getD false):=by
 intro i v s Q E hv hq
 have hv':its[i]? =some v:=by simpa using hv
 have hl:=r.length
 have hi:i < bs.length:=by
  have:=(List.getElem?_eq_some_iff.mp hv').1
  rw [List.length_map] at hl
  omega
 obtain⟨u,e1,q1⟩:=r.get (i:=i) (x:=.bl bs[i]) (by rw [List.getElem?_map,List.getElem?_eq_getElem hi];rfl)
 rw [hv'] at e1
 cases e1
 cases q1
 have e:(bs[i]?).getD false=bs[i]:=by rw [List.getElem?_eq_getElem hi];rfl
 have hq':Q ((bs[i]?).getD false) s:=hq
 rw [e] at hq'
 exact wpAny_truthy_bool hq'
theorem qJd (bs:List Bool):(List.range bs.length).all (fun i=>(bs[i]?).getD false)=bs.all id:=by
 rw [Bool.eq_iff_iff,List.all_eq_true,List.all_eq_true]
 constructor
 · intro h x hx
   obtain⟨i,hi,e⟩:=List.mem_iff_getElem.mp hx
   have:=h i (by simpa using hi)
   rw [List.getElem?_eq_getElem hi,e] at this
   exact this
 · intro h i hi
   have hi:i < bs.length:=by simpa using hi
   rw [List.getElem?_eq_getElem hi]
   exact h _ (List.getElem_mem hi)
theorem vM (hc:X.calm=true):zg X (.builtin "all") (fun xs H Q=>∃ (p:Addr) (bs:List Bool),xs=[.ref p]∧SqL X.K H p (bs.map V.bl)∧Q (.bl (bs.all id)) H):=by
 intro pins s σ H xs us Q I r h
 obtain⟨p,bs,rfl,hq,q⟩:=h
 obtain⟨u,rfl,rx⟩:=qC7 r
 cases rx
 obtain⟨its,rv,pl,hz⟩:=I.list hq
 have hp:p≠s.heap.objs.size:=by
  obtain⟨o,n,e,_⟩:=pl
  exact Nat.ne_of_lt (Heap.lt_size e)
 have hh:X.A.in1.handled=none:=I.ok.hd hc
 have hl:its.toArray.size=bs.length:=by rw [List.size_toArray,← rv.length,List.length_map]
 refine call_all_walk (wpAny_pyIter_list pl.isList ?_)
 refine⟨s.heap.objs.size,_,_,_,_,_,_,rfl,Walks.list hh _ p hp its.toArray,⟨⟨_,Heap.get?_push_size _ rfl,rfl,rfl⟩,pl.isList.at fun o e=>Heap.get?_push_of_some _ e⟩,qKj rv,fun h' tk hk=>?_⟩
 rw [hl,qJd]
 refine⟨.bl _,H,I.kept fun b o e=>hk b o (fun z=>?_) (Heap.get?_push_of_some _ e),rfl,q⟩
 have z':b=s.heap.objs.size:=by simpa using z
 exact absurd (Heap.lt_size e) (by rw [z'];exact Nat.lt_irrefl _)
theorem qM2:OpR X (compareOp .In) (fun x y H Q=>∃ (a b:Str),x= .str a∧y= .str b∧Q (.bl (!(Builtin.Str.occurrences b a 0 b.length 1).isEmpty)) H):=by
 intro pins s σ H x y v u Q I rx ry h
 obtain⟨a,b,rfl,rfl,q⟩:=h
 obtain⟨t,rfl⟩:=rx
 obtain⟨t',rfl⟩:=ry
 exact P.in_str ⟨.bl _,H,I,rfl,q⟩
def Its (z:Str):It:=⟨fun i _=>i < z.cps.size,fun i H x H'=>H'=H∧∃ c,z.cps[i]? =some c∧x= .str ⟨#[c]⟩,fun i _=>z.cps.size≤i⟩
theorem qHw {P:Program}{w:World}{K:PySem.W.Frag}{tg:Expr}(it:Addr)(z:Str)(t:Tok)(ty:String)(hty:ty="str_ascii_iterator"∨ty="str_iterator"):
 qLl P w K tg (Its z) [it] it (fun i h=>h.IsStrIter it ty z t i∧i≤z.cps.size) where
 mem:=by simp
 obj:=fun i h st b hb=>by
  have e:b=it:=by simpa using hb
  subst e
  obtain⟨⟨o,e,c,d⟩,_⟩:=st
  exact⟨o,e,fun v z=>by rw [d] at z;cases z⟩
 keep:=fun i h h' st k=>⟨let ⟨o,ho,r⟩:=st.1;⟨o,k it (by simp) o ho,r⟩,st.2⟩
 item:=by
  intro X hP hw hK hc i pins s σ H E I hf st hg
  subst hP hw hK
  have hi:i < z.cps.size:=hg
  have hx:z.cps[i]? =some z.cps[i]:=by simp [hi]
  obtain⟨f0,f1,f2,f3,f4,f5⟩:=hf it (by simp)
  have fin:∀ h',h'.IsStrIter it ty z t (i+1)→Heap.SameBut it s.heap h'→∃ u,some (Value.str ⟨#[z.cps[i]]⟩ s.toks)=some u∧wpAny (model X.prog X.w) X.A (letOwnedTupleGo tg (.ref it) u) (fun _ s2=>∃ x H',Inv X pins σ H' s2∧RelV x u∧(Its z).yld i H x H'∧(s2.heap.IsStrIter it ty z t (i+1)∧i+1≤z.cps.size)∧∀ b∈[it],H' b=none) E {s with heap:=h',toks:=s.toks+1}:=fun h' st' sb=>by
   have I1:Inv X pins σ H {s with heap:=h',toks:=s.toks+1}:=I.turned (t':=s.toks+1) (fun b o hb e=>(sb.2 b hb).trans e) f0 f1 f3 f4 f5
   obtain⟨o,e,c,d⟩:=id st'
   refine⟨_,rfl,qKh (s:={s with heap:=h',toks:=s.toks+1}) e c d (by rcases hty with rfl | rfl <;> decide) ⟨.str ⟨#[z.cps[i]]⟩,H,I1,⟨_,rfl⟩,⟨rfl,_,hx,rfl⟩,⟨st',hi⟩,fun b hb=>(hf b hb).1⟩⟩
  rcases hty with rfl | rfl
  · exact wpAny_pyNext_ascii_item st.1 hx fin
  · exact wpAny_pyNext_wide_item st.1 hx fin
 done:=by
  intro X hP hw hK hc i pins s σ H E I hf st hg
  subst hP hw hK
  have hi:z.cps.size≤i:=hg
  have hx:z.cps[i]? =none:=by simp [hi]
  obtain⟨f0,f1,f2,f3,f4,f5⟩:=hf it (by simp)
  rcases hty with rfl | rfl
  · exact wpAny_pyNext_ascii_end (I.ok.hd hc) st.1 hx fun h' eb=>⟨rfl,I.turned (t':=s.toks) (fun b o hb e=>eb b o hb e) f0 f1 f3 f4 f5⟩
  · exact wpAny_pyNext_wide_end (I.ok.hd hc) st.1 hx fun h' eb=>⟨rfl,I.turned (t':=s.toks) (fun b o hb e=>eb b o hb e) f0 f1 f3 f4 f5⟩
 self:=fun _ _ _ _ _ st h=>by
  rcases hty with rfl | rfl
  · exact wpAny_pyIter_striter_ascii st.1 h
  · exact wpAny_pyIter_striter_wide st.1 h
def qQt (tl:TE):TI:=fun σ H R=>tl σ H fun x H1=>∃ z,x= .str z∧R (Its z) H1
theorem qNg {tg l:Expr}{tl:TE}(hl:PE X l tl):PI X tg l (qQt tl):=by
 intro pins s σ H R I h
 refine thn (hl pins s σ H _ I h) fun v s1 ⟨x,H1,I1,r1,q1⟩=>?_
 obtain⟨z,e,q⟩:=q1
 subst e
 obtain⟨t,rfl⟩:=r1
 have key:∀ ty:String,(ty="str_ascii_iterator"∨ty="str_iterator")→PIE X pins σ tg R (.ref s1.heap.objs.size) {s1 with heap:=s1.heap.push {cls:=.type ty,data:=.fields #[.str z t,.int 0 0]}}:=fun ty hty=>by
  refine⟨s1.heap.objs.size,[s1.heap.objs.size],_,_,H1,rfl,I1.kept (t':=s1.toks) fun b o e=>Heap.get?_push_of_some _ e,qHw _ z t ty hty,⟨⟨_,Heap.get?_push_size _ rfl,rfl,rfl⟩,Nat.zero_le _⟩,fun b hb=>?_,q⟩
  have e:b=s1.heap.objs.size:=by simpa using hb
  subst e
  exact I1.fpOk (Nat.le_refl _) (I1.hok.fresh (Nat.le_refl _))
 cases ha:z.cps.all (· < 128)
 · exact wpAny_pyIter_wide ha (key _ (.inr rfl))
 · exact wpAny_pyIter_ascii ha (key _ (.inl rfl))
theorem qKf {z:Str}{js:List Nat}{te:TE}{σ:L2.St}{H:Hp}{Q:VK}(Pv:Nat→List V→Hp→Prop)(h0:Pv 0 [] H)(hl:∀ i acc H,i≤z.cps.size→Pv i acc H→acc.length < sizeLine)
 (hs:∀ i c acc H,i < z.cps.size→z.cps[i]? =some c→Pv i acc H→te (some (.str ⟨#[c]⟩)::vT js σ) H fun v H'=>Nxt z.cps.size i (Pv (i+1) (acc++[v]) H')) (hd:∀ acc H,Pv z.cps.size acc H→∀ D,H D=none→Q (.ref D) (upd H D (.lst acc))):CompEnd js te σ Q (Its z) H:=by
 refine⟨fun i m acc H=>m=z.cps.size - i∧i≤z.cps.size∧Pv i acc H,⟨z.cps.size,by simp,Nat.zero_le _,h0⟩,?_⟩
 rintro i m acc H2 ⟨rfl,hi,p⟩
 refine⟨hl i acc H2 hi p,?_⟩
 by_cases hlt:i < z.cps.size
 · refine .inr ⟨hlt,fun x H3 y=>?_⟩
   obtain⟨e,c,hc,rfl⟩:=y
   subst e
   exact hs i c acc _ hlt hc p
 · have e:i=z.cps.size:=by omega
   subst e
   exact .inl ⟨Nat.le_refl _,hd acc H2 p⟩
end
theorem vH {X:Cx}{K:PySem.W.Frag}(h:X.K=K):zg X (.builtin "isinstance") (fun xs H Q=>∃ e D od c b,xs=[.ref e,c]∧H e=some (qFt e (.ref D,od))∧OwnD H od∧ExcK K D∧
 ((∃ n,c= .ty n∧PySem.W.kitOne K (.ref D) (.type n)=some b)∨∃ a,c= .ref a∧PySem.W.kitOne K (.ref D) (.ref a)=some b)∧Q (.bl b) H):=h ▸ qEp
section
variable {X : Cx}
theorem qFw:zg X (.type "dict") (fun xs H Q=>∃ (a:Addr) (kvs:List (Key × V)),xs=[.ref a]∧H a=some (.dK kvs)∧∀ p,H p=none→Q (.ref p) (upd H p (.dK kvs))):=by
 intro pins s σ H xs us Q I r h
 obtain⟨a,kvs,rfl,e,q⟩:=h
 obtain⟨u,rfl,rx⟩:=qC7 r
 cases rx
 exact qGc I (.inl e) fun p s' hp I'=>⟨.ref p,_,I',rfl,q p hp⟩
end
inductive D where
 | leaf (v:V)
 | tup (xs:List D)
 | lst (xs:List D)
mutual
def Rep (K:PySem.W.Frag)(H:Hp):D→V→Prop
 | .leaf v,x=>x=v∧zT v=true
 | .tup ds,x=>∃ p xs,x= .ref p∧SqT K H p xs∧Reps K H ds xs
 | .lst ds,x=>∃ p xs,x= .ref p∧SqL K H p xs∧Reps K H ds xs
def Reps (K:PySem.W.Frag)(H:Hp):List D→List V→Prop
 | [],[]=>True
 | d::ds,x::xs=>Rep K H d x∧Reps K H ds xs
 | _,_=>False
end
mutual
def eqD:D→D→Bool
 | .leaf v,.leaf w=>eqV v w
 | .tup xs,.tup ys=>zp xs ys
 | .lst xs,.lst ys=>zp xs ys
 | _,_=>false
def zp:List D→List D→Bool
 | [],[]=>true
 | x::xs,y::ys=>eqD x y && zp xs ys
 | _,_=>false
end
mutual
def dep:D→Nat
 | .leaf _=>0
 | .tup xs=>wJ xs+1
 | .lst xs=>wJ xs+1
def wJ:List D→Nat
 | []=>0
 | x::xs=>max (dep x) (wJ xs)
end
theorem Reps.length {K:PySem.W.Frag}{H:Hp}:∀ {ds:List D} {xs:List V},Reps K H ds xs→ds.length=xs.length
 | [],[],_=>rfl
 | _::_,_::_,h=>by
  unfold Reps at h
  rw [List.length_cons,List.length_cons,h.2.length]
 | [],_::_,h=>by unfold Reps at h;exact h.elim
 | _::_,[],h=>by unfold Reps at h;exact h.elim
theorem qKq {v:V}(h:zT v=true):eqV v v=true:=by
 cases v <;> simp_all [zT,eqV]
theorem vK:∀ {xs ys:List D},zp xs ys=true→xs.length=ys.length
 | [],[],_=>rfl
 | x::xs,y::ys,h=>by
  unfold zp at h
  rw [Bool.and_eq_true] at h
  rw [List.length_cons,List.length_cons,vK h.2]
 | [],_::_,h=>by simp [zp] at h
 | _::_,[],h=>by simp [zp] at h
def itE (xs ys:List D)(j:Nat):Bool:=match xs[j]?,ys[j]? with
 | some a,some b=>eqD a b
 | _,_=>false
theorem qDg:∀ (xs ys:List D),((List.range (min xs.length ys.length)).all (itE xs ys) && xs.length == ys.length)=zp xs ys
 | [],[]=>by simp [zp]
 | [],y::ys=>by simp [zp]
 | x::xs,[]=>by simp [zp]
 | x::xs,y::ys=>by
  have ih:=qDg xs ys
  have e:min (x::xs).length (y::ys).length=min xs.length ys.length+1:=by simp only [List.length_cons];omega
  rw [e,List.range_succ_eq_map,List.all_cons,List.all_map]
  have e2:(itE (x::xs) (y::ys)) ∘ Nat.succ=itE xs ys:=by
   funext j
   simp [itE]
  have e3:itE (x::xs) (y::ys) 0=eqD x y:=by simp [itE]
  have e4:((x::xs).length == (y::ys).length)=(xs.length == ys.length):=by
   rw [Bool.eq_iff_iff];simp
  rw [e2,e3,e4,Bool.and_assoc,ih]
  conv=>rhs;unfold zp
theorem qFr {xs ys:List D}(h:xs.length=ys.length):(List.range xs.length).all (itE xs ys)=zp xs ys:=by
 have:=qDg xs ys
 rw [← h,Nat.min_self] at this
 simpa using this
section
variable {X : Cx} {pins : List (Addr × Obj)} {σ : L2.St} {H : Hp} {s : Shared}
mutual
theorem qBw (I:Inv X pins σ H s):∀ (d e:D) {x:V},Rep X.K H d x→Rep X.K H e x→eqD d e=true
 | .leaf v,.leaf w,x,h1,h2=>by
  unfold Rep at h1 h2
  obtain⟨rfl,f⟩:=h1
  obtain⟨rfl,_⟩:=h2
  unfold eqD
  exact qKq f
 | .leaf v,.tup ds,x,h1,h2=>by
  unfold Rep at h1 h2
  obtain⟨rfl,f⟩:=h1
  obtain⟨p,xs,rfl,_⟩:=h2
  cases f
 | .leaf v,.lst ds,x,h1,h2=>by
  unfold Rep at h1 h2
  obtain⟨rfl,f⟩:=h1
  obtain⟨p,xs,rfl,_⟩:=h2
  cases f
 | .tup ds,.leaf w,x,h1,h2=>by
  unfold Rep at h1 h2
  obtain⟨rfl,f⟩:=h2
  obtain⟨p,xs,rfl,_⟩:=h1
  cases f
 | .lst ds,.leaf w,x,h1,h2=>by
  unfold Rep at h1 h2
  obtain⟨rfl,f⟩:=h2
  obtain⟨p,xs,rfl,_⟩:=h1
  cases f
 | .tup ds,.tup es,x,h1,h2=>by
  unfold Rep at h1 h2
  obtain⟨p,xs,rfl,t1,r1⟩:=h1
  obtain⟨q,ys,e,t2,r2⟩:=h2
  cases e
  rw [I.tuple_inj t1 t2] at r1
  unfold eqD
  exact wn I ds es r1 r2
 | .lst ds,.lst es,x,h1,h2=>by
  unfold Rep at h1 h2
  obtain⟨p,xs,rfl,t1,r1⟩:=h1
  obtain⟨q,ys,e,t2,r2⟩:=h2
  cases e
  rw [I.list_inj t1 t2] at r1
  unfold eqD
  exact wn I ds es r1 r2
 | .tup ds,.lst es,x,h1,h2=>by
  unfold Rep at h1 h2
  obtain⟨p,xs,rfl,t1,r1⟩:=h1
  obtain⟨q,ys,e,t2,r2⟩:=h2
  cases e
  obtain⟨_,_,i1,_⟩:=I.tuple t1
  obtain⟨_,_,i2,_⟩:=I.list t2
  exact(SeqAt.ne_of_list_tuple i2.isList i1 rfl).elim
 | .lst ds,.tup es,x,h1,h2=>by
  unfold Rep at h1 h2
  obtain⟨p,xs,rfl,t1,r1⟩:=h1
  obtain⟨q,ys,e,t2,r2⟩:=h2
  cases e
  obtain⟨_,_,i1,_⟩:=I.list t1
  obtain⟨_,_,i2,_⟩:=I.tuple t2
  exact(SeqAt.ne_of_list_tuple i1.isList i2 rfl).elim
theorem wn (I:Inv X pins σ H s):∀ (ds es:List D) {xs:List V},Reps X.K H ds xs→Reps X.K H es xs→zp ds es=true
 | [],[],_,_,_=>by simp [zp]
 | d::ds,e::es,[],h1,_=>by unfold Reps at h1;exact h1.elim
 | d::ds,e::es,x::xs,h1,h2=>by
  unfold Reps at h1 h2
  unfold zp
  rw [qBw I d e h1.1 h2.1,wn I ds es h1.2 h2.2]
  rfl
 | [],e::es,[],_,h2=>by unfold Reps at h2;exact h2.elim
 | [],e::es,_::_,h1,_=>by unfold Reps at h1;exact h1.elim
 | d::ds,[],[],h1,_=>by unfold Reps at h1;exact h1.elim
 | d::ds,[],_::_,_,h2=>by unfold Reps at h2;exact h2.elim
end
theorem kJ {A:Around}{x:V}{u:Value}{p:Addr}{its:Array Value}(f:zT x=true)(r:RelV x u)(hu:A.units < cLine)(h:s.heap.IsTuple p its∨s.heap.IsList p its):SeqAt.EqAt A s u (.ref p) false∧SeqAt.EqAt A s (.ref p) u false:=by
 cases x with
 | non=>cases r;rcases h with h | h <;> exact⟨by first | exact SeqAt.EqAt.none_tuple h hu | exact SeqAt.EqAt.none_list h hu,by first | exact SeqAt.EqAt.tuple_none h hu | exact SeqAt.EqAt.list_none h hu⟩
 | bl b=>cases r;rcases h with h | h <;> exact⟨by first | exact SeqAt.EqAt.bool_tuple _ h hu | exact SeqAt.EqAt.bool_list _ h hu,by first | exact SeqAt.EqAt.tuple_bool _ h hu | exact SeqAt.EqAt.list_bool _ h hu⟩
 | int i=>obtain⟨t,rfl⟩:=r;rcases h with h | h <;> exact⟨by first | exact SeqAt.EqAt.int_tuple _ _ h hu | exact SeqAt.EqAt.int_list _ _ h hu,by first | exact SeqAt.EqAt.tuple_int _ _ h hu | exact SeqAt.EqAt.list_int _ _ h hu⟩
 | str i=>obtain⟨t,rfl⟩:=r;rcases h with h | h <;> exact⟨by first | exact SeqAt.EqAt.str_tuple _ _ h hu | exact SeqAt.EqAt.str_list _ _ h hu,by first | exact SeqAt.EqAt.tuple_str _ _ h hu | exact SeqAt.EqAt.list_str _ _ h hu⟩
 | _=>cases f
theorem Reps.get {K:PySem.W.Frag}{H:Hp}:∀ {ds:List D} {xs:List V},Reps K H ds xs→∀ (j:Nat) (d:D),ds[j]? =some d→∃ x,xs[j]? =some x∧Rep K H d x
 | [],[],_,j,d,e=>by simp at e
 | a::ds,x::xs,h,0,d,e=>by
  unfold Reps at h
  have:a=d:=by simpa using e
  subst this
  exact⟨x,rfl,h.1⟩
 | a::ds,x::xs,h,j+1,d,e=>by
  unfold Reps at h
  exact h.2.get j d (by simpa using e)
 | [],_::_,h,_,_,_=>by unfold Reps at h;exact h.elim
 | _::_,[],h,_,_,_=>by unfold Reps at h;exact h.elim
theorem qB6:∀ {ds:List D} {j:Nat} {d:D},ds[j]? =some d→dep d≤wJ ds
 | a::ds,0,d,e=>by
  have:a=d:=by simpa using e
  subst this
  unfold wJ
  exact Nat.le_max_left _ _
 | a::ds,j+1,d,e=>by
  have:=qB6 (ds:=ds) (j:=j) (d:=d) (by simpa using e)
  unfold wJ
  exact Nat.le_trans this (Nat.le_max_right _ _)
 | [],_,_,e=>by simp at e
theorem qHq {A:Around}{ds es:List D}{xs ys:List V}{us ws:List Value}(r1:Reps X.K H ds xs)(r2:Reps X.K H es ys)(v1:Vals xs us)(v2:Vals ys ws)
 (ih:∀ d e x y u w,d∈ds→Rep X.K H d x→Rep X.K H e y→RelV x u→RelV y w→SeqAt.EqAt A s u w (eqD d e)):
 ∀ j (h1:j < us.toArray.size) (h2:j < ws.toArray.size),SeqAt.EqAt A s us.toArray[j] ws.toArray[j] (itE ds es j):=by
 intro j h1 h2
 have l1:=v1.length
 have l2:=v2.length
 have m1:=r1.length
 have m2:=r2.length
 rw [List.size_toArray] at h1 h2
 have g1:ds[j]? =some ds[j]:=List.getElem?_eq_getElem (by omega)
 have g2:es[j]? =some es[j]:=List.getElem?_eq_getElem (by omega)
 obtain⟨x,ex,rx⟩:=r1.get j _ g1
 obtain⟨y,ey,ry⟩:=r2.get j _ g2
 obtain⟨u,eu,qu⟩:=v1.get ex
 obtain⟨w,ew,qw⟩:=v2.get ey
 have c1:us.toArray[j]=u:=by
  have:=(List.getElem?_eq_some_iff.mp eu).2
  simpa using this
 have c2:ws.toArray[j]=w:=by
  have:=(List.getElem?_eq_some_iff.mp ew).2
  simpa using this
 have e:itE ds es j=eqD ds[j] es[j]:=by unfold itE;rw [g1,g2]
 rw [c1,c2,e]
 exact ih _ _ _ _ _ _ (List.getElem_mem _) rx ry qu qw
theorem qKz (I:Inv X pins σ H s):∀ (n:Nat) (A:Around) (d e:D) (x y:V) (u w:Value),dep d≤n→A.units+n < cLine→Rep X.K H d x→Rep X.K H e y→RelV x u→RelV y w→SeqAt.EqAt A s u w (eqD d e):=by
 intro n
 induction n with
 | zero=>
  intro A d e x y u w hd hu r1 r2 q1 q2
  cases d with
  | leaf v=>
   unfold Rep at r1
   obtain⟨rfl,f1⟩:=r1
   cases e with
   | leaf v'=>
    unfold Rep at r2
    obtain⟨rfl,f2⟩:=r2
    unfold eqD
    exact qGf q1 q2 f1 f2
   | tup es=>
    unfold Rep at r2
    obtain⟨p,ys,rfl,t,_⟩:=r2
    cases q2
    obtain⟨_,_,i,_⟩:=I.tuple t
    unfold eqD
    exact(kJ f1 q1 hu (.inl i)).1
   | lst es=>
    unfold Rep at r2
    obtain⟨p,ys,rfl,t,_⟩:=r2
    cases q2
    obtain⟨_,_,i,_⟩:=I.list t
    unfold eqD
    exact(kJ f1 q1 hu (.inr i.isList)).1
  | tup ds=>unfold dep at hd;omega
  | lst ds=>unfold dep at hd;omega
 | succ n ih=>
  intro A d e x y u w hd hu r1 r2 q1 q2
  have hu0:A.units < cLine:=by omega
  have hu1:A.in1.units+n < cLine:=by show A.units+1+n < cLine;omega
  cases d with
  | leaf v=>
   unfold Rep at r1
   obtain⟨rfl,f1⟩:=r1
   cases e with
   | leaf v'=>
    unfold Rep at r2
    obtain⟨rfl,f2⟩:=r2
    unfold eqD
    exact qGf q1 q2 f1 f2
   | tup es=>
    unfold Rep at r2
    obtain⟨p,ys,rfl,t,_⟩:=r2
    cases q2
    obtain⟨_,_,i,_⟩:=I.tuple t
    unfold eqD
    exact(kJ f1 q1 hu0 (.inl i)).1
   | lst es=>
    unfold Rep at r2
    obtain⟨p,ys,rfl,t,_⟩:=r2
    cases q2
    obtain⟨_,_,i,_⟩:=I.list t
    unfold eqD
    exact(kJ f1 q1 hu0 (.inr i.isList)).1
  | tup ds=>
   have r1':=r1
   unfold Rep at r1
   obtain⟨p,xs,rfl,t1,s1⟩:=r1
   cases q1
   obtain⟨us,v1,i1,_⟩:=I.tuple t1
   cases e with
   | leaf v'=>
    unfold Rep at r2
    obtain⟨rfl,f2⟩:=r2
    unfold eqD
    exact(kJ f2 q2 hu0 (.inl i1)).2
   | lst es=>
    unfold Rep at r2
    obtain⟨q,ys,rfl,t2,_⟩:=r2
    cases q2
    obtain⟨_,_,i2,_⟩:=I.list t2
    unfold eqD
    exact SeqAt.EqAt.tuple_list i1 i2.isList hu0
   | tup es=>
    have r2':=r2
    unfold Rep at r2
    obtain⟨q,ys,rfl,t2,s2⟩:=r2
    cases q2
    by_cases pq:p=q
    · subst pq
      rw [qBw I _ _ r1' r2']
      exact SeqAt.EqAt.same _
    obtain⟨ws,v2,i2,_⟩:=I.tuple t2
    have hdd:wJ ds≤n:=by unfold dep at hd;omega
    have:=SeqAt.EqAt.of_refs pq (SeqAt.RcAt.tuples i1 i2 hu0 (qHq s1 s2 v1 v2 fun d e x y u w hm ra rb qa qb=>by
     obtain⟨j,hj,ej⟩:=List.mem_iff_getElem.mp hm
     have hde:dep d≤wJ ds:=qB6 (j:=j) (by rw [List.getElem?_eq_getElem hj,ej])
     exact ih A.in1 d e x y u w (by omega) hu1 ra rb qa qb))
    rw [List.size_toArray,List.size_toArray,← v1.length,← v2.length,← s1.length,← s2.length,qDg] at this
    unfold eqD
    exact this
  | lst ds=>
   have r1':=r1
   unfold Rep at r1
   obtain⟨p,xs,rfl,t1,s1⟩:=r1
   cases q1
   obtain⟨us,v1,i1,_⟩:=I.list t1
   cases e with
   | leaf v'=>
    unfold Rep at r2
    obtain⟨rfl,f2⟩:=r2
    unfold eqD
    exact(kJ f2 q2 hu0 (.inr i1.isList)).2
   | tup es=>
    unfold Rep at r2
    obtain⟨q,ys,rfl,t2,_⟩:=r2
    cases q2
    obtain⟨_,_,i2,_⟩:=I.tuple t2
    unfold eqD
    exact SeqAt.EqAt.list_tuple i1.isList i2 hu0
   | lst es=>
    have r2':=r2
    unfold Rep at r2
    obtain⟨q,ys,rfl,t2,s2⟩:=r2
    cases q2
    by_cases pq:p=q
    · subst pq
      rw [qBw I _ _ r1' r2']
      exact SeqAt.EqAt.same _
    obtain⟨ws,v2,i2,_⟩:=I.list t2
    have hdd:wJ ds≤n:=by unfold dep at hd;omega
    unfold eqD
    by_cases hl:ds.length=es.length
    · have hsz:us.toArray.size=ws.toArray.size:=by rw [List.size_toArray,List.size_toArray,← v1.length,← v2.length,← s1.length,← s2.length];exact hl
      have:=SeqAt.EqAt.of_refs pq (SeqAt.RcAt.lists i1.isList i2.isList hsz hu0 (qHq s1 s2 v1 v2 fun d e x y u w hm ra rb qa qb=>by
       obtain⟨j,hj,ej⟩:=List.mem_iff_getElem.mp hm
       have hde:dep d≤wJ ds:=qB6 (j:=j) (by rw [List.getElem?_eq_getElem hj,ej])
       exact ih A.in1 d e x y u w (by omega) hu1 ra rb qa qb))
      rw [List.size_toArray,← v1.length,← s1.length,qFr hl] at this
      exact this
    · have hsz:(us.toArray.size != ws.toArray.size)=true:=by
       rw [List.size_toArray,List.size_toArray,← v1.length,← v2.length,← s1.length,← s2.length]
       simpa using hl
      have e:zp ds es=false:=by
       rw [Bool.eq_false_iff]
       intro z
       exact hl (vK z)
      rw [e]
      exact SeqAt.EqAt.of_refs pq (SeqAt.RcAt.lists_lengths i1.isList i2.isList hsz hu0)
def kin:D→D→Bool
 | .tup _,.tup _=>true
 | .lst _,.lst _=>true
 | _,_=>false
inductive qMi (K:PySem.W.Frag)(neg:Bool)(x:V)(y:V)(H:Hp)(Q:VK):Prop
| mk (d e:D) (_:Rep K H d x) (_:Rep K H e y) (_:kin d e=true) (_:dep d≤60) (_:Q (.bl (if neg then !eqD d e else eqD d e)) H)
theorem kI {A:Around}(I:Inv X pins σ H s)(hu:A.units+64 < cLine){ds es:List D}{xs ys:List V}{us ws:List Value}(hd:wJ ds≤60)(s1:Reps X.K H ds xs)(s2:Reps X.K H es ys)(v1:Vals xs us)(v2:Vals ys ws):
 ∀ j (h1:j < us.toArray.size) (h2:j < ws.toArray.size),SeqAt.EqAt A.in1 s us.toArray[j] ws.toArray[j] (itE ds es j):=
 qHq s1 s2 v1 v2 fun d e x y u w hm ra rb qa qb=>by
  obtain⟨j,hj,ej⟩:=List.mem_iff_getElem.mp hm
  have hde:dep d≤wJ ds:=qB6 (j:=j) (by rw [List.getElem?_eq_getElem hj,ej])
  exact qKz I 60 A.in1 d e x y u w (by omega) (by show A.units+1+60 < cLine;omega) ra rb qa qb
theorem qM4 (hu:X.A.units+64 < cLine):OpR X (compareOp .Eq) (qMi X.K false):=by
 intro pins s σ H x y v u Q I rx ry h
 obtain⟨d,e,r1,r2,hk,hd,q⟩:=h
 have hu0:X.A.units < cLine:=by omega
 cases d with
 | leaf a=>cases e <;> cases hk
 | tup ds=>
  cases e with
  | leaf b=>cases hk
  | lst es=>cases hk
  | tup es=>
   unfold Rep at r1 r2
   obtain⟨p,xs,rfl,t1,s1⟩:=r1
   obtain⟨p',ys,rfl,t2,s2⟩:=r2
   cases rx;cases ry
   obtain⟨us,v1,i1,_⟩:=I.tuple t1
   obtain⟨ws,v2,i2,_⟩:=I.tuple t2
   refine SeqAt.eq_tupleAt i1 i2 hu0 (kI I hu (by unfold dep at hd;omega) s1 s2 v1 v2) ?_
   rw [List.size_toArray,List.size_toArray,← v1.length,← v2.length,← s1.length,← s2.length,qDg]
   refine⟨.bl _,H,I,rfl,?_⟩
   unfold eqD at q
   exact q
 | lst ds=>
  cases e with
  | leaf b=>cases hk
  | tup es=>cases hk
  | lst es=>
   unfold Rep at r1 r2
   obtain⟨p,xs,rfl,t1,s1⟩:=r1
   obtain⟨p',ys,rfl,t2,s2⟩:=r2
   cases rx;cases ry
   obtain⟨us,v1,i1,_⟩:=I.list t1
   obtain⟨ws,v2,i2,_⟩:=I.list t2
   unfold eqD at q
   by_cases hl:ds.length=es.length
   · have hsz:us.toArray.size=ws.toArray.size:=by rw [List.size_toArray,List.size_toArray,← v1.length,← v2.length,← s1.length,← s2.length];exact hl
     refine SeqAt.eq_listAt i1.isList i2.isList hsz hu0 (kI I hu (by unfold dep at hd;omega) s1 s2 v1 v2) ?_
     rw [List.size_toArray,← v1.length,← s1.length,qFr hl]
     exact⟨.bl _,H,I,rfl,q⟩
   · have hsz:(us.toArray.size != ws.toArray.size)=true:=by
      rw [List.size_toArray,List.size_toArray,← v1.length,← v2.length,← s1.length,← s2.length]
      simpa using hl
     have e:zp ds es=false:=by
      rw [Bool.eq_false_iff]
      intro z
      exact hl (vK z)
     rw [e] at q
     exact SeqAt.eq_list_lengthsAt i1.isList i2.isList hsz hu0 ⟨.bl _,H,I,rfl,q⟩
theorem qK0 (hu:X.A.units+64 < cLine):OpR X (compareOp .NotEq) (qMi X.K true):=by
 intro pins s σ H x y v u Q I rx ry h
 obtain⟨d,e,r1,r2,hk,hd,q⟩:=h
 have hu0:X.A.units < cLine:=by omega
 cases d with
 | leaf a=>cases e <;> cases hk
 | tup ds=>
  cases e with
  | leaf b=>cases hk
  | lst es=>cases hk
  | tup es=>
   unfold Rep at r1 r2
   obtain⟨p,xs,rfl,t1,s1⟩:=r1
   obtain⟨p',ys,rfl,t2,s2⟩:=r2
   cases rx;cases ry
   obtain⟨us,v1,i1,_⟩:=I.tuple t1
   obtain⟨ws,v2,i2,_⟩:=I.tuple t2
   refine SeqAt.RcNeAt.tuples i1 i2 hu0 (kI I hu (by unfold dep at hd;omega) s1 s2 v1 v2) _ _ _ _ ?_
   rw [List.size_toArray,List.size_toArray,← v1.length,← v2.length,← s1.length,← s2.length,qDg]
   refine⟨.bl _,H,I,rfl,?_⟩
   unfold eqD at q
   exact q
 | lst ds=>
  cases e with
  | leaf b=>cases hk
  | tup es=>cases hk
  | lst es=>
   unfold Rep at r1 r2
   obtain⟨p,xs,rfl,t1,s1⟩:=r1
   obtain⟨p',ys,rfl,t2,s2⟩:=r2
   cases rx;cases ry
   obtain⟨us,v1,i1,_⟩:=I.list t1
   obtain⟨ws,v2,i2,_⟩:=I.list t2
   unfold eqD at q
   by_cases hl:ds.length=es.length
   · have hsz:us.toArray.size=ws.toArray.size:=by rw [List.size_toArray,List.size_toArray,← v1.length,← v2.length,← s1.length,← s2.length];exact hl
     refine SeqAt.RcNeAt.lists i1.isList i2.isList hsz hu0 (kI I hu (by unfold dep at hd;omega) s1 s2 v1 v2) _ _ _ _ ?_
     rw [List.size_toArray,← v1.length,← s1.length,qFr hl]
     exact⟨.bl _,H,I,rfl,q⟩
   · have hsz:(us.toArray.size != ws.toArray.size)=true:=by
      rw [List.size_toArray,List.size_toArray,← v1.length,← v2.length,← s1.length,← s2.length]
      simpa using hl
     have e:zp ds es=false:=by
      rw [Bool.eq_false_iff]
      intro z
      exact hl (vK z)
     rw [e] at q
     exact SeqAt.RcNeAt.lists_lengths i1.isList i2.isList hsz hu0 _ _ _ _ ⟨.bl _,H,I,rfl,q⟩
end
end L3
namespace L3
open PySem PySem.Spec PyProof.Rows L2
def CompEndF (js:List Nat)(tc:TT)(te:TE)(σ:L2.St)(Q:VK)(J:It)(H1:Hp):Prop:=∃ W:Nat→Nat→List V→Hp→Prop,(∃ m,W 0 m [] H1)∧∀ i m acc H2,W i m acc H2→
 acc.length < sizeLine∧((J.stop i H2∧∀ D,H2 D=none→Q (.ref D) (upd H2 D (.lst acc)))∨
  (J.go i H2∧∀ x H3,J.yld i H2 x H3→tc (some x::vT js σ) H3 fun ok H4=>if ok=true then te (some x::vT js σ) H4 fun v H5=>∃ m',m' < m∧W (i+1) m' (acc++[v]) H5 else ∃ m',m' < m∧W (i+1) m' acc H4))
def qK3 (js:List Nat)(wi:TI)(tc:TT)(te:TE):TE:=fun σ H Q=>wi σ H (CompEndF js tc te σ Q)
theorem CompEndF.g {js:List Nat}{tc:TT}{te:TE}(σ:L2.St)(Q:VK)(J:It)(H1:Hp):CompEndF js tc te σ Q J H1→kE 1 js (zw 0) tc te σ Q J H1:=fun⟨W,w0,st⟩=>
 ⟨W,w0,fun i m acc H2 w=>⟨(st i m acc H2 w).1,(st i m acc H2 w).2.imp id fun⟨go,y⟩=>⟨go,fun x H3 z=>⟨[some x],rfl,rfl,y x H3 z⟩⟩⟩⟩
theorem qKi {X:Cx}{elt iter cnd:Expr}{x:Str}{px:Pos}{scope:Scope}{cl:List (Str × Addr)}{pos:Pos}{wi:TI}{tc:TT}{te:TE}(ys:List Str)(js:List Nat)
 (hcm:X.calm=true) (hi:PI X (.Name x px) iter wi) (hc:∀ C s H fp,PT (jB X scope cl C (x::ys) s H fp).nox cnd tc) (he:∀ C s H fp,PE (jB X scope cl C (x::ys) s H fp).nox elt te) (hx:scope.names.lookup x=some .local:=by rfl) (hC:COk X scope cl iter [x] ys js:=by exact⟨rfl,rfl,rfl,rfl,rfl,rfl,rfl,rfl,fun _=>rfl,by decide⟩):PE X (.ListComp elt [⟨.Name x px,iter,[cnd],0⟩] scope pos) (qK3 js wi tc te):=
 qF8 (xs:=[x]) (T:=CompEndF js tc te) hcm hi (fun _ _ _ _=>qq (i:=0) hC.nd rfl (.inl (lookup_relabel_local hx)) (.inr (lookup_relabel_local hx))) (fun C s H fp=>qE7 (hc C s H fp)) he hC CompEndF.g
theorem qJx {X:Cx}{elt iter cnd:Expr}{x:Str}{px:Pos}{scope:Scope}{cl:List (Str × Addr)}{pos:Pos}{wi:TI}{tc:TT}{te:TE}(ys:List Str)(js:List Nat){i:Nat}{y:Str}{py spos:Pos}(hN:X.N.Nodup)(hi':X.N[i]? =some y)(hy:X.env.kindOf y=some .local)
 (hcm:X.calm=true) (hi:PI X (.Name x px) iter wi) (hc:∀ C s H fp,PT (jB X scope cl C (x::ys) s H fp).nox cnd tc) (he:∀ C s H fp,PE (jB X scope cl C (x::ys) s H fp).nox elt te) (hx:scope.names.lookup x=some .local:=by rfl) (hC:COk X scope cl iter [x] ys js:=by exact⟨rfl,rfl,rfl,rfl,rfl,rfl,rfl,rfl,fun _=>rfl,by decide⟩) (hsw:swapsWith (.ListComp elt [⟨.Name x px,iter,[cnd],0⟩] scope pos) (some (.Name y py)) spos.line X.env=pure true:=by rfl):PS X (.Assign [.Name y py] (.ListComp elt [⟨.Name x px,iter,[cnd],0⟩] scope pos) spos) (qMk (qK3 js wi tc te) (zw i)):=
 qGo (xs:=[x]) (T:=CompEndF js tc te) hN hi' hy hcm hi (fun _ _ _ _=>qq (i:=0) hC.nd rfl (.inl (lookup_relabel_local hx)) (.inr (lookup_relabel_local hx))) (fun C s H fp=>qE7 (hc C s H fp)) he hC CompEndF.g hsw
theorem qG1 {K:PySem.W.Frag}{a:Addr}{xs:List V}{js:List Nat}{tc:TT}{te:TE}{σ:L2.St}{H:Hp}{Q:VK}(Pv:Nat→List V→Hp→Prop)(h0:Pv 0 [] H)(hl:∀ i acc H,i≤xs.length→Pv i acc H→SqL K H a xs∧acc.length < sizeLine)
 (hs:∀ i x acc H,i < xs.length→xs[i]? =some x→Pv i acc H→tc (some x::vT js σ) H fun ok H'=>if ok=true then te (some x::vT js σ) H' fun v H''=>Nxt xs.length i (Pv (i+1) (acc++[v]) H'') else Nxt xs.length i (Pv (i+1) acc H')) (hd:∀ acc H,Pv xs.length acc H→∀ D,H D=none→Q (.ref D) (upd H D (.lst acc))):CompEndF js tc te σ Q (Itl K a) H:=by
 refine⟨fun i m acc H=>m=xs.length - i∧i≤xs.length∧Pv i acc H,⟨xs.length,by simp,Nat.zero_le _,h0⟩,?_⟩
 rintro i m acc H2 ⟨rfl,hi,p⟩
 obtain⟨q,hz⟩:=hl i acc H2 hi p
 refine⟨hz,?_⟩
 by_cases hlt:i < xs.length
 · refine .inr ⟨⟨xs,xs[i],q,by simp [hlt]⟩,fun x H3 y=>?_⟩
   obtain⟨e,y⟩:=y
   subst e
   exact hs i x acc _ hlt (y xs q) p
 · have e:i=xs.length:=by omega
   subst e
   exact .inl ⟨⟨xs,q,Nat.le_refl _⟩,hd acc H2 p⟩
theorem qJf (n:Nat):sliceRange (sliceBounds none none (some (-1)) n).1 (sliceBounds none none (some (-1)) n).2.1 (sliceBounds none none (some (-1)) n).2.2=(List.range n).map fun k=>n - 1 - k:=by
 have e1:(sliceBounds none none (some (-1)) n).1=(n:Int) - 1:=by simp [sliceBounds]
 have e2:(sliceBounds none none (some (-1)) n).2.1= -1:=by simp [sliceBounds]
 have e3:(sliceBounds none none (some (-1)) n).2.2= -1:=by simp [sliceBounds]
 rw [e1,e2,e3]
 unfold sliceRange
 have h0:¬ ((-1:Int) > 0):=by decide
 have hc:(if (-1:Int) > 0 then (if (n:Int) - 1 < -1 then (-1 - ((n:Int) - 1)+ -1 - 1) / -1 else 0) else (if (n:Int) - 1 > -1 then ((n:Int) - 1 - -1 - -1 - 1) / (- -1) else 0)).toNat=n:=by
  rw [if_neg h0]
  by_cases hn:(n:Int) - 1 > -1
  · rw [if_pos hn]
    have e:(- -1:Int)=1:=by decide
    rw [e,Int.ediv_one]
    omega
  · rw [if_neg hn]
    omega
 simp only [] at hc ⊢
 rw [hc]
 refine List.map_congr_left fun k hk=>?_
 have:=List.mem_range.mp hk
 omega
theorem qJu (its:List Value):slicePick its.toArray none none (some (-1))=its.reverse.toArray:=by
 unfold slicePick
 rw [qJf]
 congr 1
 rw [List.filterMap_map]
 apply List.ext_getElem?
 intro j
 have key:∀ n,n≤its.length→(List.range n).filterMap ((fun x=>its.toArray[x]?) ∘ fun k=>its.toArray.size - 1 - k)=its.reverse.take n:=by
  intro n
  induction n with
  | zero=>intro _;simp
  | succ n ih=>
   intro hn
   rw [List.range_succ,List.filterMap_append,ih (by omega),List.take_add_one]
   have hi:its.length - 1 - n < its.length:=by omega
   have e:its.reverse[n]? =some its[its.length - 1 - n]:=by
    rw [List.getElem?_reverse (by omega),List.getElem?_eq_getElem hi]
   rw [e]
   simp [hi]
 rw [List.size_toArray] at key ⊢
 rw [key its.length (Nat.le_refl _),List.take_of_length_le (by simp)]
theorem Vals.rev {xs:List V}{us:List Value}(r:Vals xs us):Vals xs.reverse us.reverse:=by
 induction r with
 | nil=>exact .nil
 | cons h t ih=>
  rw [List.reverse_cons,List.reverse_cons]
  exact ih.append (.cons h .nil)
inductive qOy (K:PySem.W.Frag)(Q:VK)(x:V)(H1:Hp):Prop
| mk a xs (_:x= .ref a) (_:SqL K H1 a xs) (_:∀ p,H1 p=none→Q (.ref p) (upd H1 p (.lst xs.reverse)))
def qQv (K:PySem.W.Frag)(te:TE):TE:=fun σ H Q=>te σ H fun x H1=>qOy K Q x H1
theorem qNb {X:Cx}{e:Expr}{te:TE}{j:Nat}{pc pu p2 pos:Pos}(he:PE X e te):PE X (.Subscript e (.Slice none none (some (.UnaryOp .USub (.Constant (.int 1) j pc) pu)) p2) pos) (qQv X.K te):=by
 intro pins s σ H Q I h
 refine Subscript_ (thn (he pins s σ H _ I h) fun v s1 ⟨x,H1,I1,r1,q1⟩=>?_)
 obtain⟨a,xs,rfl,hx,q⟩:=q1
 cases r1
 refine wpAny_Slice ?_
 rw [evalPart_none]
 refine wpAny_pure (wpAny_pure ?_)
 have po:=(qLg (X:=X) (wP (X:=X) (pos:=pu) zO (qE (X:=X) (i:=1) (j:=j) (pos:=pc)))) pins s1 σ H1 (fun i H2=>i=some (-1)∧H2=H1) I1 ⟨1,rfl,-1,rfl,rfl,rfl⟩
 refine thn po fun vs s3 h3=>?_
 obtain⟨st,H3,I3,ps,rfl,rfl⟩:=h3
 have I4:Inv X pins σ H3 {s3 with heap:=s3.heap.push {cls:=.type "slice",data:=.fields #[.none,.none,vs]}}:=I3.kept (t':=s3.toks) fun b ob q=>Heap.get?_push_of_some _ q
 obtain⟨its,r,ht,hz⟩:=I4.list hx
 have hlen:=r.length
 show wpAny (model X.prog X.w) X.A (subscriptTail e (.Slice none none (some (.UnaryOp .USub (.Constant (.int 1) j pc) pu)) p2) (.ref a) (.ref s3.heap.objs.size)) (EP X pins σ Q) X.xe {s3 with heap:=s3.heap.push {cls:=.type "slice",data:=.fields #[.none,.none,vs]}}
 refine tail_any (ops:=[.ref a,.ref s3.heap.objs.size]) ht.isList.typeIs slot_list_getitem.lookup ?_ (by with_unfolding_all rfl)
 refine wpAny_getItem_list_slice ht.isList (Heap.IsSliceOf.new ..) .none .none ps (by simp) ?_ (by rw [List.size_toArray] <;> omega)
 rw [qJu]
 refine⟨.ref _,_,I4.laid (t':=s3.toks) (o:=.lst xs.reverse) (fun b ob q=>Heap.get?_push_of_some _ q) (Nat.le_refl _) ?_,rfl,q _ (I4.hok.fresh (Nat.le_refl _))⟩
 exact⟨by rw [List.length_reverse];exact hz,_,0,L3.Vals.rev r,Heap.get?_push_size _ rfl⟩
theorem qLu {X:Cx}{pins:List (Addr × Obj)}{σ:L2.St}{H:Hp}{s:Shared}{h':Heap}{t':Nat}{ch:List Addr}(I:Inv X pins σ H s)(hf:∀ b∈ch,qKn X pins H b)
 (k:∀ b o,b ∉ ch→s.heap.get? b=some o→h'.get? b=some o):Inv X pins σ H {s with heap:=h',toks:=t'}:=by
 have nit:∀ b u,H b=some u→b ∉ ch:=fun b u e z=>by rw [(hf b z).1] at e;cases e
 refine I.step (g':=s.gens) (d':=s.drawn) (ch:=ch) (fun b hb=>?_) (fun b o _ _ hc e _=>k b o hc e) (fun b o _ _ hc e _=>⟨o.slots,k b o hc e⟩) (fun _ _ _ _ n=>n)
  (fun b o hc e=>⟨o,k b o hc e⟩) (fun _ _ e=>e) (fun _ _ _ e=>e) (fun b ps e=>⟨#[],by rw [e];simp⟩) (fun m hm=>?_) (fun b u e=>?_) I.bare
 · obtain⟨_,f1,_,f3,f4,f5⟩:=hf b hb
   exact⟨f3,f1,f4,f5⟩
 · obtain⟨o,es,ep,ho,r⟩:=hm
   exact⟨o,es,ep,k _ o (fun z=>(hf _ z).2.1 rfl) ho,r⟩
 · refine(I.hok b u e).stay (fun c v hc q=>k c v ?_ q) (fun _ q=>q) fun _ _ q=>q
   rcases hc with z | z
   · rw [z];exact nit b u e
   · exact nit c _ z
theorem qKy {X:Cx}{pins:List (Addr × Obj)}{σ:L2.St}{H:Hp}{s:Shared}{h':Heap}{t':Nat}{ch:List Addr}{xs:List V}{us:Array Value}(I:Inv X pins σ H s)(hf:∀ b∈ch,qKn X pins H b)(hlt:∀ b∈ch,b < s.heap.objs.size)
 (k:∀ b o,b ∉ ch→s.heap.get? b=some o→h'.get? b=some o) (hT:h'.get? s.heap.objs.size=some {cls:=.type "tuple",data:=.seq us}) (r:Vals xs us.toList) (hz:xs.length≤sizeLine):
 Inv X pins σ (upd H s.heap.objs.size (.tup xs)) {s with heap:=h',toks:=t'}∧∀ b∈ch,upd H s.heap.objs.size (.tup xs) b=none:=by
 have hn:∀ b∈ch,upd H s.heap.objs.size (.tup xs) b=none:=fun b hb=>by
  rw [qZ (Nat.ne_of_lt (hlt b hb))];exact(hf b hb).1
 have I1:Inv X pins σ (upd H s.heap.objs.size (.tup xs)) {s with heap:=s.heap.push {cls:=.type "tuple",data:=.seq us},toks:=t'}:=
  I.laid (t':=t') (fun b o e=>Heap.get?_push_of_some _ e) (Nat.le_refl _) ⟨hz,us.toList,r,⟨_,Heap.get?_push_size _ rfl,rfl,_,rfl⟩⟩
 have I2:=qLu (h':=h') (t':=t') (ch:=ch) I1 (fun b hb=>⟨hn b hb,(hf b hb).2⟩) (fun b o hb e=>?_)
 · exact⟨I2,hn⟩
 rcases Heap.get?_push_cases e with ⟨e1,e2⟩ | e1
 · rw [e1,e2];exact hT
 · exact k b o hb e1
def Ite (K:PySem.W.Frag)(a:Addr):It:=
 ⟨fun i H=>∃ xs x,SqL K H a xs∧xs[i]? =some x,fun i H x H'=>∃ p v,H p=none∧x= .ref p∧(∀ xs,SqL K H a xs→xs[i]? =some v)∧H'=upd H p (.tup [.int i,v]),fun i H=>∃ xs,SqL K H a xs∧xs.length≤i⟩
theorem qH2 {P:Program}{w:World}{K:PySem.W.Frag}{elts:List Expr}{k1:Nat}{pos:Pos}(a e it:Addr)(hne:e≠it):
 qLl P w K (.Tuple elts k1 pos) (Ite K a) [e,it] e (fun i h=>(∃ old,IsEnum h e it (i:Nat) old)∧h.IsListIter it a i) where
 mem:=by simp
 obj:=fun i h st b hb=>by
  obtain⟨⟨old,he⟩,o,ho,c,d⟩:=st
  rcases List.mem_cons.mp hb with rfl | hb
  · exact⟨_,he,fun v z=>by cases z⟩
  · have e:b=it:=by simpa using hb
    subst e
    exact⟨o,ho,fun v z=>by rw [d] at z;cases z⟩
 keep:=fun i h h' st k=>by
  obtain⟨⟨old,he⟩,hi⟩:=st
  exact⟨⟨old,k e (by simp) _ he⟩,hi.at fun o q=>k it (by simp) o q⟩
 item:=by
  intro X hP hw hK hc i pins s σ H E I hf st hg
  subst hP hw hK
  obtain⟨⟨old,he⟩,hit⟩:=st
  obtain⟨xs,x,hq,hx⟩:=hg
  obtain⟨its,rv,p,hz⟩:=I.list hq
  obtain⟨u,hu,ru⟩:=rv.get hx
  refine wpAny_pyNext_enum_item he hit p.isList (x:=u) (by simpa using hu) hne fun h' heo hit' hT hsz hk=>?_
  refine⟨_,rfl,wpAny_letOwnedTupleGo_enum heo fun h'' he'' hs''=>?_⟩
  have hel:e < s.heap.objs.size:=Heap.lt_size he
  have hil:it < s.heap.objs.size:=by obtain⟨_,q,_⟩:=hit;exact Heap.lt_size q
  have T:=qKy (h':=h'') (t':=s.toks+1) (ch:=[e,it]) (xs:=[.int i,x]) (us:=#[.int i s.toks,u]) I hf (fun b hb=>by
   rcases List.mem_cons.mp hb with rfl | hb
   · exact hel
   · have z:b=it:=by simpa using hb
     subst z;exact hil)
   (fun b o hb q=>(hs''.2 b (fun z=>hb (by simp [z]))).trans (hk b o (fun z=>hb (by simp [z])) (fun z=>hb (by simp [z])) q))
   ((hs''.2 _ (Nat.ne_of_gt hel)).trans hT) (.cons ⟨_,rfl⟩ (.cons ru .nil)) (by show 2≤sizeLine;decide)
  refine⟨.ref s.heap.objs.size,_,T.1,rfl,⟨_,x,I.hok.fresh (Nat.le_refl _),rfl,fun ys hy=>by rw [I.list_inj hy hq];exact hx,rfl⟩,⟨⟨u,by simpa using he''⟩,hit'.at fun o q=>(hs''.2 it hne.symm).trans q⟩,T.2⟩
 done:=by
  intro X hP hw hK hc i pins s σ H E I hf st hg
  subst hP hw hK
  obtain⟨⟨old,he⟩,hit⟩:=st
  obtain⟨xs,hq,hx⟩:=hg
  obtain⟨its,rv,p,hz⟩:=I.list hq
  obtain⟨f0,f1,f2,f3,f4,f5⟩:=hf it (by simp)
  have hl:=rv.length
  exact wpAny_pyNext_enum_end (I.ok.hd hc) he hit p.isList (by simp;omega) fun h' eb=>⟨rfl,I.turned (t':=s.toks) (fun b o hb e=>eb b o hb e) f0 f1 f3 f4 f5⟩
 self:=fun _ _ _ _ _ st h=>by
  obtain⟨⟨old,he⟩,_⟩:=st
  exact wpAny_pyIter_enum he h
inductive qM8 (K:PySem.W.Frag)(R:It→Hp→Prop)(vs:List V)(H1:Hp):Prop
| mk a (_:vs=[.ref a]) (_:(∃ xs,SqL K H1 a xs)) (_:R (Ite K a) H1)
def qOn (K:PySem.W.Frag)(t:TA):TI:=fun σ H R=>t σ H fun vs H1=>qM8 K R vs H1
theorem qIo {X:Cx}{l:Expr}{tl:TA}{elts:List Expr}{k1:Nat}{tpos p pos:Pos}(hg:Gl X "enumerate")(hm:X.mg "enumerate"=none)(hl:PA X [l] tl)(hs:starEach [l] X.env=[(false,eval l X.env)]:=by rfl):
 PI X (.Tuple elts k1 tpos) (.Call (.Name "enumerate" p) [l] [] pos) (qOn X.K tl):=by
 intro pins s σ H R I h
 refine Call_ (qBj I hg hm boot_enumerate (PyProof.Rows.callWith_type1 (thn (hl pos pins s σ H _ I h) fun us s1 ⟨vs,H1,I1,r1,q1⟩=>?_) hs rfl))
 obtain⟨a,e,⟨xs,hq⟩,q⟩:=q1
 subst e
 cases r1 with
 | cons r rr=>
  cases rr
  cases r
  obtain⟨its,rv,pl,hz⟩:=I1.list hq
  refine call_enumerate_list pl.isList fun h' he hit hsz hk=>?_
  refine wpAny_pyIter_enum he ?_
  refine⟨s1.heap.objs.size+1,[s1.heap.objs.size+1,s1.heap.objs.size],_,_,H1,rfl,I1.kept (t':=s1.toks) fun b o e=>hk b o e,qH2 a _ _ (Nat.succ_ne_self _),⟨⟨_,he⟩,hit⟩,fun b hb=>?_,q⟩
  rcases List.mem_cons.mp hb with rfl | hb
  · exact I1.fpOk (Nat.le_succ _) (I1.hok.fresh (Nat.le_succ _))
  · have e:b=s1.heap.objs.size:=by simpa using hb
    subst e
    exact I1.fpOk (Nat.le_refl _) (I1.hok.fresh (Nat.le_refl _))
theorem qJ1 {K:PySem.W.Frag}{a:Addr}{xs:List V}{g:TG}{tb:TS}{D:qHk}{σ:L2.St}{H:Hp}(Pv:Nat→L2.St→Hp→Prop)(h0:Pv 0 σ H)(hl:∀ i σ H,i≤xs.length→Pv i σ H→SqL K H a xs)
 (hs:∀ i x σ H p,xs[i]? =some x→Pv i σ H→H p=none→g (.ref p) σ (upd H p (.tup [.int i,x])) fun σ2 H2=>tb {D with nx:=Pv (i+1),ct:=Pv (i+1),bk:=D.nx} σ2 H2) (hd:∀ σ H,Pv xs.length σ H→D.nx σ H):
 ∃ W:Nat→Nat→L2.St→Hp→Prop,(∃ m,W 0 m σ H)∧∀ i m σ H,W i m σ H→
  ((Ite K a).stop i H∧D.nx σ H)∨((Ite K a).go i H∧∃ N:L2.St→Hp→Prop,(∀ σ' H',N σ' H'→∃ m',m' < m∧W (i+1) m' σ' H')∧∀ x H',(Ite K a).yld i H x H'→g x σ H' fun σ2 H2=>tb {D with nx:=N,ct:=N,bk:=D.nx} σ2 H2):=by
 refine⟨fun i m σ H=>m=xs.length - i∧i≤xs.length∧Pv i σ H,⟨xs.length,by simp,Nat.zero_le _,h0⟩,?_⟩
 rintro i m σ H ⟨rfl,hi,p⟩
 have q:=hl i σ H hi p
 by_cases hlt:i < xs.length
 · refine .inr ⟨⟨xs,xs[i],q,by simp [hlt]⟩,Pv (i+1),fun σ' H' p'=>⟨xs.length - (i+1),by omega,rfl,hlt,p'⟩,fun x H' y=>?_⟩
   obtain⟨z,v,hz,rfl,y,rfl⟩:=y
   exact hs i v σ _ z (y xs q) p hz
 · have e:i=xs.length:=by omega
   subst e
   exact .inl ⟨⟨xs,q,Nat.le_refl _⟩,hd σ H p⟩
def qQj (t:TT):TT:=fun σ H Q=>∃ R:Bool→Hp→Prop,t σ H R∧∀ b H',R b H'→Q b H'
theorem qKx {X:Cx}{e:Expr}{t:TT}(h:PT X e t):PT X e (qQj t):=by
 rintro pins s σ H Q I ⟨R,ht,hR⟩
 exact thn (h pins s σ H R I ht) fun b s' ⟨H',I',r⟩=>⟨H',I',hR b H' r⟩
def CompEndP (K:PySem.W.Frag)(js:List Nat)(tc:TT)(te:TE)(σ:L2.St)(Q:VK)(J:It)(H1:Hp):Prop:=∃ W:Nat→Nat→List V→Hp→Prop,(∃ m,W 0 m [] H1)∧∀ i m acc H2,W i m acc H2→
 acc.length < sizeLine∧((J.stop i H2∧∀ D,H2 D=none→Q (.ref D) (upd H2 D (.lst acc)))∨
  (J.go i H2∧∀ x H3,J.yld i H2 x H3→∃ p va vb,x= .ref p∧SqT K H3 p [va,vb]∧tc (some va::some vb::vT js σ) H3 fun ok H4=>if ok=true then te (some va::some vb::vT js σ) H4 fun v H5=>∃ m',m' < m∧W (i+1) m' (acc++[v]) H5 else ∃ m',m' < m∧W (i+1) m' acc H4))
def qOa (K:PySem.W.Frag)(js:List Nat)(wi:TI)(tc:TT)(te:TE):TE:=fun σ H Q=>wi σ H (CompEndP K js tc te σ Q)
theorem CompEndP.g {K:PySem.W.Frag}{js:List Nat}{tc:TT}{te:TE}(σ:L2.St)(Q:VK)(J:It)(H1:Hp):CompEndP K js tc te σ Q J H1→kE 2 js (qOf K 2 (qAx (zw 0) (qAx (zw 1) qOh))) tc te σ Q J H1:=fun⟨W,w0,st⟩=>
 ⟨W,w0,fun i m acc H2 w=>⟨(st i m acc H2 w).1,(st i m acc H2 w).2.imp id fun⟨go,y⟩=>⟨go,fun x H3 z=>let ⟨p,va,vb,e,q,r⟩:=y x H3 z;⟨p,_,e,q,rfl,va,_,rfl,vb,_,rfl,rfl,[some va,some vb],rfl,rfl,r⟩⟩⟩⟩
theorem qMd {X:Cx}{scope:Scope}{cl:List (Str × Addr)}{x1 x2:Str}{px1 px2:Pos}{tk:Nat}{tpos:Pos}{ys:List Str}(hcm:X.calm=true)(hnd:([x1,x2]++ys).Nodup)(hx1:scope.names.lookup x1=some .local)(hx2:scope.names.lookup x2=some .local)(C:Addr)(s:Shared)(H:Hp)(fp:List Addr):PG (jB X scope cl C ([x1,x2]++ys) s H fp).nox (.Tuple [.Name x1 px1,.Name x2 px2] tk tpos) (qOf X.K 2 (qAx (zw 0) (qAx (zw 1) qOh))):=
 qD0 (X:=(jB X scope cl C ([x1,x2]++ys) s H fp).nox) hcm (jy (qq (i:=0) hnd rfl (.inl (lookup_relabel_local hx1)) (.inr (lookup_relabel_local hx1))) (jy (qq (i:=1) hnd rfl (.inl (lookup_relabel_local hx2)) (.inr (lookup_relabel_local hx2))) wj))
theorem qKm {X:Cx}{elt iter cnd:Expr}{x1 x2:Str}{px1 px2:Pos}{tk:Nat}{tpos:Pos}{scope:Scope}{cl:List (Str × Addr)}{pos:Pos}{wi:TI}{tc:TT}{te:TE}(ys:List Str)(js:List Nat){i:Nat}{y:Str}{py spos:Pos}(hN:X.N.Nodup)(hi':X.N[i]? =some y)(hy:X.env.kindOf y=some .local)
 (hcm:X.calm=true) (hi:PI X (.Tuple [.Name x1 px1,.Name x2 px2] tk tpos) iter wi) (hc:∀ C s H fp,PT (jB X scope cl C (x1::x2::ys) s H fp).nox cnd tc) (he:∀ C s H fp,PE (jB X scope cl C (x1::x2::ys) s H fp).nox elt te) (hx1:scope.names.lookup x1=some .local:=by rfl) (hx2:scope.names.lookup x2=some .local:=by rfl) (hC:COk X scope cl iter [x1,x2] ys js:=by exact⟨rfl,rfl,rfl,rfl,rfl,rfl,rfl,rfl,fun _=>rfl,by decide⟩) (hsw:swapsWith (.ListComp elt [⟨.Tuple [.Name x1 px1,.Name x2 px2] tk tpos,iter,[cnd],0⟩] scope pos) (some (.Name y py)) spos.line X.env=pure true:=by rfl):PS X (.Assign [.Name y py] (.ListComp elt [⟨.Tuple [.Name x1 px1,.Name x2 px2] tk tpos,iter,[cnd],0⟩] scope pos) spos) (qMk (qOa X.K js wi tc te) (zw i)):=
 qGo (xs:=[x1,x2]) (T:=CompEndP X.K js tc te) hN hi' hy hcm hi (qMd hcm hC.nd hx1 hx2) (fun C s H fp=>qE7 (hc C s H fp)) he hC CompEndP.g hsw
theorem qHl {K:PySem.W.Frag}{a:Addr}{xs:List V}{js:List Nat}{tc:TT}{te:TE}{σ:L2.St}{H:Hp}{Q:VK}(Pv:Nat→List V→Hp→Prop)(h0:Pv 0 [] H)(hl:∀ i acc H,i≤xs.length→Pv i acc H→SqL K H a xs∧acc.length < sizeLine)
 (hs:∀ i x acc H p,i < xs.length→xs[i]? =some x→Pv i acc H→H p=none→tc (some (.int i)::some x::vT js σ) (upd H p (.tup [.int i,x])) fun ok H'=>if ok=true then te (some (.int i)::some x::vT js σ) H' fun v H''=>Nxt xs.length i (Pv (i+1) (acc++[v]) H'') else Nxt xs.length i (Pv (i+1) acc H')) (hd:∀ acc H,Pv xs.length acc H→∀ D,H D=none→Q (.ref D) (upd H D (.lst acc))):CompEndP K js tc te σ Q (Ite K a) H:=by
 refine⟨fun i m acc H=>m=xs.length - i∧i≤xs.length∧Pv i acc H,⟨xs.length,by simp,Nat.zero_le _,h0⟩,?_⟩
 rintro i m acc H2 ⟨rfl,hi,p⟩
 obtain⟨q,hz⟩:=hl i acc H2 hi p
 refine⟨hz,?_⟩
 by_cases hlt:i < xs.length
 · refine .inr ⟨⟨xs,xs[i],q,by simp [hlt]⟩,fun x H3 y=>?_⟩
   obtain⟨z,v,hz,rfl,y,rfl⟩:=y
   exact⟨z,_,_,rfl,SqT.of qB,hs i v acc _ z hlt (y xs q) p hz⟩
 · have e:i=xs.length:=by omega
   subst e
   exact .inl ⟨⟨xs,q,Nat.le_refl _⟩,hd acc H2 p⟩
theorem qM5 {X:Cx}{pins:List (Addr × Obj)}{σ:L2.St}{H:Hp}{s:Shared}{d:Addr}{kvs:List (Key × V)}{o:Obj}(I:Inv X pins σ H s)(e:H d=some (.dK kvs))(ho:s.heap.get? d=some o):
 Inv X pins σ (upd H d (.frz o (.dK kvs))) s:=by
 have ne:∀ b u,H b=some u→u≠ .dK kvs→b≠d:=fun b u h hu z=>by subst z;rw [e] at h;exact hu (Option.some.inj h).symm
 refine I.step (g':=s.gens) (d':=s.drawn) (t':=s.toks) (h':=s.heap) (ch:=[]) (fun _ z=>nomatch z) (fun b o _ _ _ h _=>h) (fun b o _ _ _ h _=>⟨o.slots,h⟩) (fun b ob _ h n=>?_) (fun b o _ h=>⟨o,h⟩) (fun b xs h=>?_) (fun b ob u h=>?_) (fun b ps h=>?_) (fun m hm=>hm) (fun b u h=>?_) I.bare
 · rw [qZ (fun z=>by subst z;rw [e] at n;cases n)];exact n
 · rw [qZ (ne b _ h (by intro z;cases z))];exact h
 · rw [qZ (ne b _ h (by intro z;cases z))];exact h
 · exact⟨#[],by rw [qZ (ne b _ h (by intro z;cases z)),h];simp⟩
 · by_cases hb:b=d
   · subst hb
     rw [qB] at h
     cases h
     exact⟨ho,I.hok _ _ e⟩
   · rw [qZ hb] at h
     exact(I.hok b u h).stay (fun c v _ q=>q) (fun c q=>by rw [qZ (ne c _ q (by intro z;cases z))];exact q) fun c xs q=>by rw [qZ (ne c _ q (by intro z;cases z))];exact q
theorem qIa {k:Key}{v:Value}(h:qFz k v=true):RelV (kV k) v:=by
 rcases jC h with ⟨i,t,rfl,rfl⟩ | ⟨x,t,rfl,rfl⟩
 · exact⟨t,rfl⟩
 · exact⟨t,rfl⟩
theorem KV.get {κ:Type}{kvs:List (κ × V)}{vs:List (κ × Value)}(r:KV kvs vs){i:Nat}{k:κ}{v:V}(h:kvs[i]? =some (k,v)):∃ u,vs[i]? =some (k,u)∧RelV v u:=by
 induction r generalizing i with
 | nil=>simp at h
 | @cons p q ps qs hpq _ ih=>
  cases i with
  | zero=>
   have e:p=(k,v):=by simpa using h
   subst e
   obtain⟨k',u⟩:=q
   have e:k=k':=hpq.1
   subst e
   exact⟨u,rfl,hpq.2⟩
  | succ i=>exact ih (by simpa using h)
theorem qK9 {κ:Type}{kvs:List (κ × V)}{vs:List (κ × Value)}(r:KV kvs vs):kvs.length=vs.length:=Paired.length r
def Itd (d:Addr)(o:Obj)(kvs:List (Key × V)):It:=
 ⟨fun i H=>H d=some (.frz o (.dK kvs))∧i < kvs.length,fun i H x H'=>∃ p k v,H p=none∧kvs[i]? =some (k,v)∧x= .ref p∧H'=upd H p (.tup [kV k,v]),fun i H=>H d=some (.frz o (.dK kvs))∧kvs.length≤i⟩
def Itk (d:Addr)(o:Obj)(kvs:List (Key × V)):It:=
 ⟨fun i H=>H d=some (.frz o (.dK kvs))∧i < kvs.length,fun i H x H'=>∃ k v,kvs[i]? =some (k,v)∧x=kV k∧H'=H,fun i H=>H d=some (.frz o (.dK kvs))∧kvs.length≤i⟩
theorem qHc:entryFor table "dict_itemiterator.__iter__"=some Builtin.«dict_keyiterator.__iter__»:=by
 refine entryFor_alias (id':="dict_keyiterator.__iter__") ?_ ?_ ?_ ?_
 · kernel_rfl
 · first
    | rfl
    | decide+kernel
    | (unfold String.splitOn
       simp+decide [String.splitOnAux])
 · decide+kernel
 · kernel_rfl
section
variable {P : Program} {w : World} {K : PySem.W.Frag}
theorem qG8 {elts:List Expr}{k1:Nat}{pos:Pos}{d it:Addr}{o:Obj}{kvs:List (Key × V)}{vs:List (Key × Value)}{ep:Nat}(r:KV kvs vs)(hD:∀ h:Heap,h.get? d=some o→h.DictAt (qx P w) d vs ep):
 qLl P w K (.Tuple elts k1 pos) (Itd d o kvs) [it] it (fun i h=>∃ ok ov,IsItemIter h it d i vs.length ep ok ov) where
 mem:=by simp
 obj:=fun i h st b hb=>by
  obtain⟨ok,ov,e⟩:=st
  have z:b=it:=by simpa using hb
  subst z
  exact⟨_,e,fun v z=>by cases z⟩
 keep:=fun i h h' st k=>by
  obtain⟨ok,ov,e⟩:=st
  exact⟨ok,ov,k it (by simp) _ e⟩
 item:=by
  intro X hP hw hK hc i pins s σ H E I hf st hg
  subst hP hw hK
  obtain⟨ok,ov,hit⟩:=st
  obtain⟨hH,hi⟩:=hg
  have hd:s.heap.get? d=some o:=(show s.heap.get? d=some o∧_ from I.hok d _ hH).1
  have ex:kvs[i]? =some (kvs[i].1,kvs[i].2):=by rw [List.getElem?_eq_getElem hi]
  obtain⟨u,hu,ru⟩:=KV.get r ex
  refine wpAny_pyNext_items_item hit (hD _ hd) hu fun key h' hk hit' hT hsz hkp=>?_
  refine⟨_,rfl,wpAny_letOwnedTupleGo_items hit' fun h'' he'' hs''=>?_⟩
  have hil:it < s.heap.objs.size:=Heap.lt_size hit
  have T:=qKy (h':=h'') (t':=s.toks) (ch:=[it]) (xs:=[kV kvs[i].1,kvs[i].2]) (us:=#[key,u]) I hf (fun b hb=>by
   have z:b=it:=by simpa using hb
   subst z;exact hil)
   (fun b ob hb q=>(hs''.2 b (fun z=>hb (by simp [z]))).trans (hkp b ob (fun z=>hb (by simp [z])) q))
   ((hs''.2 _ (Nat.ne_of_gt hil)).trans hT) (.cons (qIa hk) (.cons ru .nil)) (by show 2≤sizeLine;decide)
  exact⟨.ref s.heap.objs.size,_,T.1,rfl,⟨_,_,_,I.hok.fresh (Nat.le_refl _),ex,rfl,rfl⟩,⟨_,_,he''⟩,T.2⟩
 done:=by
  intro X hP hw hK hc i pins s σ H E I hf st hg
  subst hP hw hK
  obtain⟨ok,ov,hit⟩:=st
  obtain⟨hH,hi⟩:=hg
  have hd:s.heap.get? d=some o:=(show s.heap.get? d=some o∧_ from I.hok d _ hH).1
  obtain⟨f0,f1,f2,f3,f4,f5⟩:=hf it (by simp)
  have hl:=qK9 r
  exact wpAny_pyNext_items_end (I.ok.hd hc) hit (hD _ hd) (by simp;omega) fun h' eb=>⟨rfl,I.turned (t':=s.toks) (fun b o hb e=>eb b o hb e) f0 f1 f3 f4 f5⟩
 self:=fun _ _ s' _ _ st h=>by
  obtain⟨ok,ov,hit⟩:=st
  have hT:s'.TypeIs (.ref it) "dict_itemiterator":=⟨_,hit,rfl⟩
  refine wpAny_pyIter_slot hT F.slot_dict_itemiterator_iter (wpAny_call_entry F.slot_dict_itemiterator_iter hT qHc ?_ (F.args_dict_itemiterator_iter_1 _))
  exact wpAny_pure ⟨_,rfl,"dict_itemiterator",_,hT,F.slot_dict_itemiterator_next.lookup,h⟩
theorem qH7 {tg:Expr}{d it:Addr}{o:Obj}{kvs:List (Key × V)}{vs:List (Key × Value)}{ep:Nat}(r:KV kvs vs)(hD:∀ h:Heap,h.get? d=some o→h.DictAt (qx P w) d vs ep):
 qLl P w K tg (Itk d o kvs) [it] it (fun i h=>h.IsKeyIter it d i vs.length ep) where
 mem:=by simp
 obj:=fun i h st b hb=>by
  obtain⟨ob,e,_,q⟩:=st
  have z:b=it:=by simpa using hb
  subst z
  exact⟨_,e,fun v z=>by rw [q] at z;cases z⟩
 keep:=fun i h h' st k=>by
  obtain⟨ob,e,q⟩:=st
  exact⟨ob,k it (by simp) _ e,q⟩
 item:=by
  intro X hP hw hK hc i pins s σ H E I hf st hg
  subst hP hw hK
  obtain⟨hH,hi⟩:=hg
  have hd:s.heap.get? d=some o:=(show s.heap.get? d=some o∧_ from I.hok d _ hH).1
  have ex:kvs[i]? =some (kvs[i].1,kvs[i].2):=by rw [List.getElem?_eq_getElem hi]
  obtain⟨u,hu,ru⟩:=KV.get r ex
  obtain⟨f0,f1,f2,f3,f4,f5⟩:=hf it (by simp)
  refine wpAny_pyNext_dict_item st (hD _ hd) hu fun key h' hk st' sb=>?_
  have I1:Inv X pins σ H {s with heap:=h'}:=I.turned (t':=s.toks) (fun b o hb e=>(sb.2 b hb).trans e) f0 f1 f3 f4 f5
  obtain⟨ob,e,c,q⟩:=id st'
  exact⟨key,rfl,qKh (s:={s with heap:=h'}) e c q (by decide) ⟨kV kvs[i].1,H,I1,qIa hk,⟨_,_,ex,rfl,rfl⟩,st',fun b hb=>(hf b hb).1⟩⟩
 done:=by
  intro X hP hw hK hc i pins s σ H E I hf st hg
  subst hP hw hK
  obtain⟨hH,hi⟩:=hg
  have hd:s.heap.get? d=some o:=(show s.heap.get? d=some o∧_ from I.hok d _ hH).1
  obtain⟨f0,f1,f2,f3,f4,f5⟩:=hf it (by simp)
  have hl:=qK9 r
  exact wpAny_pyNext_dict_end (I.ok.hd hc) st (hD _ hd) (by simp;omega) fun h' eb=>⟨rfl,I.turned (t':=s.toks) (fun b o hb e=>eb b o hb e) f0 f1 f3 f4 f5⟩
 self:=fun _ _ _ _ _ st h=>wpAny_pyIter_keyiter st h
end
def Frz (H:Hp)(d:Addr)(kvs:List (Key × V))(R:Obj→Hp→Prop):Prop:=(∃ o,H d=some (.frz o (.dK kvs))∧R o H)∨(H d=some (.dK kvs)∧∀ o,R o (upd H d (.frz o (.dK kvs))))
theorem qK6 {X:Cx}{pins:List (Addr × Obj)}{σ:L2.St}{H:Hp}{s:Shared}{d:Addr}{kvs:List (Key × V)}{R:Obj→Hp→Prop}(I:Inv X pins σ H s)(h:Frz H d kvs R):
 ∃ (o:Obj) (vs:List (Key × Value)) (ep:Nat) (H':Hp),Inv X pins σ H' s∧R o H'∧H' d=some (.frz o (.dK kvs))∧KV kvs vs∧(d == sysModules)=false∧∀ h':Heap,h'.get? d=some o→h'.DictAt (qx X.prog X.w) d vs ep:=by
 rcases h with ⟨o,e,q⟩ | ⟨e,q⟩
 · obtain⟨ho,_,hs,vs,r,o',es,ep,ho',kY⟩:=(show s.heap.get? d=some o∧kvs.length≤sizeLine∧(d == sysModules)=false∧∃ vs,KV kvs vs∧s.heap.DictOf (qx X.prog X.w) d vs from I.hok d _ e)
   rw [ho] at ho'
   cases ho'
   exact⟨o,vs,ep,H,I,q,e,r,hs,fun h' hh=>⟨o,es,hh,kY⟩⟩
 · obtain⟨_,hs,vs,r,o,es,ep,ho,kY⟩:=(show kvs.length≤sizeLine∧(d == sysModules)=false∧∃ vs,KV kvs vs∧s.heap.DictOf (qx X.prog X.w) d vs from I.hok d _ e)
   exact⟨o,vs,ep,_,qM5 I e ho,q o,qB,r,hs,fun h' hh=>⟨o,es,hh,kY⟩⟩
def qN8 (td:TE):TI:=fun σ H R=>td σ H fun x H1=>∃ d kvs,x= .ref d∧Frz H1 d kvs fun o H2=>R (Itd d o kvs) H2
theorem qBy {X:Cx}{e:Expr}{td:TE}{elts:List Expr}{k1:Nat}{tpos apos cpos:Pos}(he:PE X e td)
 (hbase:attributeBase e "items" X.env (eval e X.env)=eval e X.env:=by rfl) (hline:(apos.endLine == cpos.line)=true:=by rfl):
 PI X (.Tuple elts k1 tpos) (.Call (.Attribute e "items" apos) [] [] cpos) (qN8 td):=by
 intro pins s σ H R I h
 refine wpAny_Call_method0_late hbase hline (thn (he pins s σ H _ I h) fun v s1 ⟨x,H1,I1,r1,d,kvs,ex,fz⟩=>?_)
 subst ex
 cases r1
 obtain⟨o,vs,ep,H2,I2,q,hd,r,hs,hD⟩:=qK6 I1 fz
 have hg:s1.heap.get? d=some o:=(show s1.heap.get? d=some o∧_ from I2.hok d _ hd).1
 have hA:=hD _ hg
 have hT:s1.TypeIs (.ref d) "dict":=hA.dictOf.typeIs
 refine⟨"dict","dict.items",F.plainAttrs_dict,F.slot_dict_items,F.type_dict_items,hT,fun a ea=>?_,Calls.callWith_builtin rfl (PySem.evalArgs_none ?_)⟩
 · cases ea
   obtain⟨o',es,e1,ex,_⟩:=hA
   exact⟨o',e1,ex.2.1⟩
 refine call_meetsIn F.slot_dict_items hT F.entry_dict_items (F.args_dict_items_1 _) (meets_dict_items (qx X.prog X.w) d hs) ⟨⟨vs,hA.dictOf⟩,?_⟩
 have hA2:=hD (s1.heap.push {cls:=.type "dict_items",data:=.fields #[.ref d]}) (Heap.get?_push_of_some _ hg)
 refine wpAny_pyIter_items (knd:=qx X.prog X.w) ⟨_,Heap.get?_push_size _ rfl,rfl,rfl⟩ hA2 ?_
 have I3:Inv X pins σ H2 {s1 with heap:=s1.heap.push {cls:=.type "dict_items",data:=.fields #[.ref d]}}:=I2.kept (t':=s1.toks) fun b ob e=>Heap.get?_push_of_some _ e
 refine⟨(s1.heap.push {cls:=.type "dict_items",data:=.fields #[.ref d]}).objs.size,[(s1.heap.push {cls:=.type "dict_items",data:=.fields #[.ref d]}).objs.size],_,_,H2,rfl,I3.kept (t':=s1.toks) fun b ob e=>Heap.get?_push_of_some _ e,qG8 r hD,⟨_,_,Heap.get?_push_size _ rfl⟩,fun b hb=>?_,q⟩
 have e:b=(s1.heap.push {cls:=.type "dict_items",data:=.fields #[.ref d]}).objs.size:=by simpa using hb
 subst e
 exact I3.fpOk (Nat.le_refl _) (I3.hok.fresh (Nat.le_refl _))
def qO6 (td:TE):TI:=fun σ H R=>td σ H fun x H1=>∃ d kvs,x= .ref d∧Frz H1 d kvs fun o H2=>R (Itk d o kvs) H2
theorem qLv {X:Cx}{e tg:Expr}{td:TE}(he:PE X e td):PI X tg e (qO6 td):=by
 intro pins s σ H R I h
 refine thn (he pins s σ H _ I h) fun v s1 ⟨x,H1,I1,r1,d,kvs,ex,fz⟩=>?_
 subst ex
 cases r1
 obtain⟨o,vs,ep,H2,I2,q,hd,r,hs,hD⟩:=qK6 I1 fz
 have hg:s1.heap.get? d=some o:=(show s1.heap.get? d=some o∧_ from I2.hok d _ hd).1
 refine wpAny_pyIter_dict (knd:=qx X.prog X.w) hs (hD _ hg) ?_
 refine⟨s1.heap.objs.size,[s1.heap.objs.size],_,_,H2,rfl,I2.kept (t':=s1.toks) fun b ob e=>Heap.get?_push_of_some _ e,qH7 r hD,⟨_,Heap.get?_push_size _ rfl,rfl,rfl⟩,fun b hb=>?_,q⟩
 have e:b=s1.heap.objs.size:=by simpa using hb
 subst e
 exact I2.fpOk (Nat.le_refl _) (I2.hok.fresh (Nat.le_refl _))
theorem zn {d:Addr}{o:Obj}{kvs:List (Key × V)}{g:TG}{tb:TS}{D:qHk}{σ:L2.St}{H:Hp}(Pv:Nat→L2.St→Hp→Prop)(h0:Pv 0 σ H)(hl:∀ i σ H,i≤kvs.length→Pv i σ H→H d=some (.frz o (.dK kvs)))
 (hs:∀ i k v σ H p,kvs[i]? =some (k,v)→Pv i σ H→H p=none→g (.ref p) σ (upd H p (.tup [kV k,v])) fun σ2 H2=>tb {D with nx:=Pv (i+1),ct:=Pv (i+1),bk:=D.nx} σ2 H2) (hd:∀ σ H,Pv kvs.length σ H→D.nx σ H):
 ∃ W:Nat→Nat→L2.St→Hp→Prop,(∃ m,W 0 m σ H)∧∀ i m σ H,W i m σ H→
  ((Itd d o kvs).stop i H∧D.nx σ H)∨((Itd d o kvs).go i H∧∃ N:L2.St→Hp→Prop,(∀ σ' H',N σ' H'→∃ m',m' < m∧W (i+1) m' σ' H')∧∀ x H',(Itd d o kvs).yld i H x H'→g x σ H' fun σ2 H2=>tb {D with nx:=N,ct:=N,bk:=D.nx} σ2 H2):=by
 refine⟨fun i m σ H=>m=kvs.length - i∧i≤kvs.length∧Pv i σ H,⟨kvs.length,by simp,Nat.zero_le _,h0⟩,?_⟩
 rintro i m σ H ⟨rfl,hi,p⟩
 have q:=hl i σ H hi p
 by_cases hlt:i < kvs.length
 · refine .inr ⟨⟨q,hlt⟩,Pv (i+1),fun σ' H' p'=>⟨kvs.length - (i+1),by omega,rfl,hlt,p'⟩,fun x H' y=>?_⟩
   obtain⟨z,k,v,hz,ek,rfl,rfl⟩:=y
   exact hs i k v σ _ z ek p hz
 · have e:i=kvs.length:=by omega
   subst e
   exact .inl ⟨⟨q,Nat.le_refl _⟩,hd σ H p⟩
theorem qGz {d:Addr}{o:Obj}{kvs:List (Key × V)}{js:List Nat}{tc:TT}{te:TE}{σ:L2.St}{H:Hp}{Q:VK}(Pv:Nat→List V→Hp→Prop)(h0:Pv 0 [] H)(hl:∀ i acc H,i≤kvs.length→Pv i acc H→H d=some (.frz o (.dK kvs))∧acc.length < sizeLine)
 (hs:∀ i k v acc H,i < kvs.length→kvs[i]? =some (k,v)→Pv i acc H→tc (some (kV k)::vT js σ) H fun ok H'=>if ok=true then te (some (kV k)::vT js σ) H' fun v H''=>Nxt kvs.length i (Pv (i+1) (acc++[v]) H'') else Nxt kvs.length i (Pv (i+1) acc H')) (hd:∀ acc H,Pv kvs.length acc H→∀ D,H D=none→Q (.ref D) (upd H D (.lst acc))):CompEndF js tc te σ Q (Itk d o kvs) H:=by
 refine⟨fun i m acc H=>m=kvs.length - i∧i≤kvs.length∧Pv i acc H,⟨kvs.length,by simp,Nat.zero_le _,h0⟩,?_⟩
 rintro i m acc H2 ⟨rfl,hi,p⟩
 obtain⟨q,hz⟩:=hl i acc H2 hi p
 refine⟨hz,?_⟩
 by_cases hlt:i < kvs.length
 · refine .inr ⟨⟨q,hlt⟩,fun x H3 y=>?_⟩
   obtain⟨k,v,ek,rfl,rfl⟩:=y
   exact hs i k v acc _ hlt ek p
 · have e:i=kvs.length:=by omega
   subst e
   exact .inl ⟨⟨q,Nat.le_refl _⟩,hd acc H2 p⟩
theorem wF {X:Cx}:zg X (.builtin "isinstance") (fun xs H Q=>∃ (p:Addr) (n t:String) (b:Bool),xs=[.ref p,.ty n]∧((∃ ys,SqT X.K H p ys∧t="tuple")∨∃ kvs:List (Key × V),Rd H p (.dK kvs)∧t="dict")∧PySem.W.kitOne X.K (.type t) (.type n)=some b∧Q (.bl b) H):=by
 intro pins s σ H xs us Q I r h
 obtain⟨p,n,t,b,rfl,ht,e,q⟩:=h
 obtain⟨u,w',rfl,ru,rw'⟩:=qHt r
 cases ru
 have ew:w'= .type n:=rw'
 subst ew
 rcases ht with ⟨ys,hy,rfl⟩ | ⟨kvs,hk,rfl⟩
 · obtain⟨its,_,⟨o,h1,h2,_⟩,_⟩:=I.tuple hy
   exact PySem.W.kia_one PySem.W.kitx_tuple I.kIn ⟨o,h1,h2⟩ e (fun z=>nomatch z) fun tk=>⟨.bl b,H,I.tok tk,rfl,q⟩
 · obtain⟨_,_,vs,_,o,es,ep,h1,h2,_⟩:=qA1 I.hok hk
   exact PySem.W.kia_one PySem.W.kitx_dict I.kIn ⟨o,h1,h2.1⟩ e (fun z=>nomatch z) fun tk=>⟨.bl b,H,I.tok tk,rfl,q⟩
def EqIn (P:Program)(w:World)(A:Around)(s:Shared)(y x:Value):Prop:=∀ (E:Value→Shared→Prop) (Q:Bool→Shared→Prop),Q true s→wpAny (model P w) A (eqBool y x) Q E s
theorem EqIn.rc {P:Program}{w:World}{A:Around}{s:Shared}{l b:Addr}(h:∀ (E:Value→Shared→Prop) (Q:Value→Shared→Prop),Q (.bool true) s→wpAny (model P w) A (richCompare .Eq (.ref l) (.ref b)) Q E s):EqIn P w A s (.ref l) (.ref b):=by
 by_cases e:l=b
 · subst e
   exact fun E Q hq=>SeqAt.EqAt.same _ P w E Q hq
 · intro E Q hq
   unfold eqBool
   refine wpAny_holding (wpAny_ite_split (fun z=>?_) (fun _=>?_))
   · have:=eq_of_beq z
     injection this with this
     exact absurd this e
   · exact wpAny_bind (h E _ (wpAny_truthy_bool hq))
def DEq (K:PySem.W.Frag)(H:Hp)(a b:Addr):Prop:=∃ ka kb:List (Key × V),Rd H a (.dK ka)∧Rd H b (.dK kb)∧ka.length=kb.length∧∀ p∈ka,∃ v d,xv kb p.1=some v∧Rep K H d p.2∧Rep K H d v∧eqD d d=true∧dep d≤50
section
variable {X : Cx} {pins : List (Addr × Obj)} {σ : L2.St} {H : Hp} {s : Shared}
theorem qLw (I:Inv X pins σ H s){A:Around}(hu:A.units+50 < cLine){kb:List (Key × V)}{vb:List (Key × Value)}(rb:KV kb vb):∀ {ka:List (Key × V)} {va:List (Key × Value)},KV ka va→
 (∀ p∈ka,∃ v d,xv kb p.1=some v∧Rep X.K H d p.2∧Rep X.K H d v∧eqD d d=true∧dep d≤50)→PySem.W.KeqHits A s vb va true:=by
 intro ka va r
 unfold KV at r
 induction r with
 | nil=>exact fun _=>.nil
 | @cons p q ps qs h t ih=>
  intro hp
  obtain⟨h1,h2⟩:=h
  obtain⟨v,d,e,r1,r2,g,hd⟩:=hp p (by simp)
  have rv:=rb.val p.1
  rw [e] at rv
  cases w:valueAt vb p.1 with
  | none=>rw [w] at rv;exact(show False from rv).elim
  | some y=>
   rw [w] at rv
   have rv:RelV v y:=rv
   have ea:=qKz I 50 A d d p.2 v q.2 y hd hu r1 r2 h2 rv
   rw [g] at ea
   have hq:q=(p.1,q.2):=by rw [h1]
   have k:=PySem.W.KeqHits.hit (A:=A) (s:=s) (kb:=vb) (k:=p.1) (v:=q.2) (e:=true) w ea (ih fun x hx=>hp x (by simp [hx]))
   rw [hq]
   exact k
theorem DEq.at (I:Inv X pins σ H s){A:Around}(hu:A.units+51 < cLine){a b:Addr}(h:DEq X.K H a b):EqIn X.prog X.w A s (.ref a) (.ref b):=by
 obtain⟨ka,kb,ra,rb,hl,hh⟩:=h
 obtain⟨_,na,va,qa,da⟩:=qA1 I.hok ra
 obtain⟨_,nb,vb,qb,db⟩:=qA1 I.hok rb
 refine EqIn.rc fun E Q hq=>?_
 refine PySem.W.keq_eq (r:=true) na nb da db (by omega) (fun _=>qLw I (by show A.units+1+50 < cLine;omega) qb qa hh) ?_
 have e:(va.length == vb.length)=true:=by rw [← qa.length,← qb.length,hl];simp
 rw [e]
 exact hq
end
theorem qLn {P:Program}{w:World}{A:Around}{E:Value→Shared→Prop}{s:Shared}{l b:Addr}{u1 u2 v1 v2:Value}{Q:Fin→Shared→Prop}(hl:s.heap.IsTuple l #[u1,u2])(hb:s.heap.IsTuple b #[v1,v2])
 (e1:EqIn P w A s u1 v1) (e2:EqIn P w A s u2 v2) (hq:Q (.done (.ret (.bool true))) s):wpAny (model P w) A (Builtin.«tuple.__eq__» ⟨[.ref l,.ref b],[]⟩) Q E s:=by
 obtain⟨⟨c1,dd1,dt1,sl1⟩,g1,hc1,n1,hd1⟩:=hl
 obtain⟨⟨c2,dd2,dt2,sl2⟩,g2,hc2,n2,hd2⟩:=hb
 simp only at hc1 hd1 hc2 hd2
 subst hc1 hd1 hc2 hd2
 obtain⟨hp,g,dr,tk,os⟩:=s
 have f2:=AutoSeq1.sub_tuple_tuple
 have e1':∀ (E:Value→Shared→Prop) (Q:Bool→Shared→Prop),Q true ⟨hp,g,dr,tk,os⟩→wpAny (model P w) A (eqBool u1 v1) Q E ⟨hp,g,dr,tk,os⟩:=e1
 have e2':∀ (E:Value→Shared→Prop) (Q:Bool→Shared→Prop),Q true ⟨hp,g,dr,tk,os⟩→wpAny (model P w) A (eqBool u2 v2) Q E ⟨hp,g,dr,tk,os⟩:=e2
 wp_walk using wpAny_loadPart' g1,wpAny_loadPart' g2,e1' _ _,e2' _ _
 simpa [Builtin.Tuple.tupleCompareSizes] using hq
theorem qLm {P:Program}{w:World}{A:Around}{E:Value→Shared→Prop}{s:Shared}{l b:Addr}{u1 u2 v1 v2:Value}{Q:Fin→Shared→Prop}(hl:s.heap.IsTuple l #[u1,u2])(hb:s.heap.IsTuple b #[v1,v2])
 (e1:EqIn P w A s u1 v1) (e2:EqIn P w A s u2 v2) (hq:Q (.done (.ret (.bool false))) s):wpAny (model P w) A (Builtin.«tuple.__ne__» ⟨[.ref l,.ref b],[]⟩) Q E s:=by
 obtain⟨⟨c1,dd1,dt1,sl1⟩,g1,hc1,n1,hd1⟩:=hl
 obtain⟨⟨c2,dd2,dt2,sl2⟩,g2,hc2,n2,hd2⟩:=hb
 simp only at hc1 hd1 hc2 hd2
 subst hc1 hd1 hc2 hd2
 obtain⟨hp,g,dr,tk,os⟩:=s
 have f2:=AutoSeq1.sub_tuple_tuple
 have e1':∀ (E:Value→Shared→Prop) (Q:Bool→Shared→Prop),Q true ⟨hp,g,dr,tk,os⟩→wpAny (model P w) A (eqBool u1 v1) Q E ⟨hp,g,dr,tk,os⟩:=e1
 have e2':∀ (E:Value→Shared→Prop) (Q:Bool→Shared→Prop),Q true ⟨hp,g,dr,tk,os⟩→wpAny (model P w) A (eqBool u2 v2) Q E ⟨hp,g,dr,tk,os⟩:=e2
 wp_walk using wpAny_loadPart' g1,wpAny_loadPart' g2,e1' _ _,e2' _ _
 simpa [Builtin.Tuple.tupleCompareSizes] using hq
theorem wW {x y:V}{us:List Value}(r:Vals [x,y] us):∃ u v,us=[u,v]∧RelV x u∧RelV y v:=by
 cases r with
 | cons a t=>cases t with
  | cons b t=>cases t;exact⟨_,_,rfl,a,b⟩
def qI6 (K:PySem.W.Frag)(neg:Bool):R2:=fun x y H Q=>∃ r1 r2 a1 a2 b1 b2:Addr,x= .ref r1∧y= .ref r2∧SqT K H r1 [.ref a1,.ref b1]∧SqT K H r2 [.ref a2,.ref b2]∧DEq K H a1 a2∧DEq K H b1 b2∧Q (.bl (!neg)) H
theorem op_eqRoom {X:Cx}(hu:X.A.units+64 < cLine):OpR X (compareOp .Eq) (qI6 X.K false):=by
 intro pins s σ H x y v u Q I rx ry h
 obtain⟨r1,r2,a1,a2,b1,b2,rfl,rfl,t1,t2,d1,d2,q⟩:=h
 cases rx;cases ry
 obtain⟨us,v1,i1,_⟩:=I.tuple t1
 obtain⟨ws,v2,i2,_⟩:=I.tuple t2
 obtain⟨_,_,rfl,q1,q2⟩:=wW v1
 obtain⟨_,_,rfl,q3,q4⟩:=wW v2
 cases q1;cases q2;cases q3;cases q4
 have i1:s.heap.IsTuple r1 #[.ref a1,.ref b1]:=i1
 have i2:s.heap.IsTuple r2 #[.ref a2,.ref b2]:=i2
 have hu1:X.A.in1.units+51 < cLine:=by show X.A.units+1+51 < cLine;omega
 refine wpAny_richCompare_same_room (op:=.Eq) i1.typeIs i2.typeIs F.slot_tuple_eq ?_ (by omega)
 refine wpAny_call_entry F.slot_tuple_eq i1.typeIs F.entry_tuple_eq ?_ (F.args_tuple_eq_2 _ _)
 exact qLn i1 i2 (d1.at I hu1) (d2.at I hu1) ⟨_,rfl,(fun z=>nomatch z),.bl true,H,I,rfl,q⟩
theorem qI2 {X:Cx}(hu:X.A.units+64 < cLine):OpR X (compareOp .NotEq) (qI6 X.K true):=by
 intro pins s σ H x y v u Q I rx ry h
 obtain⟨r1,r2,a1,a2,b1,b2,rfl,rfl,t1,t2,d1,d2,q⟩:=h
 cases rx;cases ry
 obtain⟨us,v1,i1,_⟩:=I.tuple t1
 obtain⟨ws,v2,i2,_⟩:=I.tuple t2
 obtain⟨_,_,rfl,q1,q2⟩:=wW v1
 obtain⟨_,_,rfl,q3,q4⟩:=wW v2
 cases q1;cases q2;cases q3;cases q4
 have i1:s.heap.IsTuple r1 #[.ref a1,.ref b1]:=i1
 have i2:s.heap.IsTuple r2 #[.ref a2,.ref b2]:=i2
 have hu1:X.A.in1.units+51 < cLine:=by show X.A.units+1+51 < cLine;omega
 refine wpAny_richCompare_same_room (op:=.NotEq) i1.typeIs i2.typeIs F.slot_tuple_ne ?_ (by omega)
 refine wpAny_call_entry F.slot_tuple_ne i1.typeIs F.entry_tuple_ne ?_ (F.args_tuple_ne_2 _ _)
 exact qLm i1 i2 (d1.at I hu1) (d2.at I hu1) ⟨_,rfl,(fun z=>nomatch z),.bl false,H,I,rfl,q⟩
theorem qB4 {X:Cx}{K:PySem.W.Frag}(h:X.K=K):zg X (.type "list") (fun xs H Q=>∃ p ys,xs=[.ref p]∧(SqL K H p ys∨SqT K H p ys)∧∀ l,H l=none→Q (.ref l) (upd H l (.lst ys))):=h ▸ jb
theorem qDz {X:Cx}:zg X (.builtin "len") (fun xs H Q=>∃ (a:Addr) (kvs:List (Key × V)),xs=[V.ref a]∧Rd H a (.dK kvs)∧Q (.int kvs.length) H):=by
 intro pins s σ H xs us Q I r h
 obtain⟨a,kvs,rfl,ha,q⟩:=h
 obtain⟨u,rfl,ru⟩:=qC7 r
 cases ru
 exact qO5 I ha fun t s' I'=>⟨.int _,H,I',⟨t,rfl⟩,q⟩
end L3
set_option maxRecDepth 100000
namespace L3
open PySem PySem.Spec PyProof.Rows L2
variable {X : Cx}
theorem qD4 (z:Str):∀ (n:Nat) (acc:Array Nat),((List.replicate n z.cps).foldl (· ++ ·) acc).toList=acc.toList++(List.replicate n z.cps.toList).flatten
 | 0,acc=>by simp
 | n+1,acc=>by
  rw [List.replicate_succ,List.foldl_cons,qD4 z n,Array.toList_append,List.replicate_succ,List.flatten_cons,List.append_assoc]
theorem qL4:OpR X (binaryOp .Mult) (fun x y H Q=>∃ (z:Str) (n:Int),x= .str z∧y= .int n∧2≤n∧n≤1000∧1≤z.length∧z.length≤100∧∀ r:Str,r.cps.toList=(List.replicate n.toNat z.cps.toList).flatten→Q (.str r) H):=by
 intro pins s σ H x y v u Q I rx ry h
 obtain⟨z,n,rfl,rfl,n0,n1,hz1,hz,q⟩:=h
 obtain⟨t,rfl⟩:=rx
 obtain⟨t',rfl⟩:=ry
 have hm:z.length*n.toNat≤100*1000:=Nat.mul_le_mul hz (by omega)
 have hsl:100*1000≤sizeLine:=by decide
 refine P.mul_str ?_ ?_ ?_ ?_
 · rw [decide_eq_false (by omega),decide_eq_false (by omega)];rfl
 · intro h1 _ h2
   have:(100:Int)≤(2 ^ 63 - 1) / n:=by
    rw [Int.le_ediv_iff_mul_le (by omega)]
    omega
   omega
 · intro _ _
   unfold Builtin.Str.tooLong
   exact decide_eq_false (by omega)
 · have hn2:¬ (n == 1 || z.length == 0)=true:=by
    simp
    constructor
    · omega
    · intro e;rw [e] at hz1;simp at hz1
   rw [if_neg (by omega),if_neg hn2]
   have e:=qD4 z n.toNat #[]
   rw [Array.toList_empty,List.nil_append] at e
   have hlen:(⟨(List.replicate n.toNat z.cps).foldl (· ++ ·) #[]⟩:Str).length≤sizeLine:=by
    show ((List.replicate n.toNat z.cps).foldl (· ++ ·) #[]).size≤sizeLine
    rw [← Array.length_toList,e,qMb]
    have:z.cps.toList.length=z.length:=Array.length_toList
    rw [this,Nat.mul_comm]
    omega
   exact⟨hlen,.str _,H,I.tok _,⟨_,rfl⟩,q _ e⟩
end L3
namespace L3
open PySem PySem.Spec PyProof.Rows L2 PySem.NumText PySem.Builtin.Str
def qOr (l:List Nat):List Nat:=if l.head?=some 45 then l.tail else l
def qQw (c:Nat):Bool:=!(occurrences "0123456789" ⟨#[c]⟩ 0 ("0123456789":Str).length 1).isEmpty
structure Fig (l:List Nat):Prop where
 ne:qOr l≠[]
 len:(qOr l).length≤60
 all:(qOr l).all qQw=true
end L3
namespace L3
open PySem PySem.Spec PyProof.Rows L2 PySem.NumText PySem.Builtin.Str
inductive qJy (l:List Nat):List Str→Prop where
 | none (h:l=[]):qJy l []
 | one {p:Str} (h:l=p.cps.toList) (hf:47 ∉ l):qJy l [p]
 | two {p q:Str} (h:l=p.cps.toList++47::q.cps.toList) (hp:47 ∉ p.cps.toList) (hq:47 ∉ q.cps.toList):qJy l [p,q]
 | more {p q r:Str} {t:List Str} (kY:List Nat) (h:l=p.cps.toList++47::kY) (hp:47 ∉ p.cps.toList) (hq:47∈kY):qJy l (p::q::r::t)
theorem qM {G:Prop}(k:∀ X:Prop,(G→X)→X):G:=k G id
section
variable {X : Cx}
theorem qX {a:Expr}{ta:TE}{i:Int}{j}{p pos:Pos}(ha:PE X a ta):PE X (.Subscript a (.Constant (.int i) j p) pos) (tOp (qMj X.K) ta (tC (.int i))):=jr qJj ha qE (fun _ _=>rfl)
theorem qg (i:Nat){x:Str}{e:Expr}{te:TE}{pos pos':Pos}(hN:X.N.Nodup)(he:PE X e te)(hi:X.N[i]? =some x:=by rfl)(hx:Loc X.env.scope x:=by exact Or.inl rfl)(hs:swapsWith e (some (.Name x pos')) pos.line X.env=pure false:=by rfl)(hf:X.fn x=true∨X.env.scope.names.lookup x=some .local:=by first | exact .inl rfl | exact .inr rfl | assumption):
 PS X (.Assign [.Name x pos'] e pos) (qMk te (zw i)):=qF4 hN hi hx he hs hf
end
end L3
set_option maxRecDepth 100000
namespace L3
open PySem PySem.Spec PyProof.Rows L2
end L3
set_option maxRecDepth 100000
namespace L3
open PySem PySem.Spec PyProof.Rows L2
end L3
set_option maxRecDepth 100000
namespace L3
open PySem PySem.Spec PySem.W PyProof.Rows L2
section
variable {X : Cx} {pins : List (Addr × Obj)} {σ : L2.St} {H : Hp} {s : Shared} {a : Addr} {kvs : List (Key × V)} {k : Key} {u r : Value} {A : Around} {E : Value → Shared → Prop}
end
end L3
set_option maxRecDepth 100000
namespace L3
open PySem PySem.Spec PySem.W PyProof.Rows L2
section
variable {prog : Program} {w : World} {A : Around} {R : Result → Shared → Prop} {I : Addr} {fp wr : List Addr} {n : Nat} {P : Nat → Value → Prop} {St : Nat → Heap → Prop} {kw : List (Str × Value)}
end
end L3
set_option maxRecDepth 100000
namespace L3
open PySem PySem.Spec PyProof.Rows L2
def g5 (K:PySem.W.Frag):TG:=qOf K 5 (qAx (zw 0) (qAx (zw 1) (qAx (zw 2) (qAx (zw 3) (qAx (zw 4) qOh)))))
end L3
set_option maxRecDepth 100000
namespace L3
open PySem PySem.Spec PyProof.Rows L2
section
variable {X : Cx} {elt iter tg : Expr} {cs : List Expr} {scope : Scope} {cl : List (Str × Addr)} {pos : Pos} {wi : TI} {g : TG} {tc : TT} {te : TE} {xs ys : List Str} {js : List Nat} {T : L2.St → VK → It → Hp → Prop} {Ex : Value → Option Addr → Hp → Prop}
end
end L3
set_option maxRecDepth 100000
namespace L3
open PySem PySem.Spec PyProof.Rows L2
variable {X : Cx}
end L3
set_option maxRecDepth 100000
namespace L3
open PySem PySem.Spec PyProof.Rows L2
section
variable {prog : Program} {w : World} {A : Around} {E : Value → Shared → Prop} {s : Shared}
end
end L3
set_option maxRecDepth 100000
namespace L3
open PySem PySem.Spec PyProof.Rows L2
inductive KEs (P:Params):List (Str × V)→List DictEntry→Prop where
 | nil:KEs P [] []
 | cons {k:Str} {t:Tok} {v:V} {u:Value} {l:List (Str × V)} {es:List DictEntry} (r:RelV v u) (q:KEs P l es):KEs P ((k,v)::l) (⟨PyData.keyHash P k,.str k t,u⟩::es)
structure KDi (K:PySem.W.Frag)(P:Params)(a:Addr)(l:List (Str × V)):Prop where
 ex:∃ es n,K.lookup a=some ⟨.type "dict",none,.dict es n,#[]⟩∧KEs P l es.toList
 ns:(a == sysModules)=false
theorem KEs.lit {P:Params}{l:List (Str × V)}{es:List DictEntry}(h:KEs P l es):PySem.W.KeysLit P es:=by
 induction h with
 | nil=>trivial
 | cons r q ih=>exact⟨⟨_,_,rfl,rfl⟩,ih⟩
theorem KEs.find {P:Params}{l:List (Str × V)}{es:List DictEntry}(h:KEs P l es)(k:Str):RelO (l.lookup k) ((es.find? fun e=>Value.isStrOf k e.key).map (·.val)):=by
 induction h with
 | nil=>exact True.intro
 | @cons k' t v u l es r q ih=>
  rw [List.lookup_cons,List.find?_cons]
  show RelO _ (Option.map _ (match k' == k with | true=>_ | false=>_))
  have e:(k == k')=(k' == k):=Bool.beq_comm
  rw [e]
  cases k' == k with
  | true=>exact r
  | false=>exact ih
theorem KDi.map {X:Cx}{pins:List (Addr × Obj)}{σ:L2.St}{H:Hp}{s:Shared}{a:Addr}{l:List (Str × V)}(I:Inv X pins σ H s)(h:KDi X.K X.w.params a l):∃ f:Str→Option Value,s.heap.MapOf (strKind X.prog X.w) a f∧∀ k,RelO (l.lookup k) (f k):=by
 obtain⟨es,n,hl,q⟩:=h.ex
 refine⟨_,PySem.W.mapOf_K (prog:=X.prog) (fun b o e=>I.kIn b o e) hl q.lit,fun k=>?_⟩
 have:=q.find k
 unfold findBy
 rw [← Array.find?_toList]
 exact this
section
variable {X : Cx} {o i : Expr} {pos : Pos} {td ty : TE}
end
end L3
set_option maxRecDepth 100000
namespace L3
open PySem PySem.Spec PyProof.Rows L2
variable {X : Cx}
end L3
set_option maxRecDepth 100000
namespace L3
open PySem PySem.Spec PyProof.Rows L2 PySem.Builtin.Str PySem.StrLaws
end L3
set_option maxRecDepth 100000
namespace L3
open PySem PySem.Spec PyProof.Rows L2
theorem qCj:entryFor table "proto.unchain"=some Builtin.«proto.unchain»:=entryFor_of_fast (by kernel_rfl)
section
variable {prog : Program} {w : World} {A : Around} {E : Value → Shared → Prop} {s : Shared}
theorem qFu {α:Type}{e ea:Addr}{o oe:Obj}{ve vs:Array Value}{Q:α→Shared→Prop}(hh:A.handled=some (.ref ea))(ne:ea≠e)(he:s.heap.get? e=some o)(hd:o.data= .fields ve)(h2:2 < ve.size)(ha:s.heap.get? ea=some oe)(hda:oe.data= .fields vs)(hc:vs[2]? =some .none)
 (h:E (.ref e) {s with heap:=s.heap.update e (Obj.mapFields (·.setIfInBounds 2 (.ref ea)))}):wpAny (model prog w) A (raiseNew (.ref e):Sem α) Q E s:=by
 unfold raiseNew
 refine wpAny_bind (wpAny_handled ?_)
 rw [hh]
 dsimp only
 have nb:(Value.ref ea != Value.ref e)=true:=by
  rw [bne_iff_ne]
  intro q
  exact ne (Value.ref.inj q)
 rw [if_pos nb]
 refine wpAny_bind (wpAny_holding (wpAny_runValue (codeAny_builtin qCj ?_)))
 unfold Builtin.«proto.unchain»
 dsimp only
 refine wpAny_bind (wpAny_field ha hda hc ?_)
 rw [if_pos (by rfl)]
 refine wpAny_pure ?_
 show wpAny _ _ _ _ _ _
 refine wpAny_bind (wpAny_setField he hd h2 ?_)
 exact wpAny_throw h
variable {env : Env} {nm q : Str} {C N : Addr} {bs bm : List Value} {hdct : Bool} {sn : List Str} {sub : List Value} {ab : Bool} {col : Option Bool} {dd : Option Addr} {k0 k1 k2 k3 k5 : Option Value} {newId : String}
theorem qI0 {x c:Sem Value}{ea:Addr}{Q:Flow→Shared→Prop}(hbase:bm.contains (.type "BaseException")=true)(hh:A.handled=some (.ref ea))(hcz:∀ (s:Shared) (Q:Value→Shared→Prop),Q .none s→wpAny (model prog w) A c Q E s)
 (h:wpAny (model prog w) A x (fun v s₁=>∃ e t oa va,v= .ref e∧s₁.heap.get? C=some (excClassObj nm q C N bs bm hdct sn sub ab col dd k0 k1 k2 k3 k5 newId)∧
   s₁.heap.get? e=some {cls:=.ref C,data:=.fields #[.ref t,.none,.none,.none,.bool false,.none]}∧ea≠e∧s₁.heap.get? ea=some oa∧oa.data= .fields va∧va[2]? =some .none∧
   ∀ h',Heap.SameBut e s₁.heap h'→h'.get? e=some {cls:=.ref C,data:=.fields #[.ref t,.none,.ref ea,.none,.bool true,.none]}→E (.ref e) {s₁ with heap:=h'}) E s):
 wpAny (model prog w) A (raiseStmt env (some x) (some c)) Q E s:=by
 have hcB:(Value.ref C::bm).contains (.type "BaseException")=true:=by rw [List.contains_cons,hbase,Bool.or_true]
 unfold raiseStmt
 refine wpAny_bind (wpAny_mono h (fun v s₁ h₁=>?_) fun _ _ x=>x)
 obtain⟨e,t,oa,va,rfl,hC,he,ne,ha,hda,hc2,hE⟩:=h₁
 obtain⟨hp,g,d,tk,os⟩:=s₁
 dsimp only at hC he ha hE ⊢
 have nC:C≠e:=fun z=>by
  rw [z,he] at hC
  cases hC
 refine wpAny_bind (wpAny_holding (hcz _ _ (wpAny_bind (wpAny_pure ?_))))
 dsimp only
 repeat (first | with_reducible refine wpAny_loadPart_at he ?_ | with_reducible refine wpAny_loadPart_at hC ?_ | (with_reducible refine wpAny_isSubtype_exc hC ?_;rw [hcB]) | wp_step)
 have u1:=Heap.get?_update_self (Obj.mapFields (·.setIfInBounds 3 Value.none)) he rfl
 have u2:=Heap.get?_update_self (Obj.mapFields (·.setIfInBounds 4 (Value.bool true))) u1 rfl
 have o1:((hp.update e (Obj.mapFields (·.setIfInBounds 3 Value.none))).update e (Obj.mapFields (·.setIfInBounds 4 (Value.bool true)))).get? ea=some oa:=(Heap.get?_update_other _ _ (Ne.symm ne)).trans ((Heap.get?_update_other _ _ (Ne.symm ne)).trans ha)
 refine qFu hh ne u2 rfl (by simp) o1 hda hc2 (hE _ ?_ ?_)
 · exact((Heap.SameBut.update ..).trans (Heap.SameBut.update ..)).trans (Heap.SameBut.update ..)
 · exact Heap.get?_update_self (Obj.mapFields (·.setIfInBounds 2 (Value.ref ea))) u2 rfl
variable {bmB : List Value} {B initId : String}
theorem qG4 (F:ExcBaseFacts B newId initId bmB){mN:Str→Option Value}{x:Str}{np cpos kpos pos:Pos}{args:List Expr}{ea:Addr}{kj:Nat}{Q:Flow→Shared→Prop}
 (hbase:bm.contains (.type "BaseException")=true) (hh:A.handled=some (.ref ea)) (hplain:(backTo cpos (starEach args env)).any (·.1)=false) (hni:mN "__init__"=none)
 (h:wpAny (model prog w) A (eval (.Name x np) env) (fun f s₁=>f= .ref C∧wpAny (model prog w) A (evalArgs (.ref C) true (backTo cpos (starEach args env)) [])
   (fun a s₂=>a.kw=[]∧a.pos.length≤sizeLine∧s₂.heap.get? C=some (excClassObj nm q C N bs bm hdct sn sub ab col dd k0 k1 k2 k3 k5 newId)∧s₂.heap.Ns N mN∧OwnTail s₂.heap bmB bm∧qNp s₂.heap ea .none∧
     ∀ h' e t,(∀ b o,s₂.heap.get? b=some o→h'.get? b=some o)→s₂.heap.get? e=none→h'.get? e=some {cls:=.ref C,data:=.fields #[.ref t,.none,.ref ea,.none,.bool true,.none]}→E (.ref e) {s₂ with heap:=h'}) E s₁) E s):
 wpAny (model prog w) A (exec (.Raise (some (.Call (.Name x np) args [] cpos)) (some (.Constant .none kj kpos)) pos) env) Q E s:=by
 rw [arm_exec_Raise]
 refine wpAny_bind (wpAny_standAt (qI0 (C:=C) (nm:=nm) (q:=q) (N:=N) (bs:=bs) (bm:=bm) (hdct:=hdct) (sn:=sn) (sub:=sub) (ab:=ab) (col:=col) (dd:=dd) (k0:=k0) (k1:=k1) (k2:=k2) (k3:=k3) (k5:=k5) (newId:=newId) hbase hh ?cz ?xx))
 case cz=>exact fun s Q h=>wpAny_bind (Constant_none (wpAny_bind (wpAny_standAt (wpAny_pure h))))
 case xx=>
 refine wpAny_bind (wpAny_mono (wpAny_Call_ofName (wpAny_mono h (fun f s₁ h₁=>?_) fun _ _ x=>x)) (fun v s₃ h₃=>wpAny_bind (wpAny_standAt (wpAny_pure h₃))) fun _ _ x=>x)
 obtain⟨rfl,h₁⟩:=h₁
 unfold callWith
 refine wpAny_bind (wpAny_holding (wpAny_mono h₁ (fun a s₂ h₂=>wpAny_bind (wpAny_standAt ?_)) fun _ _ x=>x))
 obtain⟨apos,akw⟩:=a
 obtain⟨hkw,hlen,hC,hn,T,⟨oa,va,ha,hda,hva⟩,h₂⟩:=h₂
 obtain rfl:akw=[]:=hkw
 obtain⟨hp,g,d,tk,os⟩:=s₂
 simp only [hplain]
 refine wpAny_bind (wpAny_keeperOf_exc hC ?_)
 refine wpAny_bind (wpAny_call_exc_subT (hrest:=hlen) F T hC hn hni fun h' e hm=>wpAny_bind (wpAny_holding (wpAny_point (wpAny_pure ?_))))
 obtain⟨t,ht,_,_⟩:=hm.there
 have ne:ea≠e:=fun z=>by
  have n:=hm.new
  rw [← z] at n
  rw [n] at ha;cases ha
 refine⟨e,t,oa,va,rfl,hm.keeps _ _ hC,ht,ne,hm.keeps _ _ ha,hda,hva,fun h'' sb he=>h₂ h'' e t (fun b o q=>?_) hm.new he⟩
 have nb:b≠e:=fun z=>by
  have n:=hm.new
  rw [← z] at n
  rw [n] at q;cases q
 exact(sb.2 b nb).trans (hm.keeps _ _ q)
end
def XE0 (X:Cx)(Ex:Value→Option Addr→Hp→Prop):Value→Shared→Prop:=fun e s'=>∃ ea C σ H',e= .ref ea∧Inv X [] σ H' s'∧qHs X.s₀.heap H' X.pn s'.heap ea C∧qNp s'.heap ea .none∧Ex C.1 C.2 H'
def qMc (P:Program)(w:World):CXT:=fun outer H s E e s'=>∃ ea C H',e= .ref ea∧s'.os=s.os∧AllBare s'.gens∧Un (frs outer) [] H H' s.heap s'.heap∧HOk P w H' s'.heap∧qHs s.heap H' [] s'.heap ea C∧qNp s'.heap ea .none∧E C.1 C.2 H'
section
variable {P : Program} {w : World} {K : PySem.W.Frag} {mg : Str → Option Value} {base : Heap}
theorem qQx {x qual:Str}{st:Stmt}{f:Addr}{fd:FuncData}{N ps:List Str}{k:Nat}{sp:Sp}(F:Fun K x qual st f fd)(S:qP N ps (qJ st))(len:∀ vs H Q E,sp vs H Q E→vs.length=ps.length)
 (hbody:∀ (cdv:Value) (A:Around) (outer:List Env) (s:Shared) (H:Hp) (vs:List V) (Q:VK) (E:XK),Room k (A.deeper (envOfC qual (qJ st) s.heap.objs.size f cdv))→sp vs H Q E→
   ∃ t,PSs ((qHp (qMc P w) P w K mg base N qual (qJ st) f cdv A outer s H E).wish (XE0 (qHp (qMc P w) P w K mg base N qual (qJ st) f cdv A outer s H E) E)) (xf st) t∧
    t {nx:=fun _ H'=>Q .non H',rt:=Q} (qBa N vs) H):FnOk P w K mg base (qMc P w) (k+1) f fd ps sp:=by
 obtain⟨oc,od,kV,doc,pm,an,cdv,ct,osl,rfl,lk,hcd⟩:=F.ex
 refine qL9 lk hcd S len fun A outer s H vs Q E hr hsp=>?_
 obtain⟨t,h,q⟩:=hbody cdv A outer s H vs Q E hr hsp
 refine⟨t,qH9 h ?_,q⟩
 rintro e s' ⟨ea,C,σ,H',rfl,I,⟨n1,hd,r,n3⟩,c2,z⟩
 show wpAny _ _ (leaving _ _) _ _ _
 unfold leaving
 refine wpAny_bind (qCp I.ok.frames I.stack rfl r fun h' N'=>?_)
 obtain⟨I',x'⟩:=jg I rfl r n1 n3 N'
 exact⟨ea,C,H',rfl,I.os,I.bare,I'.base,I'.hok,x',N'.c2 _ c2,z⟩
end
theorem qMz {X:Cx}{Ex:Value→Option Addr→Hp→Prop}(hex:X.ex=[]):qDq (qMc X.prog X.w) (X.wish (XE0 X Ex)) Ex:=by
 rintro pins σ H s e s' I ⟨ea,C,H',rfl,os,bare,un,hok,x,c2,q⟩
 obtain⟨ea',C',σ',H'',e,I',x',q'⟩:=qNw (X:=X) (Ex:=fun a b H''=>a=C.1∧b=C.2∧H''=H') hex pins σ H s (.ref ea) s' (I.unwish.wish _) ⟨ea,C,H',rfl,os,bare,un,hok,x,rfl,rfl,rfl⟩
 cases e
 obtain⟨e1,e2,rfl⟩:=q'
 have eC:C'=C:=Prod.ext e1 e2
 subst eC
 exact⟨ea,C',σ',H'',rfl,I',x',c2,q⟩
theorem qKe {X:Cx}{Ex:Value→Option Addr→Hp→Prop}{k j:Nat}{x:Str}{st:Stmt}{ps:List Str}{f:Addr}{fd:FuncData}{sp:Sp}{e:Expr}{es:List Expr}{t:TA}{p pos:Pos}(D:Def X.K X.mg x st ps f fd)(F:FnOk X.prog X.w X.K X.mg X.base (qMc X.prog X.w) j f fd ps sp)(hr:Room k X.A)(hg:Gl X x)
 (ha:PA (X.wish (XE0 X Ex)) (e::es) t) (hj:j≤k:=by decide) (hex:X.ex=[]:=by rfl)
 (hdb:(x == ("__debug__":Str))=false:=by decide) (he:starEach (e::es) X.env=(false,eval e X.env)::starEach es X.env:=by rfl) (hpl:(backTo pos (starEach es X.env)).any (·.1)=false:=by rfl):
 PE (X.wish (XE0 X Ex)) (.Call (.Name x p) (e::es) [] pos) (qJ7 sp [] Ex t):=
 qFy (X:=X.wish (XE0 X Ex)) (CX:=qMc X.prog X.w) F (hr.mono hj) hg D.m D.F.kp D.b .nil (qMz hex) ha hdb he hpl
theorem qAg {X:Cx}{Ex:Value→Option Addr→Hp→Prop}{x:Str}{C:Addr}{np cpos pos:Pos}{e₀:Expr}{kY:List Expr}{t:TA}(hcm:X.calm=true)(hg:Gl X x)(hm:X.mg x=some (.ref C))(hx:OwnX X.K C)(ha:PA (X.wish (XE0 X Ex)) (e₀::kY) t)
 (he:starEach (e₀::kY) X.env=(false,eval e₀ X.env)::starEach kY X.env:=by rfl) (hpl:(backTo cpos (starEach kY X.env)).any (·.1)=false:=by rfl) (hex:X.ex=[]:=by rfl) (hdb:(x == ("__debug__":Str))=false:=by decide):
 PS (X.wish (XE0 X Ex)) (.Raise (some (.Call (.Name x np) (e₀::kY) [] cpos)) none pos) (qKw C Ex t):=by
 intro pins s σ H D I h
 obtain⟨tl,N,nm,q,bs,hdct,sn,sub,ab,col,dd,k0,k1,k2,k3,k5,mN,hC,hN,hni,T⟩:=
  (qFf (X:=I.ok.mod.kin) hm hx).obj
 refine wpAny_Raise_call_subT (bm:=tl) (C:=C) (N:=N) (nm:=nm) (q:=q) (bs:=bs) (hdct:=hdct) (sn:=sn) (sub:=sub) (ab:=ab) (col:=col) (dd:=dd) (k5:=k5) (k0:=k0) (k1:=k1) (k2:=k2) (k3:=k3)
  PySem.F.excBase_ValueError (mN:=mN) (T.hasType PySem.F.excBase_ValueError.hasBase) (I.ok.hd hcm) (by rw [he];show (false || (backTo cpos (starEach kY X.env)).any (·.1))=false;rw [hpl];rfl) hni (kc I hg hm ⟨rfl,?_⟩ hdb)
 have z:=ha cpos pins s σ H _ I h
 rw [show (X.wish (XE0 X Ex)).env=X.env from rfl] at z
 rw [he] at z ⊢
 refine Calls.evalArgs_plain (wpAny_mono z (fun us s2 w=>?_) fun _ _ y=>y)
 obtain⟨vs,H1,I1,r1,hl,ex⟩:=w
 have I1':=I1.unwish
 refine⟨rfl,by rw [← r1.length];exact hl,I1.bk _ _ hC,hN.keeps I1.bk,T.keeps I1.bk,fun h' e hmk=>?_⟩
 obtain⟨tt,q1,q2,q3⟩:=hmk.there
 have I2:Inv X pins σ H1 {s2 with heap:=h'}:=I1'.kept (t':=s2.toks) hmk.keeps
 refine⟨e,(.ref C,none),σ,H1,rfl,I2.pins_of (pins':=[]) fun p hp=>(nomatch hp),⟨⟨?_,?_,fun p hp z=>?_⟩,none,⟨_,_,q1,rfl⟩,fun T e'=>nomatch e'⟩,⟨_,_,q1,rfl,rfl⟩,ex⟩
 · cases w:X.s₀.heap.get? e with
   | none=>rfl
   | some o=>
    obtain⟨o',w'⟩:=I1'.base.there e o w (by rw [hex];intro y;cases y)
    rw [hmk.new] at w';cases w'
 · cases w:H1 e with
   | none=>rfl
   | some u=>
    obtain⟨o',w'⟩:=qGb (I1'.hok e u w)
    rw [hmk.new] at w';cases w'
 · have q':=(I1'.pin p (List.mem_append_left _ hp)).1
   rw [z,hmk.new] at q';cases q'
theorem qJr {M:Model}{A:Around}{s:Shared}{mk:Option Value}{base:Heap}{env:Env}{outer:List Env}{L e:Addr}{C:EC}{hd:Option Addr}{E2:Value→Shared→Prop}
 (fr:A.frames=some (env::outer)) (ff:s.heap.FunFrames base (env::outer)) (ef:env.frame=some L) (re:xn s.heap e C hd)
 (k:∀ h',Noted (frs (env::outer)) e hd C s.heap h'→E2 (.ref e) {s with heap:=h'}):notedBy M (A.mark mk) env (cameBackBy M A env E2) (.ref e) s:=by
 refine qCo (A:=A.mark mk) fr ff ef re fun h1 N1=>?_
 obtain⟨T,hT,rT⟩:=N1.ent
 obtain⟨vs,sl,q,r1,_⟩:=id rT
 show wpAny M A _ _ _ _
 refine wpAny_bind (wpAny_field (s:={s with heap:=h1}) q rfl r1 ?_)
 rw [if_neg (by simp)]
 exact vt (s:={s with heap:=h1}) rT fun h2 N2=>k h2 (N1.then hT (N2 _))
def qPz (K:PySem.W.Frag)(Ex0:Value→Option Addr→Hp→Prop)(C D:Addr)(Ex:Value→Option Addr→Hp→Prop)(tb:TS):TS:=fun Dd σ H=>tb Dd σ H∧∀ (B:EC) (H':Hp),Ex0 B.1 B.2 H'→PySem.W.exmOne K B.1 (.ref C)=some true∧Ex (.ref D) none H'
theorem qMa {X:Cx}{body:List Stmt}{x y z:Str}{C D:Addr}{np np2 sp2 cpos kpos rpos hpos pos:Pos}{kj kz:Nat}{tb:TS}{Ex:Value→Option Addr→Hp→Prop}(Ex0:Value→Option Addr→Hp→Prop)
 (hg:Gl X x) (hm:X.mg x=some (.ref C)) (hb:∀ l,PSs ((pnX X l).wish (XE0 (pnX X l) Ex0)) body tb) (hg2:Gl X y) (hm2:X.mg y=some (.ref D)) (hx2:OwnX X.K D)
 (hstk:X.stack=X.env::X.outer:=by rfl) (hfr:X.env.frame=some X.env.locals:=by rfl) (hex:X.ex=[]:=by rfl) (hdb:(x == ("__debug__":Str))=false:=by decide) (hdb2:(y == ("__debug__":Str))=false:=by decide):
 PS (X.wish (XE X Ex)) (.Try body [.ExceptHandler (some (.Name x np)) none [.Raise (some (.Call (.Name y np2) [.Constant (.str z) kz sp2] [] cpos)) (some (.Constant .none kj kpos)) rpos] hpos] [] [] pos) (qPz X.K Ex0 C D Ex tb):=by
 rintro pins s σ H Dd I ⟨h1,h2⟩
 have I:=I.unwish
 have I0:=qK7 I
 refine wpAny_Try_except (wpAny_mono (hb (X.pn++pins) [] s σ H Dd (I0.wish _) h1) (fun f s1 q=>?_) fun e s1 q=>?_)
 · have q:=q.unwish
   cases f with
   | next=>
    obtain⟨σ',H',J,z⟩:=q
    exact qR (X:=X.wish (XE X Ex)) pins s1 σ' H' Dd ((zt J).wish _) z
   | brk=>
    obtain⟨σ',H',J,z⟩:=q
    exact⟨σ',H',(zt J).wish _,z⟩
   | cont=>
    obtain⟨σ',H',J,z⟩:=q
    exact⟨σ',H',(zt J).wish _,z⟩
   | ret u=>
    obtain⟨v,σ',H',J,r,z⟩:=q
    exact⟨v,σ',H',(zt J).wish _,r,z⟩
 · obtain⟨ea,B,σ',H',rfl,I1,⟨n1,hd,r,n3⟩,c2,ex⟩:=q
   obtain⟨hx,ht⟩:=h2 B H' ex
   have fr:X.A.frames=some (X.env::X.outer):=by rw [← hstk];exact I.ok.frames
   have ff:s1.heap.FunFrames X.base (X.env::X.outer):=by
    have z:=I1.stack
    rw [show (pnX X (X.pn++pins)).stack=X.env::X.outer from hstk] at z
    exact z
   refine qCp fr ff hfr r fun h' N'=>?_
   have N':Noted (frs X.stack) ea hd B s1.heap h':=by rw [hstk];exact N'
   obtain⟨I2,n1,hd2,r2,n3⟩:=jg I1 hex r n1 n3 N'
   have c2:=N'.c2 _ c2
   refine wpAny_handleBy_cons (codeAny_handlers_test (kc (X:=hdX (pnX X (X.pn++pins)) ea) (qDi I2) hg hm ?_ hdb)) (by intro z;cases z)
   have LT:PySem.W.Looks (model X.prog X.w) h' (typeOf (.ref ea)) B.1:=by
    obtain⟨vs,sl,qe,_⟩:=r2
    exact(PySem.W.Looks.ld qe).andThen .now
   refine(PySem.W.exm_one (M:=model X.prog X.w) I2.kIn LT hx).here ?_
   show codeAny _ _ _ _ _
   obtain⟨T,rfl,r3⟩:∃ T,hd2=some T∧xn h' ea B (some T):=by
    obtain⟨T,_,_⟩:=N'.ent
    cases hd2 with
    | some T=>exact⟨T,rfl,r2⟩
    | none=>
     obtain⟨T,_,rT⟩:=N'.ent
     obtain⟨vs,sl,q1,q2⟩:=r2
     obtain⟨vs',sl',q1',q2',_⟩:=rT
     rw [q1] at q1'
     cases q1'
     rw [q2] at q2'
     cases q2'
   refine codeAny_handlers_suite (vY r3 fun h3 N3=>?_)
   obtain⟨I3,n1,hd3,r4,n3⟩:=jg I2 hex r3 n1 n3 (N3 _)
   have c3:=(N3 []).c2 _ c2
   have hdn:(pnX X (X.pn++pins)).calm=true→(pnX X (X.pn++pins)).A.handled=none:=I3.ok.hd
   obtain⟨oa,va,ha,hda,hva⟩:=c3
   have nfs:ea ∉ X.fs:=fun hb=>by
    obtain⟨_,o,q,_⟩:=I.ok.funs.mem hb
    have n0:X.s₀.heap.get? ea=none:=n1.1
    rw [n0] at q;cases q
   have nloc:ea≠X.env.locals:=fun hb=>by
    obtain⟨m,⟨o,es,ep,ho,hd',_⟩,_⟩:=I3.loc
    have ho':h3.get? ea=some o:=by rw [hb];exact ho
    rw [ha] at ho';cases ho'
    rw [hda] at hd';cases hd'
   have J:=(qDi (ea:=ea) I3).pins_of (pins':=[(ea,oa)]) fun p hp=>by
    obtain rfl:p=(ea,oa):=by simpa using hp
    exact⟨ha,n1.2.1,nloc,nfs,fun v q=>by rw [hda] at q;cases q⟩
   obtain⟨tl,N,nm,q,bs,hdct,sn,sub,ab,col,dd,k0,k1,k2,k3,k5,mN,hC,hN,hni,T⟩:=(qFf (X:=J.ok.mod.kin) hm2 hx2).obj
   show wpAny _ _ (execs [_] X.env) _ _ _
   rw [execs]
   refine wpAny_bind (qG4 (env:=X.env) (bm:=tl) (C:=D) (N:=N) (nm:=nm) (q:=q) (bs:=bs) (hdct:=hdct) (sn:=sn) (sub:=sub) (ab:=ab) (col:=col) (dd:=dd) (k5:=k5) (k0:=k0) (k1:=k1) (k2:=k2) (k3:=k3)
    PySem.F.excBase_ValueError (mN:=mN) (T.hasType PySem.F.excBase_ValueError.hasBase) rfl rfl hni (kc (X:=hdX (pnX X (X.pn++pins)) ea) J hg2 hm2 ⟨rfl,?_⟩ hdb2))
   have zz:=fun E'=>qA (X:=(hdX (pnX X (X.pn++pins)) ea).wish E') (qI (x:=z) (j:=kz) (pos:=sp2)) qD rfl cpos [(ea,oa)] _ σ' H' (fun vs H1=>vs=[.str z]∧H1=H') (J.wish E') ⟨rfl,rfl⟩
   refine Calls.evalArgs_plain (wpAny_mono (zz _) (fun us s5 w=>?_) fun _ _ y=>y)
   obtain⟨vs,H1,J1,r1,evs,eH⟩:=w
   rw [eH] at J1
   have J1:=J1.unwish
   subst evs
   have hl:=r1.length
   refine⟨rfl,by rw [← hl];show 1≤sizeLine;decide,J1.bk _ _ hC,hN.keeps J1.bk,T.keeps J1.bk,⟨oa,va,(J1.pin (ea,oa) (by simp)).1,hda,hva⟩,fun h5 e t kp nw he=>?_⟩
   have I5:Inv (pnX X (X.pn++pins)) [] σ' H' {s5 with heap:=h5}:=qCr ((J1.kept (t':=s5.toks) kp).pins_of (pins':=[]) fun p hp=>(nomatch hp)) hdn
   have re5:xn h5 e (.ref D,none) none:=⟨_,_,he,rfl⟩
   have ne5:qD5 X.s₀.heap H' (X.pn++pins) e:=by
    refine⟨?_,?_,fun p hp z=>?_⟩
    · cases w:X.s₀.heap.get? e with
      | none=>rfl
      | some o=>
       obtain⟨o',w'⟩:=J1.base.there e o w (by show e ∉ X.ex;rw [hex];intro y;cases y)
       rw [nw] at w';cases w'
    · cases w:H' e with
      | none=>rfl
      | some u=>
       obtain⟨o',w'⟩:=qGb (J1.hok e u w)
       rw [nw] at w';cases w'
    · have q':=(J1.pin p (List.mem_append_left _ hp)).1
      rw [z,nw] at q';cases q'
   have ff5:h5.FunFrames X.base (X.env::X.outer):=by
    have z:=I5.stack
    rw [show (pnX X (X.pn++pins)).stack=X.env::X.outer from hstk] at z
    exact z
   refine qJr fr ff5 hfr re5 fun h6 N6=>?_
   have N6:Noted (frs X.stack) e none (.ref D,none) h5 h6:=by rw [hstk];exact N6
   obtain⟨I6,n6,hd6,r6,n7⟩:=jg I5 hex re5 ne5 (fun T e'=>nomatch e') N6
   have wk:∀ b,qD5 X.s₀.heap H' (X.pn++pins) b→qD5 X.s₀.heap H' X.pn b:=fun b n=>⟨n.1,n.2.1,fun p hp=>n.2.2 p (List.mem_append_left _ hp)⟩
   exact⟨e,(.ref D,none),σ',H',rfl,(zt I6).pins_of (pins':=[]) fun p hp=>(nomatch hp),⟨wk _ n6,hd6,r6,fun T q=>wk _ (n7 T q)⟩,ht⟩
end L3
set_option maxRecDepth 100000
namespace L3
open PySem PySem.Spec PyProof.Rows L2
variable {X : Cx}
theorem qGv:OpR X (binaryOp .Mult) (fun x y H Q=>∃ (z:Str) (n:Int),x= .str z∧y= .int n∧1≤n∧n≤1000∧1≤z.length∧z.length≤100∧∀ r:Str,r.cps.toList=(List.replicate n.toNat z.cps.toList).flatten→Q (.str r) H):=by
 intro pins s σ H x y v u Q I rx ry h
 obtain⟨z,n,rfl,rfl,n0,n1,hz1,hz,q⟩:=h
 by_cases h1:n=1
 · subst h1
   obtain⟨t,rfl⟩:=rx
   obtain⟨t',rfl⟩:=ry
   refine P.mul_str (by decide) (fun _ h=>absurd h (by simp)) (fun _ h=>absurd h (by simp)) ?_
   rw [if_neg (by decide),if_pos (by simp)]
   exact⟨.str z,H,I,⟨_,rfl⟩,q z (by simp)⟩
 · exact qL4 pins s σ H _ _ _ _ Q I rx ry ⟨z,n,rfl,rfl,by omega,n1,hz1,hz,q⟩
theorem kK:zg X (.type "dict") (fun xs H Q=>∃ (a:Addr) (kvs:List (Key × V)),xs=[.ref a]∧Rd H a (.dK kvs)∧∀ p,H p=none→Q (.ref p) (upd H p (.dK kvs))):=by
 intro pins s σ H xs us Q I r h
 obtain⟨a,kvs,rfl,e,q⟩:=h
 obtain⟨u,rfl,rx⟩:=qC7 r
 cases rx
 exact qGc I e fun p s' hp I'=>⟨.ref p,_,I',rfl,q p hp⟩
end L3
set_option maxRecDepth 100000
namespace Lw
open PySem L2 L3 Mt
seal L2.PSs L2.PS L2.PE L2.PA L2.PT L2.PW L2.PC L2.PI L2.PG L2.PGs L2.PO
def top (i:Nat):Stmt:=PySem.Challenge.pw_reelcut_k24_rooms_refused.main.body.getD i (.Pass ⟨0,0,0,0⟩)
theorem scA {N P:List Str}{sc:Scope}(h1:sc.kind= .function:=by rfl)(h2:sc.isCoroutine=false:=by rfl)(h3:sc.isGenerator=false:=by rfl)(h4:N.Nodup:=by decide+kernel)(h5:N.take P.length=P:=by rfl)(h6:∀ x∈P,sc.names.lookup x=some .local∨sc.names.lookup x=some .cell:=by decide+kernel)(h7:∀ y∈sc.names,y.2≠ .free:=by decide+kernel):qP N P sc:=⟨h1,h2,h3,h4,h5,h6,h7⟩
abbrev v9:Stmt:=top 7
abbrev j9:Stmt:=top 8
abbrev xy:Stmt:=top 9
abbrev vv:Stmt:=top 10
abbrev qB1:Stmt:=top 11
abbrev wx:Stmt:=top 12
abbrev vo:Stmt:=top 13
abbrev vj:Stmt:=top 14
abbrev kr:Stmt:=top 15
abbrev vm:Stmt:=top 16
abbrev qAa:Stmt:=top 22
abbrev xN:Stmt:=top 23
abbrev wB:Stmt:=top 24
abbrev zu:Stmt:=top 25
abbrev v4:Stmt:=top 26
abbrev zd:Stmt:=top 27
abbrev xP:Stmt:=top 28
abbrev kd:Stmt:=top 29
abbrev ku:Stmt:=top 30
abbrev kx:Stmt:=top 32
abbrev xL:Stmt:=top 33
abbrev jM:Stmt:=top 34
abbrev zf:Stmt:=top 35
abbrev v6:Stmt:=top 36
abbrev wZ:Stmt:=top 37
abbrev ww:Stmt:=top 38
abbrev xE:Stmt:=top 39
abbrev zI:Stmt:=top 40
abbrev xO:Stmt:=top 41
abbrev jx:Stmt:=top 42
abbrev zm:Stmt:=top 44
abbrev zE:Stmt:=top 45
abbrev ke:Stmt:=top 46
abbrev xD:Stmt:=top 47
abbrev xh:Stmt:=top 48
abbrev vi:Stmt:=top 49
abbrev vA:Stmt:=top 50
abbrev jJ:Stmt:=top 55
abbrev xz:Stmt:=top 56
abbrev jV:Stmt:=top 57
abbrev ze:Stmt:=top 58
abbrev x8:Stmt:=top 59
abbrev qAp:Stmt:=top 60
abbrev zD:Stmt:=top 61
abbrev km:Stmt:=top 62
abbrev z9:Stmt:=top 63
abbrev zL:Stmt:=top 64
abbrev zZ:Stmt:=top 65
abbrev xY:Stmt:=top 67
abbrev zK:Stmt:=top 68
abbrev zJ:Stmt:=top 69
abbrev zB:Stmt:=top 70
abbrev zk:Stmt:=top 71
abbrev zr:Stmt:=top 72
abbrev vC:Stmt:=top 73
abbrev zh:Stmt:=top 74
abbrev xC:Stmt:=top 75
abbrev xc:Stmt:=top 76
abbrev xW:Stmt:=top 77
abbrev xI:Stmt:=top 78
abbrev qLq:Stmt:=top 79
theorem wt:qP ["x"] ["x"] (qJ v9):=scA
theorem jR:qP ["one","other","rest"] ["one","other"] (qJ j9):=scA
theorem qBf:qP ["x"] ["x"] (qJ xy):=scA
theorem vF:qP ["top","bottom","divisor"] ["top","bottom"] (qJ vv):=scA
theorem qHy:qP ["one","other"] ["one","other"] (qJ qB1):=scA
theorem qHo:qP ["one","other"] ["one","other"] (qJ wx):=scA
theorem qE9:qP ["one","other"] ["one","other"] (qJ vo):=scA
theorem qFn:qP ["one","other"] ["one","other"] (qJ vj):=scA
theorem qD6:qP ["one","other"] ["one","other"] (qJ kr):=scA
theorem qEt:qP ["one"] ["one"] (qJ vm):=scA
theorem qHh:qP ["thing"] ["thing"] (qJ qAa):=scA
theorem wQ:qP ["item"] ["item"] (qJ xN):=scA
theorem qEv:qP ["clip","k"] ["clip","k"] (qJ wB):=scA
theorem qCm:qP ["clip","k"] ["clip","k"] (qJ zu):=scA
theorem qE5:qP ["picture","many"] ["picture","many"] (qJ v4):=scA
theorem vG:qP ["item","reels","many"] ["item","reels"] (qJ zd):=scA
theorem xB:qP ["first","step","many","room"] ["first","step","many"] (qJ xP):=scA
theorem qDo:qP ["clip","reels"] ["clip","reels"] (qJ kd):=scA
theorem qEc:qP ["clip","reels"] ["clip","reels"] (qJ ku):=scA
theorem qDy:qP ["thing"] ["thing"] (qJ kx):=scA
theorem wU:qP ["item"] ["item"] (qJ xL):=scA
theorem zU:qP ["item"] ["item"] (qJ jM):=scA
theorem qBx:qP ["item"] ["item"] (qJ zf):=scA
theorem jo:qP ["some","track","waiting","item"] ["some"] (qJ v6):=scA
theorem xK:qP ["track","moment","begin","place","item","end"] ["track","moment"] (qJ wZ):=scA
theorem qHa:qP ["track","place"] ["track","place"] (qJ ww):=scA
theorem xk:qP ["track","mixes"] ["track"] (qJ xE):=scA
theorem qA7:qP ["track","place"] ["track","place"] (qJ zI):=scA
theorem zR:qP ["track","moment","found"] ["track","moment"] (qJ xO):=scA
theorem xS:qP ["track","moment","places"] ["track","moment"] (qJ jx):=scA
theorem qCw:qP ["length"] ["length"] (qJ zm):=scA
theorem qBb:qP ["length"] ["length"] (qJ zE):=scA
theorem j8:qP ["track","spans","border","item"] ["track"] (qJ ke):=scA
theorem vn:qP ["track","place"] ["track","place"] (qJ xD):=scA
theorem qAb:qP ["track","place"] ["track","place"] (qJ xh):=scA
theorem jt:qP ["track","moment","reels","places","ahead","behind","most_ahead","most_behind"] ["track","moment","reels"] (qJ vi):=scA
theorem qEi:qP ["track","reels"] ["track","reels"] (qJ vA):=scA
theorem xt:qP ["thing"] ["thing"] (qJ jJ):=scA
theorem xg:qP ["reels","name","many"] ["reels"] (qJ xz):=scA
theorem z7:qP ["item","reels"] ["item","reels"] (qJ jV):=scA
theorem qB0:qP ["item","room"] ["item","room"] (qJ ze):=scA
theorem kQ:qP ["track","room","item"] ["track","room"] (qJ x8):=scA
theorem kC:qP ["tied","many","least","number"] ["tied","many"] (qJ qAp):=scA
theorem kS:qP ["table","room","track"] ["table","room"] (qJ zD):=scA
theorem zY:qP ["table","names","track"] ["table"] (qJ km):=scA
theorem qB7:qP ["table","lower"] ["table","lower"] (qJ z9):=scA
theorem jY:qP ["tables","lower","layer","found","name"] ["tables"] (qJ zL):=scA
theorem zC:qP ["room","name","table"] ["room"] (qJ zZ):=scA
theorem qAt:qP ["_law_script","_law_k"] ["_law_script","_law_k"] (qJ xY):=scA
theorem qv:qP ["_law_cell","_law_size","_law_found","_law_rest","_law_k","_law_number"] ["_law_cell","_law_size"] (qJ zK):=scA
theorem j5:qP ["_law_top","_law_bottom","_law_one","_law_other"] ["_law_top","_law_bottom"] (qJ zJ):=scA
theorem qo:qP ["_law_xs","_law_reels_here","_law_size","_law_reel","_law_length","_law_top","_law_bottom","_law_far","_law_low","_law_rest","_law_start"] ["_law_xs","_law_reels_here","_law_size"] (qJ zB):=scA
theorem xH:qP ["_law_xs","_law_reels_here","_law_size","_law_track_here","_law_k","_law_form"] ["_law_xs","_law_reels_here","_law_size"] (qJ zk):=scA
theorem qCc:qP ["_law_cell"] ["_law_cell"] (qJ zr):=scA
theorem jH:qP ["_law_cell","_law_tracks","_law_size","_law_reels_here","_law_xs","_law_low","_law_track_here","_law_k","_law_deep","_law_top"] ["_law_cell","_law_tracks","_law_size"] (qJ vC):=scA
theorem xG:qP ["_law_deep","_law_tables","_law_k","_law_name"] ["_law_deep"] (qJ zh):=scA
theorem jF:qP ["_law_cell","_law_many","_law_wide","_law_clip_here","_law_some"] ["_law_cell","_law_many"] (qJ xC):=scA
theorem jG:qP ["_law_room_here","_law_cell","_law_reels_here","_law_tables","_law_way","_law_track_here"] ["_law_room_here","_law_cell"] (qJ xc):=scA
theorem zj:qP ["_law_room_here","e"] ["_law_room_here"] (qJ xW):=scA
theorem jz:qP ["_law_room_here","_law_tables","_law_name","_law_table"] ["_law_room_here"] (qJ xI):=scA
theorem qBm:qP ["_law_script","_law_room_here","_law_wide","_law_still","_law_copy","_law_spoiled_here"] ["_law_script"] (qJ qLq):=scA
set_option genInjectivity false
set_option genSizeOf false
structure Ads where
 A0:Addr
 B0:FuncData
 A1:Addr
 B1:FuncData
 A2:Addr
 B2:FuncData
 A3:Addr
 B3:FuncData
 A4:Addr
 B4:FuncData
 A5:Addr
 B5:FuncData
 A6:Addr
 B6:FuncData
 A7:Addr
 B7:FuncData
 A8:Addr
 B8:FuncData
 A9:Addr
 B9:FuncData
 A10:Addr
 B10:FuncData
 A11:Addr
 B11:FuncData
 A12:Addr
 B12:FuncData
 A13:Addr
 B13:FuncData
 A14:Addr
 B14:FuncData
 A15:Addr
 B15:FuncData
 A16:Addr
 B16:FuncData
 A17:Addr
 B17:FuncData
 A18:Addr
 B18:FuncData
 A19:Addr
 B19:FuncData
 A20:Addr
 B20:FuncData
 A21:Addr
 B21:FuncData
 A22:Addr
 B22:FuncData
 A23:Addr
 B23:FuncData
 A24:Addr
 B24:FuncData
 A25:Addr
 B25:FuncData
 A26:Addr
 B26:FuncData
 A27:Addr
 B27:FuncData
 A28:Addr
 B28:FuncData
 A29:Addr
 B29:FuncData
 A30:Addr
 B30:FuncData
 A31:Addr
 B31:FuncData
 A32:Addr
 B32:FuncData
 A33:Addr
 B33:FuncData
 A34:Addr
 B34:FuncData
 A35:Addr
 B35:FuncData
 A36:Addr
 B36:FuncData
 A37:Addr
 B37:FuncData
 A38:Addr
 B38:FuncData
 A39:Addr
 B39:FuncData
 A40:Addr
 B40:FuncData
 A41:Addr
 B41:FuncData
 A42:Addr
 B42:FuncData
 A43:Addr
 B43:FuncData
 A44:Addr
 B44:FuncData
 A45:Addr
 B45:FuncData
 A46:Addr
 B46:FuncData
 A47:Addr
 B47:FuncData
 A48:Addr
 B48:FuncData
 A49:Addr
 B49:FuncData
 A50:Addr
 B50:FuncData
 A51:Addr
 B51:FuncData
 A52:Addr
 B52:FuncData
 A53:Addr
 B53:FuncData
 A54:Addr
 B54:FuncData
 A55:Addr
 B55:FuncData
 A56:Addr
 B56:FuncData
 A57:Addr
 B57:FuncData
 A58:Addr
 B58:FuncData
 A59:Addr
 B59:FuncData
 A60:Addr
 B60:FuncData
 k_CutError:Addr
 k_NoNumber:Addr
 k_NoClip:Addr
 k_NoPlace:Addr
 k_NoRoom:Addr
 t_LETTERS:Tok
 t_LONGEST_NAME:Tok
 t_MOST_ROOM:Tok
 n_NOUGHT:Addr
 t_MOST_PICTURES:Tok
 t_MOST_TRACKS:Tok
 t_MOST_DEEP:Tok
structure Tx (K:PySem.W.Frag)(mg:Str→Option Value)(a:Ads):Prop where
 D0:L3.Def K mg "is_whole" v9 ["x"] a.A0 a.B0
 D1:L3.Def K mg "common_divisor" j9 ["one","other"] a.A1 a.B1
 D2:L3.Def K mg "is_fraction" xy ["x"] a.A2 a.B2
 D3:L3.Def K mg "fraction" vv ["top","bottom"] a.A3 a.B3
 D4:L3.Def K mg "sum_of" qB1 ["one","other"] a.A4 a.B4
 D5:L3.Def K mg "less_by" wx ["one","other"] a.A5 a.B5
 D6:L3.Def K mg "times_of" vo ["one","other"] a.A6 a.B6
 D7:L3.Def K mg "quotient" vj ["one","other"] a.A7 a.B7
 D8:L3.Def K mg "is_before" kr ["one","other"] a.A8 a.B8
 D9:L3.Def K mg "floor_of" vm ["one"] a.A9 a.B9
 D10:L3.Def K mg "is_name" qAa ["thing"] a.A10 a.B10
 D11:L3.Def K mg "has_clip_form" xN ["item"] a.A11 a.B11
 D12:L3.Def K mg "place_at" wB ["clip","k"] a.A12 a.B12
 D13:L3.Def K mg "picture_at" zu ["clip","k"] a.A13 a.B13
 D14:L3.Def K mg "is_there" v4 ["picture","many"] a.A14 a.B14
 D15:L3.Def K mg "check_clip" zd ["item","reels"] a.A15 a.B15
 D16:L3.Def K mg "moments_there" xP ["first","step","many"] a.A16 a.B16
 D17:L3.Def K mg "head_room" kd ["clip","reels"] a.A17 a.B17
 D18:L3.Def K mg "tail_room" ku ["clip","reels"] a.A18 a.B18
 D19:L3.Def K mg "is_length" kx ["thing"] a.A19 a.B19
 D20:L3.Def K mg "has_nest_form" xL ["item"] a.A20 a.B20
 D21:L3.Def K mg "has_gap_or_mix_form" jM ["item"] a.A21 a.B21
 D22:L3.Def K mg "moments_of" zf ["item"] a.A22 a.B22
 D23:L3.Def K mg "one_form" v6 ["some"] a.A23 a.B23
 D24:L3.Def K mg "item_at" wZ ["track","moment"] a.A24 a.B24
 D25:L3.Def K mg "kind_at" ww ["track","place"] a.A25 a.B25
 D26:L3.Def K mg "is_in_one_form" xE ["track"] a.A26 a.B26
 D27:L3.Def K mg "place_ahead" zI ["track","place"] a.A27 a.B27
 D28:L3.Def K mg "neighbours_at" xO ["track","moment"] a.A28 a.B28
 D29:L3.Def K mg "clips_at_border" jx ["track","moment"] a.A29 a.B29
 D30:L3.Def K mg "part_ahead" zm ["length"] a.A30 a.B30
 D31:L3.Def K mg "part_behind" zE ["length"] a.A31 a.B31
 D32:L3.Def K mg "mix_spans" ke ["track"] a.A32 a.B32
 D33:L3.Def K mg "taken_at_begin" xD ["track","place"] a.A33 a.B33
 D34:L3.Def K mg "taken_at_end" xh ["track","place"] a.A34 a.B34
 D35:L3.Def K mg "most_mix" vi ["track","moment","reels"] a.A35 a.B35
 D36:L3.Def K mg "mixes_fit" vA ["track","reels"] a.A36 a.B36
 D37:L3.Def K mg "is_number_of_pictures" jJ ["thing"] a.A37 a.B37
 D38:L3.Def K mg "check_reels" xz ["reels"] a.A38 a.B38
 D39:L3.Def K mg "check_clip_of_room" jV ["item","reels"] a.A39 a.B39
 D40:L3.Def K mg "check_item" ze ["item","room"] a.A40 a.B40
 D41:L3.Def K mg "check_track" x8 ["track","room"] a.A41 a.B41
 D42:L3.Def K mg "is_tied" qAp ["tied","many"] a.A42 a.B42
 D43:L3.Def K mg "check_table" zD ["table","room"] a.A43 a.B43
 D44:L3.Def K mg "nested_in" km ["table"] a.A44 a.B44
 D45:L3.Def K mg "rests_upon" z9 ["table","lower"] a.A45 a.B45
 D46:L3.Def K mg "check_depth" zL ["tables"] a.A46 a.B46
 D47:L3.Def K mg "check_room" zZ ["room"] a.A47 a.B47
 D48:L3.Def K mg "_law_cell_at" xY ["_law_script","_law_k"] a.A48 a.B48
 D49:L3.Def K mg "_law_stream" zK ["_law_cell","_law_size"] a.A49 a.B49
 D50:L3.Def K mg "_law_lowest" zJ ["_law_top","_law_bottom"] a.A50 a.B50
 D51:L3.Def K mg "_law_clip" zB ["_law_xs","_law_reels_here","_law_size"] a.A51 a.B51
 D52:L3.Def K mg "_law_track" zk ["_law_xs","_law_reels_here","_law_size"] a.A52 a.B52
 D53:L3.Def K mg "_law_reels" zr ["_law_cell"] a.A53 a.B53
 D54:L3.Def K mg "_law_room" vC ["_law_cell","_law_tracks","_law_size"] a.A54 a.B54
 D55:L3.Def K mg "_law_chain" zh ["_law_deep"] a.A55 a.B55
 D56:L3.Def K mg "_law_bad_items" xC ["_law_cell","_law_many"] a.A56 a.B56
 D57:L3.Def K mg "_law_spoiled" xc ["_law_room_here","_law_cell"] a.A57 a.B57
 D58:L3.Def K mg "_law_refused" xW ["_law_room_here"] a.A58 a.B58
 D59:L3.Def K mg "_law_copied" xI ["_law_room_here"] a.A59 a.B59
 D60:L3.Def K mg "law" qLq ["_law_script"] a.A60 a.B60
 c_CutError:mg "CutError"=some (.ref a.k_CutError)
 c_NoNumber:mg "NoNumber"=some (.ref a.k_NoNumber)
 c_NoClip:mg "NoClip"=some (.ref a.k_NoClip)
 c_NoPlace:mg "NoPlace"=some (.ref a.k_NoPlace)
 c_NoRoom:mg "NoRoom"=some (.ref a.k_NoRoom)
 b_isinstance:mg "isinstance"=none
 b_int:mg "int"=none
 b_bool:mg "bool"=none
 b_abs:mg "abs"=none
 b_tuple:mg "tuple"=none
 b_len:mg "len"=none
 b_all:mg "all"=none
 b_str:mg "str"=none
 b_min:mg "min"=none
 b_enumerate:mg "enumerate"=none
 b_max:mg "max"=none
 b_list:mg "list"=none
 b_range:mg "range"=none
 b_dict:mg "dict"=none
 g_LETTERS:mg "LETTERS"=some (.str "abcdefghijklmnopqrstuvwxyz" a.t_LETTERS)
 g_LONGEST_NAME:mg "LONGEST_NAME"=some (.int 8 a.t_LONGEST_NAME)
 g_MOST_ROOM:mg "MOST_ROOM"=some (.int 1000000 a.t_MOST_ROOM)
 g_NOUGHT:mg "NOUGHT"=some (.ref a.n_NOUGHT)
 sq_NOUGHT:∀ H,SqT K H a.n_NOUGHT [.int 0,.int 1]
 g_MOST_PICTURES:mg "MOST_PICTURES"=some (.int 1000000000 a.t_MOST_PICTURES)
 g_MOST_TRACKS:mg "MOST_TRACKS"=some (.int 8 a.t_MOST_TRACKS)
 g_MOST_DEEP:mg "MOST_DEEP"=some (.int 6 a.t_MOST_DEEP)
 x_NoClip:L3.OwnX K a.k_NoClip
 x_NoRoom:L3.OwnX K a.k_NoRoom
 yCC:PySem.W.exmOne K (.ref a.k_NoClip) (.ref a.k_NoClip)=some true
 e_NoRoom:L3.ExcK K a.k_NoRoom
 yRR:PySem.W.exmOne K (.ref a.k_NoRoom) (.ref a.k_NoRoom)=some true
 rE:PySem.W.kitOne K (.ref a.k_NoRoom) (.ref a.k_CutError)=some true
 rC:PySem.W.kitOne K (.ref a.k_NoRoom) (.ref a.k_NoClip)=some false
inductive qKc (K:PySem.W.Frag)(vs:List V)(H:Hp)(Q:VK)(_:XK):Prop
| mk (a:Addr) (ns:List Int) (_:vs=[.ref a]) (_:SqL K H a (ns.map V.int)) (_:ns.length≤63) (_:∀ H',Q (.bl true) H')
def qJp (H:Hp)(Q:VK)(p q:Int):Prop:=∀ z,H z=none→Q (.ref z) (upd H z (.tup [.int p,.int q]))
theorem jc {CX:CXT}{P:Program}{w:World}{K:PySem.W.Frag}{mg:Str→Option Value}{base:Heap}{ns:List Str}{n:Str}{sc:Scope}{ad:Addr}{cdv:Value}{A:Around}{outer:List Env}{s:Shared}{H:Hp}{E:XK}:(qHp CX P w K mg base ns n sc ad cdv A outer s H E).K=K:=rfl
theorem qk {CX:CXT}{P:Program}{w:World}{K:PySem.W.Frag}{mg:Str→Option Value}{base:Heap}{ns:List Str}{n:Str}{sc:Scope}{ad:Addr}{cdv:Value}{A:Around}{outer:List Env}{s:Shared}{H:Hp}{E:XK}:(qHp CX P w K mg base ns n sc ad cdv A outer s H E).nox.K=K:=rfl
theorem sL0:(0:Nat)≤sizeLine:=by decide
theorem sL1:(1:Nat)≤sizeLine:=by decide
theorem sL2:(2:Nat)≤sizeLine:=by decide
theorem sL3:(3:Nat)≤sizeLine:=by decide
theorem sL4:(4:Nat)≤sizeLine:=by decide
theorem sL5:(5:Nat)≤sizeLine:=by decide
theorem glt {α:Type}{xs:List α}{i:Nat}{x:α}(h:xs[i]? =some x):i < xs.length:=(List.getElem?_eq_some_iff.mp h).1
theorem ixT {K:PySem.W.Frag}{σ:St}{H:Hp}{p:Addr}{xs:List V}{i:Int}{v:V}{Q:VK}(h:SqT K H p xs)(a:atI xs i=some v)(q:Q v H):tC (.int i) σ H (fun y H2=>qMj K (.ref p) y H2 Q):=⟨p,xs,i,v,rfl,rfl,h,a,q⟩
theorem vd {K:PySem.W.Frag}{σ:St}{H:Hp}{p:Addr}{xs:List V}{i:Int}{v:V}{Q:VK}{j:Nat}(e:σ[j]? =some (some (.ref p)))(h:SqT K H p xs)(a:atI xs i=some v)(q:Q v H):tOp (qMj K) (qOk j) (tC (.int i)) σ H Q:=⟨.ref p,e,p,xs,i,v,rfl,rfl,h,a,q⟩
theorem ixO {K:PySem.W.Frag}{σ:St}{H:Hp}{p:Addr}{xs:List V}{i:Int}{v:V}{Q:VK}{j:Nat}(h:H p=some (.tup xs))(a:atI xs i=some v)(q:Q v H)(e:σ[j]? =some (some (.ref p)):=by rfl):tOp (qMj K) (qOk j) (tC (.int i)) σ H Q:=vd e (SqT.of h) a q
section
variable {P : Program} {w : World} {K : W.Frag} {mg : Str → Option Value} {base : Heap} {a : Ads}
inductive qFl (vs:List V)(H:Hp)(Q:VK)(_:XK):Prop
| mk (i:Int) (_:vs=[.int i]) (_:Q (.bl true) H)
theorem vD (T:Tx K mg a):FnOk P w K mg base CX0 1 a.A0 a.B0 ["x"] qFl:=by
 refine T.D0.F.ok wt (fun vs H Q E h=>?_) (fun cdv A outer s H vs Q E hr h=>?_)
 · obtain⟨i,rfl,_⟩:=h
   rfl
 refine qM fun _ Y=>?_
 obtain⟨i,rfl,q⟩:=h
 apply Y
 refine⟨_,(qG (qU (xU (qV qj rfl T.b_isinstance rfl (qA (pv 0) (qA (zv rfl T.b_int rfl) qD))) (zQ (qIf (qV qj rfl T.b_isinstance rfl (qA (pv 0) (qA (zv rfl T.b_bool rfl) qD)))))))),?_⟩
 try dsimp only [jc,qk]
 refine⟨_,rfl,_,_,_,true,rfl,.int i,⟨_,.inl ⟨rfl,rfl⟩⟩,true,rfl,qz ?_⟩
 refine⟨_,rfl,_,_,_,false,rfl,.int i,⟨_,.inl ⟨rfl,by kernel_rfl⟩⟩,false,rfl,?_⟩
 exact q
inductive vw (vs:List V)(H:Hp)(Q:VK)(_:XK):Prop
| mk (i j:Int) (_:vs=[.int i,.int j]) (_:Q (.int ((Int.gcd i j:Nat):Int)) H)
theorem xl (T:Tx K mg a):FnOk P w K mg base CX0 1 a.A1 a.B1 ["one","other"] vw:=by
 refine T.D1.F.ok jR (fun vs H Q E h=>?_) (fun cdv A outer s H vs Q E hr h=>?_)
 · obtain⟨i,j,rfl,_⟩:=h
   rfl
 refine qM fun _ Y=>?_
 obtain⟨i,j,rfl,q⟩:=h
 apply Y
 refine⟨_,(qF (qF6 PassesOwn.never (qQ kN (pv 1) qE (qW _)) (qF (qg 2 jR.nd (qN qm (pv 0) (pv 1)))
  (qF (qg 0 jR.nd (pv 1))
  (qG (qg 1 jR.nd (pv 2))))))
  (qG (qU (qV qB9 rfl T.b_abs rfl (qA (pv 0) qD))))),?_⟩
 try dsimp only [jc,qk]
 refine qGn (fun σ H'=>H'=H∧∃ (x y:Int) (v:Option V),σ=[some (.int x),some (.int y),v]∧Int.gcd x y=Int.gcd i j)
  (fun σ _=>match σ with | [_,some (.int y),_]=>y.natAbs | _=>0) ⟨rfl,i,j,none,rfl,rfl⟩ ?_ ?_
 · rintro σ H1 ⟨rfl,x,y,v,rfl,e⟩
   refine⟨_,rfl,rfl,_,rfl,?_⟩
   refine kD (fun c=>?_) (fun c=>?_)
   · have hy:y≠0:=by simpa using c
     refine⟨_,rfl,_,rfl,_,_,rfl,rfl,hy,_,rfl,_,rfl,⟨rfl,y,x.fmod y,_,rfl,?_⟩,?_⟩
     · rw [qGa];exact e
     · exact qHu x y hy
   · have hy:y=0:=by simpa using c
     subst hy
     refine⟨_,rfl,x,rfl,?_⟩
     have e2:(if x < 0 then -x else x)=((Int.gcd i j:Nat):Int):=by
      rw [← e,Int.gcd_zero_right]
      split <;> omega
     rw [e2]
     exact q
 · rintro σ H1 Q1 Q2 hq h
   refine qM fun _ Y=>?_
   obtain⟨v,e,s,k,hk,z⟩:=h
   apply Y
   exact⟨v,e,s,k,hk,hq _ _ z⟩
theorem qGt {t b:Int}(h:b≠0)(hb:b.natAbs < 2 ^ 8000):CDivB t (sg t b)∧CDivB b (sg t b):=by
 have h1:=qOv (t:=t) h
 have h2:(sg t b).natAbs < 2 ^ 8000:=by
  rw [qGw]
  exact Nat.lt_of_le_of_lt (Nat.le_of_dvd (by omega) (Int.gcd_dvd_natAbs_right ..)) hb
 exact⟨⟨h1,h2⟩,⟨h1,h2⟩⟩
inductive qFa (vs:List V)(H:Hp)(Q:VK)(_:XK):Prop
| mk (t b:Int) (_:vs=[.int t,.int b]) (_:b≠0) (_:b.natAbs < 2 ^ 8000) (_:qJp H Q (jf t b) (jP t b))
theorem jl (T:Tx K mg a):FnOk P w K mg base CX0 2 a.A3 a.B3 ["top","bottom"] qFa:=by
 refine T.D3.F.ok vF (fun vs H Q E h=>?_) (fun cdv A outer s H vs Q E hr h=>?_)
 · obtain⟨t,b,rfl,_⟩:=h
   rfl
 refine qM fun _ Y=>?_
 obtain⟨t,b,rfl,hb,hs,q⟩:=h
 apply Y
 refine⟨_,(qF (qh (PW.pt (jw (qr (qp (qL T.D0 (vD T) hr rfl (qA (pv 0) qD)))) (jU (qr (qp (qL T.D0 (vD T) hr rfl (qA (pv 1) qD))))))) wg qR)
  (qF (qh (qQ xA (pv 1) qE (qW _)) wg qR)
  (qF (qg 2 vF.nd (qL T.D1 (xl T) hr rfl (qA (pv 0) (qA (pv 1) qD))))
  (qF (qh (qQ wv (pv 1) qE (qW _)) (qG (qg 2 vF.nd (wP zO (pv 2)))) qR)
  (qG (qU (qK (qA (qN qY (pv 0) (pv 2)) (qA (qN qY (pv 1) (pv 2)) qD))))))))),?_⟩
 try dsimp only [jc,qk]
 refine⟨_,rfl,t,rfl,true,rfl,qd ?_⟩
 refine⟨_,rfl,b,rfl,true,rfl,qd ?_⟩
 refine⟨_,rfl,rfl,_,rfl,?_⟩
 refine kD (fun c=>absurd (by simpa using c) hb) (fun _=>?_)
 refine⟨_,rfl,_,rfl,t,b,rfl,?_⟩
 refine⟨_,rfl,_,_,rfl,rfl,_,rfl,?_⟩
 obtain⟨d1,d2⟩:=qGt (t:=t) hb hs
 refine kD (fun c=>?_) (fun c=>?_)
 · have c':b < 0:=by simpa using c
   have e:-((Int.gcd t b:Nat):Int)=sg t b:=by unfold sg;rw [if_pos c']
   have q':qJp H Q (t.fdiv (-((Int.gcd t b:Nat):Int))) (b.fdiv (-((Int.gcd t b:Nat):Int))):=by rw [e];exact q
   exact⟨_,rfl,_,rfl,_,rfl,_,rfl,_,_,rfl,rfl,(by rw [e];exact d1),_,rfl,_,rfl,_,_,rfl,rfl,(by rw [e];exact d2),sL2,q'⟩
 · have c':¬ b < 0:=by simpa using c
   have e:((Int.gcd t b:Nat):Int)=sg t b:=by unfold sg;rw [if_neg c']
   have q':qJp H Q (t.fdiv ((Int.gcd t b:Nat):Int)) (b.fdiv ((Int.gcd t b:Nat):Int)):=by rw [e];exact q
   exact⟨_,rfl,_,rfl,_,_,rfl,rfl,(by rw [e];exact d1),_,rfl,_,rfl,_,_,rfl,rfl,(by rw [e];exact d2),sL2,q'⟩
def Pr (K:W.Frag)(H:Hp)(v:V)(p q:Int):Prop:=∃ z,v= .ref z∧SqT K H z [.int p,.int q]
def Sm (i:Int):Prop:=i.natAbs < 2 ^ 3000
theorem Sm.mul {i j:Int}(h1:Sm i)(h2:Sm j):CMulB i j:=by
 unfold Sm at h1 h2
 have:(2:Nat) ^ 3000≤2 ^ 60000:=Nat.pow_le_pow_right (by decide) (by decide)
 exact .inr ⟨by omega,by omega⟩
theorem Sm.prod {i j:Int}(h1:Sm i)(h2:Sm j):(i*j).natAbs < 2 ^ 8000:=by
 unfold Sm at h1 h2
 rw [Int.natAbs_mul]
 have h3:i.natAbs*j.natAbs < 2 ^ 3000*2 ^ 3000:=Nat.mul_lt_mul'' h1 h2
 rw [← Nat.pow_add] at h3
 exact Nat.lt_of_lt_of_le h3 (Nat.pow_le_pow_right (by decide) (by decide))
theorem at0 {x y:V}:atI [x,y] 0=some x:=rfl
theorem at1 {x y:V}:atI [x,y] 1=some y:=rfl
inductive qIc (K:W.Frag)(vs:List V)(H:Hp)(Q:VK)(_:XK):Prop
| mk (x y:V) (p q r s:Int) (_:vs=[x,y]) (_:Pr K H x p q) (_:Pr K H y r s) (_:q≠0) (_:s≠0) (_:Sm p) (_:Sm q) (_:Sm r) (_:Sm s) (_:qJp H Q (jf (p*s+r*q) (q*s)) (jP (p*s+r*q) (q*s)))
theorem qJi (T:Tx K mg a):FnOk P w K mg base CX0 3 a.A4 a.B4 ["one","other"] (qIc K):=by
 refine T.D4.F.ok qHy (fun vs H Q E h=>?_) (fun cdv A outer s H vs Q E hr h=>?_)
 · obtain⟨x,y,p,q,r,s,rfl,_⟩:=h
   rfl
 refine qM fun _ Y=>?_
 obtain⟨x,y,p,q,r,s',rfl,⟨z1,rfl,h1⟩,⟨z2,rfl,h2⟩,hq,hs,bp,bq,br,bs,k⟩:=h
 apply Y
 refine⟨_,(qG (qU (qL T.D3 (jl T) hr rfl (qA (qN jE (qN qy (qX (pv 0)) (qX (pv 1))) (qN qy (qX (pv 1)) (qX (pv 0)))) (qA (qN qy (qX (pv 0)) (qX (pv 1))) qD))))),?_⟩
 try dsimp only [jc,qk]
 refine(vd rfl h1 at0 (vd rfl h2 at1 ⟨_,_,rfl,rfl,bp.mul bs,?_⟩))
 refine(vd rfl h2 at0 (vd rfl h1 at1 ⟨_,_,rfl,rfl,br.mul bq,_,_,rfl,rfl,?_⟩))
 refine(vd rfl h1 at1 (vd rfl h2 at1 ⟨_,_,rfl,rfl,bq.mul bs,?_⟩))
 exact⟨_,_,rfl,Int.mul_ne_zero hq hs,bq.prod bs,k⟩
inductive qFh (K:W.Frag)(vs:List V)(H:Hp)(Q:VK)(_:XK):Prop
| mk (x:V) (p q:Int) (_:vs=[x]) (_:Pr K H x p q) (_:q≠0) (_:q.natAbs < 2 ^ 8000) (_:Q (.int (p.fdiv q)) H)
theorem zF (T:Tx K mg a):FnOk P w K mg base CX0 1 a.A9 a.B9 ["one"] (qFh K):=by
 refine T.D9.F.ok qEt (fun vs H Q E h=>?_) (fun cdv A outer s H vs Q E hr h=>?_)
 · obtain⟨x,p,q,rfl,_⟩:=h
   rfl
 refine qM fun _ Y=>?_
 obtain⟨x,p,q,rfl,⟨z1,rfl,h1⟩,hq,bq,k⟩:=h
 apply Y
 refine⟨_,(qG (qU (qN qY (qX (pv 0)) (qX (pv 0))))),?_⟩
 try dsimp only [jc,qk]
 exact(vd rfl h1 at0 (vd rfl h1 at1 ⟨_,_,rfl,rfl,⟨hq,bq⟩,k⟩))
theorem nz {j:Int}(h:j≠0:=by decide):j≠0:=h
theorem cdB {i j:Int}(h0:j≠0)(h:j.natAbs < 18446744073709551616):CDivB i j:=
 ⟨h0,Nat.lt_of_lt_of_le h (Nat.le_trans (by decide:18446744073709551616≤2 ^ 64) (Nat.pow_le_pow_right (by decide) (by decide)))⟩
theorem cmR {i j:Int}(h1:-(18446744073709551616:Int) < j)(h2:j < 18446744073709551616):CMulB i j:=.inl (.inr ⟨h1,h2⟩)
theorem cmL {i j:Int}(h1:-(18446744073709551616:Int) < i)(h2:i < 18446744073709551616):CMulB i j:=.inl (.inl ⟨h1,h2⟩)
theorem at2 {x y:V}{i:Int}(h0:0≤i)(h1:i < 2):∃ v,atI [x,y] i=some v∧(v=x∨v=y):=by
 have:i=0∨i=1:=by omega
 rcases this with rfl | rfl
 · exact⟨x,rfl,.inl rfl⟩
 · exact⟨y,rfl,.inr rfl⟩
theorem fm (i:Int){j:Int}(h:0 < j):0≤i.fmod j∧i.fmod j < j:=⟨Int.fmod_nonneg_of_pos i h,Int.fmod_lt_of_pos i h⟩
theorem cpw {n:Nat}(h:n≤1000000):qP8 10 (n:Int):=⟨by omega,by omega,by decide⟩
def qJ5 (n:Nat)(p q:Int):Prop:=0 < q∧Int.gcd p q=1∧p.natAbs < 2 ^ n∧q.natAbs < 2 ^ n
theorem Sm.of200 {i:Int}(h:i.natAbs < 2 ^ 200):Sm i:=Nat.lt_of_lt_of_le h (Nat.pow_le_pow_right (by decide) (by decide))
theorem qGx {n:Nat}{t b:Int}(hb:0 < b)(h1:t.natAbs < 2 ^ n)(h2:b.natAbs < 2 ^ n):qJ5 n (jf t b) (jP t b):=
 ⟨jv (by omega),qFb (by omega),Nat.lt_of_le_of_lt (wX (by omega)) h1,Nat.lt_of_le_of_lt (zH (by omega)) h2⟩
inductive qFi (K:W.Frag)(vs:List V)(H:Hp)(Q:VK)(_:XK):Prop
| mk (x y:V) (p q r s:Int) (_:vs=[x,y]) (_:Pr K H x p q) (_:Pr K H y r s) (_:q≠0) (_:s≠0) (_:Sm p) (_:Sm q) (_:Sm r) (_:Sm s) (_:qJp H Q (jf (p*r) (q*s)) (jP (p*r) (q*s)))
theorem qE8 (T:Tx K mg a):FnOk P w K mg base CX0 3 a.A6 a.B6 ["one","other"] (qFi K):=by
 refine T.D6.F.ok qE9 (fun vs H Q E h=>?_) (fun cdv A outer s H vs Q E hr h=>?_)
 · obtain⟨x,y,p,q,r,s,rfl,_⟩:=h
   rfl
 refine qM fun _ Y=>?_
 obtain⟨x,y,p,q,r,s',rfl,⟨z1,rfl,h1⟩,⟨z2,rfl,h2⟩,hq,hs,bp,bq,br,bs,k⟩:=h
 apply Y
 refine⟨_,(qG (qU (qL T.D3 (jl T) hr rfl (qA (qN qy (qX (pv 0)) (qX (pv 1))) (qA (qN qy (qX (pv 0)) (qX (pv 1))) qD))))),?_⟩
 try dsimp only [jc,qk]
 refine(vd rfl h1 at0 (vd rfl h2 at0 ⟨_,_,rfl,rfl,bp.mul br,?_⟩))
 refine(vd rfl h1 at1 (vd rfl h2 at1 ⟨_,_,rfl,rfl,bq.mul bs,?_⟩))
 exact⟨_,_,rfl,Int.mul_ne_zero hq hs,bq.prod bs,k⟩
inductive qHb (K:W.Frag)(vs:List V)(H:Hp)(Q:VK)(_:XK):Prop
| mk (x y:V) (p q r s:Int) (_:vs=[x,y]) (_:Pr K H x p q) (_:Pr K H y r s) (_:q≠0) (_:s≠0) (_:Sm p) (_:Sm q) (_:Sm r) (_:Sm s) (_:qJp H Q (jf (p*s - r*q) (q*s)) (jP (p*s - r*q) (q*s)))
theorem vk (T:Tx K mg a):FnOk P w K mg base CX0 3 a.A5 a.B5 ["one","other"] (qHb K):=by
 refine T.D5.F.ok qHo (fun vs H Q E h=>?_) (fun cdv A outer s H vs Q E hr h=>?_)
 · obtain⟨x,y,p,q,r,s,rfl,_⟩:=h
   rfl
 refine qM fun _ Y=>?_
 obtain⟨x,y,p,q,r,s',rfl,⟨z1,rfl,h1⟩,⟨z2,rfl,h2⟩,hq,hs,bp,bq,br,bs,k⟩:=h
 apply Y
 refine⟨_,(qG (qU (qL T.D3 (jl T) hr rfl (qA (qN jZ (qN qy (qX (pv 0)) (qX (pv 1))) (qN qy (qX (pv 1)) (qX (pv 0)))) (qA (qN qy (qX (pv 0)) (qX (pv 1))) qD))))),?_⟩
 try dsimp only [jc,qk]
 refine(vd rfl h1 at0 (vd rfl h2 at1 ⟨_,_,rfl,rfl,bp.mul bs,?_⟩))
 refine(vd rfl h2 at0 (vd rfl h1 at1 ⟨_,_,rfl,rfl,br.mul bq,_,_,rfl,rfl,?_⟩))
 refine(vd rfl h1 at1 (vd rfl h2 at1 ⟨_,_,rfl,rfl,bq.mul bs,?_⟩))
 exact⟨_,_,rfl,Int.mul_ne_zero hq hs,bq.prod bs,k⟩
inductive qE3 (K:W.Frag)(vs:List V)(H:Hp)(Q:VK)(_:XK):Prop
| mk (x y:V) (p q r s:Int) (_:vs=[x,y]) (_:Pr K H x p q) (_:Pr K H y r s) (_:q≠0) (_:r≠0) (_:Sm p) (_:Sm q) (_:Sm r) (_:Sm s) (_:qJp H Q (jf (p*s) (q*r)) (jP (p*s) (q*r)))
theorem wo (T:Tx K mg a):FnOk P w K mg base CX0 3 a.A7 a.B7 ["one","other"] (qE3 K):=by
 refine T.D7.F.ok qFn (fun vs H Q E h=>?_) (fun cdv A outer s H vs Q E hr h=>?_)
 · obtain⟨x,y,p,q,r,s,rfl,_⟩:=h
   rfl
 refine qM fun _ Y=>?_
 obtain⟨x,y,p,q,r,s',rfl,⟨z1,rfl,h1⟩,⟨z2,rfl,h2⟩,hq,hr',bp,bq,br,bs,k⟩:=h
 apply Y
 refine⟨_,(qG (qU (qL T.D3 (jl T) hr rfl (qA (qN qy (qX (pv 0)) (qX (pv 1))) (qA (qN qy (qX (pv 0)) (qX (pv 1))) qD))))),?_⟩
 try dsimp only [jc,qk]
 refine(vd rfl h1 at0 (vd rfl h2 at1 ⟨_,_,rfl,rfl,bp.mul bs,?_⟩))
 refine(vd rfl h1 at1 (vd rfl h2 at0 ⟨_,_,rfl,rfl,bq.mul br,?_⟩))
 exact⟨_,_,rfl,Int.mul_ne_zero hq hr',bq.prod br,k⟩
inductive NoW (H:Hp):V→Prop where
 | non:NoW H .non
 | bl (b:Bool):NoW H (.bl b)
 | str (z:Str):NoW H (.str z)
 | lst {a:Addr} {xs:List V} (e:H a=some (.lst xs)):NoW H (.ref a)
 | tup {a:Addr} {xs:List V} (e:H a=some (.tup xs)):NoW H (.ref a)
theorem NoW.same {H H':Hp}{x:V}(s:Same H H'):NoW H x→NoW H' x
 | .non=>.non
 | .bl b=>.bl b
 | .str z=>.str z
 | .lst e=>.lst (s _ _ e)
 | .tup e=>.tup (s _ _ e)
def WhB (H:Hp)(x:V)(b:Bool):Prop:=(∃ i:Int,x= .int i∧b=true)∨(NoW H x∧b=false)
theorem WhB.int {H:Hp}(i:Int):WhB H (.int i) true:=.inl ⟨i,rfl,rfl⟩
theorem WhB.no {H:Hp}{x:V}(h:NoW H x):WhB H x false:=.inr ⟨h,rfl⟩
theorem WhB.ty {H:Hp}{x:V}{b:Bool}(h:WhB H x b):∃ t i c,qAz K H x t∧W.kitOne K t (.type "int")=some i∧W.kitOne K t (.type "bool")=some c∧b=(i && !c):=by
 rcases h with ⟨i,rfl,rfl⟩ | ⟨h,rfl⟩
 · exact⟨_,true,false,.int i,by kernel_rfl,by kernel_rfl,rfl⟩
 · cases h with
   | non=>exact⟨_,false,false,.non,by kernel_rfl,by kernel_rfl,rfl⟩
   | bl b=>exact⟨_,true,true,.bl b,by kernel_rfl,by kernel_rfl,rfl⟩
   | str z=>exact⟨_,false,false,.str z,by kernel_rfl,by kernel_rfl,rfl⟩
   | lst e=>exact⟨_,false,false,.lst e,by kernel_rfl,by kernel_rfl,rfl⟩
   | tup e=>exact⟨_,false,false,.tup e,by kernel_rfl,by kernel_rfl,rfl⟩
inductive qC0 (vs:List V)(H:Hp)(Q:VK)(_:XK):Prop
| mk (x:V) (b:Bool) (_:vs=[x]) (_:WhB H x b) (_:Q (.bl b) H)
theorem jK (T:Tx K mg a):FnOk P w K mg base CX0 1 a.A0 a.B0 ["x"] qC0:=by
 refine T.D0.F.ok wt (fun vs H Q E h=>?_) (fun cdv A outer s H vs Q E hr h=>?_)
 · obtain⟨x,b,rfl,_⟩:=h
   rfl
 refine qM fun _ Y=>?_
 obtain⟨x,b,rfl,hx,q⟩:=h
 apply Y
 refine⟨_,(qG (qU (xU (qV qj rfl T.b_isinstance rfl (qA (pv 0) (qA (zv rfl T.b_int rfl) qD))) (zQ (qIf (qV qj rfl T.b_isinstance rfl (qA (pv 0) (qA (zv rfl T.b_bool rfl) qD)))))))),?_⟩
 try dsimp only [jc,qk]
 refine qM fun _ Y=>?_
 obtain⟨t,i,c,ty,e1,e2,rfl⟩:=hx.ty (K:=K)
 apply Y
 refine⟨_,rfl,_,_,_,i,rfl,ty,⟨_,.inl ⟨rfl,e1⟩⟩,i,rfl,?_⟩
 cases i with
 | false=>exact qd q
 | true=>exact qz ⟨_,rfl,_,_,_,c,rfl,ty,⟨_,.inl ⟨rfl,e2⟩⟩,c,rfl,q⟩
inductive FrB (K:W.Frag)(H:Hp):V→Bool→Prop where
 | no {x:V} {t:Value} (ty:qAz K H x t) (e:W.kitOne K t (.type "tuple")=some false):FrB K H x false
 | len {z:Addr} {xs:List V} (e:H z=some (.tup xs)) (h:xs.length≠2):FrB K H (.ref z) false
 | one {z:Addr} {x y:V} (e:H z=some (.tup [x,y])) (h:NoW H x):FrB K H (.ref z) false
 | two {z:Addr} {i:Int} {y:V} (e:H z=some (.tup [.int i,y])) (h:NoW H y):FrB K H (.ref z) false
 | nums {z:Addr} {p q:Int} (e:H z=some (.tup [.int p,.int q])):FrB K H (.ref z) (decide (1≤q) && decide (Int.gcd p q=1))
inductive qA6 (K:W.Frag)(vs:List V)(H:Hp)(Q:VK)(_:XK):Prop
| mk (x:V) (b:Bool) (_:vs=[x]) (_:FrB K H x b) (_:Q (.bl b) H)
theorem kT (T:Tx K mg a):FnOk P w K mg base CX0 2 a.A2 a.B2 ["x"] (qA6 K):=by
 refine T.D2.F.ok qBf (fun vs H Q E h=>?_) (fun cdv A outer s H vs Q E hr h=>?_)
 · obtain⟨x,b,rfl,_⟩:=h
   rfl
 refine qM fun _ Y=>?_
 obtain⟨x,b,rfl,hx,k⟩:=h
 apply Y
 refine⟨_,(qF (qh (PW.pt (jw (qr (qp (qV qj rfl T.b_isinstance rfl (qA (pv 0) (qA (zv rfl T.b_tuple rfl) qD))))) (jU (qQ kN (qV ql rfl T.b_len rfl (qA (pv 0) qD)) qE (qW _))))) (qG (qU xq)) qR)
  (qF (qh (PW.pt (jw (qr (qp (qL T.D0 (jK T) hr rfl (qA (qX (pv 0)) qD)))) (jU (qr (qp (qL T.D0 (jK T) hr rfl (qA (qX (pv 0)) qD))))))) (qG (qU xq)) qR)
  (qG (qU (xU (ja qCz (qX (pv 0)) qE (qW _)) (zQ (ja xA (qL T.D1 (xl T) hr rfl (qA (qX (pv 0)) (qA (qX (pv 0)) qD))) qE (qW _)))))))),?_⟩
 try dsimp only [jc,qk]
 cases hx with
 | no ty e=>exact⟨_,rfl,_,_,_,false,rfl,ty,⟨_,.inl ⟨rfl,e⟩⟩,false,rfl,qz (qz k)⟩
 | @len z xs e h=>
  refine⟨_,rfl,_,_,_,true,rfl,.tup e,⟨_,.inl ⟨rfl,by kernel_rfl⟩⟩,true,rfl,qd ?_⟩
  refine⟨_,rfl,_,_,rfl,.inr (SqT.of e),rfl,_,rfl,?_⟩
  have d:(!decide (V.int (xs.length:Int)=V.int 2))=true:=by
   have:¬ (V.int (xs.length:Int)=V.int 2):=fun z=>h (by injection z with z;omega)
   simp [this]
  rw [d]
  exact qz k
 | @one z x y e h=>
  refine⟨_,rfl,_,_,_,true,rfl,.tup e,⟨_,.inl ⟨rfl,by kernel_rfl⟩⟩,true,rfl,qd ?_⟩
  refine⟨_,rfl,_,_,rfl,.inr (SqT.of e),rfl,_,rfl,qd ?_⟩
  exact(ixO e at0 ⟨x,false,rfl,.no h,false,rfl,qz (qz k)⟩)
 | @two z i y e h=>
  refine⟨_,rfl,_,_,_,true,rfl,.tup e,⟨_,.inl ⟨rfl,by kernel_rfl⟩⟩,true,rfl,qd ?_⟩
  refine⟨_,rfl,_,_,rfl,.inr (SqT.of e),rfl,_,rfl,qd ?_⟩
  refine(ixO e at0 ⟨_,true,rfl,.int i,true,rfl,qd ?_⟩)
  exact(ixO e at1 ⟨y,false,rfl,.no h,false,rfl,qz k⟩)
 | @nums z p q e=>
  refine⟨_,rfl,_,_,_,true,rfl,.tup e,⟨_,.inl ⟨rfl,by kernel_rfl⟩⟩,true,rfl,qd ?_⟩
  refine⟨_,rfl,_,_,rfl,.inr (SqT.of e),rfl,_,rfl,qd ?_⟩
  refine(ixO e at0 ⟨_,true,rfl,.int p,true,rfl,qd ?_⟩)
  refine(ixO e at1 ⟨_,true,rfl,.int q,true,rfl,qd ?_⟩)
  refine(ixO e at1 ⟨_,_,rfl,rfl,decide (1≤q),rfl,?_⟩)
  by_cases hq:1≤q
  · rw [decide_eq_true hq] at k ⊢
    refine qz (ixO e at0 (ixO e at1 ⟨p,q,rfl,rfl,?_⟩))
    have d:decide (V.int ((Int.gcd p q:Nat):Int)=V.int 1)=(true && decide (Int.gcd p q=1)):=by
     rw [Bool.true_and,Bool.eq_iff_iff,decide_eq_true_eq,decide_eq_true_eq]
     constructor
     · intro z;injection z with z;omega
     · intro z;rw [z];rfl
    rw [d]
    exact k
  · rw [decide_eq_false hq] at k ⊢
    exact qd k
inductive qDx (K:W.Frag)(vs:List V)(H:Hp)(Q:VK)(_:XK):Prop
| mk (x y:V) (p q r s:Int) (_:vs=[x,y]) (_:Pr K H x p q) (_:Pr K H y r s) (_:Sm p) (_:Sm q) (_:Sm r) (_:Sm s) (_:Q (.bl (decide (p*s < r*q))) H)
theorem qEn (T:Tx K mg a):FnOk P w K mg base CX0 1 a.A8 a.B8 ["one","other"] (qDx K):=by
 refine T.D8.F.ok qD6 (fun vs H Q E h=>?_) (fun cdv A outer s H vs Q E hr h=>?_)
 · obtain⟨x,y,p,q,r,s,rfl,_⟩:=h
   rfl
 refine qM fun _ Y=>?_
 obtain⟨x,y,p,q,r,s',rfl,⟨z1,rfl,h1⟩,⟨z2,rfl,h2⟩,bp,bq,br,bs,k⟩:=h
 apply Y
 refine⟨_,(qG (qU (ja wv (qN qy (qX (pv 0)) (qX (pv 1))) (qN qy (qX (pv 1)) (qX (pv 0))) (qW _)))),?_⟩
 try dsimp only [jc,qk]
 refine(vd rfl h1 at0 (vd rfl h2 at1 ⟨_,_,rfl,rfl,bp.mul bs,?_⟩))
 exact(vd rfl h2 at0 (vd rfl h1 at1 ⟨_,_,rfl,rfl,br.mul bq,_,_,rfl,rfl,k⟩))
structure Cp (K:W.Frag)(H:Hp)(v:V)(n:Str)(p q r s len:Int):Prop where
 ex:∃ z z1 z2,v= .ref z∧SqT K H z [.str "clip",.str n,.ref z1,.ref z2,.int len]∧SqT K H z1 [.int p,.int q]∧SqT K H z2 [.int r,.int s]
theorem Cp.same {H H':Hp}{v:V}{n:Str}{p q r s len:Int}(e:Same H H')(h:Cp K H v n p q r s len):Cp K H' v n p q r s len:=
 let ⟨z,z1,z2,h1,h2,h3,h4⟩:=h.ex;⟨z,z1,z2,h1,L3.Same.tup e h2,L3.Same.tup e h3,L3.Same.tup e h4⟩
theorem qJl {x0 x1 x2 x3 x4:V}:atI [x0,x1,x2,x3,x4] 2=some x2:=rfl
theorem qI9 {x0 x1 x2 x3 x4:V}:atI [x0,x1,x2,x3,x4] 3=some x3:=rfl
theorem qKb {p q r s k:Int}(hq:0 < q)(hs:0 < s):
 jf (p*jP (k*r) (1*s)+jf (k*r) (1*s)*q) (q*jP (k*r) (1*s))=jf (p*s+k*r*q) (q*s)∧
 jP (p*jP (k*r) (1*s)+jf (k*r) (1*s)*q) (q*jP (k*r) (1*s))=jP (p*s+k*r*q) (q*s):=by
 rw [Int.one_mul]
 have c:=xo (k*r) s
 have n0:=jv (t:=k*r) (b:=s) (by omega)
 generalize jf (k*r) s=m at c ⊢
 generalize jP (k*r) s=n at c n0 ⊢
 have b1:q*s≠0:=Int.mul_ne_zero (by omega) (by omega)
 have b2:q*n≠0:=Int.mul_ne_zero (by omega) (by omega)
 refine qIb b2 (jv b1) (qFb b1) ?_
 have e:=xo (p*s+k*r*q) (q*s)
 generalize jf (p*s+k*r*q) (q*s)=u at e ⊢
 generalize jP (p*s+k*r*q) (q*s)=v at e ⊢
 have h:(u*(q*n))*s=((p*n+m*q)*v)*s:=by
  calc (u*(q*n))*s=(u*(q*s))*n:=by rw [Int.mul_assoc,Int.mul_assoc,Int.mul_assoc,Int.mul_assoc,Int.mul_comm n s]
   _=((p*s+k*r*q)*v)*n:=by rw [e]
   _=(p*n*s+(k*r*n)*q)*v:=by
    have h1:(p*s+k*r*q)*v*n=(p*s+k*r*q)*n*v:=by rw [Int.mul_assoc,Int.mul_comm v n,← Int.mul_assoc]
    have h2:(p*s+k*r*q)*n=p*n*s+k*r*n*q:=by
     rw [Int.add_mul,Int.mul_assoc p s n,Int.mul_comm s n,← Int.mul_assoc,Int.mul_assoc (k*r) q n,Int.mul_comm q n,← Int.mul_assoc]
    rw [h1,h2]
   _=(p*n*s+(m*s)*q)*v:=by rw [← c]
   _=((p*n+m*q)*v)*s:=by
    have h3:p*n*s+m*s*q=(p*n+m*q)*s:=by rw [Int.add_mul,Int.mul_assoc m s q,Int.mul_comm s q,← Int.mul_assoc]
    rw [h3,Int.mul_assoc,Int.mul_comm s v,← Int.mul_assoc]
 exact Int.eq_of_mul_eq_mul_right (by omega) h
def Sm2 (i:Int):Prop:=i.natAbs < 2 ^ 700
theorem Sm2.sm {i:Int}(h:Sm2 i):Sm i:=Nat.lt_of_lt_of_le h (Nat.pow_le_pow_right (by decide) (by decide))
theorem jQ {i j:Int}{n m:Nat}(h1:i.natAbs < 2 ^ n)(h2:j.natAbs < 2 ^ m):(i*j).natAbs < 2 ^ (n+m):=by
 rw [Int.natAbs_mul,Nat.pow_add]
 exact Nat.mul_lt_mul'' h1 h2
inductive qEu (K:W.Frag)(vs:List V)(H:Hp)(Q:VK)(_:XK):Prop
| mk (v:V) (n:Str) (p q r s len k:Int) (_:vs=[v,.int k]) (_:Cp K H v n p q r s len) (_:0 < q) (_:0 < s) (_:Sm2 p) (_:Sm2 q) (_:Sm2 r) (_:Sm2 s) (_:Sm2 k) (_:∀ z H',Same H H'→H' z=some (.tup [.int (jf (p*s+k*r*q) (q*s)),.int (jP (p*s+k*r*q) (q*s))])→Q (.ref z) H')
theorem kZ (T:Tx K mg a):FnOk P w K mg base CX0 4 a.A12 a.B12 ["clip","k"] (qEu K):=by
 refine T.D12.F.ok qEv (fun vs H Q E h=>?_) (fun cdv A outer s H vs Q E hr h=>?_)
 · obtain⟨v,n,p,q,r,s,len,k,rfl,_⟩:=h
   rfl
 refine qM fun _ Y=>?_
 obtain⟨v,n,p,q,r,s',len,k,rfl,⟨z,z1,z2,rfl,hc,h1,h2⟩,hq,hs,bp,bq,br,bs,bk,kk⟩:=h
 apply Y
 refine⟨_,(qG (qU (qL T.D4 (qJi T) hr rfl (qA (qX (pv 0)) (qA (qL T.D6 (qE8 T) hr rfl (qA (qL T.D3 (jl T) hr rfl (qA (pv 1) (qA qE qD))) (qA (qX (pv 0)) qD))) qD))))),?_⟩
 try dsimp only [jc,qk]
 refine⟨_,rfl,z,_,_,_,rfl,rfl,hc,qJl,_,rfl,k,1,rfl,by decide,Nat.lt_of_lt_of_le (m:=2 ^ 1) (by decide) (Nat.pow_le_pow_right (by decide) (by decide)),fun y hy=>?_⟩
 have s1:=qC hy (.tup [.int (jf k 1),.int (jP k 1)])
 obtain⟨l1,l2⟩:=qGi (p:=k) (q:=1) (by decide) (Int.gcd_one_right ..)
 refine⟨_,rfl,z,_,_,_,rfl,rfl,L3.Same.tup s1 hc,qI9,?_⟩
 have one:Sm 1:=Nat.lt_of_lt_of_le (m:=2 ^ 1) (by decide) (Nat.pow_le_pow_right (by decide) (by decide))
 refine⟨_,_,k,1,r,s',rfl,⟨y,rfl,?_⟩,⟨z2,rfl,L3.Same.tup s1 h2⟩,by decide,by omega,bk.sm,one,br.sm,bs.sm,fun x hx=>?_⟩
 · have e:SqT K (upd H y (.tup [.int (jf k 1),.int (jP k 1)])) y [.int (jf k 1),.int (jP k 1)]:=SqT.of qB
   rw [l1,l2] at e ⊢
   exact e
 have s2:=s1.trans (qC hx (.tup [.int (jf (k*r) (1*s')),.int (jP (k*r) (1*s'))]))
 have b1:(1*s')≠0:=by omega
 have n0:=jv (t:=k*r) b1
 have bm:Sm (jf (k*r) (1*s')):=by
  refine Nat.lt_of_le_of_lt (wX b1) (Nat.lt_of_lt_of_le (jQ bk br) (Nat.pow_le_pow_right (by decide) (by decide)))
 have bn:Sm (jP (k*r) (1*s')):=by
  refine Nat.lt_of_le_of_lt (zH b1) ?_
  rw [Int.one_mul]
  exact bs.sm
 refine⟨_,_,p,q,_,_,rfl,⟨z1,rfl,L3.Same.tup s2 h1⟩,⟨x,rfl,SqT.of qB⟩,by omega,by omega,bp.sm,bq.sm,bm,bn,fun u hu=>?_⟩
 obtain⟨e1,e2⟩:=qKb (p:=p) (r:=r) (k:=k) hq hs
 refine kk u _ (s2.trans (qC hu _)) ?_
 rw [qB,e1,e2]
theorem wa {t b:Int}(hb:0 < b):(jf t b).fdiv (jP t b)=t.fdiv b:=by
 have e1:=qJ2 t b
 have e2:=qI7 t b
 have sp:0 < sg t b:=by
  have g:=vg (t:=t) (b:=b) (by omega)
  unfold sg
  rw [if_neg (by omega)]
  omega
 have q0:=jv (t:=t) (b:=b) (by omega)
 obtain⟨h1,h2⟩:=jI (p:=jf t b) q0
 obtain⟨h3,h4⟩:=jI (p:=t) hb
 generalize (jf t b).fdiv (jP t b)=f at h1 h2 ⊢
 generalize t.fdiv b=g at h3 h4 ⊢
 generalize jf t b=u at e1 h1 h2
 generalize jP t b=v at e2 h1 h2 q0
 generalize sg t b=w at e1 e2 sp
 subst e1 e2
 have k1:g*v≤u:=by
  rw [← Int.mul_assoc] at h3
  exact Int.le_of_mul_le_mul_right h3 sp
 have k2:u < (g+1)*v:=by
  rw [← Int.mul_assoc] at h4
  exact Int.lt_of_mul_lt_mul_right h4 (by omega)
 have k3:f < g+1:=Int.lt_of_mul_lt_mul_right (a:=v) (by omega) (by omega)
 have k4:g < f+1:=Int.lt_of_mul_lt_mul_right (a:=v) (by omega) (by omega)
 omega
inductive qCn (K:W.Frag)(vs:List V)(H:Hp)(Q:VK)(_:XK):Prop
| mk (v:V) (n:Str) (p q r s len k:Int) (_:vs=[v,.int k]) (_:Cp K H v n p q r s len) (_:0 < q) (_:0 < s) (_:Sm2 p) (_:Sm2 q) (_:Sm2 r) (_:Sm2 s) (_:Sm2 k) (_:∀ H',Same H H'→Q (.int ((p*s+k*r*q).fdiv (q*s))) H')
theorem vI (T:Tx K mg a):FnOk P w K mg base CX0 5 a.A13 a.B13 ["clip","k"] (qCn K):=by
 refine T.D13.F.ok qCm (fun vs H Q E h=>?_) (fun cdv A outer s H vs Q E hr h=>?_)
 · obtain⟨v,n,p,q,r,s,len,k,rfl,_⟩:=h
   rfl
 refine qM fun _ Y=>?_
 obtain⟨v,n,p,q,r,s',len,k,rfl,hc,hq,hs,bp,bq,br,bs,bk,kk⟩:=h
 apply Y
 refine⟨_,(qG (qU (qL T.D9 (zF T) hr rfl (qA (qL T.D12 (kZ T) hr rfl (qA (pv 0) (qA (pv 1) qD))) qD)))),?_⟩
 try dsimp only [jc,qk]
 refine⟨_,rfl,_,rfl,v,n,p,q,r,s',len,k,rfl,hc,hq,hs,bp,bq,br,bs,bk,fun z H' sH hz=>?_⟩
 have b1:q*s'≠0:=Int.mul_ne_zero (by omega) (by omega)
 refine⟨_,_,_,rfl,⟨z,rfl,SqT.of hz⟩,?_,?_,?_⟩
 · have:=jv (t:=p*s'+k*r*q) b1;omega
 · exact Nat.lt_of_le_of_lt (zH b1) (Nat.lt_of_lt_of_le (jQ bq bs) (Nat.pow_le_pow_right (by decide) (by decide)))
 · rw [wa (Int.mul_pos hq hs)]
   exact kk H' sH
theorem qIj {x0 x1 x2 x3 x4:V}:atI [x0,x1,x2,x3,x4] 0=some x0:=rfl
theorem qCv {x0 x1 x2 x3 x4:V}:atI [x0,x1,x2,x3,x4] 1=some x1:=rfl
theorem qF1 {x0 x1 x2 x3 x4:V}:atI [x0,x1,x2,x3,x4] 4=some x4:=rfl
theorem eq2 (a b c d:Int):qJk [.int a,.int b] [.int c,.int d]=(a == c && b == d):=by
 simp [qJk,eqV,List.range_succ]
structure Bn (n:Nat)(p q r s:Int):Prop where
 q0:0 < q
 s0:0 < s
 bp:p.natAbs < 2 ^ n
 bq:q.natAbs < 2 ^ n
 br:r.natAbs < 2 ^ n
 bs:s.natAbs < 2 ^ n
theorem vV {i:Int}{n m:Nat}(h:i.natAbs < 2 ^ n)(l:n≤m:=by decide):i.natAbs < 2 ^ m:=Nat.lt_of_lt_of_le h (Nat.pow_le_pow_right (by decide) l)
theorem Bn.mono {n m:Nat}{p q r s:Int}(h:Bn n p q r s)(l:n≤m:=by decide):Bn m p q r s:=⟨h.q0,h.s0,vV h.bp l,vV h.bq l,vV h.br l,vV h.bs l⟩
theorem Bn.part {p q r s k:Int}(h:Bn 110 p q r s)(hk:k.natAbs < 2 ^ 30):Bn 340 (plP p q r s k) (plQ p q r s k) r s:=by
 obtain⟨hq,hs,bp,bq,br,bs⟩:=h
 refine⟨qMt hq hs,hs,Nat.lt_of_le_of_lt (qLo hq hs) ?_,Nat.lt_of_le_of_lt (qLf hq hs) (vV (jQ bq bs)),vV br,vV bs⟩
 have h1:=jQ bp bs
 have h2:=jQ (jQ hk br) bq
 have e:(2:Nat) ^ (110+110)+2 ^ (30+110+110)≤2 ^ 340:=by decide
 omega
theorem nl2:¬ (HT.sIx 5 0 (some 2)=0∧HT.sIx 5 5 none=5):=by decide
theorem nl1:¬ (HT.sIx 5 0 (some 1)=0∧HT.sIx 5 5 none=5):=by decide
theorem qJm {i:Int}{n:Nat}(h:i.natAbs < 2 ^ n)(l:n≤8000:=by decide):i.natAbs < 2 ^ 8000:=vV h l
inductive wY (K:W.Frag)(vs:List V)(H:Hp)(Q:VK)(_:XK):Prop
| mk (z:Addr) (ns:List Int) (i:Int) (_:vs=[.ref z,.int i]) (_:SqL K H z (ns.map V.int)) (_:ns.length≤63) (_:0≤i) (_:∀ c:Int,Q (.int c) H)
theorem jh (T:Tx K mg a):FnOk P w K mg base CX0 1 a.A48 a.B48 ["_law_script","_law_k"] (wY K):=by
 refine T.D48.F.ok qAt (fun vs H Q E h=>?_) (fun cdv A outer s H vs Q E hr h=>?_)
 · obtain⟨z,ns,i,rfl,_⟩:=h
   rfl
 refine qM fun _ Y=>?_
 obtain⟨z,ns,i,rfl,hS,hl,h0,k⟩:=h
 apply Y
 refine⟨_,(qF (qh (qQ wv (pv 1) (qV ql rfl T.b_len rfl (qA (pv 0) qD)) (qW _)) (qG (qU (jr jL (pv 0) (pv 1) (fun _ _=>rfl)))) qR)
  (qG (qU qE))),?_⟩
 try dsimp only [jc,qk]
 have hml:(ns.map V.int).length=ns.length:=List.length_map _
 refine⟨_,rfl,_,rfl,z,_,rfl,.inl hS,_,_,rfl,rfl,_,rfl,?_⟩
 refine kD (fun c=>?_) (fun _=>?_)
 · have c':i < ((ns.map V.int).length:Int):=of_decide_eq_true c
   rw [hml] at c'
   have hi:i.toNat < ns.length:=by omega
   have e:i=((i.toNat:Nat):Int):=by omega
   have hat:atI (ns.map V.int) ((i.toNat:Nat):Int)=some (.int ns[i.toNat]):=xX (by rw [List.getElem?_map,List.getElem?_eq_getElem hi];rfl)
   rw [← e] at hat
   exact⟨_,rfl,_,rfl,z,_,_,.int ns[i.toNat],rfl,rfl,hS,hat,k _⟩
 · exact k 0
def thB (i m:Int):Bool:=decide (0≤i) && decide (i < m)
theorem qFg {N D m:Int}(hD:0 < D):thB (N.fdiv D) m=true↔InR N D m:=by
 rw [qF0 hD]
 simp [thB]
inductive qEx (vs:List V)(H:Hp)(Q:VK)(_:XK):Prop
| mk (i m:Int) (_:vs=[.int i,.int m]) (_:Q (.bl (thB i m)) H)
theorem ki (T:Tx K mg a):FnOk P w K mg base CX0 1 a.A14 a.B14 ["picture","many"] qEx:=by
 refine T.D14.F.ok qE5 (fun vs H Q E h=>?_) (fun cdv A outer s H vs Q E hr h=>?_)
 · obtain⟨i,m,rfl,_⟩:=h
   rfl
 refine qM fun _ Y=>?_
 obtain⟨i,m,rfl,q⟩:=h
 apply Y
 refine⟨_,(qG (qU (xU (ja qJn qE (pv 0) (qW _)) (zQ (ja wv (pv 0) (pv 1) (qW _)))))),?_⟩
 try dsimp only [jc,qk]
 refine⟨_,rfl,_,_,rfl,rfl,_,rfl,?_⟩
 unfold thB at q
 by_cases h0:0≤i
 · rw [decide_eq_true h0] at q ⊢
   exact qz ⟨_,rfl,_,rfl,_,_,rfl,rfl,q⟩
 · rw [decide_eq_false h0] at q ⊢
   exact qd q
def qO3 (c:Nat):Bool:=!(Builtin.Str.occurrences "abcdefghijklmnopqrstuvwxyz" ⟨#[c]⟩ 0 ("abcdefghijklmnopqrstuvwxyz":Str).length 1).isEmpty
def jm (z:Str):Bool:=decide (1≤z.length∧z.length≤8) && z.cps.toList.all qO3
theorem qCi {c d:Int}(hd:0 < d)(g:Int.gcd c d=1):jf (0*d - c*1) (1*d)= -c∧jP (0*d - c*1) (1*d)=d:=by
 refine qIb (by omega) hd (by rw [Int.neg_gcd];exact g) ?_
 grind
inductive wR (K:W.Frag)(vs:List V)(H:Hp)(Q:VK)(_:XK):Prop
| mk (x y:V) (A B c d m:Int) (_:vs=[x,y,.int m]) (_:Pr K H x A B) (_:Pr K H y c d) (_:0 < B) (_:0 < d) (_:Int.gcd c d=1) (_:A.natAbs < 2 ^ 700) (_:B.natAbs < 2 ^ 700) (_:c.natAbs < 2 ^ 700) (_:d.natAbs < 2 ^ 700) (_:m.natAbs < 2 ^ 700) (_:∀ H',Same H H'→Q (.int (wS (A*d) (c*B) (B*d) m)) H')
theorem zN (T:Tx K mg a):FnOk P w K mg base CX0 4 a.A16 a.B16 ["first","step","many"] (wR K):=by
 refine T.D16.F.ok xB (fun vs H Q E h=>?_) (fun cdv A outer s H vs Q E hr h=>?_)
 · obtain⟨x,y,A,B,c,d,m,rfl,_⟩:=h
   rfl
 refine qM fun _ Y=>?_
 obtain⟨x,y,A',B,c,d,m,rfl,⟨z1,rfl,h1⟩,⟨z2,rfl,h2⟩,hB,hd,hg,bA,bB,bc,bd,bm,kk⟩:=h
 apply Y
 have hu:=hr.units0
 refine⟨_,(qF (qh (qQ (qNo hu) (pv 1) (ju (v:=.ref a.n_NOUGHT) rfl T.g_NOUGHT rfl) (qW _)) (qG (qU (ju (v:=.int 1000000) rfl T.g_MOST_ROOM ⟨_,rfl⟩))) qR)
  (qF (qh (qr (qp (qL T.D14 (ki T) hr rfl (qA (qL T.D9 (zF T) hr rfl (qA (pv 0) qD)) (qA (pv 2) qD))))) (qG (qU qE)) qR)
  (qF (qF3 (qh (qp (qL T.D8 (qEn T) hr rfl (qA (pv 1) (qA (ju (v:=.ref a.n_NOUGHT) rfl T.g_NOUGHT rfl) qD)))) (qG (qg 3 xB.nd (qN jE (qL T.D9 (zF T) hr rfl (qA (qL T.D7 (wo T) hr rfl (qA (pv 0) (qA (qL T.D5 (vk T) hr rfl (qA (ju (v:=.ref a.n_NOUGHT) rfl T.g_NOUGHT rfl) (qA (pv 1) qD))) qD))) qD)) qE))) (qG (qg 3 xB.nd (wP zO (qL T.D9 (zF T) hr rfl (qA (qL T.D7 (wo T) hr rfl (qA (qL T.D5 (vk T) hr rfl (qA (pv 0) (qA (qL T.D3 (jl T) hr rfl (qA (pv 2) (qA qE qD))) qD))) (qA (pv 1) qD))) qD)))))))
  (qG (qU (qV (we rfl) rfl T.b_min rfl (qA (pv 3) (qA (ju (v:=.int 1000000) rfl T.g_MOST_ROOM ⟨_,rfl⟩) qD)))))))),?_⟩
 try dsimp only [jc,qk]
 have S:∀ {i:Int},i.natAbs < 2 ^ 700→Sm i:=fun h=>vV h
 have one:Sm 1:=Sm.of200 (by decide)
 have nul:Sm 0:=Sm.of200 (by decide)
 have hBd:=Int.mul_pos hB hd
 have H1:∀ {H':Hp},Same H H'→SqT K H' z1 [.int A',.int B]:=fun e=>L3.Same.tup e h1
 have H2:∀ {H':Hp},Same H H'→SqT K H' z2 [.int c,.int d]:=fun e=>L3.Same.tup e h2
 refine⟨_,rfl,_,_,_,_,rfl,rfl,h2,T.sq_NOUGHT _,rfl,rfl,_,rfl,?_⟩
 rw [if_neg (by decide:¬ (false=true)),eq2]
 by_cases hc:c=0
 · have d1:d=1:=by
    subst hc
    rw [Int.gcd_zero_left] at hg
    omega
   rw [show (c == 0 && d == 1)=true by simp [hc,d1]]
   refine qz ?_
   have:=kk H (Same.refl _)
   unfold wS at this
   rw [if_pos (by rw [hc,Int.zero_mul])] at this
   exact this
 rw [show (c == 0 && d == 1)=false by simp [hc]]
 refine qd ?_
 have hcB:¬ (c*B=0):=Int.mul_ne_zero hc (by omega)
 have ef:A'.fdiv B=(A'*d).fdiv (B*d):=vq hB hBd (by grind)
 refine⟨_,rfl,_,A',B,rfl,⟨z1,rfl,h1⟩,by omega,qJm bB,_,rfl,_,_,rfl,_,rfl,?_⟩
 by_cases ht:0≤A'.fdiv B∧A'.fdiv B < m
 rotate_left
 · rw [show thB (A'.fdiv B) m=false by unfold thB;rw [Bool.eq_false_iff];simpa using ht]
   refine qz ?_
   have:=kk H (Same.refl _)
   unfold wS at this
   rw [if_neg hcB,if_pos (by rw [← ef];exact ht)] at this
   exact this
 rw [show thB (A'.fdiv B) m=true by simp [thB,ht]]
 refine qd ?_
 have res:∀ H',Same H H'→Q (.int (if 1000000 < (if c*B < 0 then (A'*d).fdiv (-(c*B))+1 else -((A'*d - m*(B*d)).fdiv (c*B))) then 1000000 else (if c*B < 0 then (A'*d).fdiv (-(c*B))+1 else -((A'*d - m*(B*d)).fdiv (c*B))))) H':=fun H' e=>by
  have:=kk H' e
  unfold wS at this
  rw [if_neg hcB,if_neg (by rw [← ef];simpa using ht)] at this
  exact this
 generalize hgg:(if c*B < 0 then (A'*d).fdiv (-(c*B))+1 else -((A'*d - m*(B*d)).fdiv (c*B)))=g at res
 refine⟨fun σ' H'=>σ'=[some (.ref z1),some (.ref z2),some (.int m),some (.int g)]∧Same H H',?_,?_⟩
 · refine⟨_,rfl,_,_,c,d,0,1,rfl,⟨z2,rfl,h2⟩,⟨_,rfl,T.sq_NOUGHT _⟩,S bc,S bd,nul,one,_,rfl,?_⟩
   by_cases hn:c*1 < 0*d
   · rw [decide_eq_true hn]
     refine qz ?_
     have c0:c < 0:=by omega
     refine⟨_,rfl,_,rfl,_,_,0,1,c,d,rfl,⟨_,rfl,T.sq_NOUGHT _⟩,⟨z2,rfl,h2⟩,by decide,by omega,nul,one,S bc,S bd,fun u hu'=>?_⟩
     rw [(qCi hd hg).1,(qCi hd hg).2]
     have w1:=qC hu' (.tup [.int (-c),.int d])
     have bnc:(-c).natAbs < 2 ^ 700:=by rw [Int.natAbs_neg];exact bc
     have hpos:0 < B*(-c):=Int.mul_pos hB (by omega)
     refine⟨_,_,A',B,-c,d,rfl,⟨z1,rfl,H1 w1⟩,⟨u,rfl,SqT.of qB⟩,by omega,by omega,S bA,S bB,S bnc,S bd,fun v hv=>?_⟩
     have w2:=w1.trans (qC hv (.tup [.int (jf (A'*d) (B*(-c))),.int (jP (A'*d) (B*(-c)))]))
     have lq:=jv (t:=A'*d) (b:=B*(-c)) (by omega)
     refine⟨_,_,_,rfl,⟨v,rfl,SqT.of qB⟩,by omega,Nat.lt_of_le_of_lt (zH (by omega)) (qJm (jQ bB bnc)),?_⟩
     rw [wa hpos]
     refine⟨_,_,rfl,rfl,?_,w2⟩
     have e:g=(A'*d).fdiv (B* -c)+1:=by
      rw [← hgg,if_pos (by have:=Int.mul_neg_of_neg_of_pos c0 hB;exact this)]
      rw [show -(c*B)=B* -c by grind]
     rw [e]
     rfl
   · rw [decide_eq_false hn]
     refine qd ?_
     have c0:0 < c:=by omega
     obtain⟨l1,l2⟩:=qGi (p:=m) (q:=1) (by decide) (Int.gcd_one_right ..)
     refine⟨_,rfl,_,rfl,m,1,rfl,by decide,qJm (n:=1) (by decide),fun u hu'=>?_⟩
     rw [l1,l2]
     have w1:=qC hu' (.tup [.int m,.int 1])
     refine⟨_,_,A',B,m,1,rfl,⟨z1,rfl,H1 w1⟩,⟨u,rfl,SqT.of qB⟩,by omega,by decide,S bA,S bB,S bm,one,fun v hv=>?_⟩
     have hb1:B*1≠0:=by omega
     have cr:=xo (A'*1 - m*B) (B*1)
     have lq:=jv (t:=A'*1 - m*B) hb1
     have aP:=wX (t:=A'*1 - m*B) hb1
     have aQ:=zH (t:=A'*1 - m*B) hb1
     have w2:=w1.trans (qC hv (.tup [.int (jf (A'*1 - m*B) (B*1)),.int (jP (A'*1 - m*B) (B*1))]))
     have ev:=qB (H:=upd H u (.tup [.int m,.int 1])) (a:=v) (o:=.tup [.int (jf (A'*1 - m*B) (B*1)),.int (jP (A'*1 - m*B) (B*1))])
     generalize upd (upd H u (.tup [.int m,.int 1])) v (.tup [.int (jf (A'*1 - m*B) (B*1)),.int (jP (A'*1 - m*B) (B*1))])=H3 at w2 ev ⊢
     generalize jf (A'*1 - m*B) (B*1)=P' at cr aP ev ⊢
     generalize jP (A'*1 - m*B) (B*1)=Q' at cr aQ lq ev ⊢
     have sP:Sm P':=by
      have t:=jQ bm bB
      have:(A'*1 - m*B).natAbs < 2 ^ 1500:=by
       have e:(2:Nat) ^ 700+2 ^ (700+700)≤2 ^ 1500:=by decide
       rw [Int.mul_one]
       exact Nat.lt_of_lt_of_le (Nat.lt_of_le_of_lt (Int.natAbs_sub_le _ _) (Nat.add_lt_add bA t)) e
      exact Nat.lt_of_le_of_lt aP (vV this)
     have bQ:Q'.natAbs < 2 ^ 700:=by rw [Int.mul_one] at aQ;omega
     refine⟨_,rfl,_,_,P',Q',c,d,rfl,⟨v,rfl,SqT.of ev⟩,⟨z2,rfl,H2 w2⟩,by omega,hc,sP,S bQ,S bc,S bd,fun x hx=>?_⟩
     have hpos:0 < Q'*c:=Int.mul_pos lq c0
     have w3:=w2.trans (qC hx (.tup [.int (jf (P'*d) (Q'*c)),.int (jP (P'*d) (Q'*c))]))
     have lq2:=jv (t:=P'*d) (b:=Q'*c) (by omega)
     refine⟨_,_,_,rfl,⟨x,rfl,SqT.of qB⟩,by omega,Nat.lt_of_le_of_lt (zH (by omega)) (qJm (jQ bQ bc)),?_⟩
     rw [wa hpos]
     refine⟨_,rfl,?_,w3⟩
     have e:g= -(P'*d).fdiv (Q'*c):=by
      have hcB':=Int.mul_pos c0 hB
      rw [← hgg,if_neg (by omega)]
      rw [vq hcB' hpos (by grind:(A'*d - m*(B*d))*(Q'*c)=P'*d*(c*B))]
     rw [e]
     rfl
 rintro σ' H' ⟨rfl,sH⟩
 exact⟨_,rfl,_,_,rfl,res H' sH⟩
theorem zy {H H':Hp}(e:Same H H'){a:Addr}{u:HO}(h:Rd H a u):Rd H' a u:=by
 rcases h with h | ⟨o,h⟩
 · exact .inl (e _ _ h)
 · exact .inr ⟨o,e _ _ h⟩
def Reel (H:Hp)(rd:Addr)(n:Str)(m:Int):Prop:=∃ kvs,Rd H rd (.dK kvs)∧xv kvs (Sum.inr n)=some (.int m)
theorem Reel.same {H H':Hp}{rd:Addr}{n:Str}{m:Int}(e:Same H H')(h:Reel H rd n m):Reel H' rd n m:=let ⟨k,h1,h2⟩:=h;⟨k,zy e h1,h2⟩
theorem Reel.get {H:Hp}{rd:Addr}{n:Str}{m:Int}(h:Reel H rd n m):DGet H rd (.str n) (some (.int m)):=let ⟨k,h1,h2⟩:=h;.inl ⟨k,Sum.inr n,h1,rfl,h2.symm⟩
def Vk (p q r s k:Int):Int:=p*s+k*r*q
structure Ch (H:Hp)(z:Addr)(n:Str)(p q r s len:Int):Prop where
 ex:∃ z1 z2,H z=some (.tup [.str "clip",.str n,.ref z1,.ref z2,.int len])∧H z1=some (.tup [.int p,.int q])∧H z2=some (.tup [.int r,.int s])
theorem Ch.same {H H':Hp}{z:Addr}{n:Str}{p q r s len:Int}(e:Same H H')(h:Ch H z n p q r s len):Ch H' z n p q r s len:=let ⟨z1,z2,h1,h2,h3⟩:=h.ex;⟨z1,z2,e _ _ h1,e _ _ h2,e _ _ h3⟩
theorem Ch.cp {H:Hp}{z:Addr}{n:Str}{p q r s len:Int}(h:Ch H z n p q r s len):Cp K H (.ref z) n p q r s len:=let ⟨z1,z2,h1,h2,h3⟩:=h.ex;⟨z,z1,z2,rfl,SqT.of h1,SqT.of h2,SqT.of h3⟩
inductive qDf (K:W.Frag)(vs:List V)(H:Hp)(Q:VK)(_:XK):Prop
| mk (v:V) (n:Str) (p q r s len m:Int) (rd:Addr) (_:vs=[v,.ref rd]) (_:Cp K H v n p q r s len) (_:qJ5 110 p q) (_:qJ5 110 r s) (_:Reel H rd n m) (_:m.natAbs < 2 ^ 700) (_:∀ H',Same H H'→Q (.int (wS (plP p q r s (-1)*s) (-1*r*plQ p q r s (-1)) (plQ p q r s (-1)*s) m)) H')
theorem qC8 (T:Tx K mg a):FnOk P w K mg base CX0 5 a.A17 a.B17 ["clip","reels"] (qDf K):=by
 refine T.D17.F.ok qDo (fun vs H Q E h=>?_) (fun cdv A outer s H vs Q E hr h=>?_)
 · obtain⟨v,n,p,q,r,s,len,m,rd,rfl,_⟩:=h
   rfl
 refine qM fun _ Y=>?_
 obtain⟨v,n,p,q,r,s',len,m,rd,rfl,hc,g1,g2,hrd,bm,kk⟩:=h
 apply Y
 have hu1:=qBg hr
 refine⟨_,(qG (qU (qL T.D16 (zN T) hr rfl (qA (qL T.D12 (kZ T) hr rfl (qA (pv 0) (qA (wP zO qE) qD))) (qA (qL T.D5 (vk T) hr rfl (qA (ju (v:=.ref a.n_NOUGHT) rfl T.g_NOUGHT rfl) (qA (qX (pv 0)) qD))) (qA (kq hu1 (pv 1) (qX (pv 0)) (fun _ _=>rfl)) qD)))))),?_⟩
 try dsimp only [jc,qk]
 have hb:Bn 110 p q r s':=⟨g1.1,g2.1,g1.2.2.1,g1.2.2.2,g2.2.2.1,g2.2.2.2⟩
 have hb7:=hb.mono (m:=700)
 have hp:=(hb.part (k:=-1) (by decide)).mono (m:=700)
 refine⟨_,rfl,_,rfl,v,n,p,q,r,s',len,-1,rfl,hc,hb7.q0,hb7.s0,hb7.bp,hb7.bq,hb7.br,hb7.bs,vV (n:=30) (by decide),fun y H1 s1 e1=>?_⟩
 refine qM fun _ Y=>?_
 obtain⟨z,z1,z2,e,h0,h1,h2⟩:=(hc.same s1).ex
 subst e
 apply Y
 have S:∀ {i:Int},i.natAbs < 2 ^ 700→Sm i:=fun h=>vV h
 refine(vd rfl h0 qI9 ?_)
 refine⟨_,_,0,1,r,s',rfl,⟨_,rfl,T.sq_NOUGHT _⟩,⟨z2,rfl,h2⟩,by decide,by have:=hb.s0;omega,Sm.of200 (by decide),Sm.of200 (by decide),S hb7.br,S hb7.bs,fun u hu'=>?_⟩
 rw [(qCi hb.s0 g2.2.1).1,(qCi hb.s0 g2.2.1).2]
 have w1:=qC hu' (.tup [.int (-r),.int s'])
 refine⟨_,rfl,_,rfl,z,_,_,_,rfl,rfl,L3.Same.tup w1 h0,qCv,rd,_,rfl,(hrd.same (s1.trans w1)).get,?_⟩
 refine⟨_,_,_,_,-r,s',m,rfl,⟨y,rfl,SqT.of (w1 _ _ e1)⟩,⟨u,rfl,SqT.of qB⟩,hp.q0,hb.s0,by rw [Int.neg_gcd];exact g2.2.1,hp.bp,hp.bq,by rw [Int.natAbs_neg];exact hb7.br,hb7.bs,bm,fun H' sH=>?_⟩
 have:=kk H' (s1.trans (w1.trans sH))
 rw [show -1*r*plQ p q r s' (-1)= -r*plQ p q r s' (-1) by grind] at this
 exact this
inductive qDb (K:W.Frag)(vs:List V)(H:Hp)(Q:VK)(_:XK):Prop
| mk (v:V) (n:Str) (p q r s len m:Int) (rd:Addr) (_:vs=[v,.ref rd]) (_:Cp K H v n p q r s len) (_:qJ5 110 p q) (_:qJ5 110 r s) (_:len.natAbs < 2 ^ 30) (_:Reel H rd n m) (_:m.natAbs < 2 ^ 700) (_:∀ H',Same H H'→Q (.int (wS (plP p q r s len*s) (1*r*plQ p q r s len) (plQ p q r s len*s) m)) H')
theorem qEg (T:Tx K mg a):FnOk P w K mg base CX0 5 a.A18 a.B18 ["clip","reels"] (qDb K):=by
 refine T.D18.F.ok qEc (fun vs H Q E h=>?_) (fun cdv A outer s H vs Q E hr h=>?_)
 · obtain⟨v,n,p,q,r,s,len,m,rd,rfl,_⟩:=h
   rfl
 refine qM fun _ Y=>?_
 obtain⟨v,n,p,q,r,s',len,m,rd,rfl,hc,g1,g2,bl,hrd,bm,kk⟩:=h
 apply Y
 have hu1:=qBg hr
 refine⟨_,(qG (qU (qL T.D16 (zN T) hr rfl (qA (qL T.D12 (kZ T) hr rfl (qA (pv 0) (qA (qX (pv 0)) qD))) (qA (qX (pv 0)) (qA (kq hu1 (pv 1) (qX (pv 0)) (fun _ _=>rfl)) qD)))))),?_⟩
 try dsimp only [jc,qk]
 have hb:Bn 110 p q r s':=⟨g1.1,g2.1,g1.2.2.1,g1.2.2.2,g2.2.2.1,g2.2.2.2⟩
 have hb7:=hb.mono (m:=700)
 have hp:=(hb.part (k:=len) bl).mono (m:=700)
 have hc0:=hc
 refine qM fun _ Y=>?_
 obtain⟨z,z1,z2,e,h0,h1,h2⟩:=hc0.ex
 subst e
 apply Y
 refine⟨_,rfl,vd rfl h0 qF1 ⟨_,n,p,q,r,s',len,len,rfl,hc,hb7.q0,hb7.s0,hb7.bp,hb7.bq,hb7.br,hb7.bs,vV bl,fun y H1 s1 e1=>?_⟩⟩
 refine⟨_,rfl,z,_,_,_,rfl,rfl,L3.Same.tup s1 h0,qI9,?_⟩
 refine⟨_,rfl,_,rfl,z,_,_,_,rfl,rfl,L3.Same.tup s1 h0,qCv,rd,_,rfl,(hrd.same s1).get,?_⟩
 refine⟨_,_,_,_,r,s',m,rfl,⟨y,rfl,SqT.of e1⟩,⟨z2,rfl,L3.Same.tup s1 h2⟩,hp.q0,hb.s0,g2.2.1,hp.bp,hp.bq,hb7.br,hb7.bs,bm,fun H' sH=>?_⟩
 have:=kk H' (s1.trans sH)
 rw [Int.one_mul] at this
 exact this
inductive Im where
 | clip (n:Str) (p q r s l:Int)
 | nest (n:Str) (b l:Int)
 | gap (l:Int)
 | mix (l:Int)
def Im.d:Im→D
 | .clip n p q r s l=>.tup [.leaf (.str "clip"),.leaf (.str n),.tup [.leaf (.int p),.leaf (.int q)],.tup [.leaf (.int r),.leaf (.int s)],.leaf (.int l)]
 | .nest n b l=>.tup [.leaf (.str "nest"),.leaf (.str n),.leaf (.int b),.leaf (.int l)]
 | .gap l=>.tup [.leaf (.str "gap"),.leaf (.int l)]
 | .mix l=>.tup [.leaf (.str "mix"),.leaf (.int l)]
def Im.wd:Im→Str
 | .clip .. =>"clip"
 | .nest .. =>"nest"
 | .gap _=>"gap"
 | .mix _=>"mix"
def Im.l:Im→Int
 | .clip _ _ _ _ _ l=>l
 | .nest _ _ l=>l
 | .gap l=>l
 | .mix l=>l
def TS (H H':Hp):Prop:=∀ b xs,H b=some (.tup xs)→H' b=some (.tup xs)
theorem TS.refl (H:Hp):TS H H:=fun _ _ h=>h
theorem TS.trans {H H1 H2:Hp}(a:TS H H1)(b:TS H1 H2):TS H H2:=fun c o h=>b c o (a c o h)
theorem qi {H H':Hp}(e:Same H H'):TS H H':=fun _ _ h=>e _ _ h
theorem xV {H:Hp}{l:Addr}{xs:List V}{o:HO}(h:H l=some (.lst xs)):TS H (upd H l o):=fun b ys hb=>by
 rw [qZ (zG hb h (by intro z;cases z))];exact hb
theorem kA {H H':Hp}{y:Addr}{o:HO}(e:Same H H')(h:H y=none):Same H (upd H' y o):=fun b u hb=>by
 rw [qZ (qH hb h)];exact e b u hb
def IsI (H:Hp):Im→V→Prop
 | .clip n p q r s l,v=>∃ z x y:Addr,v= .ref z∧H z=some (.tup [.str "clip",.str n,.ref x,.ref y,.int l])∧H x=some (.tup [.int p,.int q])∧H y=some (.tup [.int r,.int s])
 | .nest n b l,v=>∃ z:Addr,v= .ref z∧H z=some (.tup [.str "nest",.str n,.int b,.int l])
 | .gap l,v=>∃ z:Addr,v= .ref z∧H z=some (.tup [.str "gap",.int l])
 | .mix l,v=>∃ z:Addr,v= .ref z∧H z=some (.tup [.str "mix",.int l])
theorem isG {H:Hp}{z:Addr}{l:Int}(h:H z=some (.tup [.str "gap",.int l])):IsI H (.gap l) (.ref z):=⟨z,rfl,h⟩
theorem isN {H:Hp}{z:Addr}{n:Str}{b l:Int}(h:H z=some (.tup [.str "nest",.str n,.int b,.int l])):IsI H (.nest n b l) (.ref z):=⟨z,rfl,h⟩
theorem isC {H:Hp}{z x y:Addr}{n:Str}{p q r s l:Int}(h:H z=some (.tup [.str "clip",.str n,.ref x,.ref y,.int l]))(hx:H x=some (.tup [.int p,.int q]))(hy:H y=some (.tup [.int r,.int s])):IsI H (.clip n p q r s l) (.ref z):=⟨z,x,y,rfl,h,hx,hy⟩
theorem IsI.ts {H H':Hp}(e:TS H H'):∀ {m:Im} {v:V},IsI H m v→IsI H' m v
 | .clip ..,_,⟨z,x,y,h,hz,hx,hy⟩=>⟨z,x,y,h,e _ _ hz,e _ _ hx,e _ _ hy⟩
 | .nest ..,_,⟨z,h,hz⟩=>⟨z,h,e _ _ hz⟩
 | .gap _,_,⟨z,h,hz⟩=>⟨z,h,e _ _ hz⟩
 | .mix _,_,⟨z,h,hz⟩=>⟨z,h,e _ _ hz⟩
theorem IsI.opn {H:Hp}{m:Im}{v:V}(h:IsI H m v):∃ (z:Addr) (xs:List V),v= .ref z∧H z=some (.tup xs)∧atI xs 0=some (.str m.wd)∧atI xs (-1)=some (.int m.l):=by
 cases m with
 | clip n p q r s l=>obtain⟨z,x,y,h,hz,_⟩:=h;exact⟨z,_,h,hz,rfl,rfl⟩
 | nest n b l=>obtain⟨z,h,hz⟩:=h;exact⟨z,_,h,hz,rfl,rfl⟩
 | gap l=>obtain⟨z,h,hz⟩:=h;exact⟨z,_,h,hz,rfl,rfl⟩
 | mix l=>obtain⟨z,h,hz⟩:=h;exact⟨z,_,h,hz,rfl,rfl⟩
theorem qC3 {H:Hp}:∀ {xs:List V},xs.all zT=true→Reps K H (xs.map D.leaf) xs
 | [],_=>by simp [Reps]
 | x::xs,h=>by
  rw [List.all_cons,Bool.and_eq_true] at h
  rw [List.map_cons];unfold Reps Rep
  exact⟨⟨rfl,h.1⟩,qC3 h.2⟩
theorem vQ {H:Hp}{z:Addr}{xs:List V}(hz:H z=some (.tup xs))(h:xs.all zT=true):Rep K H (.tup (xs.map D.leaf)) (.ref z):=by
 unfold Rep
 exact⟨z,xs,rfl,SqT.of hz,qC3 h⟩
theorem IsI.rep {H:Hp}:∀ {m:Im} {v:V},IsI H m v→Rep K H m.d v
 | .clip n p q r s l,_,⟨z,x,y,h,hz,hx,hy⟩=>by
  subst h
  have h1:Rep K H (.tup [.leaf (.int p),.leaf (.int q)]) (.ref x):=vQ hx rfl
  have h2:Rep K H (.tup [.leaf (.int r),.leaf (.int s)]) (.ref y):=vQ hy rfl
  unfold Im.d Rep
  refine⟨z,_,rfl,SqT.of hz,?_⟩
  unfold Reps Reps Reps Reps Reps Reps
  refine⟨?_,?_,h1,h2,?_,trivial⟩
  · unfold Rep;exact⟨rfl,rfl⟩
  · unfold Rep;exact⟨rfl,rfl⟩
  · unfold Rep;exact⟨rfl,rfl⟩
 | .nest n b l,_,⟨z,h,hz⟩=>by subst h;exact vQ hz rfl
 | .gap l,_,⟨z,h,hz⟩=>by subst h;exact vQ hz rfl
 | .mix l,_,⟨z,h,hz⟩=>by subst h;exact vQ hz rfl
theorem qJ9 (m:Im):eqD m.d m.d=true:=by
 cases m <;> simp [Im.d,eqD,zp,eqV]
theorem qOq (m:Im):dep m.d≤2:=by
 cases m <;> simp [Im.d,dep,wJ]
def IsIs (H:Hp):List Im→List V→Prop
 | [],[]=>True
 | m::ms,v::vs=>IsI H m v∧IsIs H ms vs
 | _,_=>False
theorem IsIs.len {H:Hp}:∀ {ms:List Im} {vs:List V},IsIs H ms vs→vs.length=ms.length
 | [],[],_=>rfl
 | _::_,_::_,h=>by rw [List.length_cons,List.length_cons,IsIs.len h.2]
 | [],_::_,h=>h.elim
 | _::_,[],h=>h.elim
theorem IsIs.ts {H H':Hp}(e:TS H H'):∀ {ms:List Im} {vs:List V},IsIs H ms vs→IsIs H' ms vs
 | [],[],_=>trivial
 | _::_,_::_,h=>⟨IsI.ts e h.1,IsIs.ts e h.2⟩
 | [],_::_,h=>h.elim
 | _::_,[],h=>h.elim
theorem IsIs.get {H:Hp}:∀ {ms:List Im} {vs:List V} {i:Nat} {v:V},IsIs H ms vs→vs[i]? =some v→∃ m,ms[i]? =some m∧IsI H m v
 | [],[],_,_,_,h=>by simp at h
 | m::_,x::_,0,v,h,e=>by
  have e':x=v:=by simpa using e
  subst e'
  exact⟨m,rfl,h.1⟩
 | _::ms,_::vs,i+1,v,h,e=>by
  obtain⟨m,h1,h2⟩:=IsIs.get (i:=i) h.2 (by simpa using e)
  exact⟨m,by simpa using h1,h2⟩
 | [],_::_,_,_,h,_=>h.elim
 | _::_,[],_,_,h,_=>h.elim
theorem IsIs.get' {H:Hp}{ms:List Im}{vs:List V}{i:Nat}{m:Im}(h:IsIs H ms vs)(e:ms[i]? =some m):∃ v,vs[i]? =some v∧IsI H m v:=by
 have hi:i < vs.length:=by rw [h.len];exact(glt e)
 have ev:vs[i]? =some vs[i]:=List.getElem?_eq_getElem hi
 obtain⟨m',h1,h2⟩:=h.get ev
 rw [e] at h1
 cases h1
 exact⟨_,ev,h2⟩
theorem IsIs.app {H:Hp}:∀ {ms:List Im} {vs:List V} {ms':List Im} {vs':List V},IsIs H ms vs→IsIs H ms' vs'→IsIs H (ms++ms') (vs++vs')
 | [],[],_,_,_,h'=>h'
 | _::_,_::_,_,_,h,h'=>⟨h.1,h.2.app h'⟩
 | [],_::_,_,_,h,_=>h.elim
 | _::_,[],_,_,h,_=>h.elim
theorem IsIs.one {H:Hp}{m:Im}{v:V}(h:IsI H m v):IsIs H [m] [v]:=⟨h,trivial⟩
theorem IsIs.rep {H:Hp}:∀ {ms:List Im} {vs:List V},IsIs H ms vs→Reps K H (ms.map Im.d) vs
 | [],[],_=>by unfold List.map Reps;trivial
 | _::_,_::_,h=>by unfold List.map Reps;exact⟨h.1.rep,h.2.rep⟩
 | [],_::_,h=>h.elim
 | _::_,[],h=>h.elim
theorem vR:∀ ms:List Im,zp (ms.map Im.d) (ms.map Im.d)=true
 | []=>by simp [zp]
 | m::ms=>by unfold List.map zp;rw [qJ9,vR ms];rfl
theorem qAi:∀ ms:List Im,wJ (ms.map Im.d)≤2
 | []=>by simp [wJ]
 | m::ms=>by
  have h1:=qOq m
  have h2:=qAi ms
  unfold List.map wJ
  omega
def Tr (H:Hp)(z:Addr)(ms:List Im):Prop:=∃ vs,H z=some (.lst vs)∧IsIs H ms vs
theorem Tr.same {H H':Hp}{z:Addr}{ms:List Im}(e:Same H H')(h:Tr H z ms):Tr H' z ms:=let ⟨vs,h1,h2⟩:=h;⟨vs,e _ _ h1,h2.ts (qi e)⟩
theorem Tr.rep {H:Hp}{z:Addr}{ms:List Im}(h:Tr H z ms):Rep K H (.lst (ms.map Im.d)) (.ref z):=by
 obtain⟨vs,h1,h2⟩:=h
 unfold Rep
 exact⟨z,vs,rfl,SqL.of h1,h2.rep⟩
theorem eqTr {H:Hp}{x y:Addr}{ms:List Im}{Q:VK}(h1:Tr H x ms)(h2:Tr H y ms)(q:Q (.bl true) H):qMi K false (.ref x) (.ref y) H Q:=by
 refine⟨_,_,h1.rep,h2.rep,rfl,by have:=qAi ms;unfold dep;omega,?_⟩
 have e:eqD (.lst (ms.map Im.d)) (.lst (ms.map Im.d))=true:=by unfold eqD;exact vR ms
 rw [e]
 exact q
theorem qQk {H:Hp}{x y:Addr}{ms:List Im}{Q:VK}(h1:Tr H x ms)(h2:Tr H y ms)(q:Q (.bl false) H):qMi K true (.ref x) (.ref y) H Q:=by
 refine⟨_,_,h1.rep,h2.rep,rfl,by have:=qAi ms;unfold dep;omega,?_⟩
 have e:eqD (.lst (ms.map Im.d)) (.lst (ms.map Im.d))=true:=by unfold eqD;exact vR ms
 rw [e]
 exact q
theorem qPl {H:Hp}{x y:Addr}{ms:List Im}{Q:VK}(h1:Tr H x ms)(h2:H y=some (.lst []))(q:Q (.bl ms.isEmpty) H):qMi K false (.ref x) (.ref y) H Q:=by
 refine⟨_,.lst [],h1.rep,?_,rfl,by have:=qAi ms;unfold dep;omega,?_⟩
 · unfold Rep;exact⟨y,[],rfl,SqL.of h2,by unfold Reps;trivial⟩
 · have e:eqD (.lst (ms.map Im.d)) (.lst [])=ms.isEmpty:=by cases ms <;> simp [eqD,zp]
   rw [e]
   exact q
theorem qO8 {H:Hp}{x y:Addr}{ms:List Im}{Q:VK}(h1:Tr H x ms)(h2:H y=some (.lst []))(q:Q (.bl (!ms.isEmpty)) H):qMi K true (.ref x) (.ref y) H Q:=by
 refine⟨_,.lst [],h1.rep,?_,rfl,by have:=qAi ms;unfold dep;omega,?_⟩
 · unfold Rep;exact⟨y,[],rfl,SqL.of h2,by unfold Reps;trivial⟩
 · have e:eqD (.lst (ms.map Im.d)) (.lst [])=ms.isEmpty:=by cases ms <;> simp [eqD,zp]
   rw [e]
   exact q
theorem qJw {H:Hp}{x:Addr}{ns:List Int}(h:H x=some (.lst (ns.map V.int))):Rep K H (.lst ((ns.map V.int).map D.leaf)) (.ref x):=by
 unfold Rep
 exact⟨x,_,rfl,SqL.of h,qC3 (by rw [List.all_map,List.all_eq_true];intro _ _;rfl)⟩
theorem qGu:∀ ns:List Int,zp ((ns.map V.int).map D.leaf) ((ns.map V.int).map D.leaf)=true
 | []=>by simp [zp]
 | n::ns=>by
  have ih:=qGu ns
  simp only [List.map_cons]
  unfold zp
  rw [ih]
  simp [eqD,eqV]
theorem qEk:∀ vs:List V,wJ (vs.map D.leaf)=0
 | []=>by simp [wJ]
 | n::ns=>by
  have ih:=qEk ns
  simp only [List.map_cons]
  unfold wJ
  rw [ih]
  simp [dep]
theorem IsIs.dl {H:Hp}:∀ {ms:List Im} {vs:List V},IsIs H ms vs→IsIs H ms.dropLast vs.dropLast
 | [],[],_=>trivial
 | [_],[_],_=>trivial
 | _::_::_,_::_::_,h=>⟨h.1,IsIs.dl h.2⟩
 | [],_::_,h=>h.elim
 | _::_,[],h=>h.elim
 | [_],_::_::_,h=>h.2.elim
 | _::_::_,[_],h=>h.2.elim
theorem IsIs.last {H:Hp}{ms:List Im}{vs:List V}(h:IsIs H ms vs)(hne:ms≠[]):∃ v m,vs[vs.length - 1]? =some v∧ms.getLast?=some m∧m∈ms∧IsI H m v:=by
 have hl:0 < ms.length:=List.length_pos_iff.mpr hne
 have hi:vs.length - 1 < vs.length:=by rw [h.len];omega
 have ev:vs[vs.length - 1]? =some vs[vs.length - 1]:=List.getElem?_eq_getElem hi
 obtain⟨m,h1,h2⟩:=h.get ev
 refine⟨_,m,ev,?_,List.mem_of_getElem? h1,h2⟩
 rw [h.len] at h1
 rw [List.getLast?_eq_getElem?]
 exact h1
theorem qFx {m:Im}(h:m.wd="gap"):∃ l,m= .gap l:=by
 cases m with
 | gap l=>exact⟨l,rfl⟩
 | clip=>exact absurd (show ("clip":Str)="gap" from h) (by decide+kernel)
 | nest=>exact absurd (show ("nest":Str)="gap" from h) (by decide+kernel)
 | mix=>exact absurd (show ("mix":Str)="gap" from h) (by decide+kernel)
def kX:Int→List Im→List Im
 | _,[]=>[]
 | w,.gap l::ms=>kX (w+l) ms
 | w,.clip n p q r s l::ms=>if 0 < w then .gap w:: .clip n p q r s l::kX 0 ms else .clip n p q r s l::kX 0 ms
 | w,.nest n b l::ms=>if 0 < w then .gap w:: .nest n b l::kX 0 ms else .nest n b l::kX 0 ms
 | w,.mix l::ms=>if 0 < w then .gap w:: .mix l::kX 0 ms else .mix l::kX 0 ms
theorem jd {m:Im}(h:m.wd≠"gap")(w:Int)(ms:List Im):kX w (m::ms)=if 0 < w then .gap w::m::kX 0 ms else m::kX 0 ms:=by
 cases m with
 | gap l=>exact absurd rfl h
 | _=>rw [kX]
inductive qE2 (vs:List V)(H:Hp)(Q:VK)(_:XK):Prop
| mk (z:Addr) (ms:List Im) (_:vs=[.ref z]) (_:Tr H z ms) (_:ms.length≤300) (_:∀ (y:Addr) (H':Hp),Same H H'→H y=none→Tr H' y (kX 0 ms)→Q (.ref y) H')
theorem qE1 (T:Tx K mg a):FnOk P w K mg base CX0 1 a.A23 a.B23 ["some"] qE2:=by
 refine T.D23.F.ok jo (fun vs H Q E h=>?_) (fun cdv A outer s H vs Q E hr h=>?_)
 · obtain⟨z,ms,rfl,_⟩:=h
   rfl
 refine qM fun _ Y=>?_
 obtain⟨z,ms,rfl,⟨xs,hz,his⟩,hl,kk⟩:=h
 apply Y
 refine⟨_,(qF (qg 1 jo.nd (qO qD))
  (qF (qg 2 jo.nd qE)
  (qF (jk PassesOwn.never rfl (jp (pv 0)) (qq (i:=3) jo.nd rfl (Or.inl rfl)) (qG (qh (qQ xA (qX (pv 3)) qI (qW _)) (qG (qg 2 jo.nd (qN jE (pv 2) (qX (pv 3))))) (qF (qh (qQ qHn (pv 2) qE (qW _)) (qG (qf (j6 F.plainAttrs_list F.slot_list_append F.type_list_append qc (pv 1) (qA (qK (qA qI (qA (pv 2) qD))) qD)))) qR)
  (qF (qg 2 jo.nd qE)
  (qG (qf (j6 F.plainAttrs_list F.slot_list_append F.type_list_append qc (pv 1) (qA (pv 3) qD)))))))))
  (qG (qU (pv 1)))))),?_⟩
 try dsimp only [jc,qk]
 refine⟨sL0,fun y hy=>?_⟩
 refine⟨_,rfl,z,rfl,⟨_,SqL.of ((qC hy _) _ _ hz)⟩,j0 (K:=K) (a:=z) (xs:=xs) (fun i σ H'=>∃ (w:Int) (as:List Im) (o:Option V) (vs:List V),σ=[some (.ref z),some (.ref y),some (.int w),o]∧H' y=some (.lst vs)∧IsIs H' as vs∧as.length≤2*i∧as++kX w (ms.drop i)=kX 0 ms∧Same H H')
  ⟨0,[],none,[],rfl,qB,trivial,by simp,rfl,qC hy _⟩ ?_ ?_ ?_⟩
 · rintro i σ H' hi ⟨w,as,o,vs,rfl,_,_,_,_,e⟩
   exact SqL.of (e _ _ hz)
 · rintro i x σ H' hx ⟨w,as,o,vs,rfl,hv,hiv,hal,hap,e⟩
   refine qM fun _ Y=>?_
   obtain⟨m,hm,hIx⟩:=his.get hx
   have hI:=hIx.ts (qi e)
   have hi:i < ms.length:=(glt hm)
   have hd:ms.drop i=m::ms.drop (i+1):=by
    rw [List.drop_eq_getElem_cons hi]
    rw [List.getElem?_eq_getElem hi] at hm
    cases hm
    rfl
   have hvl:vs.length≤2*i:=by rw [hiv.len];exact hal
   obtain⟨zi,xi,rfl,hzi,h0,h1⟩:=hI.opn
   apply Y
   refine⟨_,rfl,zi,xi,_,_,rfl,rfl,SqT.of hzi,h0,rfl,_,rfl,kD (fun c=>?_) (fun c=>?_)⟩
   · obtain⟨l,rfl⟩:=qFx (by simpa using c)
     refine qM fun _ Y=>?_
     obtain⟨z2,e2,hz2⟩:=hI
     cases e2
     apply Y
     refine⟨_,rfl,ixO hz2 at1 ⟨_,_,rfl,rfl,w+l,as,_,vs,rfl,hv,hiv,by omega,?_,e⟩⟩
     rw [hd,kX] at hap
     exact hap
   · have hne:m.wd≠"gap":=by simpa using c
     rw [hd,jd hne] at hap
     refine⟨_,rfl,_,_,rfl,rfl,_,rfl,kD (fun c=>?_) (fun c=>?_)⟩
     · have c':0 < w:=by simpa using c
       rw [if_pos c'] at hap
       refine⟨_,rfl,.inl ⟨rfl,_,SqL.of hv⟩,_,rfl,sL2,fun g hg=>?_⟩
       have w1:=qC hg (.tup [.str "gap",.int w])
       refine⟨y,_,_,rfl,rfl,w1 _ _ hv,qS (by omega),?_⟩
       have t2:TS (upd H' g (.tup [.str "gap",.int w])) (upd (upd H' g (.tup [.str "gap",.int w])) y (.lst (vs++[.ref g]))):=xV (w1 _ _ hv)
       have k2:IsIs (upd (upd H' g (.tup [.str "gap",.int w])) y (.lst (vs++[.ref g]))) (as++[.gap w]) (vs++[.ref g]):=((hiv.ts (qi w1)).app (.one (isG qB))).ts t2
       have k1:IsI (upd (upd H' g (.tup [.str "gap",.int w])) y (.lst (vs++[.ref g]))) m (.ref zi):=(hI.ts (qi w1)).ts t2
       have e2:Same H (upd (upd H' g (.tup [.str "gap",.int w])) y (.lst (vs++[.ref g]))):=kA (e.trans w1) hy
       have hv2:(upd (upd H' g (.tup [.str "gap",.int w])) y (.lst (vs++[.ref g]))) y=some (.lst (vs++[.ref g])):=qB
       generalize upd (upd H' g (.tup [.str "gap",.int w])) y (.lst (vs++[.ref g]))=H2 at k1 k2 e2 hv2 ⊢
       refine⟨_,rfl,.inl ⟨rfl,_,SqL.of hv2⟩,_,rfl,y,_,_,rfl,rfl,hv2,qS (by rw [List.length_append];simp;omega),?_⟩
       refine⟨0,as++[.gap w]++[m],_,_,rfl,qB,(k2.app (.one k1)).ts (xV hv2),by simp;omega,?_,kA e2 hy⟩
       rw [← hap];simp
     · have c':¬ 0 < w:=by simpa using c
       rw [if_neg c'] at hap
       refine⟨_,rfl,.inl ⟨rfl,_,SqL.of hv⟩,_,rfl,y,_,_,rfl,rfl,hv,qS (by omega),?_⟩
       refine⟨0,as++[m],_,_,rfl,qB,(hiv.app (.one hI)).ts (xV hv),by simp;omega,?_,kA e hy⟩
       rw [← hap];simp
 · rintro σ H' ⟨w,as,o,vs,rfl,hv,hiv,_,hap,e⟩
   refine⟨_,rfl,kk y H' e hy ⟨vs,hv,?_⟩⟩
   rw [his.len,List.drop_length,kX,List.append_nil] at hap
   rw [← hap]
   exact hiv
def Im.mo:Im→Int
 | .mix _=>0
 | .clip _ _ _ _ _ l=>l
 | .nest _ _ l=>l
 | .gap l=>l
theorem qGl {α:Type}{xs:List α}{v:α}(h:xs[xs.length - 1]? =some v):atI xs (-1)=some v:=by
 have hl:0 < xs.length:=by
  have:=(glt h)
  omega
 have e:ixN xs.length (-1)=some (xs.length - 1):=by
  unfold ixN
  rw [if_neg (by decide),if_pos (by omega)]
  congr 1
  omega
 unfold atI;rw [e];exact h
theorem qAu {m:Im}(h:m.wd="mix"):∃ l,m= .mix l:=by
 cases m with
 | mix l=>exact⟨l,rfl⟩
 | clip=>exact absurd (show ("clip":Str)="mix" from h) (by decide+kernel)
 | nest=>exact absurd (show ("nest":Str)="mix" from h) (by decide+kernel)
 | gap=>exact absurd (show ("gap":Str)="mix" from h) (by decide+kernel)
theorem qQi {m:Im}(h:m.wd≠"mix"):m.mo=m.l:=by
 cases m with
 | mix l=>exact absurd rfl h
 | _=>rfl
theorem qOb {x y:Str}:decide (V.str x=V.str y)=decide (x=y):=by
 rw [Bool.eq_iff_iff];simp
inductive qCa (vs:List V)(H:Hp)(Q:VK)(_:XK):Prop
| mk (v:V) (m:Im) (_:vs=[v]) (_:IsI H m v) (_:Q (.int m.mo) H)
theorem vZ (T:Tx K mg a):FnOk P w K mg base CX0 1 a.A22 a.B22 ["item"] qCa:=by
 refine T.D22.F.ok qBx (fun vs H Q E h=>?_) (fun cdv A outer s H vs Q E hr h=>?_)
 · obtain⟨v,m,rfl,_⟩:=h
   rfl
 refine qM fun _ Y=>?_
 obtain⟨v,m,rfl,hI,kk⟩:=h
 apply Y
 refine⟨_,(qG (qU (qCg (qQ xA (qX (pv 0)) qI (qW _)) qE (jr qJj (pv 0) (wP zO qE) (fun _ _=>rfl))))),?_⟩
 try dsimp only [jc,qk]
 refine qM fun _ Y=>?_
 obtain⟨z,xs,rfl,hz,h0,h1⟩:=hI.opn
 apply Y
 refine⟨_,rfl,z,xs,_,_,rfl,rfl,SqT.of hz,h0,rfl,_,rfl,kD (fun c=>?_) (fun c=>?_)⟩
 · obtain⟨l,rfl⟩:=qAu (by simpa using c)
   exact kk
 · rw [qQi (by simpa using c)] at kk
   exact⟨_,rfl,_,rfl,z,xs,_,_,rfl,rfl,SqT.of hz,h1,kk⟩
def wK:Int→Nat→List Im→Int→Option (Nat × Int)
 | _,_,[],_=>none
 | b,i,m::ms,t=>if b≤t∧t < b+m.mo then some (i,t - b) else wK (b+m.mo) (i+1) ms t
def AtR (H:Hp)(Q:VK)(r:Option (Nat × Int)):Prop:=match r with
 | none=>∀ H',Same H H'→Q .non H'
 | some (i,d)=>∀ (p:Addr) (H':Hp),Same H H'→H' p=some (.tup [.int (i:Int),.int d])→Q (.ref p) H'
theorem xr {α:Type}{xs:List α}{i:Nat}{x:α}(h:xs[i]? =some x):xs.drop i=x::xs.drop (i+1):=by
 have hi:i < xs.length:=(glt h)
 rw [List.drop_eq_getElem_cons hi]
 rw [List.getElem?_eq_getElem hi] at h
 cases h
 rfl
inductive qG3 (vs:List V)(H:Hp)(Q:VK)(_:XK):Prop
| mk (z:Addr) (ms:List Im) (t:Int) (_:vs=[.ref z,.int t]) (_:Tr H z ms) (_:AtR H Q (wK 0 0 ms t))
theorem qHi (T:Tx K mg a):FnOk P w K mg base CX0 3 a.A24 a.B24 ["track","moment"] qG3:=by
 refine T.D24.F.ok xK (fun vs H Q E h=>?_) (fun cdv A outer s H vs Q E hr h=>?_)
 · obtain⟨z,ms,t,rfl,_⟩:=h
   rfl
 refine qM fun _ Y=>?_
 obtain⟨z,ms,t,rfl,⟨xs,hz,his⟩,kk⟩:=h
 apply Y
 refine⟨_,(qF (qg 2 xK.nd qE)
  (qF (jk PassesOwn.never rfl (qIo rfl T.b_enumerate (qA (pv 0) qD)) (qD0 rfl (jy (qq (i:=3) xK.nd rfl (Or.inl rfl)) (jy (qq (i:=4) xK.nd rfl (Or.inl rfl)) wj))) (qF (qg 5 xK.nd (qN jE (pv 2) (qL T.D22 (vZ T) hr rfl (qA (pv 4) qD))))
  (qF (qh (PW.pt (qDv (qQ qJn (pv 2) (pv 1) (qW _)) (qCk (qQ wv (pv 1) (pv 5) (qW _))))) (qG (qU (qK (qA (pv 3) (qA (qN jZ (pv 1) (pv 2)) qD))))) qR)
  (qG (qg 2 xK.nd (pv 5))))))
  (qG (qU qGs)))),?_⟩
 try dsimp only [jc,qk]
 refine⟨_,rfl,z,rfl,⟨_,SqL.of hz⟩,qJ1 (K:=K) (a:=z) (xs:=xs) (fun i σ H'=>∃ (b:Int) (o1 o2 o3:Option V),σ=[some (.ref z),some (.int t),some (.int b),o1,o2,o3]∧wK b i (ms.drop i) t=wK 0 0 ms t∧Same H H')
  ⟨0,none,none,none,rfl,rfl,Same.refl _⟩ ?_ ?_ ?_⟩
 · rintro i σ H' hi ⟨b,o1,o2,o3,rfl,_,e⟩
   exact SqL.of (e _ _ hz)
 · rintro i x σ H' p hx ⟨b,o1,o2,o3,rfl,hap,e⟩ hp
   refine qM fun _ Y=>?_
   obtain⟨m,hm,hIx⟩:=his.get hx
   apply Y
   have w1:=qC hp (.tup [.int (i:Int),x])
   have e1:=e.trans w1
   have hI:=hIx.ts (qi e1)
   rw [xr hm,wK] at hap
   refine⟨p,_,rfl,SqT.of qB,rfl,_,_,rfl,_,_,rfl,rfl,?_⟩
   generalize upd H' p (.tup [.int (i:Int),x])=H1 at e1 hI ⊢
   refine⟨_,rfl,_,rfl,x,m,rfl,hI,_,_,rfl,rfl,?_⟩
   refine⟨_,rfl,_,rfl,_,_,rfl,rfl,_,rfl,?_⟩
   refine kD (fun c1=>?_) (fun c1=>?_)
   · refine⟨_,rfl,_,rfl,_,_,rfl,rfl,_,rfl,?_⟩
     refine kD (fun c2=>?_) (fun c2=>?_)
     · rw [if_pos ⟨by simpa using c1,by simpa using c2⟩] at hap
       rw [← hap] at kk
       refine⟨_,rfl,_,rfl,_,rfl,_,_,rfl,rfl,sL2,fun q hq=>?_⟩
       exact kk q _ (e1.trans (qC hq _)) qB
     · rw [if_neg (fun c=>c2 (by simpa using c.2))] at hap
       exact⟨_,rfl,_,_,_,_,rfl,hap,e1⟩
   · rw [if_neg (fun c=>c1 (by simpa using c.1))] at hap
     exact qd ⟨_,rfl,_,_,_,_,rfl,hap,e1⟩
 · rintro σ H' ⟨b,o1,o2,o3,rfl,hap,e⟩
   rw [his.len,List.drop_length,wK] at hap
   rw [← hap] at kk
   exact kk H' e
def ji (ms:List Im)(i:Int):Str:=if i < 0 then "" else match ms[i.toNat]? with
 | some m=>m.wd
 | none=>""
theorem vW {ms:List Im}{i:Nat}{m:Im}(h:ms[i]? =some m){k:Int}(hk:k=(i:Int)):ji ms k=m.wd:=by
 subst hk
 unfold ji
 rw [if_neg (by omega)]
 have e:((i:Int)).toNat=i:=by omega
 rw [e,h]
inductive qG0 (vs:List V)(H:Hp)(Q:VK)(_:XK):Prop
| mk (z:Addr) (ms:List Im) (i:Int) (_:vs=[.ref z,.int i]) (_:Tr H z ms) (_:Q (.str (ji ms i)) H)
theorem jq (T:Tx K mg a):FnOk P w K mg base CX0 1 a.A25 a.B25 ["track","place"] qG0:=by
 refine T.D25.F.ok qHa (fun vs H Q E h=>?_) (fun cdv A outer s H vs Q E hr h=>?_)
 · obtain⟨z,ms,i,rfl,_⟩:=h
   rfl
 refine qM fun _ Y=>?_
 obtain⟨z,ms,i,rfl,⟨vs,hz,his⟩,q⟩:=h
 apply Y
 refine⟨_,(qF (qh (PW.pt (jw (qQ wv (pv 1) qE (qW _)) (jU (qQ qCz (pv 1) (qV ql rfl T.b_len rfl (qA (pv 0) qD)) (qW _))))) (qG (qU qI)) qR)
  (qG (qU (qX (jr jL (pv 0) (pv 1) (fun _ _=>rfl)))))),?_⟩
 try dsimp only [jc,qk]
 have hl:=his.len
 refine⟨_,rfl,_,_,rfl,rfl,_,rfl,?_⟩
 by_cases h0:i < 0
 · rw [decide_eq_true h0]
   have e:ji ms i="":=by unfold ji;rw [if_pos h0]
   rw [e] at q
   exact qz (qz q)
 rw [decide_eq_false h0]
 refine qd ⟨_,rfl,_,rfl,z,_,rfl,.inl (SqL.of hz),_,_,rfl,rfl,_,rfl,?_⟩
 by_cases h1:((vs.length:Nat):Int)≤i
 · rw [decide_eq_true (show i ≥ ((vs.length:Nat):Int) from h1)]
   have e:ji ms i="":=by
    unfold ji
    rw [if_neg h0,List.getElem?_eq_none (by omega)]
   rw [e] at q
   exact qz q
 · rw [decide_eq_false (show ¬ i ≥ ((vs.length:Nat):Int) from h1)]
   refine qd ?_
   have hi:i.toNat < ms.length:=by omega
   have hm:ms[i.toNat]? =some ms[i.toNat]:=List.getElem?_eq_getElem hi
   refine qM fun _ Y=>?_
   obtain⟨v,hv,hI⟩:=his.get' hm
   obtain⟨zi,xi,rfl,hzi,q0,_⟩:=hI.opn
   apply Y
   have ei:i=((i.toNat:Nat):Int):=by omega
   have hat:atI vs i=some (.ref zi):=by
    rw [ei];exact xX hv
   have e:ji ms i=ms[i.toNat].wd:=vW hm ei
   rw [e] at q
   exact⟨_,rfl,_,rfl,z,_,_,_,rfl,rfl,SqL.of hz,hat,zi,xi,_,_,rfl,rfl,SqT.of hzi,q0,q⟩
def qKo (ms:List Im)(i:Nat):Int:=((ms.take i).map Im.mo).sum
theorem wH:∀ (xs:List Im) (b:Int) (i0:Nat) (m:Im) (ys:List Im),(∀ x∈xs,0≤x.mo)→0 < m.mo→wK b i0 (xs++m::ys) (b+(xs.map Im.mo).sum)=some (i0+xs.length,0)
 | [],b,i0,m,ys,_,hm=>by
  rw [List.nil_append,wK,if_pos (by simp;omega)]
  simp
 | x::xs,b,i0,m,ys,hx,hm=>by
  have h0:=hx x (by simp)
  have hs:0≤(xs.map Im.mo).sum:=by
   have:∀ (zs:List Im),(∀ z∈zs,0≤z.mo)→0≤(zs.map Im.mo).sum:=fun zs=>by
    induction zs with
    | nil=>intro _;simp
    | cons z zs ih=>intro h;have:=ih fun y hy=>h y (by simp [hy]);have:=h z (by simp);rw [List.map_cons,List.sum_cons];omega
   exact this xs fun y hy=>hx y (by simp [hy])
  have ih:=wH xs (b+x.mo) (i0+1) m ys (fun y hy=>hx y (by simp [hy])) hm
  rw [List.cons_append,wK,List.map_cons,List.sum_cons,if_neg (by omega)]
  have e:b+(x.mo+(xs.map Im.mo).sum)=b+x.mo+(xs.map Im.mo).sum:=by omega
  rw [e,ih,List.length_cons]
  congr 2
  omega
inductive qAy (vs:List V)(H:Hp)(Q:VK)(_:XK):Prop
| mk (z:Addr) (ms:List Im) (i:Int) (_:vs=[.ref z,.int i]) (_:Tr H z ms) (_:Q (.int (if ji ms (i - 1)="mix" then i - 2 else i - 1)) H)
theorem qBe (T:Tx K mg a):FnOk P w K mg base CX0 2 a.A27 a.B27 ["track","place"] qAy:=by
 refine T.D27.F.ok qA7 (fun vs H Q E h=>?_) (fun cdv A outer s H vs Q E hr h=>?_)
 · obtain⟨z,ms,i,rfl,_⟩:=h
   rfl
 refine qM fun _ Y=>?_
 obtain⟨z,ms,i,rfl,tT,q⟩:=h
 apply Y
 refine⟨_,(qG (qU (qCg (qQ xA (qL T.D25 (jq T) hr rfl (qA (pv 0) (qA (qN jZ (pv 1) qE) qD))) qI (qW _)) (qN jZ (pv 1) qE) (qN jZ (pv 1) qE)))),?_⟩
 try dsimp only [jc,qk]
 refine⟨_,rfl,_,rfl,_,_,rfl,rfl,z,ms,_,rfl,tT,rfl,_,rfl,kD (fun c=>?_) (fun c=>?_)⟩
 · rw [if_pos (by simpa using c)] at q
   exact⟨_,rfl,_,_,rfl,rfl,q⟩
 · rw [if_neg (by simpa using c)] at q
   exact⟨_,rfl,_,_,rfl,rfl,q⟩
def nbF (ms:List Im)(t:Int):Option (Int × Int):=match wK 0 0 ms t with
 | some (i,d)=>if d≠0∨(i:Int)=0 then none else some (if ji ms ((i:Int) - 1)="mix" then (i:Int) - 2 else (i:Int) - 1,(i:Int))
 | none=>none
def cbF (ms:List Im)(t:Int):Option (Int × Int):=match nbF ms t with
 | some (i,j)=>if ji ms i="clip"∧ji ms j="clip" then some (i,j) else none
 | none=>none
def PrR (H:Hp)(Q:VK)(r:Option (Int × Int)):Prop:=match r with
 | none=>∀ H',Same H H'→Q .non H'
 | some (i,j)=>∀ (p:Addr) (H':Hp),Same H H'→H' p=some (.tup [.int i,.int j])→Q (.ref p) H'
inductive wM (vs:List V)(H:Hp)(Q:VK)(_:XK):Prop
| mk (z:Addr) (ms:List Im) (t:Int) (_:vs=[.ref z,.int t]) (_:Tr H z ms) (_:PrR H Q (nbF ms t))
theorem wT (T:Tx K mg a):FnOk P w K mg base CX0 4 a.A28 a.B28 ["track","moment"] wM:=by
 refine T.D28.F.ok zR (fun vs H Q E h=>?_) (fun cdv A outer s H vs Q E hr h=>?_)
 · obtain⟨z,ms,t,rfl,_⟩:=h
   rfl
 refine qM fun _ Y=>?_
 obtain⟨z,ms,t,rfl,tT,kk⟩:=h
 apply Y
 refine⟨_,(qF (qg 2 zR.nd (qL T.D24 (qHi T) hr rfl (qA (pv 0) (qA (pv 1) qD))))
  (qF (qh (PW.pt (jw (qAs (qEb (pv 2))) (jw (qQ kN (qX (pv 2)) qE (qW _)) (jU (qQ xA (qX (pv 2)) qE (qW _)))))) (qG (qU qGs)) qR)
  (qG (qU (qK (qA (qL T.D27 (qBe T) hr rfl (qA (pv 0) (qA (qX (pv 2)) qD))) (qA (qX (pv 2)) qD))))))),?_⟩
 try dsimp only [jc,qk]
 refine⟨_,rfl,_,rfl,z,ms,_,rfl,tT,?_⟩
 unfold nbF at kk
 cases hit:wK 0 0 ms t with
 | none=>
  rw [hit] at kk
  intro H1 e1
  exact⟨_,rfl,_,rfl,qz (kk H1 e1)⟩
 | some x=>
  obtain⟨i,d⟩:=x
  rw [hit] at kk
  dsimp only at kk
  intro p H1 e1 hp
  refine⟨_,rfl,_,rfl,kD (fun c=>absurd c (by simp)) (fun _=>?_)⟩
  refine(ixO hp at1 ?_)
  refine⟨rfl,_,rfl,kD (fun c=>?_) (fun c=>?_)⟩
  · rw [if_pos (.inl (by simpa using c))] at kk
    exact kk H1 e1
  · refine(ixO hp at0 ?_)
    refine⟨rfl,_,rfl,kD (fun c2=>?_) (fun c2=>?_)⟩
    · rw [if_pos (.inr (by simpa using c2))] at kk
      exact kk H1 e1
    · rw [if_neg (fun z=>z.elim (fun z=>c (by simpa using z)) (fun z=>c2 (by simpa using z)))] at kk
      refine⟨_,rfl,ixO hp at0 ⟨z,ms,_,rfl,tT.same e1,?_⟩⟩
      refine(ixO hp at0 ⟨sL2,fun q hq=>?_⟩)
      exact kk q _ (e1.trans (qC hq _)) qB
inductive vJ (vs:List V)(H:Hp)(Q:VK)(_:XK):Prop
| mk (z:Addr) (ms:List Im) (t:Int) (_:vs=[.ref z,.int t]) (_:Tr H z ms) (_:PrR H Q (cbF ms t))
theorem vf (T:Tx K mg a):FnOk P w K mg base CX0 5 a.A29 a.B29 ["track","moment"] vJ:=by
 refine T.D29.F.ok xS (fun vs H Q E h=>?_) (fun cdv A outer s H vs Q E hr h=>?_)
 · obtain⟨z,ms,t,rfl,_⟩:=h
   rfl
 refine qM fun _ Y=>?_
 obtain⟨z,ms,t,rfl,tT,kk⟩:=h
 apply Y
 refine⟨_,(qF (qg 2 xS.nd (qL T.D28 (wT T) hr rfl (qA (pv 0) (qA (pv 1) qD))))
  (qF (qh (PW.pt (jw (qAs (qEb (pv 2))) (jw (qQ kN (qL T.D25 (jq T) hr rfl (qA (pv 0) (qA (qX (pv 2)) qD))) qI (qW _)) (jU (qQ kN (qL T.D25 (jq T) hr rfl (qA (pv 0) (qA (qX (pv 2)) qD))) qI (qW _)))))) (qG (qU qGs)) qR)
  (qG (qU (pv 2))))),?_⟩
 try dsimp only [jc,qk]
 refine⟨_,rfl,_,rfl,z,ms,_,rfl,tT,?_⟩
 unfold cbF at kk
 cases hit:nbF ms t with
 | none=>
  rw [hit] at kk
  intro H1 e1
  exact⟨_,rfl,_,rfl,qz (kk H1 e1)⟩
 | some x=>
  obtain⟨i,j⟩:=x
  rw [hit] at kk
  dsimp only at kk
  intro p H1 e1 hp
  refine⟨_,rfl,_,rfl,kD (fun c=>absurd c (by simp)) (fun _=>?_)⟩
  refine⟨_,rfl,ixO hp at0 ⟨z,ms,_,rfl,tT.same e1,?_⟩⟩
  refine⟨rfl,_,rfl,kD (fun c=>?_) (fun c=>?_)⟩
  · rw [if_neg (fun z=>absurd c (by simpa using z.1))] at kk
    exact kk H1 e1
  · refine⟨_,rfl,ixO hp at1 ⟨z,ms,_,rfl,tT.same e1,?_⟩⟩
    refine⟨rfl,_,rfl,kD (fun c2=>?_) (fun c2=>?_)⟩
    · rw [if_neg (fun z=>absurd c2 (by simpa using z.2))] at kk
      exact kk H1 e1
    · rw [if_pos ⟨by simpa using c,by simpa using c2⟩] at kk
      exact⟨_,rfl,kk p H1 e1 hp⟩
def TrsAt (H:Hp):List (List Im)→List V→Prop
 | [],[]=>True
 | ms::r,v::vs=>(∃ z:Addr,v= .ref z∧Tr H z ms)∧TrsAt H r vs
 | _,_=>False
theorem TrsAt.same {H H':Hp}(e:Same H H'):∀ {ts:List (List Im)} {vs:List V},TrsAt H ts vs→TrsAt H' ts vs
 | [],[],_=>trivial
 | _::_,_::_,⟨⟨z,h1,h2⟩,h⟩=>⟨⟨z,h1,h2.same e⟩,TrsAt.same e h⟩
 | [],_::_,h=>h.elim
 | _::_,[],h=>h.elim
theorem TrsAt.len {H:Hp}:∀ {ts:List (List Im)} {vs:List V},TrsAt H ts vs→vs.length=ts.length
 | [],[],_=>rfl
 | _::_,_::_,h=>by rw [List.length_cons,List.length_cons,TrsAt.len h.2]
 | [],_::_,h=>h.elim
 | _::_,[],h=>h.elim
theorem TrsAt.get {H:Hp}:∀ {ts:List (List Im)} {vs:List V} {i:Nat} {v:V},TrsAt H ts vs→vs[i]? =some v→∃ (ms:List Im) (z:Addr),ts[i]? =some ms∧v= .ref z∧Tr H z ms
 | [],[],_,_,_,h=>by simp at h
 | ms::_,u::_,0,v,h,e=>by
  have e':u=v:=by simpa using e
  subst e'
  obtain⟨⟨z,h1,h2⟩,_⟩:=h
  exact⟨ms,z,rfl,h1,h2⟩
 | _::_,_::_,i+1,v,h,e=>by
  obtain⟨ms,z,h1,h2⟩:=TrsAt.get (i:=i) h.2 (by simpa using e)
  exact⟨ms,z,by simpa using h1,h2⟩
 | [],_::_,_,_,h,_=>h.elim
 | _::_,[],_,_,h,_=>h.elim
def qMe (H:Hp)(v:V)(ts:List (List Im)):Prop:=∃ (tt tl ti:Addr) (zs:List V),v= .ref tt∧H tt=some (.tup [.ref tl,.ref ti])∧H tl=some (.lst zs)∧TrsAt H ts zs
theorem qNq {H:Hp}{v:V}{n:Str}{p q r s l:Int}(h:IsI H (.clip n p q r s l) v):Cp K H v n p q r s l:=by
 obtain⟨z,x,y,h0,hz,hx,hy⟩:=h
 exact⟨z,x,y,h0,SqT.of hz,SqT.of hx,SqT.of hy⟩
def TabF (H:Hp)(v:V)(ts:List (List Im))(tie:List Int):Prop:=∃ (tt tl ti:Addr) (zs:List V),v= .ref tt∧H tt=some (.tup [.ref tl,.ref ti])∧H tl=some (.lst zs)∧TrsAt H ts zs∧H ti=some (.lst (tie.map V.int))
theorem TabF.tab {H:Hp}{v:V}{ts:List (List Im)}{tie:List Int}(h:TabF H v ts tie):qMe H v ts:=let ⟨tt,tl,ti,zs,h1,h2,h3,h4,_⟩:=h;⟨tt,tl,ti,zs,h1,h2,h3,h4⟩
theorem TabF.same {H H':Hp}(e:Same H H'){v:V}{ts:List (List Im)}{tie:List Int}(h:TabF H v ts tie):TabF H' v ts tie:=
 let ⟨tt,tl,ti,zs,h1,h2,h3,h4,h5⟩:=h;⟨tt,tl,ti,zs,h1,e _ _ h2,e _ _ h3,h4.same e,e _ _ h5⟩
def qK8 (ts:List (List Im))(tie:List Int):D:=.tup [.lst (ts.map fun ms=>.lst (ms.map Im.d)),.lst ((tie.map V.int).map D.leaf)]
theorem TrsAt.rep {H:Hp}:∀ {ts:List (List Im)} {vs:List V},TrsAt H ts vs→Reps K H (ts.map fun ms=>.lst (ms.map Im.d)) vs
 | [],[],_=>by unfold List.map Reps;trivial
 | _::_,_::_,⟨⟨z,h1,h2⟩,r⟩=>by unfold List.map Reps;subst h1;exact⟨h2.rep,r.rep⟩
 | [],_::_,h=>h.elim
 | _::_,[],h=>h.elim
theorem TabF.rep {H:Hp}{v:V}{ts:List (List Im)}{tie:List Int}(h:TabF H v ts tie):Rep K H (qK8 ts tie) v:=by
 obtain⟨tt,tl,ti,zs,rfl,h2,h3,h4,h5⟩:=h
 unfold qK8 Rep
 refine⟨tt,_,rfl,SqT.of h2,?_⟩
 unfold Reps Reps Reps
 refine⟨?_,qJw h5,trivial⟩
 unfold Rep
 exact⟨tl,zs,rfl,SqL.of h3,h4.rep⟩
theorem qF7:∀ ts:List (List Im),zp (ts.map fun ms=>.lst (ms.map Im.d)) (ts.map fun ms=>.lst (ms.map Im.d))=true
 | []=>by simp [zp]
 | ms::r=>by
  unfold List.map zp
  rw [qF7 r]
  have:eqD (.lst (ms.map Im.d)) (.lst (ms.map Im.d))=true:=by unfold eqD;exact vR ms
  rw [this];rfl
theorem qI5:∀ ts:List (List Im),wJ (ts.map fun ms=>.lst (ms.map Im.d))≤3
 | []=>by simp [wJ]
 | ms::r=>by
  have h1:=qI5 r
  have h2:dep (.lst (ms.map Im.d))≤3:=by have:=qAi ms;unfold dep;omega
  unfold List.map wJ
  omega
theorem qGg (ts:List (List Im))(tie:List Int):eqD (qK8 ts tie) (qK8 ts tie)=true∧dep (qK8 ts tie)≤50:=by
 constructor
 · unfold qK8 eqD zp zp zp
   have h1:eqD (.lst (ts.map fun ms=>.lst (ms.map Im.d))) (.lst (ts.map fun ms=>.lst (ms.map Im.d)))=true:=by unfold eqD;exact qF7 ts
   have h2:eqD (.lst ((tie.map V.int).map D.leaf)) (.lst ((tie.map V.int).map D.leaf))=true:=by unfold eqD;exact qGu tie
   rw [h1,h2];rfl
 · have h1:=qI5 ts
   have h2:=qEk (tie.map V.int)
   unfold qK8 dep wJ wJ wJ dep
   omega
theorem qFo {H:Hp}:∀ {ts:List (List Im)} {vs:List V} {ms:List Im} {z:Addr},TrsAt H ts vs→Tr H z ms→TrsAt H (ts++[ms]) (vs++[.ref z])
 | [],[],_,z,_,h=>⟨⟨z,rfl,h⟩,trivial⟩
 | _::_,_::_,_,_,⟨h1,h2⟩,h=>⟨h1,qFo h2 h⟩
 | [],_::_,_,_,h,_=>h.elim
 | _::_,[],_,_,h,_=>h.elim
theorem atN {xs:List V}{i:Int}{n:Nat}(h:xs.length=n)(h0:0≤i)(h1:i < (n:Int)):∃ v,atI xs i=some v∧v∈xs:=by
 have hi:i.toNat < xs.length:=by omega
 have e:i=((i.toNat:Nat):Int):=by omega
 have hat:=xX (List.getElem?_eq_getElem hi)
 rw [← e] at hat
 exact⟨_,hat,List.getElem_mem hi⟩
theorem qCl {b:Bool}{A B:Prop}(h:b=false)(q:B):if b=true then A else B:=by subst h;exact q
theorem qNy {b:Bool}{A B:Prop}(h:b=true)(q:A):if b=true then A else B:=by subst h;exact q
theorem qFd {H H':Hp}(s:Same H H'){x:V}{t:Value}(h:qAz K H x t):qAz K H' x t:=by
 cases h with
 | non=>exact .non
 | bl x=>exact .bl x
 | int i=>exact .int i
 | str z=>exact .str z
 | flt x=>exact .flt x
 | lst e=>exact .lst (s _ _ e)
 | frz e=>exact .frz (s _ _ e)
 | tup e=>exact .tup (s _ _ e)
 | dK e=>exact .dK (s _ _ e)
 | dT e=>exact .dT (s _ _ e)
 | ins e cl ha hn htk hm=>exact .ins (s _ _ e) cl ha hn htk hm
theorem FrB.same {H H':Hp}(s:Same H H'){x:V}{b:Bool}(h:FrB K H x b):FrB K H' x b:=by
 cases h with
 | no ty e=>exact .no (qFd s ty) e
 | len e h=>exact .len (s _ _ e) h
 | one e h=>exact .one (s _ _ e) (h.same s)
 | two e h=>exact .two (s _ _ e) (h.same s)
 | nums e=>exact .nums (s _ _ e)
inductive NmB (K:W.Frag)(H:Hp):V→Bool→Prop where
 | str (z:Str) (h:z.length≤1000):NmB K H (.str z) (jm z)
 | no {x:V} {t:Value} (ty:qAz K H x t) (e:W.kitOne K t (.type "str")=some false):NmB K H x false
inductive qEf (K:W.Frag)(vs:List V)(H:Hp)(Q:VK)(_:XK):Prop
| mk (x:V) (b:Bool) (_:vs=[x]) (_:NmB K H x b) (_:∀ H',Same H H'→Q (.bl b) H')
theorem xT (T:Tx K mg a):FnOk P w K mg base CX0 1 a.A10 a.B10 ["thing"] (qEf K):=by
 refine T.D10.F.ok qHh (fun vs H Q E h=>?_) (fun cdv A outer s H vs Q E hr h=>?_)
 · obtain⟨x,b,rfl,_⟩:=h
   rfl
 refine qM fun _ Y=>?_
 obtain⟨x,b,rfl,hx,kk⟩:=h
 apply Y
 refine⟨_,(qF (qh (qr (qp (qV qj rfl T.b_isinstance rfl (qA (pv 0) (qA (zv rfl T.b_str rfl) qD))))) (qG (qU xq)) qR)
  (qF (qh (PW.pt (jw (qQ wv (qV wD rfl T.b_len rfl (qA (pv 0) qD)) qE (qW _)) (jU (qQ qHn (qV wD rfl T.b_len rfl (qA (pv 0) qD)) (ju (v:=.int 8) rfl T.g_LONGEST_NAME ⟨_,rfl⟩) (qW _))))) (qG (qU xq)) qR)
  (qG (qU (qV (vM rfl) rfl T.b_all rfl (qA (vE [] [] rfl (qNg (pv 0)) (fun _ _ _ _=>(ja qM2 (pv 0) (ju (v:=.str "abcdefghijklmnopqrstuvwxyz") rfl T.g_LETTERS ⟨_,rfl⟩) rfl))) qD)))))),?_⟩
 try dsimp only [jc,qk]
 cases hx with
 | no ty e=>exact⟨_,rfl,_,_,_,false,rfl,ty,⟨_,.inl ⟨rfl,e⟩⟩,false,rfl,qz (kk H (Same.refl _))⟩
 | str z hz=>
  have hsz:z.length≤sizeLine:=Nat.le_of_lt (qS hz)
  refine⟨_,rfl,_,_,_,true,rfl,.str z,⟨_,.inl ⟨rfl,by kernel_rfl⟩⟩,true,rfl,qd ?_⟩
  refine⟨_,rfl,z,rfl,hsz,_,_,rfl,rfl,_,rfl,?_⟩
  by_cases h1:(z.length:Int) < 1
  · rw [decide_eq_true h1]
    have e:jm z=false:=by unfold jm;rw [decide_eq_false (by omega)];rfl
    have:=kk H (Same.refl _)
    rw [e] at this
    exact qz (qz this)
  rw [decide_eq_false h1]
  refine qd ⟨_,rfl,z,rfl,hsz,_,_,rfl,rfl,_,rfl,?_⟩
  by_cases h2:(8:Int) < (z.length:Int)
  · rw [decide_eq_true h2]
    have e:jm z=false:=by unfold jm;rw [decide_eq_false (by omega)];rfl
    have:=kk H (Same.refl _)
    rw [e] at this
    exact qz this
  rw [decide_eq_false h2]
  refine qd ?_
  refine⟨_,rfl,z,rfl,qKf (fun i acc H'=>H'=H∧acc=((z.cps.toList.take i).map qO3).map V.bl) ⟨rfl,rfl⟩ ?_ ?_ ?_⟩
  · rintro i acc H' hi ⟨_,rfl⟩
    rw [List.length_map,List.length_map,List.length_take]
    exact qS (by have:z.cps.size=z.length:=rfl;omega)
  · rintro i c acc H' hi hc ⟨rfl,rfl⟩
    refine⟨_,rfl,_,_,rfl,rfl,Nxt.mk hi ⟨rfl,?_⟩⟩
    have hc':z.cps.toList[i]? =some c:=by simpa using hc
    rw [List.take_succ,hc',List.map_append,List.map_append]
    rfl
  · rintro acc H' ⟨rfl,rfl⟩ D hD
    refine⟨D,_,rfl,SqL.of qB,?_⟩
    have e:((z.cps.toList.take z.cps.size).map qO3).all id=jm z:=by
     rw [List.take_of_length_le (by simp)]
     unfold jm
     rw [decide_eq_true (by omega:1≤z.length∧z.length≤8),Bool.true_and,List.all_map]
     rfl
    rw [e]
    exact kk _ (qC hD _)
inductive LnB (H:Hp):V→Bool→Prop where
 | int (i:Int):LnB H (.int i) (decide (1≤i))
 | no {x:V} (h:NoW H x):LnB H x false
inductive CfB (K:W.Frag)(H:Hp):V→Bool→Prop where
 | no {x:V} {t:Value} (ty:qAz K H x t) (e:W.kitOne K t (.type "tuple")=some false):CfB K H x false
 | len {z:Addr} {xs:List V} (e:H z=some (.tup xs)) (h:xs.length≠5):CfB K H (.ref z) false
 | word {z:Addr} {x0 x1 x2 x3 x4:V} (e:H z=some (.tup [x0,x1,x2,x3,x4])) (hs:qOl x0 (.str "clip")=true) (hn:x0≠ .str "clip"):CfB K H (.ref z) false
 | nm {z:Addr} {x1 x2 x3 x4:V} (e:H z=some (.tup [.str "clip",x1,x2,x3,x4])) (h:NmB K H x1 false):CfB K H (.ref z) false
 | st {z:Addr} {x1 x2 x3 x4:V} (e:H z=some (.tup [.str "clip",x1,x2,x3,x4])) (h1:NmB K H x1 true) (h2:FrB K H x2 false):CfB K H (.ref z) false
 | sp {z:Addr} {x1 x2 x3 x4:V} (e:H z=some (.tup [.str "clip",x1,x2,x3,x4])) (h1:NmB K H x1 true) (h2:FrB K H x2 true) (h3:FrB K H x3 false):CfB K H (.ref z) false
 | ln {z:Addr} {x1 x2 x3 x4:V} {b:Bool} (e:H z=some (.tup [.str "clip",x1,x2,x3,x4])) (h1:NmB K H x1 true) (h2:FrB K H x2 true) (h3:FrB K H x3 true) (h4:LnB H x4 b):CfB K H (.ref z) b
theorem LnB.wh {H:Hp}{x:V}{b:Bool}(h:LnB H x b):(∃ i:Int,x= .int i∧b=decide (1≤i))∨(NoW H x∧b=false):=by
 cases h with
 | int i=>exact .inl ⟨i,rfl,rfl⟩
 | no h=>exact .inr ⟨h,rfl⟩
inductive wN (K:W.Frag)(vs:List V)(H:Hp)(Q:VK)(_:XK):Prop
| mk (v:V) (b:Bool) (_:vs=[v]) (_:CfB K H v b) (_:∀ H',Same H H'→Q (.bl b) H')
theorem wV (T:Tx K mg a):FnOk P w K mg base CX0 3 a.A11 a.B11 ["item"] (wN K):=by
 refine T.D11.F.ok wQ (fun vs H Q E h=>?_) (fun cdv A outer s H vs Q E hr h=>?_)
 · obtain⟨v,b,rfl,_⟩:=h
   rfl
 refine qM fun _ Y=>?_
 obtain⟨v,b,rfl,hv,kk⟩:=h
 apply Y
 refine⟨_,(qF (qh (PW.pt (jw (qr (qp (qV qj rfl T.b_isinstance rfl (qA (pv 0) (qA (zv rfl T.b_tuple rfl) qD))))) (jU (qQ kN (qV ql rfl T.b_len rfl (qA (pv 0) qD)) qE (qW _))))) (qG (qU xq)) qR)
  (qF (qh (PW.pt (jw (qQ kN (qX (pv 0)) qI (qW _)) (jU (qr (qp (qL T.D10 (xT T) hr rfl (qA (qX (pv 0)) qD))))))) (qG (qU xq)) qR)
  (qF (qh (PW.pt (jw (qr (qp (qL T.D2 (kT T) hr rfl (qA (qX (pv 0)) qD)))) (jU (qr (qp (qL T.D2 (kT T) hr rfl (qA (qX (pv 0)) qD))))))) (qG (qU xq)) qR)
  (qG (qU (xU (qL T.D0 (jK T) hr rfl (qA (qX (pv 0)) qD)) (zQ (ja qCz (qX (pv 0)) qE (qW _))))))))),?_⟩
 try dsimp only [jc,qk]
 have five:∀ {z:Addr} {x1 x2 x3 x4:V} {H':Hp},H z=some (.tup [.str "clip",x1,x2,x3,x4])→Same H H'→SqT K H' z [.str "clip",x1,x2,x3,x4]:=fun e s=>SqT.of (s _ _ e)
 cases hv with
 | no ty e=>exact⟨_,rfl,_,_,_,false,rfl,ty,⟨_,.inl ⟨rfl,e⟩⟩,false,rfl,qz (qz (kk H (Same.refl _)))⟩
 | @len z xs e h=>
  refine⟨_,rfl,_,_,_,true,rfl,.tup e,⟨_,.inl ⟨rfl,by kernel_rfl⟩⟩,true,rfl,qd ?_⟩
  refine⟨_,rfl,_,_,rfl,.inr (SqT.of e),rfl,_,rfl,?_⟩
  have d:(!decide (V.int (xs.length:Int)=V.int 5))=true:=by
   have:¬ (V.int (xs.length:Int)=V.int 5):=fun z=>h (by injection z with z;omega)
   simp [this]
  rw [d]
  exact qz (kk H (Same.refl _))
 | @word z x0 x1 x2 x3 x4 e hs hn=>
  refine⟨_,rfl,_,_,_,true,rfl,.tup e,⟨_,.inl ⟨rfl,by kernel_rfl⟩⟩,true,rfl,qd ?_⟩
  refine⟨_,rfl,_,_,rfl,.inr (SqT.of e),rfl,_,rfl,qd ?_⟩
  refine(ixO e qIj ⟨hs,_,rfl,?_⟩)
  rw [show (!decide (x0=V.str "clip"))=true by simp [hn]]
  exact qz (qz (kk H (Same.refl _)))
 | @nm z x1 x2 x3 x4 e h=>
  refine⟨_,rfl,_,_,_,true,rfl,.tup e,⟨_,.inl ⟨rfl,by kernel_rfl⟩⟩,true,rfl,qd ?_⟩
  refine⟨_,rfl,_,_,rfl,.inr (SqT.of e),rfl,_,rfl,qd ?_⟩
  refine(ixO e qIj ⟨rfl,_,rfl,qIh rfl ?_⟩)
  exact(ixO e qCv ⟨x1,false,rfl,h,fun H1 s1=>⟨false,rfl,qz (kk H1 s1)⟩⟩)
 | @st z x1 x2 x3 x4 e h1 h2=>
  refine⟨_,rfl,_,_,_,true,rfl,.tup e,⟨_,.inl ⟨rfl,by kernel_rfl⟩⟩,true,rfl,qd ?_⟩
  refine⟨_,rfl,_,_,rfl,.inr (SqT.of e),rfl,_,rfl,qd ?_⟩
  refine(ixO e qIj ⟨rfl,_,rfl,qIh rfl ?_⟩)
  refine(ixO e qCv ⟨x1,true,rfl,h1,fun H1 s1=>⟨true,rfl,qd ?_⟩⟩)
  exact⟨_,rfl,_,_,_,_,rfl,rfl,five e s1,qJl,x2,false,rfl,h2.same s1,false,rfl,qz (qz (kk H1 s1))⟩
 | @sp z x1 x2 x3 x4 e h1 h2 h3=>
  refine⟨_,rfl,_,_,_,true,rfl,.tup e,⟨_,.inl ⟨rfl,by kernel_rfl⟩⟩,true,rfl,qd ?_⟩
  refine⟨_,rfl,_,_,rfl,.inr (SqT.of e),rfl,_,rfl,qd ?_⟩
  refine(ixO e qIj ⟨rfl,_,rfl,qIh rfl ?_⟩)
  refine(ixO e qCv ⟨x1,true,rfl,h1,fun H1 s1=>⟨true,rfl,qd ?_⟩⟩)
  refine⟨_,rfl,_,_,_,_,rfl,rfl,five e s1,qJl,x2,true,rfl,h2.same s1,true,rfl,qd ?_⟩
  exact⟨_,rfl,_,_,_,_,rfl,rfl,five e s1,qI9,x3,false,rfl,h3.same s1,false,rfl,qz (kk H1 s1)⟩
 | @ln z x1 x2 x3 x4 b e h1 h2 h3 h4=>
  refine⟨_,rfl,_,_,_,true,rfl,.tup e,⟨_,.inl ⟨rfl,by kernel_rfl⟩⟩,true,rfl,qd ?_⟩
  refine⟨_,rfl,_,_,rfl,.inr (SqT.of e),rfl,_,rfl,qd ?_⟩
  refine(ixO e qIj ⟨rfl,_,rfl,qIh rfl ?_⟩)
  refine(ixO e qCv ⟨x1,true,rfl,h1,fun H1 s1=>⟨true,rfl,qd ?_⟩⟩)
  refine⟨_,rfl,_,_,_,_,rfl,rfl,five e s1,qJl,x2,true,rfl,h2.same s1,true,rfl,qd ?_⟩
  refine⟨_,rfl,_,_,_,_,rfl,rfl,five e s1,qI9,x3,true,rfl,h3.same s1,true,rfl,qd ?_⟩
  rcases h4.wh with ⟨i,rfl,rfl⟩ | ⟨h5,rfl⟩
  · refine⟨_,rfl,_,_,_,_,rfl,rfl,five e s1,qF1,_,true,rfl,.int i,true,rfl,qz ?_⟩
    exact⟨_,rfl,_,_,_,_,rfl,rfl,five e s1,qF1,_,_,rfl,rfl,kk H1 s1⟩
  · exact⟨_,rfl,_,_,_,_,rfl,rfl,five e s1,qF1,x4,false,rfl,.no (h5.same s1),false,rfl,qd (kk H1 s1)⟩
structure GF (n:Str)(p q r s len:Int):Prop where
 hn:jm n=true
 hl:n.length≤1000
 hb:Bn 700 p q r s
 gq:Int.gcd p q=1
 gs:Int.gcd r s=1
 l1:1≤len
 bl:len.natAbs < 2 ^ 110
theorem Ch.form {H:Hp}{z:Addr}{n:Str}{p q r s len:Int}(h:Ch H z n p q r s len)(g:GF n p q r s len):CfB K H (.ref z) true:=by
 obtain⟨z1,z2,e0,e1,e2⟩:=h.ex
 have d1:(decide (1≤q) && decide (Int.gcd p q=1))=true:=by have:=g.hb.q0;rw [g.gq];simp;omega
 have d2:(decide (1≤s) && decide (Int.gcd r s=1))=true:=by have:=g.hb.s0;rw [g.gs];simp;omega
 have d3:decide (1≤len)=true:=decide_eq_true g.l1
 have f0:=NmB.str (K:=K) (H:=H) n g.hl
 have f1:=FrB.nums (K:=K) e1
 have f2:=FrB.nums (K:=K) e2
 have f3:=LnB.int (H:=H) len
 rw [g.hn] at f0
 rw [d1] at f1
 rw [d2] at f2
 rw [d3] at f3
 exact .ln e0 f0 f1 f2 f3
inductive ItB (K:W.Frag)(H:Hp):V→Addr→Bool→Prop where
 | form {v:V} {rd:Addr} (h:CfB K H v false):ItB K H v rd false
 | reel {z rd:Addr} {kvs:List (Key × V)} {n:Str} {p q r s len:Int} (hc:Ch H z n p q r s len) (g:GF n p q r s len) (hk:Rd H rd (.dK kvs)) (hv:xv kvs (Sum.inr n)=none):ItB K H (.ref z) rd false
 | pics {z rd:Addr} {n:Str} {p q r s len m:Int} {b:Bool} (hc:Ch H z n p q r s len) (g:GF n p q r s len) (hr:Reel H rd n m) (hb:b=true↔InR (Vk p q r s 0) (q*s) m∧InR (Vk p q r s (len - 1)) (q*s) m):ItB K H (.ref z) rd b
inductive qA8 (K:W.Frag)(N:Addr)(vs:List V)(H:Hp)(Q:VK)(E:XK):Prop
| mk (v:V) (rd:Addr) (b:Bool) (_:vs=[v,.ref rd]) (_:ItB K H v rd b) (_:(b=true→∀ H',Same H H'→Q .non H')) (_:(b=false→∀ H',Same H H'→E (.ref N) none H'))
theorem qA0 (T:Tx K mg a):FnOk P w K mg base (qMc P w) 6 a.A15 a.B15 ["item","reels"] (qA8 K a.k_NoClip):=by
 refine qQx T.D15.F vG (fun vs H Q E h=>?_) (fun cdv A outer s H vs Q E hr h=>?_)
 · obtain⟨v,rd,b,rfl,_⟩:=h
   rfl
 refine qM fun _ Y=>?_
 obtain⟨v,rd,b,rfl,hv,kg,kb⟩:=h
 apply Y
 have hu1:=qBg hr
 refine⟨_,(qF (qh (qr (qp (qL T.D11 (wV T) hr rfl (qA (pv 0) qD)))) (qG (qAg rfl rfl T.c_NoClip T.x_NoClip (qA qI qD))) qR)
  (qF (qh (qAs (qEa hu1 (qX (pv 0)) (pv 1))) (qG (qAg rfl rfl T.c_NoClip T.x_NoClip (qA qI qD))) qR)
  (qF (qg 2 vG.nd (kq hu1 (pv 1) (qX (pv 0)) (fun _ _=>rfl)))
  (qG (qh (PW.pt (jw (qr (qp (qL T.D14 (ki T) hr rfl (qA (qL T.D13 (vI T) hr rfl (qA (pv 0) (qA qE qD))) (qA (pv 2) qD))))) (jU (qr (qp (qL T.D14 (ki T) hr rfl (qA (qL T.D13 (vI T) hr rfl (qA (pv 0) (qA (qN jZ (qX (pv 0)) qE) qD))) (qA (pv 2) qD)))))))) (qG (qAg rfl rfl T.c_NoClip T.x_NoClip (qA qI qD))) qR))))),?_⟩
 try dsimp only [jc,qk]
 have one:(1:Nat)≤sizeLine:=by decide
 cases hv with
 | form h=>exact⟨_,rfl,v,false,rfl,h,fun H1 s1=>⟨false,rfl,qz ⟨one,kb rfl H1 s1⟩⟩⟩
 | @reel z rd kvs n p q r s' len hc g hk hv=>
  refine⟨_,rfl,_,true,rfl,hc.form g,fun H1 s1=>⟨true,rfl,qd ?_⟩⟩
  refine qM fun _ Y=>?_
  obtain⟨z1,z2,e0,_,_⟩:=(hc.same s1).ex
  apply Y
  have t1:SqT K H1 z [.str "clip",.str n,.ref z1,.ref z2,.int len]:=SqT.of e0
  refine⟨_,rfl,z,_,_,_,rfl,rfl,t1,qCv,_,rfl,rd,none,rfl,.inl ⟨kvs,Sum.inr n,zy s1 hk,rfl,hv.symm⟩,_,rfl,qz ?_⟩
  exact⟨one,kb rfl H1 s1⟩
 | @pics z rd n p q r s' len m b hc g hrd hb=>
  have hqs:=Int.mul_pos g.hb.q0 g.hb.s0
  have h0:∀ {H':Hp},Same H H'→∃ z1 z2,SqT K H' z [.str "clip",.str n,.ref z1,.ref z2,.int len]:=fun e=>let ⟨z1,z2,h1,_,_⟩:=(hc.same e).ex;⟨z1,z2,SqT.of h1⟩
  refine⟨_,rfl,_,true,rfl,hc.form g,fun H1 s1=>⟨true,rfl,qd ?_⟩⟩
  refine qM fun _ Y=>?_
  obtain⟨z1,z2,t1⟩:=h0 s1
  apply Y
  refine⟨_,rfl,z,_,_,_,rfl,rfl,t1,qCv,_,rfl,rd,_,rfl,(hrd.same s1).get,_,rfl,qd ?_⟩
  refine⟨_,rfl,_,rfl,z,_,_,_,rfl,rfl,t1,qCv,rd,_,rfl,(hrd.same s1).get,?_⟩
  refine⟨_,rfl,_,n,p,q,r,s',len,0,rfl,(hc.same s1).cp,g.hb.q0,g.hb.s0,g.hb.bp,g.hb.bq,g.hb.br,g.hb.bs,vV (n:=30) (by decide),fun H2 s2=>?_⟩
  have s2:=s1.trans s2
  refine⟨_,rfl,_,m,rfl,_,rfl,?_⟩
  have no:∀ k:Int,¬ InR (Vk p q r s' k) (q*s') m→thB ((p*s'+k*r*q).fdiv (q*s')) m=false:=fun k i0=>by
   rw [Bool.eq_false_iff]
   intro z
   exact i0 ((qFg hqs).mp z)
  by_cases i0:InR (Vk p q r s' 0) (q*s') m
  rotate_left
  · rw [no 0 i0]
    have bf:b=false:=by rw [Bool.eq_false_iff];intro z;exact i0 (hb.mp z).1
    exact qz (qz ⟨one,kb bf H2 s2⟩)
  have e:thB ((p*s'+0*r*q).fdiv (q*s')) m=true:=(qFg hqs).mpr i0
  rw [e]
  refine qd ?_
  refine qM fun _ Y=>?_
  obtain⟨z1,z2,t2⟩:=h0 s2
  apply Y
  have bl1:(len - 1).natAbs < 2 ^ 700:=by
   have e:(2:Nat) ^ 110≤2 ^ 700:=Nat.pow_le_pow_right (by decide) (by decide)
   have:=g.bl
   have:=g.l1
   omega
  refine⟨_,rfl,_,rfl,z,_,_,_,rfl,rfl,t2,qF1,_,_,rfl,rfl,_,n,p,q,r,s',len,len - 1,rfl,(hc.same s2).cp,g.hb.q0,g.hb.s0,g.hb.bp,g.hb.bq,g.hb.br,g.hb.bs,bl1,fun H3 s3=>?_⟩
  have s3:=s2.trans s3
  refine⟨_,rfl,_,m,rfl,_,rfl,?_⟩
  by_cases i1:InR (Vk p q r s' (len - 1)) (q*s') m
  · have e:thB ((p*s'+(len - 1)*r*q).fdiv (q*s')) m=true:=(qFg hqs).mpr i1
    rw [e]
    exact qd (kg (hb.mpr ⟨i0,i1⟩) H3 s3)
  · rw [no _ i1]
    have bf:b=false:=by rw [Bool.eq_false_iff];intro z;exact i1 (hb.mp z).2
    exact qz ⟨one,kb bf H3 s3⟩
inductive Nu (H:Hp):V→Option Int→Prop where
 | int (i:Int):Nu H (.int i) (some i)
 | no {x:V} (h:NoW H x):Nu H x none
theorem Nu.same {H H':Hp}(s:Same H H'){x:V}{o:Option Int}:Nu H x o→Nu H' x o
 | .int i=>.int i
 | .no h=>.no (h.same s)
def lnO (o:Option Int):Bool:=match o with
 | some i=>decide (1≤i)
 | none=>false
inductive qDp (vs:List V)(H:Hp)(Q:VK)(_:XK):Prop
| mk (v:V) (o:Option Int) (_:vs=[v]) (_:Nu H v o) (_:Q (.bl (lnO o)) H)
theorem wC (T:Tx K mg a):FnOk P w K mg base CX0 2 a.A19 a.B19 ["thing"] qDp:=by
 refine T.D19.F.ok qDy (fun vs H Q E h=>?_) (fun cdv A outer s H vs Q E hr h=>?_)
 · obtain⟨v,o,rfl,_⟩:=h
   rfl
 refine qM fun _ Y=>?_
 obtain⟨v,o,rfl,hv,q⟩:=h
 apply Y
 refine⟨_,(qG (qU (xU (qL T.D0 (jK T) hr rfl (qA (pv 0) qD)) (zQ (ja qCz (pv 0) qE (qW _)))))),?_⟩
 try dsimp only [jc,qk]
 cases hv with
 | no h=>exact⟨_,rfl,v,false,rfl,.no h,false,rfl,qd q⟩
 | int i=>exact⟨_,rfl,_,true,rfl,.int i,true,rfl,qz ⟨_,rfl,_,_,rfl,rfl,q⟩⟩
inductive NsB (K:W.Frag)(H:Hp):V→Bool→Prop where
 | no {x:V} {t:Value} (ty:qAz K H x t) (e:W.kitOne K t (.type "tuple")=some false):NsB K H x false
 | len {z:Addr} {xs:List V} (e:H z=some (.tup xs)) (h:xs.length≠4):NsB K H (.ref z) false
 | word {z:Addr} {w:Str} {x1 x2 x3:V} (e:H z=some (.tup [.str w,x1,x2,x3])) (hn:w≠"nest"):NsB K H (.ref z) false
 | nums {z:Addr} {n:Str} {b l:Int} {c:Bool} (e:H z=some (.tup [.str "nest",.str n,.int b,.int l])) (hn:jm n=true) (hl:n.length≤1000) (hc:c=(decide (0≤b) && decide (1≤l))):NsB K H (.ref z) c
inductive wL (K:W.Frag)(vs:List V)(H:Hp)(Q:VK)(_:XK):Prop
| mk (v:V) (b:Bool) (_:vs=[v]) (_:NsB K H v b) (_:∀ H',Same H H'→Q (.bl b) H')
theorem wO (T:Tx K mg a):FnOk P w K mg base CX0 3 a.A20 a.B20 ["item"] (wL K):=by
 refine T.D20.F.ok wU (fun vs H Q E h=>?_) (fun cdv A outer s H vs Q E hr h=>?_)
 · obtain⟨v,b,rfl,_⟩:=h
   rfl
 refine qM fun _ Y=>?_
 obtain⟨v,b,rfl,hv,kk⟩:=h
 apply Y
 refine⟨_,(qF (qh (PW.pt (jw (qr (qp (qV qj rfl T.b_isinstance rfl (qA (pv 0) (qA (zv rfl T.b_tuple rfl) qD))))) (jU (qQ kN (qV ql rfl T.b_len rfl (qA (pv 0) qD)) qE (qW _))))) (qG (qU xq)) qR)
  (qF (qh (PW.pt (jw (qQ kN (qX (pv 0)) qI (qW _)) (jU (qr (qp (qL T.D10 (xT T) hr rfl (qA (qX (pv 0)) qD))))))) (qG (qU xq)) qR)
  (qG (qU (xU (qL T.D0 (jK T) hr rfl (qA (qX (pv 0)) qD)) (xU (ja qCz (qX (pv 0)) qE (qW _)) (zQ (qL T.D19 (wC T) hr rfl (qA (qX (pv 0)) qD))))))))),?_⟩
 try dsimp only [jc,qk]
 cases hv with
 | no ty e=>exact⟨_,rfl,_,_,_,false,rfl,ty,⟨_,.inl ⟨rfl,e⟩⟩,false,rfl,qz (qz (kk H (Same.refl _)))⟩
 | @len z xs e h=>
  refine⟨_,rfl,_,_,_,true,rfl,.tup e,⟨_,.inl ⟨rfl,by kernel_rfl⟩⟩,true,rfl,qd ?_⟩
  refine⟨_,rfl,_,_,rfl,.inr (SqT.of e),rfl,_,rfl,?_⟩
  have d:(!decide (V.int (xs.length:Int)=V.int 4))=true:=by
   have:¬ (V.int (xs.length:Int)=V.int 4):=fun z=>h (by injection z with z;omega)
   simp [this]
  rw [d]
  exact qz (kk H (Same.refl _))
 | @word z w x1 x2 x3 e hn=>
  refine⟨_,rfl,_,_,_,true,rfl,.tup e,⟨_,.inl ⟨rfl,by kernel_rfl⟩⟩,true,rfl,qd ?_⟩
  refine⟨_,rfl,_,_,rfl,.inr (SqT.of e),rfl,_,rfl,qd ?_⟩
  have a0:atI [V.str w,x1,x2,x3] 0=some (.str w):=rfl
  refine(ixO e a0 ⟨rfl,_,rfl,?_⟩)
  have d:(!decide (V.str w=V.str "nest"))=true:=by
   rw [qOb,decide_eq_false hn];rfl
  rw [d]
  exact qz (qz (kk H (Same.refl _)))
 | @nums z n b l c e h1 h2 hc=>
  subst hc
  have a0:atI [V.str "nest",.str n,.int b,.int l] 0=some (.str "nest"):=rfl
  have a1:atI [V.str "nest",.str n,.int b,.int l] 1=some (.str n):=rfl
  have a2:atI [V.str "nest",.str n,.int b,.int l] 2=some (.int b):=rfl
  have a3:atI [V.str "nest",.str n,.int b,.int l] 3=some (.int l):=rfl
  have fn:=NmB.str (K:=K) (H:=H) n h2
  rw [h1] at fn
  refine⟨_,rfl,_,_,_,true,rfl,.tup e,⟨_,.inl ⟨rfl,by kernel_rfl⟩⟩,true,rfl,qd ?_⟩
  refine⟨_,rfl,_,_,rfl,.inr (SqT.of e),rfl,_,rfl,qd ?_⟩
  refine(ixO e a0 ⟨rfl,_,rfl,qIh rfl ?_⟩)
  refine(ixO e a1 ⟨_,true,rfl,fn,fun H1 s1=>⟨true,rfl,qd ?_⟩⟩)
  have e1:=SqT.of (K:=K) (s1 _ _ e)
  refine⟨_,rfl,_,_,_,_,rfl,rfl,e1,a2,_,true,rfl,.int b,true,rfl,qz ?_⟩
  have k1:=kk H1 s1
  refine⟨_,rfl,_,_,_,_,rfl,rfl,e1,a2,_,_,rfl,rfl,_,rfl,?_⟩
  by_cases hb:0≤b
  · rw [decide_eq_true hb,Bool.true_and] at k1
    rw [decide_eq_true hb]
    exact qz ⟨_,rfl,_,_,_,_,rfl,rfl,e1,a3,_,some l,rfl,.int l,k1⟩
  · rw [decide_eq_false hb,Bool.false_and] at k1
    rw [decide_eq_false hb]
    exact qd k1
theorem NmB.same {H H':Hp}{v:V}{b:Bool}(s:Same H H')(h:NmB K H v b):NmB K H' v b:=by
 cases h with
 | str z h=>exact .str z h
 | no ty e=>exact .no (qFd s ty) e
theorem LnB.same {H H':Hp}{v:V}{b:Bool}(s:Same H H')(h:LnB H v b):LnB H' v b:=by
 cases h with
 | int i=>exact .int i
 | no h=>exact .no (h.same s)
inductive GmB (K:W.Frag)(H:Hp):V→Bool→Prop where
 | no {x:V} {t:Value} (ty:qAz K H x t) (e:W.kitOne K t (.type "tuple")=some false):GmB K H x false
 | len {z:Addr} {xs:List V} (e:H z=some (.tup xs)) (h:xs.length≠2):GmB K H (.ref z) false
 | two {z:Addr} {w:Str} {l:Int} (e:H z=some (.tup [.str w,.int l])) (hw:w="gap"∨w="mix"):GmB K H (.ref z) (decide (1≤l))
inductive zV (K:W.Frag)(vs:List V)(H:Hp)(Q:VK)(_:XK):Prop
| mk (v:V) (b:Bool) (_:vs=[v]) (_:GmB K H v b) (_:∀ H',Same H H'→Q (.bl b) H')
theorem zX (T:Tx K mg a):FnOk P w K mg base CX0 3 a.A21 a.B21 ["item"] (zV K):=by
 refine T.D21.F.ok zU (fun vs H Q E h=>?_) (fun cdv A outer s H vs Q E hr h=>?_)
 · obtain⟨v,b,rfl,_⟩:=h
   rfl
 refine qM fun _ Y=>?_
 obtain⟨v,b,rfl,hv,kk⟩:=h
 apply Y
 refine⟨_,(qF (qh (PW.pt (jw (qr (qp (qV qj rfl T.b_isinstance rfl (qA (pv 0) (qA (zv rfl T.b_tuple rfl) qD))))) (jU (qQ kN (qV ql rfl T.b_len rfl (qA (pv 0) qD)) qE (qW _))))) (qG (qU xq)) qR)
  (qG (qU (xU (ja qI3 (qX (pv 0)) (qK (qA qI (qA qI qD))) rfl) (zQ (qL T.D19 (wC T) hr rfl (qA (qX (pv 0)) qD))))))),?_⟩
 try dsimp only [jc,qk]
 cases hv with
 | no ty e=>exact⟨_,rfl,_,_,_,false,rfl,ty,⟨_,.inl ⟨rfl,e⟩⟩,false,rfl,qz (qz (kk H (Same.refl _)))⟩
 | @len z xs e h=>
  refine⟨_,rfl,_,_,_,true,rfl,.tup e,⟨_,.inl ⟨rfl,by kernel_rfl⟩⟩,true,rfl,qd ?_⟩
  refine⟨_,rfl,_,_,rfl,.inr (SqT.of e),rfl,_,rfl,?_⟩
  have d:(!decide (V.int (xs.length:Int)=V.int 2))=true:=by
   have:¬ (V.int (xs.length:Int)=V.int 2):=fun z=>h (by injection z with z;omega)
   simp [this]
  rw [d]
  exact qz (kk H (Same.refl _))
 | @two z w l hz hw=>
  refine⟨_,rfl,_,_,_,true,rfl,.tup hz,⟨_,.inl ⟨rfl,by kernel_rfl⟩⟩,true,rfl,qd ?_⟩
  refine⟨_,rfl,_,_,rfl,.inr (SqT.of hz),rfl,_,rfl,qd ?_⟩
  have a0':atI [V.str w,.int l] 0=some (.str w):=rfl
  refine⟨_,rfl,_,_,_,_,rfl,rfl,SqT.of hz,a0',sL2,fun t ht=>?_⟩
  have w1:=qC ht (.tup [.str "gap",.str "mix"])
  have hin:inV (.str w) [.str "gap",.str "mix"]=true:=by rcases hw with rfl | rfl <;> decide+kernel
  refine⟨t,_,rfl,.inr (SqT.of qB),rfl,rfl,true,congrArg V.bl hin,qz ?_⟩
  refine(ixO (w1 _ _ hz) at1 ⟨_,some l,rfl,.int l,?_⟩)
  exact kk _ w1
inductive zS (K:W.Frag)(N:Addr)(vs:List V)(H:Hp)(Q:VK)(E:XK):Prop
| mk (v:V) (rd:Addr) (b:Bool) (_:vs=[v,.ref rd]) (_:ItB K H v rd b) (_:(b=true→∀ H',Same H H'→Q .non H')) (_:(b=false→∀ H',Same H H'→E (.ref N) none H'))
theorem zW (T:Tx K mg a):FnOk P w K mg base (CXR P w) 7 a.A39 a.B39 ["item","reels"] (zS K a.k_NoRoom):=by
 refine okX T.D39.F z7 (fun vs H Q E h=>?_) (fun cdv A outer s H vs Q E hr h=>?_)
 · obtain⟨v,rd,b,rfl,_⟩:=h
   rfl
 refine qM fun _ Y=>?_
 obtain⟨v,rd,b,rfl,hI,kg,kb⟩:=h
 apply Y
 refine⟨_,(qG (qMa (fun C _ H'=>C= .ref a.k_NoClip∧Same H H'∧b=false) rfl T.c_NoClip (fun _=>(qG (qf (qKe T.D15 (qA0 T) hr rfl (qA (pv 0) (qA (pv 1) qD)))))) rfl T.c_NoRoom T.x_NoRoom)),?_⟩
 try dsimp only [jc,qk]
 refine⟨⟨_,rfl,_,rfl,v,rd,b,rfl,hI,kg,fun hb H' e=>⟨rfl,e,hb⟩⟩,?_⟩
 rintro ⟨C,d⟩ H' ⟨rfl,e,hb⟩
 exact⟨T.yCC,kb hb H' e⟩
theorem CfB.same {H H':Hp}{v:V}{b:Bool}(s:Same H H')(h:CfB K H v b):CfB K H' v b:=by
 cases h with
 | no ty e=>exact .no (qFd s ty) e
 | len e h=>exact .len (s _ _ e) h
 | word e hs hn=>exact .word (s _ _ e) hs hn
 | nm e h=>exact .nm (s _ _ e) (h.same s)
 | st e h1 h2=>exact .st (s _ _ e) (h1.same s) (h2.same s)
 | sp e h1 h2 h3=>exact .sp (s _ _ e) (h1.same s) (h2.same s) (h3.same s)
 | ln e h1 h2 h3 h4=>exact .ln (s _ _ e) (h1.same s) (h2.same s) (h3.same s) (h4.same s)
theorem ItB.same {H H':Hp}{v:V}{rd:Addr}{b:Bool}(s:Same H H')(h:ItB K H v rd b):ItB K H' v rd b:=by
 cases h with
 | form h=>exact .form (h.same s)
 | reel hc g hk hv=>exact .reel (hc.same s) g (zy s hk) hv
 | pics hc g hr hb=>exact .pics (hc.same s) g (hr.same s) hb
inductive IcB (K:W.Frag)(H:Hp)(re td:Addr):V→Bool→Prop where
 | clip {z:Addr} {xs:List V} {b:Bool} (e:H z=some (.tup (.str "clip"::xs))) (h:ItB K H (.ref z) re b):IcB K H re td (.ref z) b
 | nest {z:Addr} {n:Str} {b l:Int} {kvs:List (Key × V)} {c:Bool} (e:H z=some (.tup [.str "nest",.str n,.int b,.int l])) (hn:jm n=true) (hl:n.length≤1000) (hk:Rd H td (.dK kvs)) (hc:c=(decide (0≤b) && decide (1≤l) && (xv kvs (Sum.inr n)).isSome)):IcB K H re td (.ref z) c
 | two {z:Addr} {w:Str} {l:Int} (e:H z=some (.tup [.str w,.int l])) (hw:w="gap"∨w="mix"):IcB K H re td (.ref z) (decide (1≤l))
 | lst {z:Addr} {xs:List V} (e:H z=some (.lst xs)):IcB K H re td (.ref z) false
inductive qA4 (K:W.Frag)(N:Addr)(vs:List V)(H:Hp)(Q:VK)(E:XK):Prop
| mk (v:V) (rz re td:Addr) (b:Bool) (_:vs=[v,.ref rz]) (_:H rz=some (.tup [.ref re,.ref td])) (_:IcB K H re td v b) (_:(b=true→∀ H',Same H H'→Q .non H')) (_:(b=false→∀ H',Same H H'→E (.ref N) none H'))
theorem qAv (T:Tx K mg a):FnOk P w K mg base (CXR P w) 8 a.A40 a.B40 ["item","room"] (qA4 K a.k_NoRoom):=by
 refine okX T.D40.F qB0 (fun vs H Q E h=>?_) (fun cdv A outer s H vs Q E hr h=>?_)
 · obtain⟨v,rz,re,td,b,rfl,_⟩:=h
   rfl
 refine qM fun _ Y=>?_
 obtain⟨v,rz,re,td,b,rfl,hz0,hI,kg,kb⟩:=h
 apply Y
 have hu1:=qBg hr
 have one:(1:Nat)≤sizeLine:=by decide
 refine⟨_,(qG (qh (PW.pt (qDv (qp (qV qj rfl T.b_isinstance rfl (qA (pv 0) (qA (zv rfl T.b_tuple rfl) qD)))) (qDv (qQ qHn (qV ql rfl T.b_len rfl (qA (pv 0) qD)) qE (qW _)) (qCk (qQ xA (qX (pv 0)) qI (qW _)))))) (qG (qf (kn T.D39 (zW T) hr rfl (qA (pv 0) (qA (qX (pv 1)) qD))))) (qG (qh (qp (qL T.D20 (wO T) hr rfl (qA (pv 0) qD))) (qG (qh (qAs (qEa hu1 (qX (pv 0)) (qX (pv 1)))) (qG (jS rfl rfl T.c_NoRoom T.x_NoRoom (qA qI qD))) qR)) (qG (qh (qr (qp (qL T.D21 (zX T) hr rfl (qA (pv 0) qD)))) (qG (jS rfl rfl T.c_NoRoom T.x_NoRoom (qA qI qD))) qR)))))),?_⟩
 try dsimp only [jc,qk]
 cases hI with
 | @clip z xs b hz h=>
  have a0':atI (V.str "clip"::xs) ((0:Nat):Int)=some (.str "clip"):=xX rfl
  refine⟨_,rfl,_,_,_,true,rfl,.tup hz,⟨_,.inl ⟨rfl,by kernel_rfl⟩⟩,true,rfl,qz ?_⟩
  refine⟨_,rfl,z,_,rfl,.inr (SqT.of hz),_,_,rfl,rfl,true,congrArg V.bl (decide_eq_true (by rw [List.length_cons];omega)),qz ?_⟩
  refine⟨_,rfl,z,_,_,_,rfl,rfl,SqT.of hz,a0',rfl,_,rfl,qNy (by decide+kernel) ?_⟩
  exact⟨_,rfl,ixO hz0 at0 ⟨_,re,b,rfl,h,kg,kb⟩⟩
 | @nest z n b0 l kvs c hz hn hl hk hc=>
  have a0':atI [V.str "nest",.str n,.int b0,.int l] 0=some (.str "nest"):=rfl
  have a1':atI [V.str "nest",.str n,.int b0,.int l] 1=some (.str n):=rfl
  refine⟨_,rfl,_,_,_,true,rfl,.tup hz,⟨_,.inl ⟨rfl,by kernel_rfl⟩⟩,true,rfl,qz ?_⟩
  refine⟨_,rfl,z,_,rfl,.inr (SqT.of hz),_,_,rfl,rfl,_,rfl,qz ?_⟩
  refine⟨_,rfl,z,_,_,_,rfl,rfl,SqT.of hz,a0',rfl,_,rfl,qCl (by decide+kernel) ?_⟩
  refine⟨_,rfl,_,_,rfl,.nums hz hn hl rfl,fun H1 e1=>?_⟩
  by_cases hbl:(decide (0≤b0) && decide (1≤l))=true
  · rw [hbl] at hc ⊢
    rw [Bool.true_and] at hc
    refine⟨true,rfl,qz ?_⟩
    refine⟨_,rfl,z,_,_,_,rfl,rfl,SqT.of (e1 _ _ hz),a1',ixO (e1 _ _ hz0) at1 ⟨td,_,rfl,.inl ⟨kvs,Sum.inr n,zy e1 hk,rfl,rfl⟩,_,rfl,?_⟩⟩
    cases hv:xv kvs (Sum.inr n) with
    | none=>
     rw [hv] at hc
     exact qz ⟨one,kb hc H1 e1⟩
    | some x=>
     rw [hv] at hc
     exact qd (kg hc H1 e1)
  · have hbf:(decide (0≤b0) && decide (1≤l))=false:=by simpa using hbl
    rw [hbf] at hc ⊢
    rw [Bool.false_and] at hc
    refine⟨false,rfl,qd ?_⟩
    refine⟨_,rfl,_,false,rfl,.len (e1 _ _ hz) (by show (4:Nat)≠2;decide),fun H2 e2=>⟨false,rfl,qz ?_⟩⟩
    exact⟨one,kb hc H2 (e1.trans e2)⟩
 | @two z w l hz hw=>
  have a0':atI [V.str w,.int l] 0=some (.str w):=rfl
  have hne:decide (V.str w=V.str "clip")=false:=by rw [qOb];rcases hw with rfl | rfl <;> decide+kernel
  refine⟨_,rfl,_,_,_,true,rfl,.tup hz,⟨_,.inl ⟨rfl,by kernel_rfl⟩⟩,true,rfl,qz ?_⟩
  refine⟨_,rfl,z,_,rfl,.inr (SqT.of hz),_,_,rfl,rfl,_,rfl,qz ?_⟩
  refine⟨_,rfl,z,_,_,_,rfl,rfl,SqT.of hz,a0',rfl,_,rfl,qCl hne ?_⟩
  refine⟨_,rfl,_,false,rfl,.len hz (by show (2:Nat)≠4;decide),fun H1 e1=>⟨false,rfl,qd ?_⟩⟩
  refine⟨_,rfl,_,_,rfl,.two (e1 _ _ hz) hw,fun H2 e2=>⟨_,rfl,?_⟩⟩
  cases hd:decide (1≤l) with
  | true=>exact qd (kg hd H2 (e1.trans e2))
  | false=>exact qz ⟨one,kb hd H2 (e1.trans e2)⟩
 | @lst z xs hz=>
  refine⟨_,rfl,_,_,_,false,rfl,.lst hz,⟨_,.inl ⟨rfl,by kernel_rfl⟩⟩,false,rfl,qd (qd ?_)⟩
  refine⟨_,rfl,_,false,rfl,.no (.lst hz) (by kernel_rfl),fun H1 e1=>⟨false,rfl,qd ?_⟩⟩
  refine⟨_,rfl,_,false,rfl,.no (.lst (e1 _ _ hz)) (by kernel_rfl),fun H2 e2=>⟨false,rfl,qz ?_⟩⟩
  exact⟨one,kb rfl H2 (e1.trans e2)⟩
inductive qC2 (vs:List V)(H:Hp)(Q:VK)(_:XK):Prop
| mk (l:Int) (_:vs=[.int l]) (_:Q (.int (l.fdiv 2)) H)
theorem vS (T:Tx K mg a):FnOk P w K mg base CX0 1 a.A30 a.B30 ["length"] qC2:=by
 refine T.D30.F.ok qCw (fun vs H Q E h=>?_) (fun cdv A outer s H vs Q E hr h=>?_)
 · obtain⟨l,rfl,_⟩:=h
   rfl
 refine qM fun _ Y=>?_
 obtain⟨l,rfl,kk⟩:=h
 apply Y
 refine⟨_,(qG (qU (qN qY (pv 0) qE))),?_⟩
 try dsimp only [jc,qk]
 exact⟨_,rfl,_,_,rfl,rfl,cdB (by decide) (by decide),kk⟩
inductive qA2 (vs:List V)(H:Hp)(Q:VK)(_:XK):Prop
| mk (l:Int) (_:vs=[.int l]) (_:Q (.int (l - l.fdiv 2)) H)
theorem kW (T:Tx K mg a):FnOk P w K mg base CX0 1 a.A31 a.B31 ["length"] qA2:=by
 refine T.D31.F.ok qBb (fun vs H Q E h=>?_) (fun cdv A outer s H vs Q E hr h=>?_)
 · obtain⟨l,rfl,_⟩:=h
   rfl
 refine qM fun _ Y=>?_
 obtain⟨l,rfl,kk⟩:=h
 apply Y
 refine⟨_,(qG (qU (qN jZ (pv 0) (qN qY (pv 0) qE)))),?_⟩
 try dsimp only [jc,qk]
 exact⟨_,rfl,_,rfl,_,_,rfl,rfl,cdB (by decide) (by decide),_,_,rfl,rfl,kk⟩
def xZ:Int→List Im→List (Int × Int × Int)
 | _,[]=>[]
 | b,.mix l::ms=>(b - l.fdiv 2,b,b+(l - l.fdiv 2))::xZ b ms
 | b,.clip _ _ _ _ _ l::ms=>xZ (b+l) ms
 | b,.nest _ _ l::ms=>xZ (b+l) ms
 | b,.gap l::ms=>xZ (b+l) ms
theorem zA {m:Im}(h:m.wd≠"mix")(b:Int)(ms:List Im):xZ b (m::ms)=xZ (b+m.mo) ms:=by
 cases m with
 | mix l=>exact absurd rfl h
 | _=>rfl
theorem wu:∀ (b:Int) (ms:List Im),(xZ b ms).length≤ms.length
 | _,[]=>by simp [xZ]
 | b,m::ms=>by
  by_cases h:m.wd="mix"
  · obtain⟨l,rfl⟩:=qAu h
    have:=wu b ms
    rw [xZ,List.length_cons,List.length_cons];omega
  · have:=wu (b+m.mo) ms
    rw [zA h,List.length_cons];omega
def qt:Nat→List Im→List Nat
 | _,[]=>[]
 | i,.mix _::ms=>i::qt (i+1) ms
 | i,.clip _ _ _ _ _ _::ms=>qt (i+1) ms
 | i,.nest _ _ _::ms=>qt (i+1) ms
 | i,.gap _::ms=>qt (i+1) ms
theorem j7 {m:Im}(h:m.wd≠"mix")(i:Nat)(ms:List Im):qt i (m::ms)=qt (i+1) ms:=by
 cases m with
 | mix l=>exact absurd rfl h
 | _=>rfl
def qOz:List Nat→List (Int × Int × Int)→Int→Option (Nat × Int)
 | p::ps,(x,_,z)::ss,t=>if x≤t∧t < z then some (p,t - x) else qOz ps ss t
 | _,_,_=>none
def SpAt (H:Hp):List (Int × Int × Int)→List V→Prop
 | [],[]=>True
 | (x,y,z)::ss,v::vs=>(∃ p:Addr,v= .ref p∧H p=some (.tup [.int x,.int y,.int z]))∧SpAt H ss vs
 | _,_=>False
theorem SpAt.len {H:Hp}:∀ {ss:List (Int × Int × Int)} {vs:List V},SpAt H ss vs→vs.length=ss.length
 | [],[],_=>rfl
 | (_,_,_)::_,_::_,h=>by rw [List.length_cons,List.length_cons,SpAt.len h.2]
 | [],_::_,h=>h.elim
 | (_,_,_)::_,[],h=>h.elim
theorem SpAt.ts {H H':Hp}(e:TS H H'):∀ {ss:List (Int × Int × Int)} {vs:List V},SpAt H ss vs→SpAt H' ss vs
 | [],[],_=>trivial
 | (_,_,_)::_,_::_,⟨⟨p,h1,h2⟩,h⟩=>⟨⟨p,h1,e _ _ h2⟩,SpAt.ts e h⟩
 | [],_::_,h=>h.elim
 | (_,_,_)::_,[],h=>h.elim
theorem SpAt.app {H:Hp}:∀ {ss:List (Int × Int × Int)} {vs:List V} {ss':List (Int × Int × Int)} {vs':List V},SpAt H ss vs→SpAt H ss' vs'→SpAt H (ss++ss') (vs++vs')
 | [],[],_,_,_,h'=>h'
 | (_,_,_)::_,_::_,_,_,h,h'=>⟨h.1,h.2.app h'⟩
 | [],_::_,_,_,h,_=>h.elim
 | (_,_,_)::_,[],_,_,h,_=>h.elim
theorem SpAt.one {H:Hp}{x y z:Int}{p:Addr}(h:H p=some (.tup [.int x,.int y,.int z])):SpAt H [(x,y,z)] [.ref p]:=⟨⟨p,rfl,h⟩,trivial⟩
theorem SpAt.get {H:Hp}:∀ {ss:List (Int × Int × Int)} {vs:List V} {i:Nat} {v:V},SpAt H ss vs→vs[i]? =some v→∃ (x y z:Int) (p:Addr),ss[i]? =some (x,y,z)∧v= .ref p∧H p=some (.tup [.int x,.int y,.int z])
 | [],[],_,_,_,h=>by simp at h
 | (x,y,z)::_,u::_,0,v,h,e=>by
  have e':u=v:=by simpa using e
  subst e'
  obtain⟨⟨p,h1,h2⟩,_⟩:=h
  exact⟨x,y,z,p,rfl,h1,h2⟩
 | (_,_,_)::ss,_::vs,i+1,v,h,e=>by
  obtain⟨x,y,z,p,h1,h2⟩:=SpAt.get (i:=i) h.2 (by simpa using e)
  exact⟨x,y,z,p,by simpa using h1,h2⟩
 | [],_::_,_,_,h,_=>h.elim
 | (_,_,_)::_,[],_,_,h,_=>h.elim
inductive qC6 (vs:List V)(H:Hp)(Q:VK)(_:XK):Prop
| mk (z:Addr) (ms:List Im) (_:vs=[.ref z]) (_:Tr H z ms) (_:ms.length≤300) (_:∀ (y:Addr) (us:List V) (H':Hp),Same H H'→H y=none→H' y=some (.lst us)→SpAt H' (xZ 0 ms) us→Q (.ref y) H')
theorem qEd (T:Tx K mg a):FnOk P w K mg base CX0 2 a.A32 a.B32 ["track"] qC6:=by
 refine T.D32.F.ok j8 (fun vs H Q E h=>?_) (fun cdv A outer s H vs Q E hr h=>?_)
 · obtain⟨z,ms,rfl,_⟩:=h
   rfl
 refine qM fun _ Y=>?_
 obtain⟨z,ms,rfl,⟨xs,hz,his⟩,hl,kk⟩:=h
 apply Y
 refine⟨_,(qF (qg 1 j8.nd (qO qD))
  (qF (qg 2 j8.nd qE)
  (qF (jk PassesOwn.never rfl (jp (pv 0)) (qq (i:=3) j8.nd rfl (Or.inl rfl)) (qF (qh (qQ xA (qX (pv 3)) qI (qW _)) (qG (qf (j6 F.plainAttrs_list F.slot_list_append F.type_list_append qc (pv 1) (qA (qK (qA (qN jZ (pv 2) (qL T.D30 (vS T) hr rfl (qA (qX (pv 3)) qD))) (qA (pv 2) (qA (qN jE (pv 2) (qL T.D31 (kW T) hr rfl (qA (qX (pv 3)) qD))) qD)))) qD)))) qR)
  (qG (qg 2 j8.nd (qN jE (pv 2) (qL T.D22 (vZ T) hr rfl (qA (pv 3) qD)))))))
  (qG (qU (pv 1)))))),?_⟩
 try dsimp only [jc,qk]
 refine⟨sL0,fun y hy=>?_⟩
 refine⟨_,rfl,z,rfl,⟨_,SqL.of ((qC hy _) _ _ hz)⟩,j0 (K:=K) (a:=z) (xs:=xs) (fun i σ H'=>∃ (b:Int) (as:List (Int × Int × Int)) (o:Option V) (us:List V),σ=[some (.ref z),some (.ref y),some (.int b),o]∧H' y=some (.lst us)∧SpAt H' as us∧as.length≤i∧as++xZ b (ms.drop i)=xZ 0 ms∧Same H H')
  ⟨0,[],none,[],rfl,qB,trivial,by simp,rfl,qC hy _⟩ ?_ ?_ ?_⟩
 · rintro i σ H' hi ⟨b,as,o,us,rfl,_,_,_,_,e⟩
   exact SqL.of (e _ _ hz)
 · rintro i x σ H' hx ⟨b,as,o,us,rfl,hv,hsp,hal,hap,e⟩
   refine qM fun _ Y=>?_
   obtain⟨m,hm,hIx⟩:=his.get hx
   have hI:=hIx.ts (qi e)
   have hi:i < ms.length:=(glt hm)
   rw [xr hm] at hap
   obtain⟨zi,xi,rfl,hzi,h0,h1⟩:=hI.opn
   apply Y
   refine⟨_,rfl,zi,xi,_,_,rfl,rfl,SqT.of hzi,h0,rfl,_,rfl,kD (fun c=>?_) (fun c=>?_)⟩
   · obtain⟨l,rfl⟩:=qAu (by simpa using c)
     refine qM fun _ Y=>?_
     obtain⟨z2,e2,hz2⟩:=id hI
     cases e2
     apply Y
     rw [xZ] at hap
     refine⟨_,rfl,.inl ⟨rfl,_,SqL.of hv⟩,_,rfl,ixO hz2 at1 ⟨_,rfl,_,_,rfl,rfl,_,rfl,_,rfl,ixO hz2 at1 ⟨_,rfl,_,_,rfl,rfl,sL3,fun g hg=>?_⟩⟩⟩
     have w1:=qC hg (.tup [.int (b - l.fdiv 2),.int b,.int (b+(l - l.fdiv 2))])
     refine⟨y,_,_,rfl,rfl,w1 _ _ hv,qS (by rw [hsp.len];omega),?_⟩
     have t2:TS (upd H' g (.tup [.int (b - l.fdiv 2),.int b,.int (b+(l - l.fdiv 2))])) (upd (upd H' g (.tup [.int (b - l.fdiv 2),.int b,.int (b+(l - l.fdiv 2))])) y (.lst (us++[.ref g]))):=xV (w1 _ _ hv)
     refine⟨_,rfl,_,rfl,_,.mix l,rfl,(hI.ts (qi w1)).ts t2,_,_,rfl,rfl,b,as++[(b - l.fdiv 2,b,b+(l - l.fdiv 2))],some (.ref zi),us++[.ref g],?_,qB,((hsp.ts (qi w1)).app (.one qB)).ts t2,by simp;omega,?_,kA (e.trans w1) hy⟩
     · show [some (V.ref z),some (V.ref y),some (V.int (b+0)),some (V.ref zi)]=_
       rw [Int.add_zero]
     · rw [← hap];simp
   · have hne:m.wd≠"mix":=by simpa using c
     rw [zA hne] at hap
     exact⟨_,rfl,_,rfl,_,m,rfl,hI,_,_,rfl,rfl,_,as,_,us,rfl,hv,hsp,by omega,hap,e⟩
 · rintro σ H' ⟨b,as,o,us,rfl,hv,hsp,hal,hap,e⟩
   rw [his.len,List.drop_length,xZ,List.append_nil] at hap
   rw [hap] at hsp
   exact⟨_,rfl,kk y us H' e hy hv hsp⟩
theorem vB:∀ (i:Nat) (ms:List Im) (m:Im),qt i (ms++[m])=qt i ms++(if m.wd="mix" then [i+ms.length] else [])
 | i,[],m=>by
  by_cases h:m.wd="mix"
  · obtain⟨l,rfl⟩:=qAu h
    rfl
  · rw [List.nil_append,j7 h,if_neg h];rfl
 | i,x::ms,m=>by
  have ih:=vB (i+1) ms m
  have e:i+1+ms.length=i+(x::ms).length:=by rw [List.length_cons];omega
  rw [e] at ih
  by_cases h:x.wd="mix"
  · obtain⟨l,rfl⟩:=qAu h
    rw [List.cons_append,qt,qt,ih];rfl
  · rw [List.cons_append,j7 h,j7 h,ih]
theorem vz:∀ {i:Nat} {ms:List Im} {p:Nat},p∈qt i ms→i≤p∧∃ l,ms[p - i]? =some (.mix l)
 | _,[],_,h=>by simp [qt] at h
 | i,m::ms,p,h=>by
  by_cases hm:m.wd="mix"
  · obtain⟨l,rfl⟩:=qAu hm
    rw [qt] at h
    rcases List.mem_cons.mp h with rfl | h
    · exact⟨Nat.le_refl _,l,by simp⟩
    · obtain⟨h1,l',h2⟩:=vz h
      have e:p - i=(p - (i+1))+1:=by omega
      exact⟨by omega,l',by rw [e,List.getElem?_cons_succ];exact h2⟩
  · rw [j7 hm] at h
    obtain⟨h1,l',h2⟩:=vz h
    have e:p - i=(p - (i+1))+1:=by omega
    exact⟨by omega,l',by rw [e,List.getElem?_cons_succ];exact h2⟩
theorem qBu:∀ {i:Nat} {ms:List Im} {p:Nat} {l:Int},ms[p]? =some (.mix l)→i+p∈qt i ms
 | _,[],_,_,h=>by simp at h
 | i,m::ms,0,l,h=>by
  have e:m= .mix l:=by simpa using h
  subst e
  rw [qt]
  exact List.mem_cons_self
 | i,m::ms,p+1,l,h=>by
  have:=qBu (i:=i+1) (ms:=ms) (p:=p) (l:=l) (by simpa using h)
  rw [show i+1+p=i+(p+1) by omega] at this
  by_cases hm:m.wd="mix"
  · obtain⟨l',rfl⟩:=qAu hm
    rw [qt]
    exact List.mem_cons_of_mem _ this
  · rw [j7 hm]
    exact this
def GapP (ms:List Im):Prop:=∀ (i:Nat) (l:Int),ms[i]? =some (.gap l)→∃ m:Im,ms[i+1]? =some m∧m.wd≠"gap"
def qNj (ms:List Im):Prop:=∀ (i:Nat) (l:Int),ms[i]? =some (.mix l)→ji ms ((i:Int) - 1)="clip"∧ji ms ((i:Int)+1)="clip"
def qC1 (ms:List Im):Prop:=GapP ms∧qNj ms
def qM6 (ms:List Im):Prop:=∀ l,Im.gap l∈ms→1≤l
theorem GapP.tail {m:Im}{ms:List Im}(h:GapP (m::ms)):GapP ms:=fun i l hi=>by
 obtain⟨m',h1,h2⟩:=h (i+1) l (by simpa using hi)
 exact⟨m',by simpa using h1,h2⟩
theorem qDk:∀ (ms:List Im),qM6 ms→GapP ms→kX 0 ms=ms
 | [],_,_=>rfl
 | m::ms,hg,h=>by
  have ht:=qDk ms (fun l hl=>hg l (List.mem_cons_of_mem _ hl)) h.tail
  by_cases hm:m.wd="gap"
  · obtain⟨l,rfl⟩:=qFx hm
    obtain⟨m',h1,h2⟩:=h 0 l rfl
    have hl:=hg l List.mem_cons_self
    cases ms with
    | nil=>simp at h1
    | cons m2 ms=>
     have e:m2=m':=by simpa using h1
     subst e
     rw [kX,Int.zero_add,jd h2,if_pos (by omega)]
     rw [jd h2,if_neg (by decide)] at ht
     rw [ht]
  · rw [jd hm,if_neg (by decide),ht]
theorem qEj:∀ (ms:List Im),qM6 ms→((kX 0 ms).length≤ms.length∧(¬ GapP ms→(kX 0 ms).length < ms.length))∧
 ∀ w:Int,0 < w→(kX w ms).length≤ms.length+1∧((ms=[]∨(∃ l,ms[0]? =some (.gap l))∨¬ GapP ms)→(kX w ms).length≤ms.length)
 | [],_=>⟨⟨by simp [kX],fun h=>absurd (fun i l h=>by simp at h) h⟩,fun w hw=>⟨by simp [kX],fun _=>by simp [kX]⟩⟩
 | m::ms,hg=>by
  obtain⟨⟨a1,a2⟩,b⟩:=qEj ms (fun l hl=>hg l (List.mem_cons_of_mem _ hl))
  by_cases hm:m.wd="gap"
  · obtain⟨l,rfl⟩:=qFx hm
    have hl:=hg l List.mem_cons_self
    refine⟨⟨?_,fun h=>?_⟩,fun w hw=>⟨?_,fun _=>?_⟩⟩
    · rw [kX,Int.zero_add,List.length_cons];exact(b l (by omega)).1
    · rw [kX,Int.zero_add,List.length_cons]
      have:=(b l (by omega)).2 ?_
      · omega
      · by_cases e:ms=[]
        · exact .inl e
        by_cases e2:∃ l',ms[0]? =some (.gap l')
        · exact .inr (.inl e2)
        refine .inr (.inr fun hp=>h fun i l' hi=>?_)
        cases i with
        | zero=>
         cases ms with
         | nil=>exact absurd rfl e
         | cons m2 ms=>
          refine⟨m2,rfl,fun z=>?_⟩
          obtain⟨l2,rfl⟩:=qFx z
          exact e2 ⟨l2,rfl⟩
        | succ i=>
         obtain⟨m',h1,h3⟩:=hp i l' (by simpa using hi)
         exact⟨m',by simpa using h1,h3⟩
    · rw [kX,List.length_cons];have:=(b (w+l) (by omega)).1;omega
    · rw [kX,List.length_cons];exact(b (w+l) (by omega)).1
  · have ng:¬ GapP (m::ms)→¬ GapP ms:=fun h hp=>h fun i l' hi=>by
     cases i with
     | zero=>
      have:m= .gap l':=by simpa using hi
      rw [this] at hm
      exact absurd rfl hm
     | succ i=>
      obtain⟨m',h1,h3⟩:=hp i l' (by simpa using hi)
      exact⟨m',by simpa using h1,h3⟩
    refine⟨⟨?_,fun h=>?_⟩,fun w hw=>⟨?_,fun h=>?_⟩⟩
    · rw [jd hm,if_neg (by decide),List.length_cons,List.length_cons];omega
    · rw [jd hm,if_neg (by decide),List.length_cons,List.length_cons]
      have:=a2 (ng h);omega
    · rw [jd hm,if_pos hw,List.length_cons,List.length_cons,List.length_cons];omega
    · rw [jd hm,if_pos hw,List.length_cons,List.length_cons,List.length_cons]
      rcases h with h | ⟨l',h⟩ | h
      · cases h
      · have:m= .gap l':=by simpa using h
        rw [this] at hm
        exact absurd rfl hm
      · have:=a2 (ng h);omega
theorem qLe {ms ns:List Im}(h:ms.length≠ns.length):zp (ms.map Im.d) (ns.map Im.d)=false:=by
 rw [Bool.eq_false_iff]
 intro z
 have:=vK z
 rw [List.length_map,List.length_map] at this
 exact h this
def qJg (ms:List Im)(n:Nat):Bool:=decide (ji ms ((n:Int) - 1)="clip") && decide (ji ms ((n:Int)+1)="clip")
theorem mixB_all {ms:List Im}:((qt 0 ms).map (qJg ms)).all id=true↔qNj ms:=by
 rw [List.all_map,List.all_eq_true]
 constructor
 · intro h i l hi
   have:=h i (by have:=qBu (i:=0) hi;rwa [Nat.zero_add] at this)
   simpa [qJg] using this
 · intro h p hp
   obtain⟨_,l,hl⟩:=vz hp
   rw [Nat.sub_zero] at hl
   have:=h p l hl
   simpa [qJg] using this
inductive wA (vs:List V)(H:Hp)(Q:VK)(_:XK):Prop
| mk (z:Addr) (ms:List Im) (_:vs=[.ref z]) (_:Tr H z ms) (_:ms.length≤300) (_:qM6 ms) (_:∀ H',Same H H'→(qC1 ms→Q (.bl true) H')∧(¬ qC1 ms→Q (.bl false) H'))
theorem v3 (T:Tx K mg a):FnOk P w K mg base CX0 3 a.A26 a.B26 ["track"] wA:=by
 refine T.D26.F.ok xk (fun vs H Q E h=>?_) (fun cdv A outer s H vs Q E hr h=>?_)
 · obtain⟨z,ms,rfl,_⟩:=h
   rfl
 refine qM fun _ Y=>?_
 obtain⟨z,ms,rfl,tT,hml,hgp,kk⟩:=h
 apply Y
 have hu:=hr.units
 refine⟨_,(qF (qh (qQ (qK0 hu) (qL T.D23 (qE1 T) hr rfl (qA (pv 0) qD)) (pv 0) (qW _)) (qG (qU xq)) qR)
  (qF (qKm (i:=1) [] [] xk.nd rfl rfl rfl (qIo rfl T.b_enumerate (qA (pv 0) qD)) (fun _ _ _ _=>(qQ xA (jr (vp (K:=K) rfl) (pv 1) qE (fun _ _=>rfl)) qI (qW _))) (fun _ _ _ _=>(pv 0)))
  (qG (qU (qV (vM rfl) rfl T.b_all rfl (qA (vE ["track"] [0] rfl (jp (pv 1)) (fun _ _ _ _=>(xU (ja xA (qL T.D25 (jq T) hr rfl (qA (pv 1) (qA (qN jZ (pv 0) qE) qD))) qI (qW _)) (zQ (ja xA (qL T.D25 (jq T) hr rfl (qA (pv 1) (qA (qN jE (pv 0) qE) qD))) qI (qW _)))))) qD)))))),?_⟩
 try dsimp only [jc,qk]
 refine⟨_,rfl,z,ms,rfl,tT,hml,fun y H1 e1 _ tY=>?_⟩
 by_cases hG:GapP ms
 rotate_left
 · refine⟨_,rfl,⟨_,_,tY.rep,(tT.same e1).rep,rfl,by have:=qAi (kX 0 ms);unfold dep;omega,?_⟩⟩
   have e:eqD (.lst ((kX 0 ms).map Im.d)) (.lst (ms.map Im.d))=false:=by
    unfold eqD
    exact qLe (by have:=(qEj ms hgp).1.2 hG;omega)
   rw [e]
   exact⟨_,rfl,qz ((kk H1 e1).2 fun h=>hG h.1)⟩
 rw [qDk ms hgp hG] at tY
 refine⟨_,rfl,qQk tY (tT.same e1) ⟨_,rfl,qd ?_⟩⟩
 refine qM fun _ Y=>?_
 obtain⟨xs,hz,his⟩:=tT.same e1
 apply Y
 have hxl:=his.len
 refine⟨_,rfl,z,rfl,⟨_,SqL.of hz⟩,qHl (K:=K) (a:=z) (xs:=xs) (fun i acc H'=>Same H1 H'∧acc=(qt 0 (ms.take i)).map (fun(n:Nat)=>V.int (n:Int))∧acc.length≤i) ⟨Same.refl _,rfl,by simp⟩ ?_ ?_ ?_⟩
 · rintro i acc H' hi ⟨e,rfl,hal⟩
   exact⟨SqL.of (e _ _ hz),qS (by omega)⟩
 · rintro i x acc H' p hi hx ⟨e,rfl,hal⟩ hp
   refine qM fun _ Y=>?_
   obtain⟨m,hm,hIx⟩:=his.get hx
   have w1:=qC hp (.tup [.int (i:Int),x])
   have hI:=hIx.ts (qi (e.trans w1))
   obtain⟨zi,xi,rfl,hzi,h0,h1⟩:=hI.opn
   apply Y
   have htk:ms.take (i+1)=ms.take i++[m]:=by rw [List.take_add_one,hm];rfl
   have hlt:(ms.take i).length=i:=by rw [List.length_take];omega
   refine⟨_,rfl,zi,xi,_,_,rfl,rfl,SqT.of hzi,h0,rfl,_,rfl,kD (fun c=>?_) (fun c=>?_)⟩
   · have hw:m.wd="mix":=by simpa using c
     refine⟨_,rfl,Nxt.mk hi ⟨e.trans w1,?_,by simp at hal ⊢;omega⟩⟩
     rw [htk,vB,if_pos hw,hlt,List.map_append,Nat.zero_add];rfl
   · have hw:¬ m.wd="mix":=by simpa using c
     refine Nxt.mk hi ⟨e.trans w1,?_,by omega⟩
     rw [htk,vB,if_neg hw,List.append_nil]
 rintro acc H2 ⟨e2,rfl,hal⟩ pl hpl
 rw [hxl,List.take_length] at*
 have w3:=qC hpl (.lst ((qt 0 ms).map fun(n:Nat)=>V.int (n:Int)))
 have hP:(upd H2 pl (.lst ((qt 0 ms).map fun(n:Nat)=>V.int (n:Int)))) pl=some (.lst ((qt 0 ms).map fun(n:Nat)=>V.int (n:Int))):=qB
 have e3:=e2.trans w3
 generalize upd H2 pl (.lst ((qt 0 ms).map fun(n:Nat)=>V.int (n:Int)))=H3 at hP e3 ⊢
 have tr3:Tr H3 z ms:=⟨xs,e3 _ _ hz,his.ts (qi e3)⟩
 have hpln:(qt 0 ms).length≤300:=by simp at hal;omega
 refine⟨_,rfl,pl,rfl,⟨_,SqL.of hP⟩,vX (K:=K) (a:=pl) (xs:=(qt 0 ms).map fun(n:Nat)=>V.int (n:Int)) (fun i acc H'=>H'=H3∧acc=(((qt 0 ms).take i).map (qJg ms)).map V.bl) ⟨rfl,rfl⟩ ?_ ?_ ?_⟩
 · rintro i acc H' hi ⟨rfl,rfl⟩
   exact⟨SqL.of hP,qS (by simp at hi ⊢;omega)⟩
 · rintro i x acc H' hi hx ⟨rfl,rfl⟩
   refine qM fun _ Y=>?_
   obtain⟨n,hn,rfl⟩:∃ n:Nat,(qt 0 ms)[i]? =some n∧x= .int (n:Int):=by
    rw [List.getElem?_map] at hx
    cases e:(qt 0 ms)[i]? with
    | none=>rw [e] at hx;cases hx
    | some m=>rw [e] at hx;exact⟨m,rfl,(Option.some.inj hx).symm⟩
   apply Y
   have step:∀ b:Bool,b=qJg ms n→Nxt ((qt 0 ms).map fun(n:Nat)=>V.int (n:Int)).length i (H'=H'∧(((qt 0 ms).take i).map (qJg ms)).map V.bl++[V.bl b]=(((qt 0 ms).take (i+1)).map (qJg ms)).map V.bl):=fun b hb=>by
    refine Nxt.mk hi ⟨rfl,?_⟩
    rw [List.take_add_one,hn,List.map_append,List.map_append,hb]
    rfl
   refine⟨_,rfl,_,rfl,_,_,rfl,rfl,z,ms,_,rfl,tr3,rfl,?_⟩
   refine⟨_,rfl,?_⟩
   rw [qOb]
   by_cases k1:ji ms ((n:Int) - 1)="clip"
   · rw [decide_eq_true k1]
     refine qz ⟨_,rfl,_,rfl,_,_,rfl,rfl,z,ms,_,rfl,tr3,rfl,?_⟩
     rw [qOb]
     exact step _ (by unfold qJg;rw [decide_eq_true k1,Bool.true_and])
   · rw [decide_eq_false k1]
     exact qd (step _ (by unfold qJg;rw [decide_eq_false k1,Bool.false_and]))
 · rintro acc H' ⟨rfl,rfl⟩ d hd
   refine⟨d,_,rfl,SqL.of qB,?_⟩
   rw [List.length_map,List.take_length]
   have w5:=(e1.trans e3).trans (qC hd (.lst (((qt 0 ms).map (qJg ms)).map V.bl)))
   have k:=kk _ w5
   by_cases hM:qNj ms
   · rw [mixB_all.mpr hM]
     exact k.1 ⟨hG,hM⟩
   · rw [show ((qt 0 ms).map (qJg ms)).all id=false by rw [Bool.eq_false_iff];exact fun z=>hM (mixB_all.mp z)]
     exact k.2 fun h=>hM h.2
abbrev Rls:=Str→Option Int
def ReelsAt (H:Hp)(rd:Addr)(rl:Rls):Prop:=∀ n N,rl n=some N→Reel H rd n N
theorem ReelsAt.same {H H':Hp}{rd:Addr}{rl:Rls}(e:Same H H')(h:ReelsAt H rd rl):ReelsAt H' rd rl:=fun n N q=>(h n N q).same e
def qN2 (p q r s l N:Int):Int:=wS (plP p q r s l*s) (1*r*plQ p q r s l) (plQ p q r s l*s) N
def qNr (p q r s N:Int):Int:=wS (plP p q r s (-1)*s) (-1*r*plQ p q r s (-1)) (plQ p q r s (-1)*s) N
structure Rc (n:Str)(p q r s l:Int)(rl:Rls)(N:Int):Prop where
 g1:qJ5 110 p q
 g2:qJ5 110 r s
 bl:l.natAbs < 2 ^ 30
 l1:1≤l
 rn:rl n=some N
 bN:N.natAbs < 2 ^ 700
theorem Rc.bn {n:Str}{p q r s l N:Int}{rl:Rls}(h:Rc n p q r s l rl N):Bn 110 p q r s:=⟨h.g1.1,h.g2.1,h.g1.2.2.1,h.g1.2.2.2,h.g2.2.2.1,h.g2.2.2.2⟩
theorem zq {ms:List Im}{x:Int}(h:ji ms x="clip"):∃ (i:Nat) (n:Str) (p q r s l:Int),x=(i:Int)∧ms[i]? =some (.clip n p q r s l):=by
 unfold ji at h
 split at h
 · exact absurd h (by decide+kernel)
 · rename_i h0
   cases hm:ms[x.toNat]? with
   | none=>rw [hm] at h;exact absurd h (by decide+kernel)
   | some m=>
    rw [hm] at h
    dsimp only at h
    cases m with
    | clip n p q r s l=>exact⟨x.toNat,n,p,q,r,s,l,by omega,hm⟩
    | gap=>exact absurd (show ("gap":Str)="clip" from h) (by decide+kernel)
    | nest=>exact absurd (show ("nest":Str)="clip" from h) (by decide+kernel)
    | mix=>exact absurd (show ("mix":Str)="clip" from h) (by decide+kernel)
def kR (ms:List Im)(x:Int):Im:=(ms[x.toNat]?).getD (.gap 0)
def ItR (rl:Rls)(m:Im):Prop:=∀ n p q r s l,m= .clip n p q r s l→∃ N,Rc n p q r s l rl N
def tbF (ms:List Im)(k:Nat):Int:=if k=0 then 0 else match ms[k - 1]? with
 | some (.mix l)=>l - l.fdiv 2
 | _=>0
def teF (ms:List Im)(k:Nat):Int:=match ms[k+1]? with
 | some (.mix l)=>l.fdiv 2
 | _=>0
theorem qD1 {ms:List Im}{k:Int}(h:ji ms k="mix"):∃ l,0≤k∧ms[k.toNat]? =some (.mix l):=by
 unfold ji at h
 by_cases h0:k < 0
 · rw [if_pos h0] at h
   exact absurd h (by decide+kernel)
 · rw [if_neg h0] at h
   cases hm:ms[k.toNat]? with
   | none=>rw [hm] at h;exact absurd h (by decide+kernel)
   | some m=>
    rw [hm] at h
    obtain⟨l,rfl⟩:=qAu h
    exact⟨l,by omega,rfl⟩
inductive v5 (vs:List V)(H:Hp)(Q:VK)(_:XK):Prop
| mk (z:Addr) (ms:List Im) (k:Nat) (_:vs=[.ref z,.int (k:Int)]) (_:Tr H z ms) (_:Q (.int (tbF ms k)) H)
theorem v8 (T:Tx K mg a):FnOk P w K mg base CX0 2 a.A33 a.B33 ["track","place"] v5:=by
 refine T.D33.F.ok vn (fun vs H Q E h=>?_) (fun cdv A outer s H vs Q E hr h=>?_)
 · obtain⟨z,ms,k,rfl,_⟩:=h
   rfl
 refine qM fun _ Y=>?_
 obtain⟨z,ms,k,rfl,tT,q⟩:=h
 apply Y
 refine⟨_,(qF (qh (qQ kN (qL T.D25 (jq T) hr rfl (qA (pv 0) (qA (qN jZ (pv 1) qE) qD))) qI (qW _)) (qG (qU qE)) qR)
  (qG (qU (qL T.D31 (kW T) hr rfl (qA (qX (jr jL (pv 0) (qN jZ (pv 1) qE) (fun _ _=>rfl))) qD))))),?_⟩
 try dsimp only [jc,qk]
 refine⟨_,rfl,_,rfl,_,_,rfl,rfl,z,ms,_,rfl,tT,rfl,_,rfl,kD (fun c=>?_) (fun c=>?_)⟩
 · have hn:ji ms ((k:Int) - 1)≠"mix":=by simpa using c
   have e:tbF ms k=0:=by
    unfold tbF
    by_cases k0:k=0
    · rw [if_pos k0]
    · rw [if_neg k0]
      split
      · next l hl=>exact absurd (vW hl (by omega)) hn
      · rfl
   rw [e] at q
   exact q
 · have hk:ji ms ((k:Int) - 1)="mix":=by simpa using c
   refine qM fun _ Y=>?_
   obtain⟨l,k1,hl⟩:=qD1 hk
   have ek:((k:Int) - 1).toNat=k - 1:=by omega
   rw [ek] at hl
   have e:tbF ms k=l - l.fdiv 2:=by
    unfold tbF
    rw [if_neg (by omega),hl]
   rw [e] at q
   obtain⟨vs,hz,his⟩:=tT
   obtain⟨v,hv,hI⟩:=his.get' hl
   obtain⟨zi,rfl,hzi⟩:=hI
   apply Y
   have hat:atI vs ((k:Int) - 1)=some (.ref zi):=by
    have e:(k:Int) - 1=((k - 1:Nat):Int):=by omega
    rw [e];exact xX hv
   exact⟨_,rfl,_,rfl,_,_,rfl,rfl,z,_,_,_,rfl,rfl,SqL.of hz,hat,ixT (SqT.of hzi) at1 ⟨l,rfl,q⟩⟩
inductive qAd (vs:List V)(H:Hp)(Q:VK)(_:XK):Prop
| mk (z:Addr) (ms:List Im) (k:Nat) (_:vs=[.ref z,.int (k:Int)]) (_:Tr H z ms) (_:Q (.int (teF ms k)) H)
theorem wf (T:Tx K mg a):FnOk P w K mg base CX0 2 a.A34 a.B34 ["track","place"] qAd:=by
 refine T.D34.F.ok qAb (fun vs H Q E h=>?_) (fun cdv A outer s H vs Q E hr h=>?_)
 · obtain⟨z,ms,k,rfl,_⟩:=h
   rfl
 refine qM fun _ Y=>?_
 obtain⟨z,ms,k,rfl,tT,q⟩:=h
 apply Y
 refine⟨_,(qF (qh (qQ kN (qL T.D25 (jq T) hr rfl (qA (pv 0) (qA (qN jE (pv 1) qE) qD))) qI (qW _)) (qG (qU qE)) qR)
  (qG (qU (qL T.D30 (vS T) hr rfl (qA (qX (jr jL (pv 0) (qN jE (pv 1) qE) (fun _ _=>rfl))) qD))))),?_⟩
 try dsimp only [jc,qk]
 refine⟨_,rfl,_,rfl,_,_,rfl,rfl,z,ms,_,rfl,tT,rfl,_,rfl,kD (fun c=>?_) (fun c=>?_)⟩
 · have hn:ji ms ((k:Int)+1)≠"mix":=by simpa using c
   have e:teF ms k=0:=by
    unfold teF
    split
    · next l hl=>exact absurd (vW hl (by omega)) hn
    · rfl
   rw [e] at q
   exact q
 · have hk:ji ms ((k:Int)+1)="mix":=by simpa using c
   refine qM fun _ Y=>?_
   obtain⟨l,k1,hl⟩:=qD1 hk
   have ek:((k:Int)+1).toNat=k+1:=by omega
   rw [ek] at hl
   have e:teF ms k=l.fdiv 2:=by
    unfold teF
    rw [hl]
   rw [e] at q
   obtain⟨vs,hz,his⟩:=tT
   obtain⟨v,hv,hI⟩:=his.get' hl
   obtain⟨zi,rfl,hzi⟩:=hI
   apply Y
   have hat:atI vs ((k:Int)+1)=some (.ref zi):=by
    have e:(k:Int)+1=((k+1:Nat):Int):=by omega
    rw [e];exact xX hv
   exact⟨_,rfl,_,rfl,_,_,rfl,rfl,z,_,_,_,rfl,rfl,SqL.of hz,hat,ixT (SqT.of hzi) at1 ⟨l,rfl,q⟩⟩
def qOs (x y:Int):Int:=if y < x then y else x
def qP5 (x y:Int):Int:=if y > x then y else x
def mmV (A B:Int):Int:=if B > A then qP5 (2*A+1) 0 else qP5 (2*B) 0
def mmF (rl:Rls)(ms:List Im)(t:Int):Option Int:=match cbF ms t with
 | none=>none
 | some (i,j)=>match kR ms i,kR ms j with
  | .clip n p q r s l,.clip n' p' q' r' s' l'=>(match rl n,rl n' with
   | some N,some N'=>some (mmV (qOs (l - tbF ms i.toNat) (qNr p' q' r' s' N')) (qOs (l' - teF ms j.toNat) (qN2 p q r s l N)))
   | _,_=>none)
  | _,_=>none
theorem qGd {ms:List Im}{t:Int}{i j:Int}(h:cbF ms t=some (i,j)):ji ms i="clip"∧ji ms j="clip":=by
 unfold cbF at h
 cases hn:nbF ms t with
 | none=>rw [hn] at h;cases h
 | some r=>
  obtain⟨x,y⟩:=r
  rw [hn] at h
  dsimp only at h
  split at h
  · rename_i c;cases h;exact c
  · cases h
inductive qE6 (vs:List V)(H:Hp)(Q:VK)(_:XK):Prop
| mk (z rd:Addr) (ms:List Im) (t M:Int) (rl:Rls) (_:vs=[.ref z,.int t,.ref rd]) (_:Tr H z ms) (_:(∀ m∈ms,ItR rl m)) (_:ReelsAt H rd rl) (_:mmF rl ms t=some M) (_:∀ H',Same H H'→Q (.int M) H')
theorem qFs (T:Tx K mg a):FnOk P w K mg base CX0 6 a.A35 a.B35 ["track","moment","reels"] qE6:=by
 refine T.D35.F.ok jt (fun vs H Q E h=>?_) (fun cdv A outer s H vs Q E hr h=>?_)
 · obtain⟨z,rd,ms,t,M,rl,rfl,_⟩:=h
   rfl
 refine qM fun _ Y=>?_
 obtain⟨z,rd,ms,t,M,rl,rfl,tT,hit,hrl,hM,kg⟩:=h
 apply Y
 refine⟨_,(qF (qg 3 jt.nd (qCg (qp (qL T.D0 (vD T) hr rfl (qA (pv 1) qD))) (qL T.D29 (vf T) hr rfl (qA (pv 0) (qA (pv 1) qD))) qGs))
  (qF (qh (qAs (qEb (pv 3))) wg qR)
  (qF (qg 4 jt.nd (jr jL (pv 0) (qX (pv 3)) (fun _ _=>rfl)))
  (qF (qg 5 jt.nd (jr jL (pv 0) (qX (pv 3)) (fun _ _=>rfl)))
  (qF (qg 6 jt.nd (qV (we rfl) rfl T.b_min rfl (qA (qN jZ (qX (pv 4)) (qL T.D33 (v8 T) hr rfl (qA (pv 0) (qA (qX (pv 3)) qD)))) (qA (qL T.D17 (qC8 T) hr rfl (qA (pv 5) (qA (pv 2) qD))) qD))))
  (qF (qg 7 jt.nd (qV (we rfl) rfl T.b_min rfl (qA (qN jZ (qX (pv 5)) (qL T.D34 (wf T) hr rfl (qA (pv 0) (qA (qX (pv 3)) qD)))) (qA (qL T.D18 (qEg T) hr rfl (qA (pv 4) (qA (pv 2) qD))) qD))))
  (qF (qh (qQ qHn (pv 7) (pv 6) (qW _)) (qG (qU (qV (qD3 rfl) rfl T.b_max rfl (qA (qN jE (qN qy qE (pv 6)) qE) (qA qE qD))))) qR)
  (qG (qU (qV (qD3 rfl) rfl T.b_max rfl (qA (qN qy qE (pv 7)) (qA qE qD)))))))))))),?_⟩
 try dsimp only [jc,qk]
 refine⟨_,rfl,_,rfl,true,rfl,qz ?_⟩
 refine⟨_,rfl,_,rfl,z,ms,_,rfl,tT,?_⟩
 unfold mmF at hM
 cases hcb:cbF ms t with
 | none=>
  rw [hcb] at hM
  cases hM
 | some r=>
 refine qM fun _ Y=>?_
 obtain⟨ii,jj⟩:=r
 rw [hcb] at hM
 obtain⟨hk1,hk2⟩:=qGd hcb
 obtain⟨i,n,p,q,r,s1,l,rfl,hi⟩:=zq hk1
 obtain⟨j,n',p',q',r',s2,l',rfl,hj⟩:=zq hk2
 obtain⟨N,c1⟩:=hit _ (List.mem_of_getElem? hi) _ _ _ _ _ _ rfl
 obtain⟨N',c2⟩:=hit _ (List.mem_of_getElem? hj) _ _ _ _ _ _ rfl
 apply Y
 have ei:kR ms (i:Int)= .clip n p q r s1 l:=by unfold kR;rw [Int.toNat_natCast,hi];rfl
 have ej:kR ms (j:Int)= .clip n' p' q' r' s2 l':=by unfold kR;rw [Int.toNat_natCast,hj];rfl
 dsimp only at hM
 rw [ei,ej] at hM
 dsimp only at hM
 rw [c1.rn,c2.rn,Int.toNat_natCast,Int.toNat_natCast] at hM
 cases hM
 intro pp H1 e1 hpp
 refine⟨_,rfl,_,rfl,kD (fun c=>absurd c (by simp)) (fun _=>?_)⟩
 refine qM fun _ Y=>?_
 obtain⟨vs,hz,his⟩:=tT.same e1
 obtain⟨va,hva,Ia⟩:=his.get' hi
 obtain⟨vb,hvb,Ib⟩:=his.get' hj
 apply Y
 refine⟨_,rfl,ixO hpp at0 ⟨z,_,_,_,rfl,rfl,SqL.of hz,xX hva,?_⟩⟩
 refine⟨_,rfl,ixO hpp at1 ⟨z,_,_,_,rfl,rfl,SqL.of hz,xX hvb,?_⟩⟩
 refine qM fun _ Y=>?_
 obtain⟨za,xa,ya,rfl,hza,hxa,hya⟩:=id Ia
 obtain⟨zb,xb,yb,rfl,hzb,hxb,hyb⟩:=id Ib
 apply Y
 have tT1:Tr H1 z ms:=⟨vs,hz,his⟩
 refine(ixO hza qF1 ⟨_,rfl,ixO hpp at0 ⟨z,ms,i,rfl,tT1,_,_,rfl,rfl,?_⟩⟩)
 refine⟨_,rfl,_,rfl,_,n',p',q',r',s2,l',N',rd,rfl,qNq Ib,c2.g1,c2.g2,(hrl _ _ c2.rn).same e1,c2.bN,fun H2 e2=>?_⟩
 refine⟨_,_,rfl,?_⟩
 refine(ixO (e2 _ _ hzb) qF1 ⟨_,rfl,ixO (e2 _ _ hpp) at1 ⟨z,ms,j,rfl,tT1.same e2,_,_,rfl,rfl,?_⟩⟩)
 refine⟨_,rfl,_,rfl,_,n,p,q,r,s1,l,N,rd,rfl,qNq (Ia.ts (qi e2)),c1.g1,c1.g2,c1.bl,(hrl _ _ c1.rn).same (e1.trans e2),c1.bN,fun H3 e3=>?_⟩
 refine⟨_,_,rfl,?_⟩
 have kk':=kg H3 ((e1.trans e2).trans e3)
 unfold mmV qOs at kk'
 unfold qNr qN2 at kk'
 dsimp only
 generalize (if wS (plP p' q' r' s2 (-1)*s2) (-1*r'*plQ p' q' r' s2 (-1)) (plQ p' q' r' s2 (-1)*s2) N' < l - tbF ms i then wS (plP p' q' r' s2 (-1)*s2) (-1*r'*plQ p' q' r' s2 (-1)) (plQ p' q' r' s2 (-1)*s2) N' else l - tbF ms i)=MA at kk' ⊢
 generalize (if wS (plP p q r s1 l*s1) (1*r*plQ p q r s1 l) (plQ p q r s1 l*s1) N < l' - teF ms j then wS (plP p q r s1 l*s1) (1*r*plQ p q r s1 l) (plQ p q r s1 l*s1) N else l' - teF ms j)=MB at kk' ⊢
 refine⟨_,rfl,_,rfl,_,_,rfl,rfl,_,rfl,kD (fun c=>?_) (fun c=>?_)⟩
 · have c':MB > MA:=by simpa using c
   rw [if_pos c'] at kk'
   exact⟨_,rfl,_,_,rfl,rfl,cmL (by decide) (by decide),_,_,rfl,rfl,_,_,rfl,kk'⟩
 · have c':¬ MB > MA:=by simpa using c
   rw [if_neg c'] at kk'
   exact⟨_,rfl,_,_,rfl,rfl,cmL (by decide) (by decide),_,_,rfl,kk'⟩
theorem qLs {rl:Rls}{ms:List Im}{t i j:Int}(hit:∀ m∈ms,ItR rl m)(h:cbF ms t=some (i,j)):∃ M,mmF rl ms t=some M:=by
 obtain⟨hk1,hk2⟩:=qGd h
 obtain⟨i,n,p,q,r,s1,l,rfl,hi⟩:=zq hk1
 obtain⟨j,n',p',q',r',s2,l',rfl,hj⟩:=zq hk2
 obtain⟨N,c1⟩:=hit _ (List.mem_of_getElem? hi) _ _ _ _ _ _ rfl
 obtain⟨N',c2⟩:=hit _ (List.mem_of_getElem? hj) _ _ _ _ _ _ rfl
 have ei:kR ms (i:Int)= .clip n p q r s1 l:=by unfold kR;rw [Int.toNat_natCast,hi];rfl
 have ej:kR ms (j:Int)= .clip n' p' q' r' s2 l':=by unfold kR;rw [Int.toNat_natCast,hj];rfl
 unfold mmF
 rw [h]
 dsimp only
 rw [ei,ej]
 dsimp only
 rw [c1.rn,c2.rn]
 exact⟨_,rfl⟩
theorem wm:∀ {b:Int} {ms:List Im} {x y z:Int},(x,y,z)∈xZ b ms→∃ i l,ms[i]? =some (.mix l)∧y=b+qKo ms i∧x=y - l.fdiv 2∧z=y+(l - l.fdiv 2)
 | _,[],_,_,_,h=>by simp [xZ] at h
 | b,m::ms,x,y,z,h=>by
  by_cases hm:m.wd="mix"
  · obtain⟨l,rfl⟩:=qAu hm
    rw [xZ] at h
    rcases List.mem_cons.mp h with h | h
    · obtain⟨e1,e2,e3⟩:x=b - l.fdiv 2∧y=b∧z=b+(l - l.fdiv 2):=by
       have e:=Prod.mk.inj h
       have e':=Prod.mk.inj e.2
       exact⟨e.1,e'.1,e'.2⟩
      exact⟨0,l,rfl,by rw [e2];simp [qKo],by omega,by omega⟩
    · obtain⟨i,l',h1,h2,h3,h4⟩:=wm h
      refine⟨i+1,l',by rw [List.getElem?_cons_succ];exact h1,?_,h3,h4⟩
      rw [h2]
      unfold qKo
      rw [List.take_succ_cons,List.map_cons,List.sum_cons]
      show _=b+((0:Int)+_)
      omega
  · rw [zA hm] at h
    obtain⟨i,l',h1,h2,h3,h4⟩:=wm h
    refine⟨i+1,l',by rw [List.getElem?_cons_succ];exact h1,?_,h3,h4⟩
    rw [h2]
    unfold qKo
    rw [List.take_succ_cons,List.map_cons,List.sum_cons]
    omega
theorem qNv {rl:Rls}{ms:List Im}{i:Nat}{l:Int}(hmo:∀ m∈ms,0≤m.mo)(hit:∀ m∈ms,ItR rl m)(hmx:qNj ms)(hm:ms[i]? =some (.mix l)):cbF ms (qKo ms i)=some ((i:Int) - 1,(i:Int)+1):=by
 obtain⟨ka,kb⟩:=hmx i l hm
 obtain⟨j,n',p',q',r',s',k',ej,hb⟩:=zq kb
 obtain rfl:j=i+1:=by omega
 have hi1:i+1 < ms.length:=(glt hb)
 have h0:0 < k':=by
  obtain⟨N,g⟩:=hit _ (List.mem_of_getElem? hb) _ _ _ _ _ _ rfl
  have:=g.l1;omega
 have hit:wK 0 0 ms (qKo ms i)=some (i+1,0):=by
  have es:ms=ms.take (i+1)++ .clip n' p' q' r' s' k'::ms.drop (i+2):=by
   have:=xr hb
   rw [← this,List.take_append_drop]
  have key:=wH (ms.take (i+1)) 0 0 (.clip n' p' q' r' s' k') (ms.drop (i+2)) (fun x hx=>hmo x (List.mem_of_mem_take hx)) h0
  rw [← es,Nat.zero_add,List.length_take,Nat.min_eq_left (by omega)] at key
  have eb:(0:Int)+((ms.take (i+1)).map Im.mo).sum=qKo ms i:=by
   unfold qKo
   rw [List.take_add_one,hm,List.map_append,List.sum_append]
   show (0:Int)+(_+(0+0))=_
   omega
  rw [eb] at key
  exact key
 have nb:nbF ms (qKo ms i)=some ((i:Int) - 1,(i:Int)+1):=by
  unfold nbF
  rw [hit]
  dsimp only
  have k1:ji ms (((i+1:Nat):Int) - 1)="mix":=vW hm (by omega)
  simp only [k1]
  simp
  omega
 unfold cbF
 rw [nb]
 dsimp only
 rw [if_pos ⟨ka,kb⟩]
def qMr (rl:Rls)(ms:List Im)(s:Int × Int × Int):Bool:=match mmF rl ms s.2.1 with
 | some M=>decide (s.2.2 - s.1≤M)
 | none=>false
def wG (rl:Rls)(ms:List Im):Bool:=(xZ 0 ms).all (qMr rl ms)
inductive qDw (vs:List V)(H:Hp)(Q:VK)(_:XK):Prop
| mk (z rd:Addr) (ms:List Im) (rl:Rls) (_:vs=[.ref z,.ref rd]) (_:Tr H z ms) (_:ms.length≤100) (_:(∀ m∈ms,0≤m.mo)) (_:qNj ms) (_:((∃ l,Im.mix l∈ms)→∀ m∈ms,ItR rl m)) (_:ReelsAt H rd rl) (_:∀ H',Same H H'→Q (.bl (wG rl ms)) H')
theorem qDt (T:Tx K mg a):FnOk P w K mg base CX0 8 a.A36 a.B36 ["track","reels"] qDw:=by
 refine T.D36.F.ok qEi (fun vs H Q E h=>?_) (fun cdv A outer s H vs Q E hr h=>?_)
 · obtain⟨z,rd,ms,rl,rfl,_⟩:=h
   rfl
 refine qM fun _ Y=>?_
 obtain⟨z,rd,ms,rl,rfl,tT,hcl,hmo,hmx,hit,hrl,kk⟩:=h
 apply Y
 refine⟨_,(qG (qU (qV (vM rfl) rfl T.b_all rfl (qA (vE ["track","reels"] [0,1] rfl (jp (qL T.D32 (qEd T) hr rfl (qA (pv 0) qD))) (fun _ _ _ _=>(ja qJn (qN jZ (jr (vp (K:=K) rfl) (pv 0) qE (fun _ _=>rfl)) (jr (vp (K:=K) rfl) (pv 0) qE (fun _ _=>rfl))) (qL T.D35 (qFs T) hr rfl (qA (pv 1) (qA (jr (vp (K:=K) rfl) (pv 0) qE (fun _ _=>rfl)) (qA (pv 2) qD)))) (qW _)))) qD)))),?_⟩
 try dsimp only [jc,qk]
 refine⟨_,rfl,z,ms,rfl,tT,(by omega),fun sp us H1 e1 _ hsp hus=>?_⟩
 have hul:=hus.len
 have hsl:=wu 0 ms
 refine⟨sp,rfl,⟨_,SqL.of hsp⟩,vX (K:=K) (a:=sp) (xs:=us) (fun i acc H'=>Same H1 H'∧acc=(((xZ 0 ms).take i).map (qMr rl ms)).map V.bl) ⟨Same.refl _,rfl⟩ ?_ ?_ ?_⟩
 · rintro i acc H' hi ⟨e,rfl⟩
   exact⟨SqL.of (e _ _ hsp),qS (by simp;omega)⟩
 · rintro i x acc H' hi hx ⟨e,rfl⟩
   refine qM fun _ Y=>?_
   obtain⟨x0,y0,z0,q,hs,rfl,hq⟩:=hus.get hx
   obtain⟨j,l,hm,ey,ex,ez⟩:=wm (List.mem_of_getElem? hs)
   rw [Int.zero_add] at ey
   have hit:=hit ⟨l,List.mem_of_getElem? hm⟩
   have hq':=e _ _ hq
   have a0:atI [V.int x0,.int y0,.int z0] 0=some (.int x0):=rfl
   have a1:atI [V.int x0,.int y0,.int z0] 1=some (.int y0):=rfl
   have a2:atI [V.int x0,.int y0,.int z0] 2=some (.int z0):=rfl
   have e01:=e1.trans e
   obtain⟨M,hM⟩:=qLs hit (qNv hmo hit hmx hm)
   apply Y
   rw [← ey] at hM
   refine(ixO hq' a2 (ixO hq' a0 ⟨_,_,rfl,rfl,?_⟩))
   refine⟨_,rfl,ixO hq' a1 ⟨_,rfl,z,rd,ms,y0,M,rl,rfl,tT.same e01,hit,hrl.same e01,hM,fun H2 e2=>?_⟩⟩
   refine⟨_,_,rfl,rfl,Nxt.mk hi ⟨e.trans e2,?_⟩⟩
   have es:qMr rl ms (x0,y0,z0)=decide (z0 - x0≤M):=by
    unfold qMr
    dsimp only
    rw [hM]
   rw [List.take_add_one,hs,List.map_append,List.map_append]
   simp only [Option.toList,List.map_cons,List.map_nil,es]
 · rintro acc H' ⟨e,rfl⟩ d hd
   refine⟨d,_,rfl,SqL.of qB,?_⟩
   have eall:(((xZ 0 ms).take us.length).map (qMr rl ms)).all id=wG rl ms:=by
    rw [hul,List.take_length,List.all_map];rfl
   rw [eall]
   exact kk _ ((e1.trans e).trans (qC hd _))
inductive TkB (K:W.Frag)(H:Hp)(re td:Addr):V→Bool→Prop where
 | bad {z:Addr} {vs:List V} {i:Nat} {v:V} (e:H z=some (.lst vs)) (h:∀ j u,j < i→vs[j]? =some u→IcB K H re td u true) (hi:vs[i]? =some v) (hb:IcB K H re td v false):TkB K H re td (.ref z) false
 | good {z:Addr} {vs:List V} {ms:List Im} {rl:Rls} {b:Bool} (e:H z=some (.lst vs)) (hI:IsIs H ms vs) (hl:ms.length≤100) (ok:∀ v∈vs,IcB K H re td v true) (gp:qM6 ms) (mo:∀ m∈ms,0≤m.mo) (it:qC1 ms→(∃ l,Im.mix l∈ms)→∀ m∈ms,ItR rl m) (hr:ReelsAt H re rl) (hb:b=true↔qC1 ms∧wG rl ms=true):TkB K H re td (.ref z) b
theorem IcB.same {H H':Hp}{re td:Addr}{v:V}{b:Bool}(s:Same H H')(h:IcB K H re td v b):IcB K H' re td v b:=by
 cases h with
 | clip e h=>exact .clip (s _ _ e) (h.same s)
 | nest e hn hl hk hc=>exact .nest (s _ _ e) hn hl (zy s hk) hc
 | two e hw=>exact .two (s _ _ e) hw
 | lst e=>exact .lst (s _ _ e)
inductive qAm (K:W.Frag)(N:Addr)(vs:List V)(H:Hp)(Q:VK)(E:XK):Prop
| mk (v:V) (rz re td:Addr) (b:Bool) (_:vs=[v,.ref rz]) (_:H rz=some (.tup [.ref re,.ref td])) (_:TkB K H re td v b) (_:(b=true→∀ H',Same H H'→Q .non H')) (_:(b=false→∀ H',Same H H'→E (.ref N) none H'))
theorem wc (T:Tx K mg a):FnOk P w K mg base (CXR P w) 9 a.A41 a.B41 ["track","room"] (qAm K a.k_NoRoom):=by
 refine okX T.D41.F kQ (fun vs H Q E h=>?_) (fun cdv A outer s H vs Q E hr h=>?_)
 · obtain⟨v,rz,re,td,b,rfl,_⟩:=h
   rfl
 refine qM fun _ Y=>?_
 obtain⟨v,rz,re,td,b,rfl,hrz,hT,kk,kb⟩:=h
 apply Y
 refine⟨_,(qF (qh (qr (qp (qV qj rfl T.b_isinstance rfl (qA (pv 0) (qA (zv rfl T.b_list rfl) qD))))) (qG (jS rfl rfl T.c_NoRoom T.x_NoRoom (qA qI qD))) qR)
  (qF (jk (qHj rfl rfl rfl rfl) rfl (jp (pv 0)) (qq (i:=2) kQ.nd rfl (Or.inl rfl)) (qG (qf (kn T.D40 (qAv T) hr rfl (qA (pv 2) (qA (pv 1) qD))))))
  (qF (qh (qr (qp (qL T.D26 (v3 T) hr rfl (qA (pv 0) qD)))) (qG (jS rfl rfl T.c_NoRoom T.x_NoRoom (qA qI qD))) qR)
  (qG (qh (qr (qp (qL T.D36 (qDt T) hr rfl (qA (pv 0) (qA (qX (pv 1)) qD))))) (qG (jS rfl rfl T.c_NoRoom T.x_NoRoom (qA qI qD))) qR))))),?_⟩
 try dsimp only [jc,qk]
 have one:(1:Nat)≤sizeLine:=by decide
 cases hT with
 | @bad z vs i v hz h hi hb=>
  refine⟨_,rfl,_,_,_,true,rfl,.lst hz,⟨_,.inl ⟨rfl,by kernel_rfl⟩⟩,true,rfl,qd ?_⟩
  refine⟨_,rfl,z,rfl,⟨_,SqL.of hz⟩,j0 (K:=K) (a:=z) (xs:=vs) (fun j σ H'=>∃ o:Option V,σ=[some (.ref z),some (.ref rz),o]∧Same H H'∧j≤i) ⟨none,rfl,Same.refl _,Nat.zero_le _⟩ ?_ ?_ ?_⟩
  · rintro j σ H' hj ⟨o,rfl,e,_⟩
    exact SqL.of (e _ _ hz)
  · rintro j x σ H' hx ⟨o,rfl,e,hji⟩
    by_cases hj:j=i
    · subst hj
      rw [hi] at hx
      cases hx
      exact⟨_,rfl,_,rfl,_,rz,re,td,false,rfl,e _ _ hrz,hb.same e,fun h=>(by cases h),fun _ H2 e2=>kb rfl H2 (e.trans e2)⟩
    · exact⟨_,rfl,_,rfl,x,rz,re,td,true,rfl,e _ _ hrz,(h j x (by omega) hx).same e,fun _ H2 e2=>⟨_,rfl,e.trans e2,by omega⟩,fun h=>(by cases h)⟩
  · rintro σ H1 ⟨o,rfl,e1,hle⟩
    have:=(glt hi)
    omega
 | @good z vs ms rl b hz hI hl ok gp mo it hr hb=>
  refine⟨_,rfl,_,_,_,true,rfl,.lst hz,⟨_,.inl ⟨rfl,by kernel_rfl⟩⟩,true,rfl,qd ?_⟩
  refine⟨_,rfl,z,rfl,⟨_,SqL.of hz⟩,j0 (K:=K) (a:=z) (xs:=vs) (fun j σ H'=>∃ o:Option V,σ=[some (.ref z),some (.ref rz),o]∧Same H H') ⟨none,rfl,Same.refl _⟩ ?_ ?_ ?_⟩
  · rintro j σ H' hj ⟨o,rfl,e⟩
    exact SqL.of (e _ _ hz)
  · rintro j x σ H' hx ⟨o,rfl,e⟩
    exact⟨_,rfl,_,rfl,x,rz,re,td,true,rfl,e _ _ hrz,(ok x (List.mem_of_getElem? hx)).same e,fun _ H2 e2=>⟨_,rfl,e.trans e2⟩,fun h=>(by cases h)⟩
  · rintro σ H1 ⟨o,rfl,e1⟩
    have tT:Tr H z ms:=⟨vs,hz,hI⟩
    refine⟨_,rfl,z,ms,rfl,tT.same e1,by omega,gp,fun H2 e2=>⟨fun hF=>⟨true,rfl,qd ?_⟩,fun hF=>⟨false,rfl,qz ⟨one,kb ?_ H2 (e1.trans e2)⟩⟩⟩⟩
    · have e12:=e1.trans e2
      refine⟨_,rfl,ixO (e12 _ _ hrz) at0 ⟨z,re,ms,rl,rfl,tT.same e12,hl,mo,hF.2,it hF,hr.same e12,fun H3 e3=>⟨_,rfl,?_⟩⟩⟩
      cases hf:wG rl ms with
      | true=>exact qd (kk (hb.mpr ⟨hF,hf⟩) H3 (e12.trans e3))
      | false=>exact qz ⟨one,kb (by rw [Bool.eq_false_iff];intro z;have:=(hb.mp z).2;rw [hf] at this;cases this) H3 (e12.trans e3)⟩
    · rw [Bool.eq_false_iff];intro z;exact hF (hb.mp z).1
def qC4:Int→Int→List (Option Int)→Bool
 | _,_,[]=>true
 | _,_,none::_=>false
 | l,n,some i::r=>if i < l∨n≤i then false else qC4 (i+1) n r
structure NusAt (H:Hp)(os:List (Option Int))(ws:List V):Prop where
 len:ws.length=os.length
 at':∀ (i:Nat) (v:V) (o:Option Int),ws[i]? =some v→os[i]? =some o→Nu H v o
theorem NusAt.same {H H':Hp}{os:List (Option Int)}{ws:List V}(e:Same H H')(h:NusAt H os ws):NusAt H' os ws:=⟨h.len,fun i v o h1 h2=>(h.at' i v o h1 h2).same e⟩
inductive qG7 (vs:List V)(H:Hp)(Q:VK)(_:XK):Prop
| mk (z:Addr) (n:Int) (ws:List V) (os:List (Option Int)) (_:vs=[.ref z,.int n]) (_:H z=some (.lst ws)) (_:NusAt H os ws) (_:Q (.bl (qC4 0 n os)) H)
theorem qHe (T:Tx K mg a):FnOk P w K mg base CX0 2 a.A42 a.B42 ["tied","many"] qG7:=by
 refine T.D42.F.ok kC (fun vs H Q E h=>?_) (fun cdv A outer s H vs Q E hr h=>?_)
 · obtain⟨z,n,ws,os,rfl,_⟩:=h
   rfl
 refine qM fun _ Y=>?_
 obtain⟨z,n,ws,os,rfl,hz,hw,kk⟩:=h
 apply Y
 refine⟨_,(qF (qh (qr (qp (qV qj rfl T.b_isinstance rfl (qA (pv 0) (qA (zv rfl T.b_list rfl) qD))))) (qG (qU xq)) qR)
  (qF (qg 2 kC.nd qE)
  (qF (jk PassesOwn.never rfl (jp (pv 0)) (qq (i:=3) kC.nd rfl (Or.inl rfl)) (qF (qh (PW.pt (jw (qr (qp (qL T.D0 (jK T) hr rfl (qA (pv 3) qD)))) (jw (qQ wv (pv 3) (pv 2) (qW _)) (jU (qQ qCz (pv 3) (pv 1) (qW _)))))) (qG (qU xq)) qR)
  (qG (qg 2 kC.nd (qN jE (pv 3) qE)))))
  (qG (qU xq))))),?_⟩
 try dsimp only [jc,qk]
 refine⟨_,rfl,_,_,_,true,rfl,.lst hz,⟨_,.inl ⟨rfl,by kernel_rfl⟩⟩,true,rfl,qd ?_⟩
 refine⟨_,rfl,z,rfl,⟨_,SqL.of hz⟩,j0 (K:=K) (a:=z) (xs:=ws) (fun i σ H'=>H'=H∧∃ (l:Int) (o:Option V),σ=[some (.ref z),some (.int n),some (.int l),o]∧qC4 l n (os.drop i)=qC4 0 n os) ⟨rfl,0,none,rfl,rfl⟩ ?_ ?_ ?_⟩
 · rintro i σ H' hi ⟨rfl,_⟩
   exact SqL.of hz
 · rintro i x σ H' hx ⟨rfl,l,o,rfl,hl⟩
   have hi:=(glt hx)
   have ho:os[i]? =some (os[i]'(by rw [← hw.len];exact hi)):=List.getElem?_eq_getElem _
   generalize os[i]'(by rw [← hw.len];exact hi)=oo at ho
   rw [xr ho] at hl
   have hN:=hw.at' i x oo hx ho
   cases hN with
   | no h=>
    have e:qC4 0 n os=false:=by rw [← hl,qC4]
    rw [e] at kk
    exact⟨_,rfl,_,false,rfl,.no h,false,rfl,qz (qz kk)⟩
   | int j=>
    refine⟨_,rfl,_,true,rfl,.int j,true,rfl,qd ?_⟩
    refine⟨_,rfl,_,rfl,_,_,rfl,rfl,_,rfl,kD (fun c=>?_) (fun c=>?_)⟩
    · have c':j < l:=by simpa using c
      have e:qC4 0 n os=false:=by rw [← hl,qC4,if_pos (.inl c')]
      rw [e] at kk
      exact qz kk
    · have c':¬ j < l:=by simpa using c
      refine⟨_,rfl,_,rfl,_,_,rfl,rfl,_,rfl,kD (fun d=>?_) (fun d=>?_)⟩
      · have d':n≤j:=by simpa using d
        have e:qC4 0 n os=false:=by rw [← hl,qC4,if_pos (.inr d')]
        rw [e] at kk
        exact kk
      · have d':¬ n≤j:=by simpa using d
        rw [qC4,if_neg (by omega)] at hl
        exact⟨_,rfl,_,_,rfl,rfl,rfl,_,_,rfl,hl⟩
 · rintro σ H' ⟨rfl,l,o,rfl,hl⟩
   rw [hw.len,List.drop_length,qC4] at hl
   rw [← hl] at kk
   exact kk
inductive TbB (K:W.Frag)(H:Hp)(re td:Addr):V→Bool→Prop where
 | many {tt tl ti:Addr} {zs:List V} (e:H tt=some (.tup [.ref tl,.ref ti])) (e1:H tl=some (.lst zs)) (h:zs.length < 1∨8 < zs.length):TbB K H re td (.ref tt) false
 | bad {tt tl ti:Addr} {zs:List V} {i:Nat} {v:V} (e:H tt=some (.tup [.ref tl,.ref ti])) (e1:H tl=some (.lst zs)) (h1:1≤zs.length) (h8:zs.length≤8) (h:∀ j u,j < i→zs[j]? =some u→TkB K H re td u true) (hi:zs[i]? =some v) (hb:TkB K H re td v false):TbB K H re td (.ref tt) false
 | tied {tt tl ti:Addr} {zs ws:List V} {os:List (Option Int)} {b:Bool} (e:H tt=some (.tup [.ref tl,.ref ti])) (e1:H tl=some (.lst zs)) (h1:1≤zs.length) (h8:zs.length≤8) (h:∀ v∈zs,TkB K H re td v true) (e2:H ti=some (.lst ws)) (hw:NusAt H os ws) (hb:b=qC4 0 zs.length os):TbB K H re td (.ref tt) b
theorem TkB.same {H H':Hp}{re td:Addr}{v:V}{b:Bool}(s:Same H H')(h:TkB K H re td v b):TkB K H' re td v b:=by
 cases h with
 | bad e h hi hb=>exact .bad (s _ _ e) (fun j u hj hu=>(h j u hj hu).same s) hi (hb.same s)
 | good e hI hl ok gp mo it hr hb=>exact .good (s _ _ e) (hI.ts (qi s)) hl (fun v hv=>(ok v hv).same s) gp mo it (hr.same s) hb
inductive wl (K:W.Frag)(N:Addr)(vs:List V)(H:Hp)(Q:VK)(E:XK):Prop
| mk (v:V) (rz re td:Addr) (b:Bool) (_:vs=[v,.ref rz]) (_:H rz=some (.tup [.ref re,.ref td])) (_:TbB K H re td v b) (_:(b=true→∀ H',Same H H'→Q .non H')) (_:(b=false→∀ H',Same H H'→E (.ref N) none H'))
theorem qAh (T:Tx K mg a):FnOk P w K mg base (CXR P w) 10 a.A43 a.B43 ["table","room"] (wl K a.k_NoRoom):=by
 refine okX T.D43.F kS (fun vs H Q E h=>?_) (fun cdv A outer s H vs Q E hr h=>?_)
 · obtain⟨v,rz,re,td,b,rfl,_⟩:=h
   rfl
 refine qM fun _ Y=>?_
 obtain⟨v,rz,re,td,b,rfl,hrz,hT,kk,kb⟩:=h
 apply Y
 refine⟨_,(qF (qh (PW.pt (jw (qr (qp (qV qj rfl T.b_isinstance rfl (qA (pv 0) (qA (zv rfl T.b_tuple rfl) qD))))) (jw (qQ kN (qV ql rfl T.b_len rfl (qA (pv 0) qD)) qE (qW _)) (jU (qr (qp (qV qj rfl T.b_isinstance rfl (qA (qX (pv 0)) (qA (zv rfl T.b_list rfl) qD))))))))) (qG (jS rfl rfl T.c_NoRoom T.x_NoRoom (qA qI qD))) qR)
  (qF (qh (PW.pt (jw (qQ wv (qV ql rfl T.b_len rfl (qA (qX (pv 0)) qD)) qE (qW _)) (jU (qQ qHn (qV ql rfl T.b_len rfl (qA (qX (pv 0)) qD)) (ju (v:=.int 8) rfl T.g_MOST_TRACKS ⟨_,rfl⟩) (qW _))))) (qG (jS rfl rfl T.c_NoRoom T.x_NoRoom (qA qI qD))) qR)
  (qF (jk (qHj rfl rfl rfl rfl) rfl (jp (qX (pv 0))) (qq (i:=2) kS.nd rfl (Or.inl rfl)) (qG (qf (kn T.D41 (wc T) hr rfl (qA (pv 2) (qA (pv 1) qD))))))
  (qG (qh (qr (qp (qL T.D42 (qHe T) hr rfl (qA (qX (pv 0)) (qA (qV ql rfl T.b_len rfl (qA (qX (pv 0)) qD)) qD))))) (qG (jS rfl rfl T.c_NoRoom T.x_NoRoom (qA qI qD))) qR))))),?_⟩
 try dsimp only [jc,qk]
 have one:(1:Nat)≤sizeLine:=by decide
 have key:∃ (tt tl ti:Addr) (zs:List V),v= .ref tt∧H tt=some (.tup [.ref tl,.ref ti])∧H tl=some (.lst zs)∧((b=false∧(zs.length < 1∨8 < zs.length))∨(1≤zs.length∧zs.length≤8∧
  ((b=false∧∃ (i:Nat) (u:V),(∀ (j:Nat) (u:V),j < i→zs[j]? =some u→TkB K H re td u true)∧zs[i]? =some u∧TkB K H re td u false)∨((∀ v∈zs,TkB K H re td v true)∧∃ ws os,H ti=some (.lst ws)∧NusAt H os ws∧b=qC4 0 zs.length os)))):=by
  cases hT with
  | many e e1 h=>exact⟨_,_,_,_,rfl,e,e1,.inl ⟨rfl,h⟩⟩
  | bad e e1 h1 h8 h hi hb=>exact⟨_,_,_,_,rfl,e,e1,.inr ⟨h1,h8,.inl ⟨rfl,_,_,h,hi,hb⟩⟩⟩
  | tied e e1 h1 h8 h e2 hw hb=>exact⟨_,_,_,_,rfl,e,e1,.inr ⟨h1,h8,.inr ⟨h,_,_,e2,hw,hb⟩⟩⟩
 clear hT
 refine qM fun _ Y=>?_
 obtain⟨tt,tl,ti,zs,rfl,h2,h3,key⟩:=key
 apply Y
 refine⟨_,rfl,_,_,_,true,rfl,.tup h2,⟨_,.inl ⟨rfl,by kernel_rfl⟩⟩,true,rfl,qd ?_⟩
 refine⟨_,rfl,_,_,rfl,.inr (SqT.of h2),rfl,_,rfl,qd ?_⟩
 refine(ixO h2 at0 ⟨_,_,_,true,rfl,.lst h3,⟨_,.inl ⟨rfl,by kernel_rfl⟩⟩,true,rfl,qd ?_⟩)
 refine(ixO h2 at0 ⟨tl,_,rfl,.inl (SqL.of h3),_,_,rfl,rfl,_,rfl,?_⟩)
 by_cases c1:((zs.length:Nat):Int) < 1
 · rw [decide_eq_true c1]
   rcases key with ⟨hb,_⟩ | ⟨z1,_⟩
   · exact qz (qz ⟨one,kb hb H (Same.refl _)⟩)
   · omega
 rw [decide_eq_false c1]
 refine qd (ixO h2 at0 ⟨tl,_,rfl,.inl (SqL.of h3),_,_,rfl,rfl,_,rfl,?_⟩)
 by_cases c2:(8:Int) < ((zs.length:Nat):Int)
 · rw [decide_eq_true (show ((zs.length:Nat):Int) > 8 from c2)]
   rcases key with ⟨hb,_⟩ | ⟨z1,z2,_⟩
   · exact qz ⟨one,kb hb H (Same.refl _)⟩
   · omega
 rw [decide_eq_false (show ¬ ((zs.length:Nat):Int) > 8 from c2)]
 refine qd ?_
 rcases key with ⟨_,hz⟩ | ⟨_,_,⟨hb,i,u,h,hi,hu⟩ | ⟨h,ws,os,h5,hw,hb⟩⟩
 · omega
 · refine(ixO h2 at0 ⟨tl,rfl,⟨_,SqL.of h3⟩,j0 (K:=K) (a:=tl) (xs:=zs) (fun j σ H'=>∃ o:Option V,σ=[some (.ref tt),some (.ref rz),o]∧Same H H'∧j≤i) ⟨none,rfl,Same.refl _,Nat.zero_le _⟩ ?_ ?_ ?_⟩)
   · rintro j σ H' hj ⟨o,rfl,e,_⟩
     exact SqL.of (e _ _ h3)
   · rintro j x σ H' hx ⟨o,rfl,e,hji⟩
     by_cases hj:j=i
     · subst hj
       rw [hi] at hx
       cases hx
       exact⟨_,rfl,_,rfl,_,rz,re,td,false,rfl,e _ _ hrz,hu.same e,fun h=>(by cases h),fun _ H2 e2=>kb hb H2 (e.trans e2)⟩
     · exact⟨_,rfl,_,rfl,x,rz,re,td,true,rfl,e _ _ hrz,(h j x (by omega) hx).same e,fun _ H2 e2=>⟨_,rfl,e.trans e2,by omega⟩,fun h=>(by cases h)⟩
   · rintro σ H1 ⟨o,rfl,e1,hle⟩
     have:=(glt hi)
     omega
 · refine(ixO h2 at0 ⟨tl,rfl,⟨_,SqL.of h3⟩,j0 (K:=K) (a:=tl) (xs:=zs) (fun j σ H'=>∃ o:Option V,σ=[some (.ref tt),some (.ref rz),o]∧Same H H') ⟨none,rfl,Same.refl _⟩ ?_ ?_ ?_⟩)
   · rintro j σ H' hj ⟨o,rfl,e⟩
     exact SqL.of (e _ _ h3)
   · rintro j x σ H' hx ⟨o,rfl,e⟩
     exact⟨_,rfl,_,rfl,x,rz,re,td,true,rfl,e _ _ hrz,(h x (List.mem_of_getElem? hx)).same e,fun _ H2 e2=>⟨_,rfl,e.trans e2⟩,fun h=>(by cases h)⟩
   · rintro σ H1 ⟨o,rfl,e⟩
     refine(ixO (e _ _ h2) at1 (ixO (e _ _ h2) at0 ⟨tl,_,rfl,.inl (SqL.of (e _ _ h3)),ti,_,ws,os,rfl,e _ _ h5,hw.same e,?_⟩))
     rw [← hb]
     cases hbb:b with
     | true=>exact⟨true,rfl,qd (kk hbb H1 e)⟩
     | false=>exact⟨false,rfl,qz ⟨one,kb hbb H1 e⟩⟩
def SB (z:Addr)(H H':Hp):Prop:=∀ b u,b≠z→H b=some u→H' b=some u
theorem SB.refl (z:Addr)(H:Hp):SB z H H:=fun _ _ _ h=>h
theorem SB.trans {z:Addr}{H H1 H2:Hp}(a:SB z H H1)(b:SB z H1 H2):SB z H H2:=fun c u n h=>b c u n (a c u n h)
theorem jW {z:Addr}{H H':Hp}(e:Same H H'):SB z H H':=fun b u _ h=>e b u h
theorem jT {z:Addr}{H:Hp}{o:HO}:SB z H (upd H z o):=fun b u n h=>by rw [qZ n];exact h
theorem SB.ts {z:Addr}{H H':Hp}{xs:List V}(e:SB z H H')(h:H z=some (.lst xs)):TS H H':=fun b ys hb=>e b _ (zG hb h (by intro q;cases q)) hb
theorem Tr.sb {z y:Addr}{H H':Hp}{ms:List Im}(e:SB z H H')(ny:y≠z)(ts:TS H H')(h:Tr H y ms):Tr H' y ms:=let ⟨vs,h1,h2⟩:=h;⟨vs,e _ _ ny h1,h2.ts ts⟩
theorem kO {z:Addr}{H H':Hp}{kvs:List (Key × V)}(e:SB z H H')(h:H z=some (.dK kvs)):TS H H':=fun b ys hb=>e b _ (zG hb h (by intro q;cases q)) hb
theorem TrsAt.sbD {z:Addr}{H H':Hp}{kvs:List (Key × V)}(e:SB z H H')(h:H z=some (.dK kvs)):∀ {ts:List (List Im)} {vs:List V},TrsAt H ts vs→TrsAt H' ts vs
 | [],[],_=>trivial
 | _::_,_::_,⟨⟨y,h1,h2⟩,r⟩=>⟨⟨y,h1,by obtain⟨us,q,_⟩:=id h2;exact h2.sb e (zG q h (by intro q;cases q)) (kO e h)⟩,TrsAt.sbD e h r⟩
 | [],_::_,h=>h.elim
 | _::_,[],h=>h.elim
theorem TabF.sbD {z:Addr}{H H':Hp}{kvs:List (Key × V)}(e:SB z H H')(h:H z=some (.dK kvs)){v:V}{ts:List (List Im)}{tie:List Int}(hT:TabF H v ts tie):TabF H' v ts tie:=
 let ⟨tt,tl,ti,zs,h1,h2,h3,h4,h5⟩:=hT
 ⟨tt,tl,ti,zs,h1,kO e h _ _ h2,e _ _ (zG h3 h (by intro q;cases q)) h3,h4.sbD e h,e _ _ (zG h5 h (by intro q;cases q)) h5⟩
abbrev Tb:=Str × List (List Im) × List Int
def TbsAt (H:Hp):List Tb→List (Key × V)→Prop
 | [],[]=>True
 | (nm,ts,tie)::r,(k,v)::kv=>k=Sum.inr nm∧TabF H v ts tie∧TbsAt H r kv
 | _,_=>False
theorem TbsAt.same {H H':Hp}(e:Same H H'):∀ {tb:List Tb} {kv:List (Key × V)},TbsAt H tb kv→TbsAt H' tb kv
 | [],[],_=>trivial
 | (_,_,_)::_,(_,_)::_,⟨h1,h2,h3⟩=>⟨h1,h2.same e,TbsAt.same e h3⟩
 | [],(_,_)::_,h=>h.elim
 | (_,_,_)::_,[],h=>h.elim
theorem TbsAt.sbD {z:Addr}{H H':Hp}{kvs:List (Key × V)}(e:SB z H H')(h:H z=some (.dK kvs)):∀ {tb:List Tb} {kv:List (Key × V)},TbsAt H tb kv→TbsAt H' tb kv
 | [],[],_=>trivial
 | (_,_,_)::_,(_,_)::_,⟨h1,h2,h3⟩=>⟨h1,h2.sbD e h,TbsAt.sbD e h h3⟩
 | [],(_,_)::_,h=>h.elim
 | (_,_,_)::_,[],h=>h.elim
theorem TbsAt.len {H:Hp}:∀ {tb:List Tb} {kv:List (Key × V)},TbsAt H tb kv→kv.length=tb.length
 | [],[],_=>rfl
 | (_,_,_)::_,(_,_)::_,⟨_,_,h3⟩=>by rw [List.length_cons,List.length_cons,TbsAt.len h3]
 | [],(_,_)::_,h=>h.elim
 | (_,_,_)::_,[],h=>h.elim
theorem TbsAt.get {H:Hp}:∀ {tb:List Tb} {kv:List (Key × V)} {i:Nat} {k:Key} {v:V},TbsAt H tb kv→kv[i]? =some (k,v)→∃ nm ts tie,tb[i]? =some (nm,ts,tie)∧k=Sum.inr nm∧TabF H v ts tie
 | [],[],_,_,_,_,h=>by simp at h
 | (nm,ts,tie)::_,(k0,v0)::_,0,k,v,⟨h1,h2,_⟩,e=>by
  have e':(k0,v0)=(k,v):=by simpa using e
  cases e'
  exact⟨nm,ts,tie,rfl,h1,h2⟩
 | (_,_,_)::_,(_,_)::_,i+1,k,v,⟨_,_,h3⟩,e=>by
  obtain⟨nm,ts,tie,q1,q2⟩:=TbsAt.get (i:=i) h3 (by simpa using e)
  exact⟨nm,ts,tie,by simpa using q1,q2⟩
 | [],(_,_)::_,_,_,_,h,_=>h.elim
 | (_,_,_)::_,[],_,_,_,h,_=>h.elim
theorem TbsAt.app {H:Hp}:∀ {tb:List Tb} {kv:List (Key × V)} {nm:Str} {ts:List (List Im)} {tie:List Int} {v:V},TbsAt H tb kv→TabF H v ts tie→TbsAt H (tb++[(nm,ts,tie)]) (kv++[(Sum.inr nm,v)])
 | [],[],_,_,_,_,_,h=>⟨rfl,h,trivial⟩
 | (_,_,_)::_,(_,_)::_,_,_,_,_,⟨h1,h2,h3⟩,h=>⟨h1,h2,h3.app h⟩
 | [],(_,_)::_,_,_,_,_,h,_=>h.elim
 | (_,_,_)::_,[],_,_,_,_,h,_=>h.elim
theorem TbsAt.no {H:Hp}:∀ {tb:List Tb} {kv:List (Key × V)} {nm:Str},TbsAt H tb kv→nm ∉ tb.map (·.1)→xv kv (Sum.inr nm)=none
 | [],[],_,_,_=>rfl
 | (n0,_,_)::r,(k,v)::kv,nm,⟨h1,_,h3⟩,hn=>by
  rw [List.map_cons,List.mem_cons] at hn
  rw [kG (p:=(k,v)) (by intro e;apply hn;left;rw [h1] at e;exact(Sum.inr.inj e).symm)]
  exact TbsAt.no h3 fun q=>hn (.inr q)
 | [],(_,_)::_,_,h,_=>h.elim
 | (_,_,_)::_,[],_,h,_=>h.elim
theorem TbsAt.val {H:Hp}:∀ {tb:List Tb} {kv:List (Key × V)} {i:Nat} {nm:Str} {ts:List (List Im)} {tie:List Int},TbsAt H tb kv→(tb.map (·.1)).Nodup→tb[i]? =some (nm,ts,tie)→∃ v,xv kv (Sum.inr nm)=some v∧TabF H v ts tie
 | [],[],_,_,_,_,_,_,e=>by simp at e
 | (n0,t0,i0)::r,(k,v)::kv,0,nm,ts,tie,⟨h1,h2,h3⟩,_,e=>by
  have e':(n0,t0,i0)=(nm,ts,tie):=by simpa using e
  cases e'
  exact⟨v,vL (p:=(k,v)) h1,h2⟩
 | (n0,t0,i0)::r,(k,v)::kv,i+1,nm,ts,tie,⟨h1,h2,h3⟩,hnd,e=>by
  rw [List.map_cons,List.nodup_cons] at hnd
  have e1:r[i]? =some (nm,ts,tie):=by simpa using e
  obtain⟨v',q1,q2⟩:=TbsAt.val h3 hnd.2 e1
  refine⟨v',?_,q2⟩
  rw [kG (p:=(k,v)) (by intro q;rw [h1] at q;exact hnd.1 (by rw [Sum.inr.inj q];exact List.mem_map.mpr ⟨_,List.mem_of_getElem? e1,rfl⟩))]
  exact q1
 | [],(_,_)::_,_,_,_,_,h,_,_=>h.elim
 | (_,_,_)::_,[],_,_,_,_,h,_,_=>h.elim
theorem qNn {H:Hp}{a b:Addr}{tb:List Tb}{ka kb:List (Key × V)}(ra:Rd H a (.dK ka))(rb:Rd H b (.dK kb))(ha:TbsAt H tb ka)(hb:TbsAt H tb kb)(nd:(tb.map (·.1)).Nodup):DEq K H a b:=by
 refine⟨ka,kb,ra,rb,by rw [ha.len,hb.len],fun p hp=>?_⟩
 obtain⟨i,hi,e⟩:=List.mem_iff_getElem.mp hp
 obtain⟨k,v⟩:=p
 obtain⟨nm,ts,tie,q1,rfl,q3⟩:=ha.get (i:=i) (k:=k) (v:=v) (by rw [List.getElem?_eq_getElem hi,e])
 obtain⟨v',q4,q5⟩:=hb.val nd q1
 exact⟨v',qK8 ts tie,q4,q3.rep,q5.rep,(qGg ts tie).1,(qGg ts tie).2⟩
theorem qPh {H:Hp}{a b:Addr}{A:Int}(ra:Rd H a (.dK [(Sum.inr "a",.int A),(Sum.inr "reelb",.int 1000000000)]))(rb:Rd H b (.dK [(Sum.inr "a",.int A),(Sum.inr "reelb",.int 1000000000)])):DEq K H a b:=by
 refine⟨_,_,ra,rb,rfl,fun p hp=>?_⟩
 have lf:∀ i:Int,Rep K H (.leaf (.int i)) (.int i):=fun i=>by unfold Rep;exact⟨rfl,rfl⟩
 have self:∀ i:Int,eqD (.leaf (.int i)) (.leaf (.int i))=true:=fun i=>by simp [eqD,eqV]
 rcases List.mem_cons.mp hp with rfl | hp
 · exact⟨.int A,.leaf (.int A),rfl,lf _,lf _,self _,by simp [dep]⟩
 · rcases List.mem_cons.mp hp with rfl | hp
   · exact⟨.int 1000000000,.leaf (.int 1000000000),rfl,lf _,lf _,self _,by simp [dep]⟩
   · cases hp
def nmO:Im→Option Str
 | .nest n _ _=>some n
 | _=>none
def je (ts:List (List Im)):List Str:=ts.flatMap fun ms=>ms.filterMap nmO
theorem qHd (ts:List (List Im))(ms:List Im):je (ts++[ms])=je ts++ms.filterMap nmO:=by
 unfold je
 rw [List.flatMap_append]
 simp
theorem qJq {m:Im}(h:m.wd≠"nest"):nmO m=none:=by
 cases m with
 | nest=>exact absurd rfl h
 | _=>rfl
theorem qM7 {m:Im}(h:m.wd="nest"):∃ n b l,m= .nest n b l:=by
 cases m with
 | nest n b l=>exact⟨n,b,l,rfl⟩
 | clip=>exact absurd (show ("clip":Str)="nest" from h) (by decide+kernel)
 | gap=>exact absurd (show ("gap":Str)="nest" from h) (by decide+kernel)
 | mix=>exact absurd (show ("mix":Str)="nest" from h) (by decide+kernel)
def Sml (ts:List (List Im)):Prop:=ts.length≤8∧∀ ms∈ts,ms.length≤100
theorem wb:∀ {ts:List (List Im)},(∀ ms∈ts,ms.length≤100)→(je ts).length≤100*ts.length
 | [],_=>by simp [je]
 | ms::ts,h=>by
  have h1:=wb (ts:=ts) fun x hx=>h x (by simp [hx])
  have h2:=h ms (by simp)
  have h3:(ms.filterMap nmO).length≤ms.length:=List.length_filterMap_le _ _
  have e:je (ms::ts)=ms.filterMap nmO++je ts:=by simp [je]
  rw [e,List.length_append,List.length_cons]
  omega
inductive qDs (vs:List V)(H:Hp)(Q:VK)(_:XK):Prop
| mk (v:V) (ts:List (List Im)) (_:vs=[v]) (_:qMe H v ts) (_:Sml ts) (_:∀ (y:Addr) (H':Hp),Same H H'→H' y=some (.lst ((je ts).map V.str))→Q (.ref y) H')
theorem qD9 (T:Tx K mg a):FnOk P w K mg base CX0 1 a.A44 a.B44 ["table"] qDs:=by
 refine T.D44.F.ok zY (fun vs H Q E h=>?_) (fun cdv A outer s H vs Q E hr h=>?_)
 · obtain⟨v,ts,rfl,_⟩:=h
   rfl
 refine qM fun _ Y=>?_
 obtain⟨v,ts,rfl,⟨tt,tl,ti,zs,rfl,h2,h3,hT⟩,⟨hs1,hs2⟩,kk⟩:=h
 apply Y
 have hzl:=hT.len
 refine⟨_,(qF (qg 1 zY.nd (qO qD))
  (qF (jk PassesOwn.never rfl (jp (qX (pv 0))) (qq (i:=2) zY.nd rfl (Or.inl rfl)) (qG (qf (j6 F.plainAttrs_list F.slot_list_extend F.type_list_extend qIx (pv 1) (qA (qKi [] [] rfl (jp (pv 2)) (fun _ _ _ _=>(qQ xA (jr (vp (K:=K) rfl) (pv 0) qE (fun _ _=>rfl)) qI (qW _))) (fun _ _ _ _=>(jr (vp (K:=K) rfl) (pv 0) qE (fun _ _=>rfl)))) qD)))))
  (qG (qU (pv 1))))),?_⟩
 try dsimp only [jc,qk]
 refine⟨sL0,fun y hy=>?_⟩
 have w0:=qC hy (.lst [])
 refine(ixO (w0 _ _ h2) at0 ⟨tl,rfl,⟨_,SqL.of (w0 _ _ h3)⟩,j0 (K:=K) (a:=tl) (xs:=zs) (fun i σ H'=>∃ o:Option V,σ=[some (.ref tt),some (.ref y),o]∧H' y=some (.lst ((je (ts.take i)).map V.str))∧Same H H') ⟨none,rfl,qB,w0⟩ ?_ ?_ ?_⟩)
 · rintro i σ H' hi ⟨o,rfl,_,e⟩
   exact SqL.of (e _ _ h3)
 · rintro i x σ H' hx ⟨o,rfl,hyv,e⟩
   have hi:=(glt hx)
   refine qM fun _ Y=>?_
   obtain⟨ms,z,hms,rfl,us,hz,his⟩:=hT.get hx
   apply Y
   have hul:=his.len
   have hm100:=hs2 ms (List.mem_of_getElem? hms)
   have hnl:(je (ts.take i)).length≤100*(ts.take i).length:=wb fun x hx=>hs2 x (List.mem_of_mem_take hx)
   rw [List.length_take] at hnl
   refine⟨_,rfl,.inl ⟨rfl,_,SqL.of hyv⟩,_,rfl,z,rfl,⟨_,SqL.of (e _ _ hz)⟩,qG1 (K:=K) (a:=z) (xs:=us) (fun j acc H''=>H''=H'∧acc=((ms.take j).filterMap nmO).map V.str∧acc.length≤j) ⟨rfl,rfl,by simp⟩ ?_ ?_ ?_⟩
   · rintro j acc H'' hj ⟨rfl,rfl,hal⟩
     exact⟨SqL.of (e _ _ hz),qS (by omega)⟩
   · rintro j v acc H'' hj hv ⟨rfl,rfl,hal⟩
     refine qM fun _ Y=>?_
     obtain⟨m,hm,hI⟩:=his.get hv
     have hI':=hI.ts (qi e)
     have htk:ms.take (j+1)=ms.take j++[m]:=by rw [List.take_add_one,hm];rfl
     obtain⟨zi,xi,rfl,hzi,h0,h1⟩:=hI'.opn
     apply Y
     refine⟨_,rfl,zi,xi,_,_,rfl,rfl,SqT.of hzi,h0,rfl,_,rfl,kD (fun c=>?_) (fun c=>?_)⟩
     · obtain⟨n,b,l,rfl⟩:=qM7 (by simpa using c)
       refine qM fun _ Y=>?_
       obtain⟨z2,e2,hz2⟩:=id hI'
       cases e2
       apply Y
       have a1':atI [V.str "nest",.str n,.int b,.int l] 1=some (.str n):=rfl
       refine⟨_,rfl,zi,_,_,_,rfl,rfl,SqT.of hz2,a1',Nxt.mk hj ⟨rfl,?_,?_⟩⟩
       · rw [htk,List.filterMap_append,List.map_append];rfl
       · rw [List.length_append];simp at hal ⊢;omega
     · have hw:m.wd≠"nest":=by simpa using c
       refine Nxt.mk hj ⟨rfl,?_,by omega⟩
       rw [htk,List.filterMap_append,List.filterMap_cons,qJq hw]
       simp
   · rintro acc H'' ⟨rfl,rfl,hal⟩ d hd
     rw [hul,List.take_length]
     have w1:=qC hd (.lst ((ms.filterMap nmO).map V.str))
     have hfl:(ms.filterMap nmO).length≤ms.length:=List.length_filterMap_le _ _
     refine⟨y,d,_,_,rfl,rfl,w1 _ _ hyv,qB,?_,_,rfl,?_,kA (e.trans w1) hy⟩
     · rw [List.length_map,List.length_map]
       exact Nat.le_of_lt (qS (by omega))
     · rw [qB,List.take_add_one,hms,← List.map_append]
       show some (HO.lst _)=some (HO.lst ((je (ts.take i++[ms])).map V.str))
       rw [qHd]
 · rintro σ H' ⟨o,rfl,hyv,e⟩
   rw [hzl,List.take_length] at hyv
   exact⟨_,rfl,kk y H' e hyv⟩
def lkD (L:List Str):List (Key × V):=L.map fun n=>(Sum.inr n,.bl true)
theorem qF5 {n:Str}:∀ {L:List Str},(xv (lkD L) (Sum.inr n)).isSome=decide (n∈L)
 | []=>by simp [lkD,xv]
 | x::L=>by
  have ih:=qF5 (n:=n) (L:=L)
  have e:lkD (x::L)=(Sum.inr x,V.bl true)::lkD L:=rfl
  rw [e]
  by_cases h:x=n
  · subst h
    rw [vL (p:=(Sum.inr x,V.bl true)) rfl]
    simp
  · rw [kG (p:=(Sum.inr x,V.bl true)) (fun q=>h (Sum.inr.inj q)),ih]
    have:decide (n∈x::L)=decide (n∈L):=by
     have hne:n≠x:=fun q=>h q.symm
     simp [hne]
    rw [this]
def qFc (L:List Str)(n:Str):List Str:=if n∈L then L else L++[n]
theorem qNi {n:Str}{L:List Str}:qAr (lkD L) (Sum.inr n) (V.bl true)=lkD (qFc L n):=by
 unfold qFc
 by_cases h:n∈L
 · rw [if_pos h]
   unfold qAr
   rw [vN,qF5,decide_eq_true h,if_pos rfl]
   unfold lkD
   rw [List.map_map]
   apply List.map_congr_left
   intro x _
   dsimp only [Function.comp]
   split <;> rfl
 · rw [if_neg h,xJ]
   · simp [lkD]
   · have:=qF5 (n:=n) (L:=L)
     rw [decide_eq_false h] at this
     cases hv:xv (lkD L) (Sum.inr n) with
     | none=>rfl
     | some x=>rw [hv] at this;cases this
def qGy (L:List Str)(ts:List (List Im)):Bool:=(je ts).all fun n=>decide (n∈L)
inductive qCy (vs:List V)(H:Hp)(Q:VK)(_:XK):Prop
| mk (v:V) (lo:Addr) (ts:List (List Im)) (L:List Str) (_:vs=[v,.ref lo]) (_:qMe H v ts) (_:Sml ts) (_:H lo=some (.dK (lkD L))) (_:∀ H',Same H H'→Q (.bl (qGy L ts)) H')
theorem qB3 (T:Tx K mg a):FnOk P w K mg base CX0 3 a.A45 a.B45 ["table","lower"] qCy:=by
 refine T.D45.F.ok qB7 (fun vs H Q E h=>?_) (fun cdv A outer s H vs Q E hr h=>?_)
 · obtain⟨v,lo,ts,L,rfl,_⟩:=h
   rfl
 refine qM fun _ Y=>?_
 obtain⟨v,lo,ts,L,rfl,hT,hs,hlo,kk⟩:=h
 apply Y
 have hu1:=qBg hr
 have hnl:=wb hs.2
 have hs1:=hs.1
 refine⟨_,(qG (qU (qV (vM rfl) rfl T.b_all rfl (qA (vE ["lower"] [1] rfl (jp (qL T.D44 (qD9 T) hr rfl (qA (pv 0) qD))) (fun _ _ _ _=>(qH8 (qNt hu1 (pv 0) (pv 1))))) qD)))),?_⟩
 try dsimp only [jc,qk]
 refine⟨_,rfl,v,ts,rfl,hT,hs,fun y H1 e1 hy=>?_⟩
 refine⟨y,rfl,⟨_,SqL.of hy⟩,vX (K:=K) (a:=y) (xs:=(je ts).map V.str) (fun i acc H'=>H'=H1∧acc=(((je ts).take i).map fun n=>decide (n∈L)).map V.bl) ⟨rfl,rfl⟩ ?_ ?_ ?_⟩
 · rintro i acc H' hi ⟨rfl,rfl⟩
   exact⟨SqL.of hy,qS (by rw [List.length_map,List.length_map,List.length_take];omega)⟩
 · rintro i x acc H' hi hx ⟨rfl,rfl⟩
   refine qM fun _ Y=>?_
   obtain⟨n,hn,rfl⟩:∃ n,(je ts)[i]? =some n∧x= .str n:=by
    rw [List.getElem?_map] at hx
    cases e:(je ts)[i]? with
    | none=>rw [e] at hx;cases hx
    | some m=>rw [e] at hx;exact⟨m,rfl,(Option.some.inj hx).symm⟩
   apply Y
   refine⟨_,rfl,_,rfl,lo,_,rfl,.inl ⟨_,Sum.inr n,.inl (e1 _ _ hlo),rfl,rfl⟩,Nxt.mk hi ⟨rfl,?_⟩⟩
   rw [qF5,List.take_add_one,hn,List.map_append,List.map_append]
   rfl
 · rintro acc H' ⟨rfl,rfl⟩ d hd
   refine⟨d,_,rfl,SqL.of qB,?_⟩
   have eall:(((je ts).take ((je ts).map V.str).length).map fun n=>decide (n∈L)).all id=qGy L ts:=by
    rw [List.length_map,List.take_length,List.all_map];rfl
   rw [eall]
   exact kk _ (e1.trans (qC hd _))
def xR (tb:List Tb)(L:List Str):List Str:=(tb.filter fun t=>qGy L t.2.1).map (·.1)
def xu (tb:List Tb):Nat→List Str
 | 0=>[]
 | i+1=>(xR tb (xu tb i)).foldl qFc (xu tb i)
theorem qId {L:List Str}{n:Str}(h:L.Nodup):(qFc L n).Nodup:=by
 unfold qFc
 split
 · exact h
 · rename_i hn
   rw [List.nodup_append]
   refine⟨h,by simp,fun a ha b hb=>?_⟩
   rw [List.mem_singleton.mp hb]
   intro q;rw [q] at ha;exact hn ha
theorem qLc {L:List Str}{n x:Str}:x∈qFc L n↔x∈L∨x=n:=by
 unfold qFc
 split
 · rename_i h
   exact⟨.inl,fun q=>q.elim id fun q=>q ▸ h⟩
 · simp
theorem qBo:∀ {fs L:List Str},L.Nodup→(fs.foldl qFc L).Nodup
 | [],_,h=>h
 | _::fs,_,h=>qBo (fs:=fs) (qId h)
theorem qF9 {x:Str}:∀ {fs L:List Str},x∈fs.foldl qFc L↔x∈L∨x∈fs
 | [],_=>by simp
 | f::fs,L=>by
  rw [List.foldl_cons,qF9 (fs:=fs),qLc,List.mem_cons]
  constructor
  · rintro ((h | h) | h)
    · exact .inl h
    · exact .inr (.inl h)
    · exact .inr (.inr h)
  · rintro (h | h | h)
    · exact .inl (.inl h)
    · exact .inl (.inr h)
    · exact .inr h
theorem qAo (tb:List Tb):∀ i,(xu tb i).Nodup
 | 0=>List.nodup_nil
 | i+1=>qBo (qAo tb i)
theorem mem_low {tb:List Tb}{i:Nat}{x:Str}:x∈xu tb (i+1)↔x∈xu tb i∨∃ t∈tb,t.1=x∧∀ n∈je t.2.1,n∈xu tb i:=by
 rw [xu,qF9]
 constructor
 · rintro (h | h)
   · exact .inl h
   · obtain⟨t,ht,rfl⟩:=List.mem_map.mp h
     obtain⟨h1,h2⟩:=List.mem_filter.mp ht
     exact .inr ⟨t,h1,rfl,fun n hn=>by have:=List.all_eq_true.mp h2 n hn;simpa using this⟩
 · rintro (h | ⟨t,h1,rfl,h2⟩)
   · exact .inl h
   · exact .inr (List.mem_map.mpr ⟨t,List.mem_filter.mpr ⟨h1,List.all_eq_true.mpr fun n hn=>by simpa using h2 n hn⟩,rfl⟩)
theorem qEs {tb:List Tb}:∀ {i:Nat} {x:Str},x∈xu tb i→x∈tb.map (·.1)
 | 0,_,h=>by simp [xu] at h
 | i+1,x,h=>by
  rcases mem_low.mp h with h | ⟨t,h1,rfl,_⟩
  · exact qEs h
  · exact List.mem_map.mpr ⟨t,h1,rfl⟩
theorem qCe:∀ {L M:List Str},L.Nodup→(∀ x∈L,x∈M)→L.length≤M.length
 | [],_,_,_=>by simp
 | x::L,M,h,hs=>by
  rw [List.nodup_cons] at h
  have:=qCe (L:=L) (M:=M.erase x) h.2 fun y hy=>by
   have hne:y≠x:=fun q=>h.1 (q ▸ hy)
   exact(List.mem_erase_of_ne hne).mpr (hs y (by simp [hy]))
  have hx:=hs x (by simp)
  have e:=List.length_erase_of_mem hx
  have:0 < M.length:=List.length_pos_of_mem hx
  rw [List.length_cons]
  omega
def kM (tb:List Tb):Bool:=decide (tb.length≤(xu tb 6).length)
theorem qEm {tb:List Tb}(r:Str→Nat)(nd:(tb.map (·.1)).Nodup)(h:∀ t∈tb,r t.1 < 6∧∀ n∈je t.2.1,r n < r t.1∧n∈tb.map (·.1)):kM tb=true:=by
 have key:∀ i,∀ t∈tb,r t.1 < i→t.1∈xu tb i:=by
  intro i
  induction i with
  | zero=>intro t _ h;omega
  | succ i ih=>
   intro t ht hi
   refine mem_low.mpr (.inr ⟨t,ht,rfl,fun n hn=>?_⟩)
   obtain⟨h1,h2⟩:=(h t ht).2 n hn
   obtain⟨u,hu,rfl⟩:=List.mem_map.mp h2
   exact ih u hu (by omega)
 unfold kM
 refine decide_eq_true ?_
 have:=qCe (L:=tb.map (·.1)) (M:=xu tb 6) nd fun x hx=>by
  obtain⟨t,ht,rfl⟩:=List.mem_map.mp hx
  exact key 6 t ht (h t ht).1
 rw [List.length_map] at this
 exact this
theorem qCs {tb:List Tb}(r:Str→Nat)(h:∀ t∈tb,r t.1=0∨∃ n∈je t.2.1,r t.1≤r n+1){t0:Tb}(h0:t0∈tb)(h6:6≤r t0.1):kM tb=false:=by
 have key:∀ i x,x∈xu tb i→r x < i:=by
  intro i
  induction i with
  | zero=>intro x h;simp [xu] at h
  | succ i ih=>
   intro x hx
   rcases mem_low.mp hx with hx | ⟨t,ht,rfl,hn⟩
   · have:=ih x hx;omega
   · rcases h t ht with h | ⟨n,hm,hr⟩
     · omega
     · have:=ih n (hn n hm);omega
 unfold kM
 refine decide_eq_false fun hle=>?_
 have nin:t0.1 ∉ xu tb 6:=fun hx=>by have:=key 6 _ hx;omega
 have:=qCe (L:=t0.1::xu tb 6) (M:=tb.map (·.1)) (List.nodup_cons.mpr ⟨nin,qAo tb 6⟩) fun x hx=>by
  rcases List.mem_cons.mp hx with rfl | hx
  · exact List.mem_map.mpr ⟨t0,h0,rfl⟩
  · exact qEs hx
 rw [List.length_cons,List.length_map] at this
 omega
def FL (H H':Hp):Prop:=∀ b u,H b=some u→H' b=some u∨∃ kvs o,u= .dK kvs∧H' b=some (.frz o (.dK kvs))
theorem FL.refl (H:Hp):FL H H:=fun _ _ h=>.inl h
theorem jn {H H':Hp}(e:Same H H'):FL H H':=fun b u h=>.inl (e b u h)
theorem FL.trans {H H1 H2:Hp}(a:FL H H1)(b:FL H1 H2):FL H H2:=fun c u h=>by
 rcases a c u h with h1 | ⟨kvs,o,rfl,h1⟩
 · exact b c u h1
 · rcases b c _ h1 with h2 | ⟨kvs',o',q,_⟩
   · exact .inr ⟨kvs,o,rfl,h2⟩
   · cases q
theorem FL.lst {H H':Hp}{b:Addr}{xs:List V}(e:FL H H')(h:H b=some (.lst xs)):H' b=some (.lst xs):=by
 rcases e b _ h with q | ⟨_,_,q,_⟩
 · exact q
 · cases q
theorem FL.ts {H H':Hp}(e:FL H H'):TS H H':=fun b xs h=>by
 rcases e b _ h with q | ⟨_,_,q,_⟩
 · exact q
 · cases q
theorem FL.rd {H H':Hp}{b:Addr}{kvs:List (Key × V)}(e:FL H H')(h:Rd H b (.dK kvs)):Rd H' b (.dK kvs):=by
 rcases h with h | ⟨o,h⟩
 · rcases e b _ h with q | ⟨_,o,q,h'⟩
   · exact .inl q
   · cases q;exact .inr ⟨o,h'⟩
 · rcases e b _ h with q | ⟨_,_,q,_⟩
   · exact .inr ⟨o,q⟩
   · cases q
theorem FL.tr {H H':Hp}{z:Addr}{ms:List Im}(e:FL H H')(h:Tr H z ms):Tr H' z ms:=let ⟨vs,h1,h2⟩:=h;⟨vs,e.lst h1,h2.ts e.ts⟩
theorem FL.trs {H H':Hp}(e:FL H H'):∀ {ts:List (List Im)} {vs:List V},TrsAt H ts vs→TrsAt H' ts vs
 | [],[],_=>trivial
 | _::_,_::_,⟨⟨z,h1,h2⟩,r⟩=>⟨⟨z,h1,e.tr h2⟩,FL.trs e r⟩
 | [],_::_,h=>h.elim
 | _::_,[],h=>h.elim
theorem FL.tab {H H':Hp}{v:V}{ts:List (List Im)}{tie:List Int}(e:FL H H')(h:TabF H v ts tie):TabF H' v ts tie:=
 let ⟨tt,tl,ti,zs,h1,h2,h3,h4,h5⟩:=h;⟨tt,tl,ti,zs,h1,e.ts _ _ h2,e.lst h3,e.trs h4,e.lst h5⟩
theorem FL.tbs {H H':Hp}(e:FL H H'):∀ {tb:List Tb} {kv:List (Key × V)},TbsAt H tb kv→TbsAt H' tb kv
 | [],[],_=>trivial
 | (_,_,_)::_,(_,_)::_,⟨h1,h2,h3⟩=>⟨h1,e.tab h2,FL.tbs e h3⟩
 | [],(_,_)::_,h=>h.elim
 | (_,_,_)::_,[],h=>h.elim
theorem qHx {H:Hp}{d:Addr}{kvs:List (Key × V)}{R:Obj→Hp→Prop}(h:Rd H d (.dK kvs))(k:∀ o H',H' d=some (.frz o (.dK kvs))→SB d H H'→FL H H'→R o H'):Frz H d kvs R:=by
 rcases h with h | ⟨o,h⟩
 · refine .inr ⟨h,fun o=>k o _ qB jT fun b u hb=>?_⟩
   by_cases e:b=d
   · subst e
     rw [h] at hb
     cases hb
     exact .inr ⟨kvs,o,rfl,qB⟩
   · exact .inl (by rw [qZ e];exact hb)
 · exact .inl ⟨o,h,k o H h (SB.refl _ _) (FL.refl _)⟩
theorem qGj:∀ {fs L:List Str},(fs.foldl qFc L).length≤L.length+fs.length
 | [],_=>by simp
 | f::fs,L=>by
  have h:=qGj (fs:=fs) (L:=qFc L f)
  have:(qFc L f).length≤L.length+1:=by unfold qFc;split <;> simp
  rw [List.foldl_cons,List.length_cons]
  omega
inductive qAk (N:Addr)(vs:List V)(H:Hp)(Q:VK)(E:XK):Prop
| mk (td:Addr) (kvs:List (Key × V)) (tb:List Tb) (_:vs=[.ref td]) (_:Rd H td (.dK kvs)) (_:TbsAt H tb kvs) (_:(tb.map (·.1)).Nodup) (_:tb.length≤20) (_:(∀ t∈tb,Sml t.2.1)) (_:(kM tb=true→∀ H',FL H H'→Q .non H')) (_:(kM tb=false→∀ H',FL H H'→E (.ref N) none H'))
theorem qAn (T:Tx K mg a):FnOk P w K mg base (CXR P w) 4 a.A46 a.B46 ["tables"] (qAk a.k_NoRoom):=by
 refine okX T.D46.F jY (fun vs H Q E h=>?_) (fun cdv A outer s H vs Q E hr h=>?_)
 · obtain⟨td,kvs,tb,rfl,_⟩:=h
   rfl
 refine qM fun _ Y=>?_
 obtain⟨td,kvs,tb,rfl,hrd,hT,nd,h20,hsm,kk,kb⟩:=h
 apply Y
 have hu1:=qBg hr
 have hkl:=hT.len
 have one:(1:Nat)≤sizeLine:=by decide
 have lowl:∀ i,(xu tb i).length≤20:=fun i=>by
  have:=qCe (M:=tb.map (·.1)) (qAo tb i) fun x hx=>qEs hx
  rw [List.length_map] at this
  omega
 refine⟨_,(qF (qF4 (i:=1) jY.nd rfl (Or.inr rfl) qCu)
  (qF (jk (qHj rfl rfl rfl rfl) rfl (xM rfl T.b_range (qA (ju (v:=.int 6) rfl T.g_MOST_DEEP ⟨_,rfl⟩) qD)) (qq (i:=2) jY.nd rfl (Or.inl rfl)) (qF (qJx (i:=3) ["tables","lower"] [0,1] jY.nd rfl rfl rfl (qLv (pv 0)) (fun _ _ _ _=>(qp (qL T.D45 (qB3 T) hr rfl (qA (kq hu1 (pv 1) (pv 0) (fun _ _=>rfl)) (qA (pv 2) qD))))) (fun _ _ _ _=>(pv 0)))
  (qG (jk (qHj rfl rfl rfl rfl) rfl (jp (pv 3)) (qq (i:=4) jY.nd rfl (Or.inl rfl)) (qG (jX hu1 (pv 1) (pv 4) xq rfl))))))
  (qG (qh (qQ wv (qV qDz rfl T.b_len rfl (qA (pv 1) qD)) (qV qDz rfl T.b_len rfl (qA (pv 0) qD)) (qW _)) (qG (jS rfl rfl T.c_NoRoom T.x_NoRoom (qA qI qD))) qR)))),?_⟩
 try dsimp only [jc,qk]
 refine fun lo hlo=>?_
 have w0:=qC hlo (.dK [])
 have nlo:td≠lo:=by
  rcases hrd with h | ⟨o,h⟩
  · exact qH h hlo
  · exact qH h hlo
 refine⟨_,rfl,by decide,by decide,xm (n:=6) (fun i σ H'=>∃ (o1 o2 o3:Option V),σ=[some (.ref td),some (.ref lo),o1,o2,o3]∧FL H H'∧H' lo=some (.dK (lkD (xu tb i)))) ⟨none,none,none,rfl,jn w0,qB⟩ ?_ ?_⟩
 · rintro i σ H1 hi ⟨o1,o2,o3,rfl,f1,hl1⟩
   refine⟨_,rfl,td,_,rfl,qHx (f1.rd hrd) fun o H2 h2 s2 f2=>?_⟩
   have hl2:H2 lo=some (.dK (lkD (xu tb i))):=s2 _ _ nlo.symm hl1
   have f12:=f1.trans f2
   have hT2:=f12.tbs hT
   refine qGz (d:=td) (o:=o) (kvs:=kvs) (fun j acc H3=>Same H2 H3∧acc=(((tb.take j).filter fun t=>qGy (xu tb i) t.2.1).map (·.1)).map V.str∧acc.length≤j) ⟨Same.refl _,rfl,by simp⟩ ?_ ?_ ?_
   · rintro j acc H3 hj ⟨e3,rfl,hal⟩
     exact⟨e3 _ _ h2,qS (by omega)⟩
   · rintro j k v acc H3 hj hkv ⟨e3,rfl,hal⟩
     refine qM fun _ Y=>?_
     obtain⟨nm,ts,tie,htb,rfl,hF⟩:=hT2.get hkv
     obtain⟨v',hv',hF'⟩:=hT2.val nd htb
     apply Y
     have htk:tb.take (j+1)=tb.take j++[(nm,ts,tie)]:=by rw [List.take_add_one,htb];rfl
     refine⟨_,rfl,_,rfl,td,v',rfl,.inl ⟨_,Sum.inr nm,.inr ⟨o,e3 _ _ h2⟩,rfl,hv'.symm⟩,_,rfl,v',lo,ts,xu tb i,rfl,(hF'.same e3).tab,hsm _ (List.mem_of_getElem? htb),e3 _ _ hl2,fun H4 e4=>⟨_,rfl,?_⟩⟩
     cases hb:qGy (xu tb i) ts with
     | true=>
      refine qz ⟨_,rfl,Nxt.mk hj ⟨e3.trans e4,?_,by rw [List.length_append];simp at hal ⊢;omega⟩⟩
      rw [htk,List.filter_append,List.map_append,List.map_append]
      congr 1
      rw [List.filter_cons]
      dsimp only
      rw [hb]
      rfl
     | false=>
      refine qd (Nxt.mk hj ⟨e3.trans e4,?_,by omega⟩)
      rw [htk,List.filter_append,List.map_append,List.map_append,List.filter_cons]
      dsimp only
      rw [hb]
      simp
   · rintro acc H3 ⟨e3,rfl,hal⟩ fd hfd
     rw [hkl,List.take_length] at*
     show qP6 _ _ _ _ (upd H3 fd (.lst ((xR tb (xu tb i)).map V.str)))
     have hfl:(xR tb (xu tb i)).length≤20:=by
      unfold xR
      rw [List.length_map]
      have:=List.length_filter_le (fun t:Tb=>qGy (xu tb i) t.2.1) tb
      omega
     have w1:=qC hfd (.lst ((xR tb (xu tb i)).map V.str))
     have hf4:(upd H3 fd (.lst ((xR tb (xu tb i)).map V.str))) fd=some (.lst ((xR tb (xu tb i)).map V.str)):=qB
     have e4:=e3.trans w1
     have hl4:=e4 _ _ hl2
     have f4:=f12.trans (jn e4)
     generalize upd H3 fd (.lst ((xR tb (xu tb i)).map V.str))=H4 at hf4 hl4 f4 ⊢
     have nfl:fd≠lo:=by intro q;rw [q,hl4] at hf4;cases hf4
     refine⟨_,rfl,fd,rfl,⟨_,SqL.of hf4⟩,j0 (K:=K) (a:=fd) (xs:=(xR tb (xu tb i)).map V.str) (fun j σ H5=>∃ (o3:Option V),σ=[some (.ref td),some (.ref lo),some (.int (0+i)),some (.ref fd),o3]∧SB lo H4 H5∧H5 lo=some (.dK (lkD (((xR tb (xu tb i)).take j).foldl qFc (xu tb i))))) ⟨_,rfl,SB.refl _ _,hl4⟩ ?_ ?_ ?_⟩
     · rintro j σ H5 hj ⟨o3,rfl,e5,_⟩
       exact SqL.of (e5 _ _ nfl hf4)
     · rintro j x σ H5 hx ⟨o3,rfl,e5,hl5⟩
       refine qM fun _ Y=>?_
       obtain⟨n,hn,rfl⟩:∃ n,(xR tb (xu tb i))[j]? =some n∧x= .str n:=by
        rw [List.getElem?_map] at hx
        cases e:(xR tb (xu tb i))[j]? with
        | none=>rw [e] at hx;cases hx
        | some m=>rw [e] at hx;exact⟨m,rfl,(Option.some.inj hx).symm⟩
       apply Y
       have hle:(lkD (((xR tb (xu tb i)).take j).foldl qFc (xu tb i))).length < sizeLine:=by
        unfold lkD
        rw [List.length_map]
        have h1:=qGj (fs:=(xR tb (xu tb i)).take j) (L:=xu tb i)
        have h2:=lowl i
        rw [List.length_take] at h1
        exact qS (by omega)
       refine⟨_,rfl,_,rfl,lo,_,rfl,DPut.k (k:=Sum.inr n) hl5 hle,_,rfl,e5.trans jT,?_⟩
       rw [qB,qNi,List.take_add_one,hn,List.foldl_append]
       rfl
     · rintro σ H5 ⟨o3,rfl,e5,hl5⟩
       rw [List.length_map,List.take_length] at hl5
       refine⟨_,_,_,rfl,fun b u hb=>?_,hl5⟩
       have nb:b≠lo:=qH hb hlo
       rcases f4 b u hb with q | ⟨k',o',q1,q2⟩
       · exact .inl (e5 _ _ nb q)
       · exact .inr ⟨k',o',q1,e5 _ _ nb q2⟩
 · rintro σ H1 ⟨o1,o2,o3,rfl,f1,hl1⟩
   refine⟨_,rfl,lo,_,rfl,.inl hl1,_,rfl,td,_,rfl,f1.rd hrd,_,_,rfl,rfl,_,rfl,?_⟩
   have el:(lkD (xu tb 6)).length=(xu tb 6).length:=by unfold lkD;rw [List.length_map]
   rw [el,hkl]
   by_cases hd:tb.length≤(xu tb 6).length
   · rw [decide_eq_false (by omega)]
     exact qd (kk (decide_eq_true hd) H1 f1)
   · rw [decide_eq_true (by omega)]
     exact qz ⟨one,kb (decide_eq_false hd) H1 f1⟩
def pcB (o:Option Int):Bool:=match o with
 | some i=>decide (1≤i) && decide (i≤1000000000)
 | none=>false
inductive xj (vs:List V)(H:Hp)(Q:VK)(_:XK):Prop
| mk (v:V) (o:Option Int) (_:vs=[v]) (_:Nu H v o) (_:Q (.bl (pcB o)) H)
theorem xp (T:Tx K mg a):FnOk P w K mg base CX0 2 a.A37 a.B37 ["thing"] xj:=by
 refine T.D37.F.ok xt (fun vs H Q E h=>?_) (fun cdv A outer s H vs Q E hr h=>?_)
 · obtain⟨v,o,rfl,_⟩:=h
   rfl
 refine qM fun _ Y=>?_
 obtain⟨v,o,rfl,hN,q⟩:=h
 apply Y
 refine⟨_,(qG (qU (xU (qL T.D0 (jK T) hr rfl (qA (pv 0) qD)) (xU (ja qCz (pv 0) qE (qW _)) (zQ (ja qJn (pv 0) (ju (v:=.int 1000000000) rfl T.g_MOST_PICTURES ⟨_,rfl⟩) (qW _))))))),?_⟩
 try dsimp only [jc,qk]
 cases hN with
 | no h=>exact⟨_,rfl,_,false,rfl,.no h,false,rfl,qd q⟩
 | int i=>
  refine⟨_,rfl,_,true,rfl,.int i,true,rfl,qz ⟨_,rfl,_,_,rfl,rfl,_,rfl,?_⟩⟩
  have q':Q (.bl (decide (1≤i) && decide (i≤1000000000))) H:=q
  by_cases h1:1≤i
  · rw [decide_eq_true h1,Bool.true_and] at q'
    rw [decide_eq_true (show i ≥ 1 from h1)]
    exact qz ⟨_,rfl,_,_,rfl,rfl,q'⟩
  · rw [decide_eq_false h1,Bool.false_and] at q'
    rw [decide_eq_false (show ¬ i ≥ 1 from h1)]
    exact qd q'
def ReE (H:Hp)(p:Key × V)(b:Bool):Prop:=∃ (n:Str) (v:V) (o:Option Int),p=(Sum.inr n,v)∧n.length≤1000∧Nu H v o∧b=(jm n && pcB o)
inductive RsB (H:Hp)(ar:List (Key × V)):Bool→Prop where
 | good (h:∀ p∈ar,ReE H p true):RsB H ar true
 | bad {i:Nat} {p:Key × V} (h:∀ j q,j < i→ar[j]? =some q→ReE H q true) (hi:ar[i]? =some p) (hb:ReE H p false):RsB H ar false
inductive qAf (N:Addr)(vs:List V)(H:Hp)(Q:VK)(E:XK):Prop
| mk (rd:Addr) (ar:List (Key × V)) (b:Bool) (_:vs=[.ref rd]) (_:Rd H rd (.dK ar)) (_:(∀ H',FL H H'→RsB H' ar b)) (_:(b=true→∀ H',FL H H'→Q .non H')) (_:(b=false→∀ H',FL H H'→E (.ref N) none H'))
theorem wy (T:Tx K mg a):FnOk P w K mg base (CXR P w) 3 a.A38 a.B38 ["reels"] (qAf a.k_NoRoom):=by
 refine okX T.D38.F xg (fun vs H Q E h=>?_) (fun cdv A outer s H vs Q E hr h=>?_)
 · obtain⟨rd,ar,b,rfl,_⟩:=h
   rfl
 refine qM fun _ Y=>?_
 obtain⟨rd,ar,b,rfl,hrd,hok,kk,kb⟩:=h
 apply Y
 refine⟨_,(qG (jk (qHj rfl rfl rfl rfl) rfl (qBy (pv 0)) (qD0 rfl (jy (qq (i:=1) xg.nd rfl (Or.inl rfl)) (jy (qq (i:=2) xg.nd rfl (Or.inl rfl)) wj))) (qG (qh (PW.pt (jw (qr (qp (qL T.D10 (xT T) hr rfl (qA (pv 1) qD)))) (jU (qr (qp (qL T.D37 (xp T) hr rfl (qA (pv 2) qD))))))) (qG (jS rfl rfl T.c_NoRoom T.x_NoRoom (qA qI qD))) qR)))),?_⟩
 try dsimp only [jc,qk]
 have one:(1:Nat)≤sizeLine:=by decide
 refine⟨_,rfl,rd,ar,rfl,qHx hrd fun o H0 h0 s0 f0=>?_⟩
 have hok:=hok H0 f0
 have row:∀ (i:Nat) (k:Key) (v:V) (bb:Bool) (H':Hp) (p:Addr) (R:L2.St→Hp→Prop),Same H0 H'→H' p=none→ReE H0 (k,v) bb→∃ n,k=Sum.inr n∧∃ o',Nu H0 v o'∧n.length≤1000∧bb=(jm n && pcB o'):=fun i k v bb H' p R e hp h=>by
  obtain⟨n,v',o',e1,h1,h2,h3⟩:=h
  cases e1
  exact⟨n,rfl,o',h2,h1,h3⟩
 cases hok with
 | good h=>
  refine zn (d:=rd) (o:=o) (kvs:=ar) (fun i σ H'=>∃ (o1 o2:Option V),σ=[some (.ref rd),o1,o2]∧Same H0 H') ⟨none,none,rfl,Same.refl _⟩ ?_ ?_ ?_
  · rintro i σ H' hi ⟨o1,o2,rfl,e⟩
    exact e _ _ h0
  · rintro i k v σ H' p hkv ⟨o1,o2,rfl,e⟩ hp
    refine qM fun _ Y=>?_
    obtain⟨n,v',o',ekv,h1,h2,h3⟩:=h _ (List.mem_of_getElem? hkv)
    cases ekv
    apply Y
    have w1:=qC hp (.tup [kV (Sum.inr n),v])
    refine⟨p,_,rfl,SqT.of qB,rfl,_,_,rfl,_,_,rfl,rfl,?_⟩
    have hnm:=NmB.str (K:=K) (H:=upd H' p (.tup [kV (Sum.inr n),v])) n h1
    obtain⟨g1,g2⟩:jm n=true∧pcB o'=true:=by simpa using h3.symm
    rw [g1] at hnm
    refine⟨_,rfl,_,true,rfl,hnm,fun H2 e2=>⟨true,rfl,qd ⟨_,rfl,v,o',rfl,h2.same ((e.trans w1).trans e2),?_⟩⟩⟩
    rw [g2]
    exact⟨true,rfl,qd ⟨_,_,rfl,(e.trans w1).trans e2⟩⟩
  · rintro σ H' ⟨o1,o2,rfl,e⟩
    exact kk rfl H' (f0.trans (jn e))
 | @bad i0 p0 h hi hb=>
  refine zn (d:=rd) (o:=o) (kvs:=ar) (fun i σ H'=>∃ (o1 o2:Option V),σ=[some (.ref rd),o1,o2]∧Same H0 H'∧i≤i0) ⟨none,none,rfl,Same.refl _,Nat.zero_le _⟩ ?_ ?_ ?_
  · rintro i σ H' hi ⟨o1,o2,rfl,e,_⟩
    exact e _ _ h0
  · rintro i k v σ H' p hkv ⟨o1,o2,rfl,e,hle⟩ hp
    by_cases hii:i=i0
    · subst hii
      rw [hi] at hkv
      refine qM fun _ Y=>?_
      cases hkv
      obtain⟨n,v',o',ekv,h1,h2,h3⟩:=hb
      cases ekv
      apply Y
      have w1:=qC hp (.tup [kV (Sum.inr n),v])
      refine⟨p,_,rfl,SqT.of qB,rfl,_,_,rfl,_,_,rfl,rfl,?_⟩
      have hnm:=NmB.str (K:=K) (H:=upd H' p (.tup [kV (Sum.inr n),v])) n h1
      cases g1:jm n with
      | false=>
       rw [g1] at hnm
       exact⟨_,rfl,_,false,rfl,hnm,fun H2 e2=>⟨false,rfl,qz (qz ⟨one,kb rfl H2 (f0.trans (jn ((e.trans w1).trans e2)))⟩)⟩⟩
      | true=>
       rw [g1] at hnm
       have g2:pcB o'=false:=by rw [g1,Bool.true_and] at h3;exact h3.symm
       refine⟨_,rfl,_,true,rfl,hnm,fun H2 e2=>⟨true,rfl,qd ⟨_,rfl,v,o',rfl,h2.same ((e.trans w1).trans e2),?_⟩⟩⟩
       rw [g2]
       exact⟨false,rfl,qz ⟨one,kb rfl H2 (f0.trans (jn ((e.trans w1).trans e2)))⟩⟩
    · obtain⟨n,v',o',ekv,h1,h2,h3⟩:=h i _ (by omega) hkv
      cases ekv
      have w1:=qC hp (.tup [kV (Sum.inr n),v])
      refine⟨p,_,rfl,SqT.of qB,rfl,_,_,rfl,_,_,rfl,rfl,?_⟩
      have hnm:=NmB.str (K:=K) (H:=upd H' p (.tup [kV (Sum.inr n),v])) n h1
      obtain⟨g1,g2⟩:jm n=true∧pcB o'=true:=by simpa using h3.symm
      rw [g1] at hnm
      refine⟨_,rfl,_,true,rfl,hnm,fun H2 e2=>⟨true,rfl,qd ⟨_,rfl,v,o',rfl,h2.same ((e.trans w1).trans e2),?_⟩⟩⟩
      rw [g2]
      exact⟨true,rfl,qd ⟨_,_,rfl,(e.trans w1).trans e2,by omega⟩⟩
  · rintro σ H' ⟨o1,o2,rfl,e,hle⟩
    have:=(glt hi)
    omega
def TeE (K:W.Frag)(H:Hp)(re td:Addr)(p:Key × V)(b:Bool):Prop:=∃ (n:Str) (v:V),p=(Sum.inr n,v)∧n.length≤1000∧((jm n=false∧b=false)∨(jm n=true∧TbB K H re td v b))
theorem TbB.same {H H':Hp}{re td:Addr}{v:V}{b:Bool}(s:Same H H')(h:TbB K H re td v b):TbB K H' re td v b:=by
 cases h with
 | many e e1 h=>exact .many (s _ _ e) (s _ _ e1) h
 | bad e e1 h1 h8 h hi hb=>exact .bad (s _ _ e) (s _ _ e1) h1 h8 (fun j u hj hu=>(h j u hj hu).same s) hi (hb.same s)
 | tied e e1 h1 h8 h e2 hw hb=>exact .tied (s _ _ e) (s _ _ e1) h1 h8 (fun v hv=>(h v hv).same s) (s _ _ e2) (hw.same s) hb
inductive TsB (K:W.Frag)(H:Hp)(re td:Addr)(kvs:List (Key × V)):Bool→Prop where
 | bad {i:Nat} {p:Key × V} (h:∀ j q,j < i→kvs[j]? =some q→TeE K H re td q true) (hi:kvs[i]? =some p) (hb:TeE K H re td p false):TsB K H re td kvs false
 | deep {tb:List Tb} {b:Bool} (h:∀ q∈kvs,TeE K H re td q true) (hT:TbsAt H tb kvs) (nd:(tb.map (·.1)).Nodup) (l20:tb.length≤20) (sm:∀ t∈tb,Sml t.2.1) (hb:b=kM tb):TsB K H re td kvs b
inductive qBh (K:W.Frag)(N:Addr)(vs:List V)(H:Hp)(Q:VK)(E:XK):Prop
| mk (rz re td:Addr) (ar kvs:List (Key × V)) (b1 b2:Bool) (_:vs=[.ref rz]) (_:H rz=some (.tup [.ref re,.ref td])) (_:Rd H re (.dK ar)) (_:Rd H td (.dK kvs)) (_:(∀ H',FL H H'→RsB H' ar b1)) (_:(b1=true→∀ H',FL H H'→TsB K H' re td kvs b2)) (_:((b1 && b2)=true→∀ H',FL H H'→Q .non H')) (_:((b1 && b2)=false→∀ H',FL H H'→E (.ref N) none H'))
theorem kU (T:Tx K mg a):FnOk P w K mg base (CXR P w) 11 a.A47 a.B47 ["room"] (qBh K a.k_NoRoom):=by
 refine okX T.D47.F zC (fun vs H Q E h=>?_) (fun cdv A outer s H vs Q E hr h=>?_)
 · obtain⟨rz,re,td,ar,kvs,b1,b2,rfl,_⟩:=h
   rfl
 refine qM fun _ Y=>?_
 obtain⟨rz,re,td,ar,kvs,b1,b2,rfl,hz,hre,htd,h1,h2,kk,kb⟩:=h
 apply Y
 have hu1:=qBg hr
 have one:(1:Nat)≤sizeLine:=by decide
 refine⟨_,(qF (qh (PW.pt (jw (qr (qp (qV qj rfl T.b_isinstance rfl (qA (pv 0) (qA (zv rfl T.b_tuple rfl) qD))))) (jU (qQ kN (qV ql rfl T.b_len rfl (qA (pv 0) qD)) qE (qW _))))) (qG (jS rfl rfl T.c_NoRoom T.x_NoRoom (qA qI qD))) qR)
  (qF (qh (PW.pt (jw (qr (qp (qV wF rfl T.b_isinstance rfl (qA (qX (pv 0)) (qA (zv rfl T.b_dict rfl) qD))))) (jU (qr (qp (qV wF rfl T.b_isinstance rfl (qA (qX (pv 0)) (qA (zv rfl T.b_dict rfl) qD)))))))) (qG (jS rfl rfl T.c_NoRoom T.x_NoRoom (qA qI qD))) qR)
  (qF (qf (kn T.D38 (wy T) hr rfl (qA (qX (pv 0)) qD)))
  (qF (jk (qHj rfl rfl rfl rfl) rfl (qBy (qX (pv 0))) (qD0 rfl (jy (qq (i:=1) zC.nd rfl (Or.inl rfl)) (jy (qq (i:=2) zC.nd rfl (Or.inl rfl)) wj))) (qF (qh (qr (qp (qL T.D10 (xT T) hr rfl (qA (pv 1) qD)))) (qG (jS rfl rfl T.c_NoRoom T.x_NoRoom (qA qI qD))) qR)
  (qG (qf (kn T.D43 (qAh T) hr rfl (qA (pv 2) (qA (pv 0) qD)))))))
  (qG (qf (kn T.D46 (qAn T) hr rfl (qA (qX (pv 0)) qD)))))))),?_⟩
 try dsimp only [jc,qk]
 refine⟨_,rfl,_,_,_,true,rfl,.tup hz,⟨_,.inl ⟨rfl,by kernel_rfl⟩⟩,true,rfl,qd ?_⟩
 refine⟨_,rfl,_,_,rfl,.inr (SqT.of hz),rfl,_,rfl,qd ?_⟩
 refine(ixO hz at0 ⟨re,_,_,true,rfl,.inr ⟨_,hre,rfl⟩,rfl,true,rfl,qd ?_⟩)
 refine(ixO hz at1 ⟨td,_,_,true,rfl,.inr ⟨_,htd,rfl⟩,rfl,true,rfl,qd ?_⟩)
 refine(ixO hz at0 ⟨re,ar,b1,rfl,hre,h1,fun hb1 H1 f1=>?_,fun hb1 H1 f1=>kb (by rw [hb1];rfl) H1 f1⟩)
 subst hb1
 have h2:=h2 rfl
 rw [Bool.true_and] at kk kb
 have hz1:=f1.ts _ _ hz
 refine(ixO hz1 at1 ⟨td,_,rfl,qHx (f1.rd htd) fun o2 H2 g2 s2 f2=>?_⟩)
 have f12:=f1.trans f2
 have hz2:=f2.ts _ _ hz1
 have h2:=h2 H2 f12
 cases h2 with
 | @bad i0 p0 h hi hb=>
  refine zn (d:=td) (o:=o2) (kvs:=kvs) (fun i σ H'=>∃ (p1 p2:Option V),σ=[some (.ref rz),p1,p2]∧Same H2 H'∧i≤i0) ⟨none,none,rfl,Same.refl _,Nat.zero_le _⟩ ?_ ?_ ?_
  · rintro i σ H' hi ⟨p1,p2,rfl,e,_⟩
    exact e _ _ g2
  · rintro i k v σ H' p hkv ⟨p1,p2,rfl,e,hle⟩ hp
    by_cases hii:i=i0
    · subst hii
      rw [hi] at hkv
      refine qM fun _ Y=>?_
      cases hkv
      obtain⟨n,v',ekv,hl,h3⟩:=hb
      cases ekv
      apply Y
      have w1:=qC hp (.tup [kV (Sum.inr n),v])
      have e1:=e.trans w1
      refine⟨p,_,rfl,SqT.of qB,rfl,_,_,rfl,_,_,rfl,rfl,?_⟩
      have hnm:=NmB.str (K:=K) (H:=upd H' p (.tup [kV (Sum.inr n),v])) n hl
      rcases h3 with ⟨h3,_⟩ | ⟨h3,hTb⟩
      · rw [h3] at hnm
        exact⟨_,rfl,_,false,rfl,hnm,fun H3 e3=>⟨false,rfl,qz ⟨one,kb rfl H3 (f12.trans (jn (e1.trans e3)))⟩⟩⟩
      · rw [h3] at hnm
        refine⟨_,rfl,_,true,rfl,hnm,fun H3 e3=>⟨true,rfl,qd ?_⟩⟩
        have e13:=e1.trans e3
        exact⟨_,rfl,_,rfl,v,rz,re,td,false,rfl,e13 _ _ hz2,hTb.same e13,fun h=>(by cases h),fun _ H4 e4=>kb rfl H4 (f12.trans (jn (e13.trans e4)))⟩
    · obtain⟨n,v',ekv,hl,h3⟩:=h i _ (by omega) hkv
      cases ekv
      rcases h3 with ⟨_,h3⟩ | ⟨h3,hTb⟩
      · cases h3
      have w1:=qC hp (.tup [kV (Sum.inr n),v])
      have e1:=e.trans w1
      refine⟨p,_,rfl,SqT.of qB,rfl,_,_,rfl,_,_,rfl,rfl,?_⟩
      have hnm:=NmB.str (K:=K) (H:=upd H' p (.tup [kV (Sum.inr n),v])) n hl
      rw [h3] at hnm
      refine⟨_,rfl,_,true,rfl,hnm,fun H3 e3=>⟨true,rfl,qd ?_⟩⟩
      have e13:=e1.trans e3
      exact⟨_,rfl,_,rfl,v,rz,re,td,true,rfl,e13 _ _ hz2,hTb.same e13,fun _ H4 e4=>⟨_,_,rfl,e13.trans e4,by omega⟩,fun h=>(by cases h)⟩
  · rintro σ H' ⟨p1,p2,rfl,e,hle⟩
    have:=(glt hi)
    omega
 | @deep tb b2 h hT nd l20 sm hb=>
  refine zn (d:=td) (o:=o2) (kvs:=kvs) (fun i σ H'=>∃ (p1 p2:Option V),σ=[some (.ref rz),p1,p2]∧Same H2 H') ⟨none,none,rfl,Same.refl _⟩ ?_ ?_ ?_
  · rintro i σ H' hi ⟨p1,p2,rfl,e⟩
    exact e _ _ g2
  · rintro i k v σ H' p hkv ⟨p1,p2,rfl,e⟩ hp
    refine qM fun _ Y=>?_
    obtain⟨n,v',ekv,hl,h3⟩:=h _ (List.mem_of_getElem? hkv)
    cases ekv
    apply Y
    rcases h3 with ⟨_,h3⟩ | ⟨h3,hTb⟩
    · cases h3
    have w1:=qC hp (.tup [kV (Sum.inr n),v])
    have e1:=e.trans w1
    refine⟨p,_,rfl,SqT.of qB,rfl,_,_,rfl,_,_,rfl,rfl,?_⟩
    have hnm:=NmB.str (K:=K) (H:=upd H' p (.tup [kV (Sum.inr n),v])) n hl
    rw [h3] at hnm
    refine⟨_,rfl,_,true,rfl,hnm,fun H3 e3=>⟨true,rfl,qd ?_⟩⟩
    have e13:=e1.trans e3
    exact⟨_,rfl,_,rfl,v,rz,re,td,true,rfl,e13 _ _ hz2,hTb.same e13,fun _ H4 e4=>⟨_,_,rfl,e13.trans e4⟩,fun h=>(by cases h)⟩
  · rintro σ H' ⟨p1,p2,rfl,e⟩
    refine(ixO (e _ _ hz2) at1 ⟨td,kvs,tb,rfl,.inr ⟨_,e _ _ g2⟩,hT.same e,nd,l20,sm,fun hd H3 f3=>?_,fun hd H3 f3=>?_⟩)
    · exact kk (hb.trans hd) H3 ((f12.trans (jn e)).trans f3)
    · exact kb (hb.trans hd) H3 ((f12.trans (jn e)).trans f3)
def ImB (m:Im):Prop:=match m with
 | .clip _ p q r s _=>Bn 700 p q r s
 | _=>True
inductive qA3 (vs:List V)(H:Hp)(Q:VK)(_:XK):Prop
| mk (c n:Int) (_:vs=[.int c,.int n]) (_:0≤n) (_:n≤400) (_:∀ (z:Addr) (xs:List Int) (H':Hp),Same H H'→H z=none→H' z=some (.lst (xs.map V.int))→xs.length=n.toNat→(∀ x∈xs,0≤x∧x < 10000000019)→Q (.ref z) H')
theorem qAw (T:Tx K mg a):FnOk P w K mg base CX0 1 a.A49 a.B49 ["_law_cell","_law_size"] qA3:=by
 refine T.D49.F.ok qv (fun vs H Q E h=>?_) (fun cdv A outer s H vs Q E hr h=>?_)
 · obtain⟨c,n,rfl,_⟩:=h
   rfl
 refine qM fun _ Y=>?_
 obtain⟨c,n,rfl,n0,n1,kk⟩:=h
 apply Y
 refine⟨_,(qF (qg 2 qv.nd (qO qD))
  (qF (qh (qQ qCz (pv 0) (qN qC5 qE qE) (qW _)) (qF (qg 3 qv.nd (qN qY (pv 0) qE))
  (qF (jk PassesOwn.never rfl (xM rfl T.b_range (qA (pv 1) qD)) (qq (i:=4) qv.nd rfl (Or.inl rfl)) (qF (qf (j6 F.plainAttrs_list F.slot_list_append F.type_list_append qc (pv 2) (qA (qN qm (pv 3) qE) qD)))
  (qG (qg 3 qv.nd (qN qY (pv 3) qE)))))
  (qG (qU (qNb (pv 2)))))) qR)
  (qF (qg 5 qv.nd (qN qm (qN qy (qN jE (qN qm (pv 0) qE) qE) qE) qE))
  (qF (jk PassesOwn.never rfl (xM rfl T.b_range (qA (pv 1) qD)) (qq (i:=4) qv.nd rfl (Or.inl rfl)) (qF (qg 5 qv.nd (qN jE (qN jE (qN qm (qN qy (pv 5) (qN jE (qN qY (pv 5) qE) qE)) qE) (pv 4)) qE))
  (qG (qf (j6 F.plainAttrs_list F.slot_list_append F.type_list_append qc (pv 2) (qA (pv 5) qD))))))
  (qG (qU (pv 2))))))),?_⟩
 try dsimp only [jc,qk]
 refine⟨sL0,fun z hz=>?_⟩
 have wz:∀ (xs:List Int),Same H (upd H z (.lst (xs.map V.int))):=fun xs=>qC hz _
 refine⟨_,rfl,_,_,rfl,rfl,cpw (n:=40) (by decide),_,_,rfl,rfl,_,rfl,kD (fun _=>?_) (fun _=>?_)⟩
 · refine⟨_,rfl,_,_,rfl,rfl,cdB (by decide) (by decide),?_⟩
   refine⟨_,rfl,n,rfl,by omega,by omega,xm (n:=n.toNat) (fun i σ H'=>∃ (xs:List Int) (r:Int) (o p:Option V),σ=[some (.int c),some (.int n),some (.ref z),some (.int r),o,p]∧H'=upd H z (.lst (xs.map V.int))∧xs.length=i∧(∀ x∈xs,0≤x∧x < 10000000019))
    ⟨[],_,none,none,rfl,rfl,rfl,(by simp)⟩ ?_ ?_⟩
   · rintro i σ H' hi ⟨xs,r,o,p,rfl,rfl,hl,hx⟩
     have f:=fm r (show (0:Int) < 10000000019 by decide)
     refine⟨_,rfl,.inl ⟨rfl,_,SqL.of qB⟩,_,rfl,_,_,rfl,rfl,nz,z,_,_,rfl,rfl,qB,(by rw [List.length_map];exact qS (by omega)),?_⟩
     refine⟨_,rfl,_,_,rfl,rfl,cdB (by decide) (by decide),xs++[r.fmod 10000000019],_,_,_,rfl,?_,?_,?_⟩
     · rw [qCq,List.map_append];rfl
     · rw [List.length_append,hl];rfl
     · intro y hy
       rcases List.mem_append.mp hy with hy | hy
       · exact hx y hy
       · have e:y=r.fmod 10000000019:=by simpa using hy
         rw [e];exact f
   · rintro σ H' ⟨xs,r,o,p,rfl,rfl,hl,hx⟩
     refine⟨_,rfl,z,_,rfl,SqL.of qB,fun y hy=>?_⟩
     rw [← List.map_reverse]
     exact kk y xs.reverse _ ((wz xs).trans (qC hy _)) ((wz xs).free hy) qB (by rw [List.length_reverse];exact hl) (fun x hx'=>hx x (List.mem_reverse.mp hx'))
 · have f0:=fm c (show (0:Int) < 2147483647 by decide)
   refine⟨_,rfl,_,_,rfl,rfl,nz,_,_,rfl,rfl,_,_,rfl,rfl,cmR (by decide) (by decide),_,_,rfl,rfl,nz,?_⟩
   have f1:=fm ((c.fmod 2147483647+1)*48271) (show (0:Int) < 2147483647 by decide)
   refine⟨_,rfl,n,rfl,by omega,by omega,xm (n:=n.toNat) (fun i σ H'=>∃ (xs:List Int) (r:Int) (o p:Option V),σ=[some (.int c),some (.int n),some (.ref z),o,p,some (.int r)]∧H'=upd H z (.lst (xs.map V.int))∧xs.length=i∧(∀ x∈xs,0≤x∧x < 10000000019)∧0≤r∧r < 2147484647)
    ⟨[],_,none,none,rfl,rfl,rfl,(by simp),f1.1,by omega⟩ ?_ ?_⟩
   · rintro i σ H' hi ⟨xs,r,o,p,rfl,rfl,hl,hx,r0,r1⟩
     have f:=fm (r*(r.fdiv 1009+69621)) (show (0:Int) < 2147483647 by decide)
     refine⟨_,rfl,_,rfl,_,_,rfl,rfl,cdB (by decide) (by decide),_,_,rfl,rfl,_,_,rfl,rfl,cmL (by omega) (by omega),_,_,rfl,rfl,nz,_,rfl,_,_,rfl,rfl,_,_,rfl,rfl,?_⟩
     refine⟨_,rfl,.inl ⟨rfl,_,SqL.of qB⟩,_,rfl,z,_,_,rfl,rfl,qB,(by rw [List.length_map];exact qS (by omega)),?_⟩
     refine⟨xs++[(r*(r.fdiv 1009+69621)).fmod 2147483647+(0+(i:Int))+1],_,_,_,rfl,?_,?_,?_,by omega,by omega⟩
     · rw [qCq,List.map_append];rfl
     · rw [List.length_append,hl];rfl
     · intro y hy
       rcases List.mem_append.mp hy with hy | hy
       · exact hx y hy
       · have e:y=(r*(r.fdiv 1009+69621)).fmod 2147483647+(0+(i:Int))+1:=by simpa using hy
         rw [e];omega
   · rintro σ H' ⟨xs,r,o,p,rfl,rfl,hl,hx,_,_⟩
     exact⟨_,rfl,kk z xs _ (wz xs) hz qB hl hx⟩
inductive qA9 (vs:List V)(H:Hp)(Q:VK)(_:XK):Prop
| mk (t b:Int) (_:vs=[.int t,.int b]) (_:0 < b) (_:b.natAbs < 2 ^ 8000) (_:qJp H Q (jf t b) (jP t b))
theorem kP (T:Tx K mg a):FnOk P w K mg base CX0 1 a.A50 a.B50 ["_law_top","_law_bottom"] qA9:=by
 refine T.D50.F.ok j5 (fun vs H Q E h=>?_) (fun cdv A outer s H vs Q E hr h=>?_)
 · obtain⟨t,b,rfl,_⟩:=h
   rfl
 refine qM fun _ Y=>?_
 obtain⟨t,b,rfl,hb,hb2,k⟩:=h
 apply Y
 refine⟨_,(qF (qg 2 j5.nd (qV qB9 rfl T.b_abs rfl (qA (pv 0) qD)))
  (qF (qg 3 j5.nd (pv 1))
  (qF (qF6 PassesOwn.never (qQ kN (pv 3) qE (qW _)) (qG (qNu (i:=2) (j:=3) rfl j5.nd rfl rfl (by decide) rfl rfl (qA (pv 3) (qA (qN qm (pv 2) (pv 3)) qD)) rfl)))
  (qG (qU (qK (qA (qN qY (pv 0) (pv 2)) (qA (qN qY (pv 1) (pv 2)) qD)))))))),?_⟩
 try dsimp only [jc,qk]
 refine⟨_,rfl,t,rfl,_,rfl,?_⟩
 refine qGn (fun σ H'=>H'=H∧∃ x y:Int,σ=[some (.int t),some (.int b),some (.int x),some (.int y)]∧0≤x∧0≤y∧Int.gcd x y=Int.gcd t b)
  (fun σ _=>match σ with | [_,_,_,some (.int y)]=>y.natAbs | _=>0) ⟨rfl,_,_,rfl,?_,by omega,?_⟩ ?_ ?_
 · split <;> omega
 · have e1:(if t < 0 then -t else t)=((t.natAbs:Nat):Int):=by split <;> omega
   rw [e1]
   rfl
 · rintro σ H1 ⟨rfl,x,y,rfl,h0,h1,e⟩
   refine⟨_,rfl,rfl,_,rfl,?_⟩
   refine kD (fun c=>?_) (fun c=>?_)
   · have hy:y≠0:=by simpa using c
     refine⟨_,rfl,_,rfl,_,rfl,_,_,rfl,rfl,hy,_,_,rfl,⟨rfl,y,x.fmod y,rfl,h1,Int.fmod_nonneg_of_pos x (by omega),?_⟩,?_⟩
     · rw [qGa];exact e
     · exact qHu x y hy
   · have hy:y=0:=by simpa using c
     refine qM fun _ Y=>?_
     subst hy
     have e2:x=sg t b:=by
      unfold sg
      rw [if_neg (by omega),← e,Int.gcd_zero_right]
      omega
     obtain⟨d1,d2⟩:=qGt (t:=t) (b:=b) (by omega) hb2
     apply Y
     have q':qJp H1 Q (t.fdiv x) (b.fdiv x):=by rw [e2];exact k
     exact⟨_,rfl,_,rfl,_,_,rfl,rfl,(by rw [e2];exact d1),_,rfl,_,rfl,_,_,rfl,rfl,(by rw [e2];exact d2),sL2,q'⟩
 · rintro σ H1 Q1 Q2 hq h
   refine qM fun _ Y=>?_
   obtain⟨v,e,s,k,hk,z⟩:=h
   apply Y
   exact⟨v,e,s,k,hk,hq _ _ z⟩
theorem qI8 {H:Hp}{zx:Addr}{ys:List Int}{x:Int}{Q:VK}(h:H zx=some (.lst ((ys++[x]).map V.int)))(q:∀ H',SB zx H H'→H' zx=some (.lst (ys.map V.int))→(∀ b,b≠zx→H' b=H b)→Q (.int x) H'):qP4 (.ref zx) [] H Q:=by
 refine⟨zx,_,.int x,rfl,rfl,h,?_,?_⟩
 · rw [List.map_append,List.length_append,List.length_map]
   simp
 · have e:((ys++[x]).map V.int).dropLast=ys.map V.int:=by rw [List.map_append];simp
   rw [e]
   exact q _ jT qB fun b hb=>qZ hb
theorem zc {α:Type}{xs:List α}{n:Nat}(h:xs.length=n+1):∃ ys x,xs=ys++[x]∧ys.length=n:=by
 have hne:xs≠[]:=by intro q;rw [q] at h;simp at h
 exact⟨xs.dropLast,xs.getLast hne,(List.dropLast_concat_getLast hne).symm,by rw [List.length_dropLast,h];rfl⟩
def RE (H:Hp)(re:Addr)(A:Int):Prop:=Rd H re (.dK [(Sum.inr "a",.int A),(Sum.inr "reelb",.int 1000000000)])∧60≤A∧A < 360
theorem qP0 {z:Addr}{H H':Hp}(e:SB z H H'){a:Addr}{u:HO}(n:a≠z)(h:Rd H a u):Rd H' a u:=by
 rcases h with h | ⟨o,h⟩
 · exact .inl (e _ _ n h)
 · exact .inr ⟨o,e _ _ n h⟩
theorem RE.ne {H:Hp}{re z:Addr}{A:Int}{xs:List V}(h:RE H re A)(hz:H z=some (.lst xs)):re≠z:=by
 rcases h.1 with q | ⟨o,q⟩
 · exact zG q hz (by intro q;cases q)
 · exact zG q hz (by intro q;cases q)
theorem RE.sb {z:Addr}{H H':Hp}(e:SB z H H'){re:Addr}{A:Int}(n:re≠z)(h:RE H re A):RE H' re A:=⟨qP0 e n h.1,h.2⟩
theorem RE.same {H H':Hp}(e:Same H H'){re:Addr}{A:Int}(h:RE H re A):RE H' re A:=⟨zy e h.1,h.2⟩
theorem RE.ga {H:Hp}{re:Addr}{A:Int}(h:RE H re A):DGet H re (.str "a") (some (.int A)):=.inl ⟨_,Sum.inr "a",h.1,rfl,rfl⟩
theorem RE.gb {H:Hp}{re:Addr}{A:Int}(h:RE H re A):DGet H re (.str "reelb") (some (.int 1000000000)):=.inl ⟨_,Sum.inr "reelb",h.1,rfl,rfl⟩
def stF (lo rs to bo len:Int):Int:=if to < 0 then lo*7*bo+rs*bo - 7*(len - 1)*to else lo*7*bo+rs*bo
def wE (i:Int):Int:=if i < 0 then -i else i
def CF (A:Int)(m:Im):Prop:=∃ (nm:Str) (N lo rs to bo len:Int),((nm="a"∧N=A)∨(nm="reelb"∧N=1000000000))∧1≤len∧len≤10∧-6≤to∧to≤6∧1≤bo∧bo≤5∧0≤lo∧lo+(((len - 1)*wE to).fdiv bo+1) < N∧0≤rs∧rs < 7∧
 m= .clip nm (jf (stF lo rs to bo len) (7*bo)) (jP (stF lo rs to bo len) (7*bo)) (jf to bo) (jP to bo) len
theorem qGe {x y X Y:Int}(hx:-X≤x∧x≤X)(hy:-Y≤y∧y≤Y)(hX:0≤X)(hY:0≤Y):-(X*Y)≤x*y∧x*y≤X*Y:=by
 have h1:(x*y).natAbs≤X.natAbs*Y.natAbs:=by
  rw [Int.natAbs_mul]
  exact Nat.mul_le_mul (by omega) (by omega)
 have h2:((X.natAbs*Y.natAbs:Nat):Int)=X*Y:=by
  rw [Int.natCast_mul]
  have e1:(X.natAbs:Int)=X:=by omega
  have e2:(Y.natAbs:Int)=Y:=by omega
  rw [e1,e2]
 omega
theorem qM0 {lo rs to bo len:Int}(l0:0≤lo)(l1:lo≤1000000000)(r0:0≤rs)(r1:rs < 7)(t0:-6≤to)(t1:to≤6)(b0:1≤bo)(b1:bo≤5)(n0:1≤len)(n1:len≤10):(stF lo rs to bo len).natAbs < 2 ^ 60:=by
 have h1:=qGe (x:=lo*7) (y:=bo) (X:=7000000000) (Y:=5) ⟨by omega,by omega⟩ ⟨by omega,by omega⟩ (by decide) (by decide)
 have h2:=qGe (x:=rs) (y:=bo) (X:=7) (Y:=5) ⟨by omega,by omega⟩ ⟨by omega,by omega⟩ (by decide) (by decide)
 have h3:=qGe (x:=7*(len - 1)) (y:=to) (X:=63) (Y:=6) ⟨by omega,by omega⟩ ⟨by omega,by omega⟩ (by decide) (by decide)
 unfold stF
 split <;> omega
def rlE (A:Int):Rls:=fun n=>if n="a" then some A else if n="reelb" then some 1000000000 else none
theorem CF.it {A:Int}{m:Im}(h:CF A m)(hA0:60≤A)(hA:A < 360):ItR (rlE A) m∧ImB m∧1≤m.mo∧m.mo≤10:=by
 obtain⟨nm,N,lo,rs,to,bo,len,hn,n0,n1,t0,t1,b0,b1,l0,l1,r0,r1,rfl⟩:=h
 have hf:0≤((len - 1)*wE to).fdiv bo:=by
  have:=jI (p:=(len - 1)*wE to) (q:=bo) (by omega)
  have h0:0≤(len - 1)*wE to:=Int.mul_nonneg (by omega) (by unfold wE;split <;> omega)
  have:¬ (((len - 1)*wE to).fdiv bo+1≤0):=fun q=>by
   have:=Int.mul_le_mul_of_nonneg_right (c:=bo) q (by omega)
   omega
  omega
 have lo1:lo≤1000000000:=by rcases hn with ⟨_,rfl⟩ | ⟨_,rfl⟩ <;> omega
 have hs:=qM0 l0 lo1 r0 r1 t0 t1 b0 b1 n0 n1
 have p110:∀ {i:Int},i.natAbs < 2 ^ 60→i.natAbs < 2 ^ 110:=fun h=>Nat.lt_of_lt_of_le h (Nat.pow_le_pow_right (by decide) (by decide))
 have e60:(100:Nat) < 2 ^ 60:=by decide
 have g1:qJ5 110 (jf (stF lo rs to bo len) (7*bo)) (jP (stF lo rs to bo len) (7*bo)):=qGx (by omega) (p110 hs) (p110 (by omega))
 have g2:qJ5 110 (jf to bo) (jP to bo):=qGx (by omega) (p110 (by omega)) (p110 (by omega))
 have hr:rlE A nm=some N:=by
  unfold rlE
  rcases hn with ⟨rfl,rfl⟩ | ⟨rfl,rfl⟩
  · rw [if_pos rfl]
  · rw [if_neg (by decide+kernel),if_pos rfl]
 have hc:Rc nm (jf (stF lo rs to bo len) (7*bo)) (jP (stF lo rs to bo len) (7*bo)) (jf to bo) (jP to bo) len (rlE A) N:=⟨g1,g2,Nat.lt_of_le_of_lt (show len.natAbs≤10 by omega) (by decide),n0,hr,Nat.lt_of_le_of_lt (show N.natAbs≤1000000000 by rcases hn with ⟨_,rfl⟩ | ⟨_,rfl⟩ <;> omega) (by decide)⟩
 refine⟨fun n p q r s l e=>?_,hc.bn.mono (m:=700),n0,n1⟩
 cases e
 exact⟨N,hc⟩
inductive qDj (vs:List V)(H:Hp)(Q:VK)(_:XK):Prop
| mk (zx re:Addr) (xs:List Int) (A sz:Int) (_:vs=[.ref zx,.ref re,.int sz]) (_:H zx=some (.lst (xs.map V.int))) (_:6≤xs.length) (_:RE H re A) (_:1≤sz) (_:sz≤10) (_:∀ (v:V) (m:Im) (xs':List Int) (H':Hp),SB zx H H'→H' zx=some (.lst (xs'.map V.int))→xs'.length+6=xs.length→CF A m→IsI H' m v→Q v H')
theorem zo (T:Tx K mg a):FnOk P w K mg base CX0 2 a.A51 a.B51 ["_law_xs","_law_reels_here","_law_size"] qDj:=by
 refine T.D51.F.ok qo (fun vs H Q E h=>?_) (fun cdv A outer s H vs Q E hr h=>?_)
 · obtain⟨zx,re,xs,A',sz,rfl,_⟩:=h
   rfl
 refine qM fun _ Y=>?_
 obtain⟨zx,re,xs,A',sz,rfl,hz,hl,hre,hs1,hs2,kk⟩:=h
 have hu:=hr.units
 have hu1:(A.deeper (PyProof.Rows.envOfC (Str.ofString "_law_clip") (qJ zB) s.heap.objs.size a.A51 cdv)).units+1 < cLine:=by omega
 obtain⟨n,hn⟩:∃ n,xs.length=n+6:=⟨xs.length - 6,by omega⟩
 obtain⟨y1,x1,rfl,l1⟩:=zc (n:=n+5) (by omega)
 obtain⟨y2,x2,rfl,l2⟩:=zc (n:=n+4) l1
 obtain⟨y3,x3,rfl,l3⟩:=zc (n:=n+3) l2
 obtain⟨y4,x4,rfl,l4⟩:=zc (n:=n+2) l3
 obtain⟨y5,x5,rfl,l5⟩:=zc (n:=n+1) l4
 obtain⟨y6,x6,rfl,l6⟩:=zc (n:=n) l5
 apply Y
 have nre:=hre.ne hz
 refine⟨_,(qF (qg 3 qo.nd (jr jL (qO (qA qI (qA qI qD))) (qN qm (qN qY (zP F.plainAttrs_list F.slot_list_pop F.type_list_pop zM (pv 0)) qE) qE) (fun _ _=>rfl)))
  (qF (qg 4 qo.nd (qN jE qE (qN qm (qN qY (zP F.plainAttrs_list F.slot_list_pop F.type_list_pop zM (pv 0)) qE) (pv 2))))
  (qF (qg 5 qo.nd (qN jZ (qN qm (qN qY (zP F.plainAttrs_list F.slot_list_pop F.type_list_pop zM (pv 0)) qE) qE) qE))
  (qF (qg 6 qo.nd (qN jE qE (qN qm (qN qY (zP F.plainAttrs_list F.slot_list_pop F.type_list_pop zM (pv 0)) qE) qE)))
  (qF (qg 7 qo.nd (qN jE (qN qY (qN qy (qN jZ (pv 4) qE) (qV qB9 rfl T.b_abs rfl (qA (pv 5) qD))) (pv 6)) qE))
  (qF (qF3 (qh (qQ qCz (pv 7) (kq hu1 (pv 1) (pv 3) (fun _ _=>rfl)) (qW _)) (qF (qg 5 qo.nd qE)
  (qG (qg 7 qo.nd qE))) qR))
  (qF (qg 8 qo.nd (qN qm (zP F.plainAttrs_list F.slot_list_pop F.type_list_pop zM (pv 0)) (qN jZ (kq hu1 (pv 1) (pv 3) (fun _ _=>rfl)) (pv 7))))
  (qF (qg 9 qo.nd (qN qm (qN qY (zP F.plainAttrs_list F.slot_list_pop F.type_list_pop zM (pv 0)) qE) qE))
  (qF (qg 10 qo.nd (qN jE (qN qy (qN qy (pv 8) qE) (pv 6)) (qN qy (pv 9) (pv 6))))
  (qF (qF3 (qh (qQ wv (pv 5) qE (qW _)) (qG (qg 10 qo.nd (qN jZ (pv 10) (qN qy (qN qy qE (qN jZ (pv 4) qE)) (pv 5))))) qR))
  (qG (qU (qK (qA qI (qA (pv 3) (qA (qL T.D50 (kP T) hr rfl (qA (pv 10) (qA (qN qy qE (pv 6)) qD))) (qA (qL T.D50 (kP T) hr rfl (qA (pv 5) (qA (pv 6) qD))) (qA (pv 4) qD)))))))))))))))))),?_⟩
 try dsimp only [jc,qk]
 refine⟨sL2,fun ld hld=>?_⟩
 have w0:=qC hld (.lst [.str "a",.str "reelb"])
 have hz0:=w0 _ _ hz
 have nld:ld≠zx:=(qH hz hld).symm
 refine⟨_,rfl,.inl ⟨rfl,_,SqL.of hz0⟩,qI8 hz0 fun H1 s1 hz1 k1=>?_⟩
 have f1:=fm (x1.fdiv 3) (show (0:Int) < 2 by decide)
 refine qM fun _ Y=>?_
 obtain⟨v,hv,hor⟩:=at2 (x:=V.str "a") (y:=.str "reelb") f1.1 f1.2
 apply Y
 refine⟨_,_,rfl,rfl,cdB (by decide) (by decide),_,_,rfl,rfl,nz,ld,_,_,v,rfl,rfl,SqL.of (s1 _ _ nld qB),hv,?_⟩
 have sb1:SB zx H H1:=(jW w0).trans s1
 have re1:=hre.sb sb1 nre
 refine qM fun _ Y=>?_
 obtain⟨nm,N,rfl,hnm,hget⟩:∃ (nm:Str) (N:Int),v= .str nm∧((nm="a"∧N=A')∨(nm="reelb"∧N=1000000000))∧∀ {H':Hp},RE H' re A'→DGet H' re (.str nm) (some (.int N)):=by
  rcases hor with rfl | rfl
  · exact⟨"a",A',rfl,.inl ⟨rfl,rfl⟩,fun h=>h.ga⟩
  · exact⟨"reelb",1000000000,rfl,.inr ⟨rfl,rfl⟩,fun h=>h.gb⟩
 apply Y
 have hN:60≤N∧N≤1000000000:=by
  have:=hre.2
  rcases hnm with ⟨_,rfl⟩ | ⟨_,rfl⟩ <;> omega
 refine⟨_,rfl,.inl ⟨rfl,_,SqL.of hz1⟩,qI8 hz1 fun H2 s2 hz2 k2=>?_⟩
 have f2:=fm (x2.fdiv 3) (show (0:Int) < sz by omega)
 refine⟨_,_,rfl,rfl,cdB (by decide) (by decide),_,rfl,_,_,rfl,rfl,(by omega),_,_,rfl,rfl,?_⟩
 refine⟨_,rfl,.inl ⟨rfl,_,SqL.of hz2⟩,qI8 hz2 fun H3 s3 hz3 k3=>?_⟩
 have f3:=fm (x3.fdiv 3) (show (0:Int) < 13 by decide)
 refine⟨_,_,rfl,rfl,cdB (by decide) (by decide),_,_,rfl,rfl,nz,_,_,rfl,rfl,?_⟩
 refine⟨_,rfl,.inl ⟨rfl,_,SqL.of hz3⟩,qI8 hz3 fun H4 s4 hz4 k4=>?_⟩
 have f4:=fm (x4.fdiv 3) (show (0:Int) < 5 by decide)
 refine⟨_,_,rfl,rfl,cdB (by decide) (by decide),_,_,rfl,rfl,nz,_,_,rfl,rfl,?_⟩
 have sb4:SB zx H H4:=((sb1.trans s2).trans s3).trans s4
 dsimp only
 generalize hlen:1+(x2.fdiv 3).fmod sz=len
 generalize hto:(x3.fdiv 3).fmod 13 - 6=to
 generalize hbo:1+(x4.fdiv 3).fmod 5=bo
 have n0:1≤len:=by omega
 have n1:len≤10:=by omega
 have t0:-6≤to:=by omega
 have t1:to≤6:=by omega
 have b0:1≤bo:=by omega
 have b1:bo≤5:=by omega
 refine⟨_,rfl,_,_,rfl,rfl,_,rfl,_,rfl,_,_,rfl,rfl,cmL (by omega) (by omega),_,rfl,_,_,rfl,rfl,cdB (by omega) (by omega),_,_,rfl,rfl,?_⟩
 have ha:(if to < 0 then -to else to)=wE to:=rfl
 rw [ha]
 have pos:∀ i:Int,0≤i→0≤((len - 1)*i).fdiv bo:=fun i hi=>by
  have h1:=jI (p:=(len - 1)*i) (q:=bo) (by omega)
  have h0:0≤(len - 1)*i:=Int.mul_nonneg (by omega) hi
  have:¬ (((len - 1)*i).fdiv bo+1≤0):=fun q=>by
   have:=Int.mul_le_mul_of_nonneg_right (c:=bo) q (by omega)
   omega
  omega
 have abs0:∀ i:Int,0≤wE i:=fun i=>by unfold wE;split <;> omega
 refine⟨fun σ' H'=>H'=H4∧∃ to:Int,σ'=[some (.ref zx),some (.ref re),some (.int sz),some (.str nm),some (.int len),some (.int to),some (.int bo),some (.int (((len - 1)*wE to).fdiv bo+1)),none,none,none]∧-6≤to∧to≤6∧((len - 1)*wE to).fdiv bo+1 < N,?_,?_⟩
 · refine⟨_,rfl,_,rfl,_,rfl,re,_,rfl,hget (hre.sb sb4 nre),_,_,rfl,rfl,_,rfl,kD (fun _=>?_) (fun c=>?_)⟩
   · have ez:((len - 1)*wE 0).fdiv bo+1=1:=by
      have:wE 0=0:=rfl
      rw [this,Int.mul_zero,Int.zero_fdiv];rfl
     refine⟨rfl,0,?_,by decide,by decide,by rw [ez];omega⟩
     rw [ez]
     rfl
   · exact⟨rfl,to,rfl,t0,t1,by simpa using c⟩
 rintro σ' H' ⟨rfl,to,rfl,t0,t1,hfar⟩
 have hf0:=pos (wE to) (abs0 to)
 refine⟨_,rfl,.inl ⟨rfl,_,SqL.of hz4⟩,qI8 hz4 fun H5 s5 hz5 k5=>?_⟩
 have sb5:=sb4.trans s5
 refine⟨_,rfl,_,rfl,re,_,rfl,hget (hre.sb sb5 nre),_,rfl,_,_,rfl,rfl,_,_,rfl,rfl,(by omega),?_⟩
 have f5:=fm x5 (show (0:Int) < N - (((len - 1)*wE to).fdiv bo+1) by omega)
 dsimp only
 generalize x5.fmod (N - (((len - 1)*wE to).fdiv bo+1))=lo at f5 ⊢
 refine⟨_,rfl,.inl ⟨rfl,_,SqL.of hz5⟩,qI8 hz5 fun H6 s6 hz6 k6=>?_⟩
 have sb6:=sb5.trans s6
 have f6:=fm (x6.fdiv 3) (show (0:Int) < 7 by decide)
 refine⟨_,_,rfl,rfl,cdB (by decide) (by decide),_,_,rfl,rfl,nz,?_⟩
 dsimp only
 generalize (x6.fdiv 3).fmod 7=rs at f6 ⊢
 have m1:=qGe (x:=lo*7) (y:=bo) (X:=7000000000) (Y:=5) ⟨by omega,by omega⟩ ⟨by omega,by omega⟩ (by decide) (by decide)
 refine⟨_,rfl,_,_,rfl,rfl,cmR (by decide) (by decide),_,rfl,_,_,rfl,rfl,cmR (by omega) (by omega),_,rfl,_,rfl,_,_,rfl,rfl,cmR (by omega) (by omega),_,_,rfl,rfl,?_⟩
 refine⟨fun σ' H'=>H'=H6∧∃ st:Int,σ'=[some (.ref zx),some (.ref re),some (.int sz),some (.str nm),some (.int len),some (.int to),some (.int bo),some (.int (((len - 1)*wE to).fdiv bo+1)),some (.int lo),some (.int rs),some (.int st)]∧st=stF lo rs to bo len,?_,?_⟩
 · refine⟨_,rfl,_,_,rfl,rfl,_,rfl,kD (fun c=>?_) (fun c=>?_)⟩
   · have c':to < 0:=by simpa using c
     refine⟨_,rfl,_,rfl,_,_,rfl,rfl,_,_,rfl,rfl,cmL (by decide) (by decide),_,rfl,_,_,rfl,rfl,cmR (by omega) (by omega),_,_,rfl,rfl,rfl,_,rfl,?_⟩
     unfold stF;rw [if_pos c']
   · have c':¬ to < 0:=by simpa using c
     refine⟨rfl,_,rfl,?_⟩
     unfold stF;rw [if_neg c']
 rintro σ' H' ⟨rfl,st,rfl,hst⟩
 refine⟨_,rfl,_,rfl,_,rfl,_,_,rfl,rfl,cmL (by decide) (by decide),st,7*bo,rfl,by omega,?_,fun p hp=>?_⟩
 · have:(7*bo).natAbs < 2 ^ 6:=by omega
   exact Nat.lt_of_lt_of_le this (Nat.pow_le_pow_right (by decide) (by decide))
 have w7:=qC hp (.tup [.int (jf st (7*bo)),.int (jP st (7*bo))])
 refine⟨_,rfl,_,rfl,to,bo,rfl,by omega,?_,fun q hq=>?_⟩
 · have:bo.natAbs < 2 ^ 6:=by omega
   exact Nat.lt_of_lt_of_le this (Nat.pow_le_pow_right (by decide) (by decide))
 have w8:=qC hq (.tup [.int (jf to bo),.int (jP to bo)])
 refine⟨_,rfl,sL5,fun u hu'=>?_⟩
 have w9:=qC hu' (.tup [.str "clip",.str nm,.ref p,.ref q,.int len])
 have w79:=(w7.trans w8).trans w9
 refine kk _ (.clip nm (jf st (7*bo)) (jP st (7*bo)) (jf to bo) (jP to bo) len) y6 _ (sb6.trans (jW w79)) (w79 _ _ hz6) (by simp) ?_ (isC qB (w9 _ _ (w8 _ _ qB)) (w9 _ _ qB))
 exact⟨nm,N,lo,rs,to,bo,len,hnm,n0,n1,t0,t1,b0,b1,f5.1,by omega,f6.1,f6.2,by rw [hst]⟩
def TI (A:Int)(m:Im):Prop:=(∃ l,m= .gap l∧1≤l∧l≤10)∨(∃ b l,m= .nest "low" b l∧0≤b∧b < 9∧1≤l∧l≤10)∨CF A m
def GG (ms:List Im):Prop:=∀ (i:Nat) (l l':Int),ms[i]? =some (.gap l)→ms[i+1]? =some (.gap l')→False
def qBk (ms:List Im):Prop:=∀ l,ms[ms.length - 1]?≠some (.gap l)
theorem qFj {ms:List Im}{m:Im}(h:GG ms)(hl:qBk ms∨∀ l,m≠ .gap l):GG (ms++[m]):=by
 intro i l l' h1 h2
 have hi:i+1 < (ms++[m]).length:=(glt h2)
 rw [List.length_append,List.length_singleton] at hi
 by_cases hc:i+1 < ms.length
 · rw [List.getElem?_append_left (by omega)] at h1
   rw [List.getElem?_append_left hc] at h2
   exact h i l l' h1 h2
 · have e:i+1=ms.length:=by omega
   rw [List.getElem?_append_left (by omega)] at h1
   rw [List.getElem?_append_right (by omega),e,Nat.sub_self] at h2
   have e2:m= .gap l':=by simpa using h2
   have e3:ms.length - 1=i:=by omega
   rcases hl with hl | hl
   · exact hl l (by rw [e3];exact h1)
   · exact hl l' e2
theorem qOt {ms:List Im}(h:GG ms):GG ms.dropLast:=by
 intro i l l' h1 h2
 have hi:=(glt h2)
 rw [List.length_dropLast] at hi
 rw [List.getElem?_dropLast,if_pos (by omega)] at h1 h2
 exact h i l l' h1 h2
theorem qN3 {ms:List Im}{l:Int}(h:GG ms)(hl:ms[ms.length - 1]? =some (.gap l)):qBk ms.dropLast:=by
 intro l' h1
 have hi:=(glt h1)
 rw [List.length_dropLast] at hi h1
 rw [List.getElem?_dropLast,if_pos (by omega)] at h1
 have e:ms.length - 1 - 1+1=ms.length - 1:=by omega
 exact h _ l' l h1 (by rw [e];exact hl)
theorem qCd {z y:Addr}{H H':Hp}{o:HO}(e:SB z H H')(h:H y=none):SB z H (upd H' y o):=fun b u n hb=>by
 rw [qZ (qH hb h)];exact e b u n hb
theorem qFe {H:Hp}{ms:List Im}{vs:List V}(h:IsIs H ms vs)(hne:ms≠[]):∃ v m,vs[vs.length - 1]? =some v∧ms[ms.length - 1]? =some m∧IsI H m v:=by
 have hl:0 < ms.length:=List.length_pos_iff.mpr hne
 have hi:vs.length - 1 < vs.length:=by rw [h.len];omega
 have ev:vs[vs.length - 1]? =some vs[vs.length - 1]:=List.getElem?_eq_getElem hi
 obtain⟨m,h1,h2⟩:=h.get ev
 refine⟨_,m,ev,?_,h2⟩
 rw [h.len] at h1
 exact h1
inductive qB2 (vs:List V)(H:Hp)(Q:VK)(_:XK):Prop
| mk (zx re:Addr) (xs:List Int) (A:Int) (_:vs=[.ref zx,.ref re,.int 10]) (_:H zx=some (.lst (xs.map V.int))) (_:36≤xs.length) (_:RE H re A) (_:∀ (y:Addr) (ms:List Im) (xs':List Int) (H':Hp),SB zx H H'→H y=none→H' zx=some (.lst (xs'.map V.int))→xs.length≤xs'.length+36→Tr H' y ms→ms.length≤5→(∀ m∈ms,TI A m)→GG ms→qBk ms→Q (.ref y) H')
theorem x9 (T:Tx K mg a):FnOk P w K mg base CX0 3 a.A52 a.B52 ["_law_xs","_law_reels_here","_law_size"] qB2:=by
 refine T.D52.F.ok xH (fun vs H Q E h=>?_) (fun cdv A outer s H vs Q E hr h=>?_)
 · obtain⟨zx,re,xs,A',rfl,_⟩:=h
   rfl
 refine qM fun _ Y=>?_
 obtain⟨zx,re,xs,A',rfl,hz,hl,hre,kk⟩:=h
 apply Y
 have hu:=hr.units
 have nre:=hre.ne hz
 refine⟨_,(qF (qg 3 xH.nd (qO qD))
  (qF (jk PassesOwn.never rfl (xM rfl T.b_range (qA (qN qm (qN qY (zP F.plainAttrs_list F.slot_list_pop F.type_list_pop zM (pv 0)) qE) qE) qD)) (qq (i:=4) xH.nd rfl (Or.inl rfl)) (qF (qg 5 xH.nd (qN qm (qN qY (zP F.plainAttrs_list F.slot_list_pop F.type_list_pop zM (pv 0)) qE) qE))
  (qG (qh (qKx (PW.pt (qDv (qQ xA (pv 5) qE (qW _)) (qCk (PW.pt (jw (qQ (qM4 hu) (pv 3) (qO qD) (qW _)) (jU (qQ kN (qX (jr jL (pv 3) (wP zO qE) (fun _ _=>rfl))) qI (qW _))))))))) (qG (qf (j6 F.plainAttrs_list F.slot_list_append F.type_list_append qc (pv 3) (qA (qK (qA qI (qA (qN jE qE (qN qm (qN qY (zP F.plainAttrs_list F.slot_list_pop F.type_list_pop zM (pv 0)) qE) (pv 2))) qD))) qD)))) (qG (qh (qQ xA (pv 5) qE (qW _)) (qG (qf (j6 F.plainAttrs_list F.slot_list_append F.type_list_append qc (pv 3) (qA (qK (qA qI (qA qI (qA (qN qm (qN qY (zP F.plainAttrs_list F.slot_list_pop F.type_list_pop zM (pv 0)) qE) qE) (qA (qN jE qE (qN qm (qN qY (zP F.plainAttrs_list F.slot_list_pop F.type_list_pop zM (pv 0)) qE) (pv 2))) qD))))) qD)))) (qG (qf (j6 F.plainAttrs_list F.slot_list_append F.type_list_append qc (pv 3) (qA (qL T.D51 (zo T) hr rfl (qA (pv 0) (qA (pv 1) (qA (pv 2) qD)))) qD))))))))))
  (qF (qh (qKx (PW.pt (qDv (qQ (qK0 hu) (pv 3) (qO qD) (qW _)) (qCk (qQ xA (qX (jr jL (pv 3) (wP zO qE) (fun _ _=>rfl))) qI (qW _)))))) (qG (qf (zP F.plainAttrs_list F.slot_list_pop F.type_list_pop zM (pv 3)))) qR)
  (qG (qU (pv 3)))))),?_⟩
 try dsimp only [jc,qk]
 refine⟨sL0,fun y hy=>?_⟩
 have w0:=qC hy (.lst [])
 have ny:y≠zx:=(qH hz hy).symm
 refine qM fun _ Y=>?_
 obtain⟨n,hn⟩:∃ n,xs.length=n+1:=⟨xs.length - 1,by omega⟩
 obtain⟨y1,x1,rfl,l1⟩:=zc hn
 apply Y
 refine⟨_,rfl,.inl ⟨rfl,_,SqL.of (w0 _ _ hz)⟩,qI8 (w0 _ _ hz) fun H1 s1 hz1 k1=>?_⟩
 have f1:=fm (x1.fdiv 3) (show (0:Int) < 6 by decide)
 refine⟨_,_,rfl,rfl,cdB (by decide) (by decide),_,_,rfl,rfl,nz,_,rfl,by omega,by omega,xm (n:=((x1.fdiv 3).fmod 6).toNat) (fun i σ H'=>∃ (o1 o2:Option V) (ms:List Im) (vs:List V) (xs':List Int),σ=[some (.ref zx),some (.ref re),some (.int 10),some (.ref y),o1,o2]∧H' zx=some (.lst (xs'.map V.int))∧n≤xs'.length+7*i∧H' y=some (.lst vs)∧IsIs H' ms vs∧ms.length≤i∧(∀ m∈ms,TI A' m)∧GG ms∧SB zx H H')
  ⟨none,none,[],[],y1,rfl,hz1,by omega,s1 _ _ ny qB,trivial,by simp,by simp,by intro i l l' h1;simp at h1,(jW w0).trans s1⟩ ?_ ?_⟩
 · rintro i σ H' hi ⟨o1,o2,ms,vs,xs',rfl,hzx,hxl,hv,hiv,hml,hti,hgg,sb⟩
   refine qM fun _ Y=>?_
   obtain⟨n',hn'⟩:∃ n,xs'.length=n+7:=⟨xs'.length - 7,by omega⟩
   obtain⟨u1,p1,rfl,lu1⟩:=zc (n:=n'+6) (by omega)
   apply Y
   have hvl:vs.length≤i:=by rw [hiv.len];exact hml
   refine⟨_,rfl,.inl ⟨rfl,_,SqL.of hzx⟩,qI8 hzx fun H2 s2 hz2 k2=>?_⟩
   have hiv2:=hiv.ts (s2.ts hzx)
   have hv2:=s2 _ _ ny hv
   have sb2:=sb.trans s2
   refine⟨_,_,rfl,rfl,cdB (by decide) (by decide),_,_,rfl,rfl,nz,?_⟩
   refine⟨fun b H'=>Same H2 H'∧(b=true→qBk ms),?_,?_⟩
   · refine⟨_,rfl,rfl,_,rfl,kD (fun _=>?_) (fun _=>⟨Same.refl _,by simp⟩)⟩
     refine⟨_,rfl,sL0,fun en hen=>qPl ⟨vs,(qC hen _) _ _ hv2,hiv2.ts (qi (qC hen _))⟩ qB ⟨_,rfl,?_⟩⟩
     have w3:=qC hen (.lst [])
     by_cases hne:ms=[]
     · have e:ms.isEmpty=true:=by rw [hne];rfl
       rw [e]
       exact qz ⟨w3,fun _ l h=>by rw [hne] at h;simp at h⟩
     · have e:ms.isEmpty=false:=by
        cases ms with
        | nil=>exact absurd rfl hne
        | cons=>rfl
       rw [e]
       refine qd ?_
       refine qM fun _ Y=>?_
       obtain⟨v,m,h1,h2,h4⟩:=qFe (hiv2.ts (qi w3)) hne
       obtain⟨zi,xi,rfl,hzi,h0,_⟩:=h4.opn
       apply Y
       refine⟨_,rfl,_,rfl,y,_,_,_,rfl,rfl,SqL.of (w3 _ _ hv2),qGl h1,zi,xi,_,_,rfl,rfl,SqT.of hzi,h0,rfl,_,rfl,w3,fun c l q=>?_⟩
       rw [h2] at q
       have q:m= .gap l:=Option.some.inj q
       subst q
       revert c
       show (!decide (V.str "gap"=V.str "gap"))=true→False
       simp
   rintro b H3 ⟨w3,hb⟩
   have hv3:=w3 _ _ hv2
   have hiv3:=hiv2.ts (qi w3)
   have hz3:=w3 _ _ hz2
   have sb3:=sb2.trans (jW w3)
   cases b with
   | true=>
    refine qz ?_
    refine qM fun _ Y=>?_
    obtain⟨u2,p2,rfl,lu2⟩:=zc (n:=n'+5) lu1
    apply Y
    refine⟨_,rfl,.inl ⟨rfl,_,SqL.of hv3⟩,_,rfl,.inl ⟨rfl,_,SqL.of hz3⟩,qI8 hz3 fun H4 s4 hz4 k4=>?_⟩
    have f2:=fm (p2.fdiv 3) (show (0:Int) < 10 by decide)
    refine⟨_,_,rfl,rfl,cdB (by decide) (by decide),_,rfl,_,_,rfl,rfl,nz,_,_,rfl,rfl,sL2,fun g hg=>?_⟩
    have w5:=qC hg (.tup [.str "gap",.int (1+(p2.fdiv 3).fmod 10)])
    have hv5:=w5 _ _ (s4 _ _ ny hv3)
    refine⟨y,_,_,rfl,rfl,hv5,qS (by omega),?_⟩
    refine⟨_,_,ms++[.gap (1+(p2.fdiv 3).fmod 10)],_,u2,rfl,?_,by omega,qB,(((hiv3.ts (s4.ts hz3)).ts (qi w5)).app (.one (isG qB))).ts (xV hv5),by simp;omega,?_,qFj hgg (.inl (hb rfl)),qCd ((sb3.trans s4).trans (jW w5)) hy⟩
    · rw [qZ ny.symm];exact w5 _ _ hz4
    · intro m hm
      rcases List.mem_append.mp hm with hm | hm
      · exact hti m hm
      · have:m= .gap (1+(p2.fdiv 3).fmod 10):=by simpa using hm
        exact .inl ⟨_,this,by omega,by omega⟩
   | false=>
    refine qd ?_
    refine⟨_,rfl,rfl,_,rfl,kD (fun _=>?_) (fun _=>?_)⟩
    · obtain⟨u2,p2,rfl,lu2⟩:=zc (n:=n'+5) lu1
      refine qM fun _ Y=>?_
      obtain⟨u3,p3,rfl,lu3⟩:=zc (n:=n'+4) lu2
      apply Y
      refine⟨_,rfl,.inl ⟨rfl,_,SqL.of hv3⟩,_,rfl,.inl ⟨rfl,_,SqL.of hz3⟩,qI8 hz3 fun H4 s4 hz4 k4=>?_⟩
      have f2:=fm (p2.fdiv 3) (show (0:Int) < 9 by decide)
      refine⟨_,_,rfl,rfl,cdB (by decide) (by decide),_,_,rfl,rfl,nz,_,rfl,.inl ⟨rfl,_,SqL.of hz4⟩,qI8 hz4 fun H5 s5 hz5 k5=>?_⟩
      have f3:=fm (p3.fdiv 3) (show (0:Int) < 10 by decide)
      refine⟨_,_,rfl,rfl,cdB (by decide) (by decide),_,rfl,_,_,rfl,rfl,nz,_,_,rfl,rfl,sL4,fun g hg=>?_⟩
      have w5:=qC hg (.tup [.str "nest",.str "low",.int ((p2.fdiv 3).fmod 9),.int (1+(p3.fdiv 3).fmod 10)])
      have hv5:=w5 _ _ (s5 _ _ ny (s4 _ _ ny hv3))
      refine⟨y,_,_,rfl,rfl,hv5,qS (by omega),?_⟩
      refine⟨_,_,ms++[.nest "low" ((p2.fdiv 3).fmod 9) (1+(p3.fdiv 3).fmod 10)],_,u3,rfl,?_,by omega,qB,((((hiv3.ts (s4.ts hz3)).ts (s5.ts hz4)).ts (qi w5)).app (.one (isN qB))).ts (xV hv5),by simp;omega,?_,qFj hgg (.inr fun l q=>nomatch q),qCd (((sb3.trans s4).trans s5).trans (jW w5)) hy⟩
      · rw [qZ ny.symm];exact w5 _ _ hz5
      · intro m hm
        rcases List.mem_append.mp hm with hm | hm
        · exact hti m hm
        · have:m= .nest "low" ((p2.fdiv 3).fmod 9) (1+(p3.fdiv 3).fmod 10):=by simpa using hm
          exact .inr (.inl ⟨_,_,this,by omega,by omega,by omega,by omega⟩)
    · refine⟨_,rfl,.inl ⟨rfl,_,SqL.of hv3⟩,_,rfl,_,rfl,_,rfl,zx,re,u1,A',10,rfl,hz3,by omega,hre.sb sb3 nre,by decide,by decide,fun v m u' H4 s4 hz4 hl4 hcf hI=>?_⟩
      have hv5:=s4 _ _ ny hv3
      refine⟨y,_,_,rfl,rfl,hv5,qS (by omega),?_⟩
      have hng:∀ l,m≠ .gap l:=fun l q=>by
       obtain⟨_,_,_,_,_,_,_,_,_,_,_,_,_,_,_,_,_,_,e⟩:=hcf
       rw [q] at e
       cases e
      refine⟨_,_,ms++[m],_,u',rfl,?_,by omega,qB,((hiv3.ts (s4.ts hz3)).app (.one hI)).ts (xV hv5),by simp;omega,?_,qFj hgg (.inr hng),qCd (sb3.trans s4) hy⟩
      · rw [qZ ny.symm];exact hz4
      · intro m' hm
        rcases List.mem_append.mp hm with hm | hm
        · exact hti m' hm
        · have:m'=m:=by simpa using hm
          rw [this];exact .inr (.inr hcf)
 rintro σ H' ⟨o1,o2,ms,vs,xs',rfl,hzx,hxl,hv,hiv,hml,hti,hgg,sb⟩
 have hm5:ms.length≤5:=by omega
 have hxl':(y1++[x1]).length≤xs'.length+36:=by rw [hn];omega
 refine⟨fun b H2=>Same H' H2∧(b=true→∃ l,ms[ms.length - 1]? =some (.gap l))∧(b=false→qBk ms),?_,?_⟩
 · refine⟨_,rfl,sL0,fun en hen=>qO8 ⟨vs,(qC hen _) _ _ hv,hiv.ts (qi (qC hen _))⟩ qB ⟨_,rfl,?_⟩⟩
   have w3:=qC hen (.lst [])
   by_cases hne:ms=[]
   · have e:ms.isEmpty=true:=by rw [hne];rfl
     rw [e]
     exact qd ⟨w3,by simp,fun _ l h=>by rw [hne] at h;simp at h⟩
   · have e:ms.isEmpty=false:=by
      cases ms with
      | nil=>exact absurd rfl hne
      | cons=>rfl
     rw [e]
     refine qz ?_
     refine qM fun _ Y=>?_
     obtain⟨v,m,h1,h2,h4⟩:=qFe (hiv.ts (qi w3)) hne
     obtain⟨zi,xi,rfl,hzi,h0,_⟩:=h4.opn
     apply Y
     refine⟨_,rfl,_,rfl,y,_,_,_,rfl,rfl,SqL.of (w3 _ _ hv),qGl h1,zi,xi,_,_,rfl,rfl,SqT.of hzi,h0,rfl,_,rfl,w3,fun c=>?_,fun c l q=>?_⟩
     · obtain⟨l,rfl⟩:=qFx (by simpa using c)
       exact⟨l,h2⟩
     · rw [h2] at q
       have q:m= .gap l:=Option.some.inj q
       subst q
       revert c
       show decide (V.str "gap"=V.str "gap")=false→False
       simp
 rintro b H2 ⟨w2,hb,hb'⟩
 have hv2:=w2 _ _ hv
 have hiv2:=hiv.ts (qi w2)
 cases b with
 | true=>
  refine qM fun _ Y=>?_
  obtain⟨l,hl2⟩:=hb rfl
  have hne:ms≠[]:=by intro q;rw [q] at hl2;simp at hl2
  obtain⟨v,m,h1,h2,h4⟩:=qFe hiv2 hne
  apply Y
  refine qz ⟨_,rfl,.inl ⟨rfl,_,SqL.of hv2⟩,y,_,v,rfl,rfl,hv2,h1,_,rfl,?_⟩
  refine kk y ms.dropLast xs' _ (qCd (sb.trans (jW w2)) hy) hy ?_ hxl' ⟨_,qB,hiv2.dl.ts (xV hv2)⟩ (by rw [List.length_dropLast];omega) (fun m hm=>hti m (List.dropLast_subset _ hm)) (qOt hgg) (qN3 hgg hl2)
  rw [qZ ny.symm];exact w2 _ _ hzx
 | false=>exact qd ⟨_,rfl,kk y ms xs' _ (sb.trans (jW w2)) hy (w2 _ _ hzx) hxl' ⟨_,hv2,hiv2⟩ hm5 hti hgg (hb' rfl)⟩
inductive qCb (vs:List V)(H:Hp)(Q:VK)(_:XK):Prop
| mk (c:Int) (_:vs=[.int c]) (_:∀ (re:Addr) (A:Int) (H':Hp),Same H H'→H re=none→H' re=some (.dK [(Sum.inr "a",.int A),(Sum.inr "reelb",.int 1000000000)])→60≤A→A < 360→Q (.ref re) H')
theorem qB8 (T:Tx K mg a):FnOk P w K mg base CX0 1 a.A53 a.B53 ["_law_cell"] qCb:=by
 refine T.D53.F.ok qCc (fun vs H Q E h=>?_) (fun cdv A outer s H vs Q E hr h=>?_)
 · obtain⟨c,rfl,_⟩:=h
   rfl
 refine qM fun _ Y=>?_
 obtain⟨c,rfl,kk⟩:=h
 apply Y
 refine⟨_,(qG (qU (qEy (kH qI (qN jE qE (qN qm (pv 0) qE)) (kH qI (qN qC5 qE qE) qFm)) rfl rfl (by simp) (by decide)))),?_⟩
 try dsimp only [jc,qk]
 refine fun re hre=>?_
 have f:=fm c (show (0:Int) < 300 by decide)
 refine⟨_,rfl,_,_,rfl,rfl,nz,_,_,rfl,rfl,_,_,rfl,rfl,cpw (n:=9) (by decide),?_⟩
 refine⟨qB,[(Sum.inr "a",.int (60+c.fmod 300)),(Sum.inr "reelb",.int (10 ^ (9:Int).toNat))],rfl,(by show 2≤15;decide),?_⟩
 rw [qCq]
 have em:∀ x y:V,wI [] [((Sum.inr ("a":Str):Key),x),(Sum.inr ("reelb":Str),y)]=[(Sum.inr ("a":Str),x),(Sum.inr ("reelb":Str),y)]:=fun x y=>by rfl
 rw [em]
 have e9:(10:Int) ^ (9:Int).toNat=1000000000:=by decide
 rw [e9]
 exact kk re _ _ (qC hre _) hre qB (by omega) (by omega)
def ren:Im→Im
 | .nest _ b l=>.nest "deep" b l
 | m=>m
theorem qK4 {ms:List Im}{i:Nat}{m:Im}(h:ms[i]? =some m):((ms.take i).map ren++ms.drop i).set i (ren m)=(ms.take (i+1)).map ren++ms.drop (i+1):=by
 have hi:i < ms.length:=(glt h)
 have hl:((ms.take i).map ren).length=i:=by rw [List.length_map,List.length_take];omega
 rw [xr h,List.take_add_one,h,List.set_append,if_neg (by omega),hl,Nat.sub_self]
 simp
theorem qIi {ms:List Im}{i:Nat}{m:Im}(h:ms[i]? =some m):((ms.take i).map ren++ms.drop i)[i]? =some m:=by
 have hi:i < ms.length:=(glt h)
 have hl:((ms.take i).map ren).length=i:=by rw [List.length_map,List.length_take];omega
 rw [xr h,List.getElem?_append_right (by omega),hl,Nat.sub_self]
 rfl
theorem qLt {ms:List Im}{i:Nat}(hi:i≤ms.length):((ms.take i).map ren++ms.drop i).length=ms.length:=by
 rw [List.length_append,List.length_map,List.length_take,List.length_drop];omega
theorem IsIs.put {H:Hp}:∀ {ms:List Im} {vs:List V} {i:Nat} {m:Im} {v:V},IsIs H ms vs→IsI H m v→IsIs H (ms.set i m) (vs.set i v)
 | [],[],_,_,_,_,_=>trivial
 | _::_,_::_,0,_,_,h,hI=>⟨hI,h.2⟩
 | _::_,_::_,i+1,_,_,h,hI=>⟨h.1,IsIs.put (i:=i) h.2 hI⟩
 | [],_::_,_,_,_,h,_=>h.elim
 | _::_,[],_,_,_,h,_=>h.elim
theorem jD {z:Addr}{H H1 H2:Hp}(e:Same H H1)(s:SB z H1 H2)(h:H z=none):Same H H2:=fun b u hb=>s b u (qH hb h) (e b u hb)
def TP (A:Int)(ms:List Im):Prop:=ms.length≤5∧(∀ m∈ms,TI A m)∧GG ms∧qBk ms
theorem TrsAt.sb {z:Addr}{H H':Hp}{xs:List V}(e:SB z H H')(h:H z=some (.lst xs)):∀ {ts:List (List Im)} {vs:List V},TrsAt H ts vs→(∀ v∈vs,v≠ .ref z)→TrsAt H' ts vs
 | [],[],_,_=>trivial
 | _::_,v::_,⟨⟨y,h1,h2⟩,r⟩,hn=>⟨⟨y,h1,h2.sb e (fun q=>hn v (by simp) (by rw [h1,q])) (e.ts h)⟩,TrsAt.sb e h r fun u hu=>hn u (by simp [hu])⟩
 | [],_::_,h,_=>h.elim
 | _::_,[],h,_=>h.elim
inductive qD2 (vs:List V)(H:Hp)(Q:VK)(_:XK):Prop
| mk (c t:Int) (_:vs=[.int c,.int t,.int 10]) (_:1≤t) (_:t≤3) (_:∀ (rz re td:Addr) (t1 t2 t3:V) (A:Int) (tops:List (List Im)) (l1 l2:List Im) (c1 c2:Im) (H':Hp),Same H H'→H' rz=some (.tup [.ref re,.ref td])→H' re=some (.dK [(Sum.inr "a",.int A),(Sum.inr "reelb",.int 1000000000)])→60≤A→A < 360→H' td=some (.dK [(Sum.inr "top",t1),(Sum.inr "low",t2),(Sum.inr "deep",t3)])→re≠td→H re=none→H td=none→TabF H' t1 tops []→TabF H' t2 [l1.map ren,l2.map ren] []→TabF H' t3 [[c1,.gap 3,c2]] []→tops.length=t.toNat→(∀ ms∈tops,TP A ms)→TP A l1→TP A l2→CF A c1→CF A c2→Q (.ref rz) H')
theorem qEq (T:Tx K mg a):FnOk P w K mg base CX0 5 a.A54 a.B54 ["_law_cell","_law_tracks","_law_size"] qD2:=by
 refine T.D54.F.ok jH (fun vs H Q E h=>?_) (fun cdv A outer s H vs Q E hr h=>?_)
 · obtain⟨c,t,rfl,_⟩:=h
   rfl
 refine qM fun _ Y=>?_
 obtain⟨c,t,rfl,t0,t1,kk⟩:=h
 apply Y
 refine⟨_,(qF (qF4 (i:=3) jH.nd rfl (Or.inr rfl) (qL T.D53 (qB8 T) hr rfl (qA (qN qY (pv 0) qE) qD)))
  (qF (qF4 (i:=4) jH.nd rfl (Or.inr rfl) (qL T.D49 (qAw T) hr rfl (qA (pv 0) (qA qE qD))))
  (qF (qg 5 jH.nd (qK (qA (qO (qA (qL T.D52 (x9 T) hr rfl (qA (pv 4) (qA (pv 3) (qA (pv 2) qD)))) (qA (qL T.D52 (x9 T) hr rfl (qA (pv 4) (qA (pv 3) (qA (pv 2) qD)))) qD))) (qA (qO qD) qD))))
  (qF (jk PassesOwn.never rfl (jp (qX (pv 5))) (qq (i:=6) jH.nd rfl (Or.inl rfl)) (qG (jk PassesOwn.never rfl (xM rfl T.b_range (qA (qV ql rfl T.b_len rfl (qA (pv 6) qD)) qD)) (qq (i:=7) jH.nd rfl (Or.inl rfl)) (qG (qh (qQ xA (qX (jr jL (pv 6) (pv 7) (fun _ _=>rfl))) qI (qW _)) (qG (qNs (qK (qA qI (qA qI (qA (qX (jr jL (pv 6) (pv 7) (fun _ _=>rfl))) (qA (qX (jr jL (pv 6) (pv 7) (fun _ _=>rfl))) qD))))) (qN9 (pv 6) (pv 7) qJz))) qR)))))
  (qF (qg 8 jH.nd (qK (qA (qO (qA (qO (qA (qL T.D51 (zo T) hr rfl (qA (pv 4) (qA (pv 3) (qA (pv 2) qD)))) (qA (qK (qA qI (qA qE qD))) (qA (qL T.D51 (zo T) hr rfl (qA (pv 4) (qA (pv 3) (qA (pv 2) qD)))) qD)))) qD)) (qA (qO qD) qD))))
  (qF (qg 9 jH.nd (qK (qA (vE ["_law_size","_law_reels_here","_law_xs"] [2,3,4] rfl (xM rfl T.b_range (qA (pv 1) qD)) (fun _ _ _ _=>(qL T.D52 (x9 T) hr rfl (qA (pv 3) (qA (pv 2) (qA (pv 1) qD)))))) (qA (qO qD) qD))))
  (qG (qU (qK (qA (pv 3) (qA (qEy (kH qI (pv 9) (kH qI (pv 5) (kH qI (pv 8) qFm))) rfl rfl (by simp) (by decide)) qD))))))))))),?_⟩
 try dsimp only [jc,qk]
 refine⟨_,rfl,_,_,rfl,rfl,cdB (by decide) (by decide),c.fdiv 7,rfl,fun re A' H1 e1 re0 hre a0 a1=>?_⟩
 refine⟨_,rfl,c,400,rfl,by decide,by decide,fun zx xs H2 e2 zx0 hzx hxl _=>?_⟩
 have hxl:xs.length=400:=hxl
 have zxH:H zx=none:=e1.free zx0
 have hre2:RE H2 re A':=⟨.inl (e2 _ _ hre),a0,a1⟩
 have nre:re≠zx:=qH hre zx0
 have e12:=e1.trans e2
 refine⟨_,rfl,_,rfl,_,rfl,zx,re,xs,A',rfl,hzx,by omega,hre2,fun y1 m1 xs1 H3 s3 y10 hz3 hl3 tr1 n1 ti1 gg1 ng1=>?_⟩
 have ny1:y1≠zx:=(qH hzx y10).symm
 refine⟨_,rfl,_,rfl,_,rfl,zx,re,xs1,A',rfl,hz3,by omega,hre2.sb s3 nre,fun y2 m2 xs2 H4 s4 y20 hz4 hl4 tr2 n2 ti2 gg2 ng2=>?_⟩
 have ny2:y2≠zx:=(qH hz3 y20).symm
 have n12:y2≠y1:=by obtain⟨_,q,_⟩:=tr1;exact(qH q y20).symm
 have tr1:=tr1.sb s4 ny1 (s4.ts hz3)
 have e4:Same H H4:=jD (jD e12 s3 zxH) s4 zxH
 have hre4:=(hre2.sb s3 nre).sb s4 nre
 refine⟨sL2,fun ll hll=>⟨sL0,fun lt hlt=>⟨sL2,fun lz hlz=>?_⟩⟩⟩
 have w5:=qC hll (.lst [.ref y1,.ref y2])
 have w6:=qC hlt (.lst [])
 have w7:=qC hlz (.tup [.ref ll,.ref lt])
 have w57:=(w5.trans w6).trans w7
 have hlz7:(upd (upd (upd H4 ll (.lst [.ref y1,.ref y2])) lt (.lst [])) lz (.tup [.ref ll,.ref lt])) lz=some (.tup [.ref ll,.ref lt]):=qB
 have hll7:(upd (upd (upd H4 ll (.lst [.ref y1,.ref y2])) lt (.lst [])) lz (.tup [.ref ll,.ref lt])) ll=some (.lst [.ref y1,.ref y2]):=w7 _ _ (w6 _ _ qB)
 have hlt7:(upd (upd (upd H4 ll (.lst [.ref y1,.ref y2])) lt (.lst [])) lz (.tup [.ref ll,.ref lt])) lt=some (.lst []):=w7 _ _ qB
 have nl1:ll≠y1:=by obtain⟨_,q,_⟩:=tr1;exact(qH q hll).symm
 have nl2:ll≠y2:=by obtain⟨_,q,_⟩:=tr2;exact(qH q hll).symm
 have nt1:lt≠y1:=by obtain⟨_,q,_⟩:=tr1;exact(qH (w5 _ _ q) hlt).symm
 have nt2:lt≠y2:=by obtain⟨_,q,_⟩:=tr2;exact(qH (w5 _ _ q) hlt).symm
 have nlz:ll≠zx:=(qH hz4 hll).symm
 have ntz:lt≠zx:=(qH (w5 _ _ hz4) hlt).symm
 have e7:=e4.trans w57
 have tr1:=tr1.same w57
 have tr2:=tr2.same w57
 have hz7:=w57 _ _ hz4
 have hre7:=hre4.same w57
 have y1H:H y1=none:=e12.free y10
 have y2H:H y2=none:=(jD e12 s3 zxH).free y20
 have hrd7:=w57 _ _ (s4 _ _ nre (s3 _ _ nre (e2 _ _ hre)))
 generalize upd (upd (upd H4 ll (.lst [.ref y1,.ref y2])) lt (.lst [])) lz (.tup [.ref ll,.ref lt])=H7 at hlz7 hll7 hlt7 e7 tr1 tr2 hz7 hre7 hrd7 ⊢
 refine qM fun _ Y=>?_
 obtain⟨v1,hy1,_⟩:=id tr1
 obtain⟨v2,hy2,_⟩:=id tr2
 apply Y
 refine⟨_,rfl,lz,_,_,_,rfl,rfl,SqT.of hlz7,at0,ll,rfl,⟨_,SqL.of hll7⟩,j0 (K:=K) (a:=ll) (xs:=[.ref y1,.ref y2]) (fun i σ H'=>∃ (o1 o2:Option V),σ=[some (.int c),some (.int t),some (.int 10),some (.ref re),some (.ref zx),some (.ref lz),o1,o2,none,none]∧Tr H' y1 (if i=0 then m1 else m1.map ren)∧Tr H' y2 (if i≤1 then m2 else m2.map ren)∧∀ b u,b≠y1→b≠y2→H7 b=some u→H' b=some u)
  ⟨none,none,rfl,tr1,tr2,fun _ _ _ _ h=>h⟩ ?_ ?_ ?_⟩
 · rintro i σ H' hi ⟨o1,o2,rfl,_,_,e⟩
   exact SqL.of (e _ _ nl1 nl2 hll7)
 · rintro i x σ H' hx ⟨o1,o2,rfl,h1,h2,e⟩
   refine qM fun _ Y=>?_
   obtain⟨y,ms,hxe,hT,hml,hfin⟩:∃ (y:Addr) (ms:List Im),x= .ref y∧Tr H' y ms∧ms.length≤5∧∀ H'',Tr H'' y (ms.map ren)→SB y H' H''→TS H' H''→Tr H'' y1 (if i+1=0 then m1 else m1.map ren)∧Tr H'' y2 (if i+1≤1 then m2 else m2.map ren)∧∀ b u,b≠y1→b≠y2→H7 b=some u→H'' b=some u:=by
    match i,hx with
    | 0,hx=>
     have hx:V.ref y1=x:=by simpa using hx
     refine⟨y1,m1,hx.symm,h1,n1,fun H'' q1 q2 q3=>⟨q1,h2.sb q2 n12 q3,fun b u b1 b2 hb=>q2 _ _ b1 (e _ _ b1 b2 hb)⟩⟩
    | 1,hx=>
     have hx:V.ref y2=x:=by simpa using hx
     refine⟨y2,m2,hx.symm,h2,n2,fun H'' q1 q2 q3=>⟨h1.sb q2 n12.symm q3,q1,fun b u b1 b2 hb=>q2 _ _ b2 (e _ _ b1 b2 hb)⟩⟩
    | i+2,hx=>simp at hx
   subst hxe
   clear h1 h2
   obtain⟨vs,hv,his⟩:=id hT
   apply Y
   have hvl:=his.len
   refine⟨_,rfl,y,_,rfl,.inl (SqL.of hv),_,rfl,by omega,by omega,xm (n:=((vs.length:Nat):Int).toNat) (fun j σ H2=>∃ (o2:Option V) (vs':List V),σ=[some (.int c),some (.int t),some (.int 10),some (.ref re),some (.ref zx),some (.ref lz),some (.ref y),o2,none,none]∧H2 y=some (.lst vs')∧IsIs H2 ((ms.take j).map ren++ms.drop j) vs'∧SB y H' H2) ⟨_,vs,rfl,hv,his,SB.refl _ _⟩ ?_ ?_⟩
   · rintro j σ H2 hj ⟨o2,vs',rfl,hv2,his2,sb2⟩
     have hj':j < ms.length:=by omega
     have hm:ms[j]? =some ms[j]:=List.getElem?_eq_getElem hj'
     generalize ms[j]=m at hm
     refine qM fun _ Y=>?_
     obtain⟨v,hvj,hI⟩:=his2.get' (qIi hm)
     have hv2l:vs'.length=ms.length:=by rw [his2.len,qLt (by omega)]
     obtain⟨zi,xi,rfl,hzi,h0,h1⟩:=hI.opn
     apply Y
     have hat:atI vs' (0+(j:Int))=some (.ref zi):=by rw [Int.zero_add];exact xX hvj
     refine⟨_,rfl,_,rfl,y,_,_,_,rfl,rfl,SqL.of hv2,hat,zi,xi,_,_,rfl,rfl,SqT.of hzi,h0,rfl,_,rfl,kD (fun c=>?_) (fun c=>?_)⟩
     · have hw:m.wd="nest":=by simpa using c
       refine qM fun _ Y=>?_
       obtain⟨nm,b,l,rfl⟩:∃ nm b l,m= .nest nm b l:=by
        cases m with
        | nest nm b l=>exact⟨nm,b,l,rfl⟩
        | clip=>exact absurd (show ("clip":Str)="nest" from hw) (by decide+kernel)
        | gap=>exact absurd (show ("gap":Str)="nest" from hw) (by decide+kernel)
        | mix=>exact absurd (show ("mix":Str)="nest" from hw) (by decide+kernel)
       obtain⟨z2,e2,hz2⟩:=id hI
       cases e2
       apply Y
       have a2:atI [V.str "nest",.str nm,.int b,.int l] 2=some (.int b):=rfl
       have a3:atI [V.str "nest",.str nm,.int b,.int l] 3=some (.int l):=rfl
       refine⟨_,rfl,_,rfl,y,_,_,_,rfl,rfl,SqL.of hv2,hat,ixT (SqT.of hz2) a2 ?_⟩
       refine⟨_,rfl,_,rfl,y,_,_,_,rfl,rfl,SqL.of hv2,hat,ixT (SqT.of hz2) a3 ⟨sL4,fun g hg=>?_⟩⟩
       have w1:=qC hg (.tup [.str "nest",.str "deep",.int b,.int l])
       have hix:ixN vs'.length (0+(j:Int))=some j:=by
        unfold ixN
        rw [if_pos (by omega),if_pos (by omega)]
        congr 1
        omega
       refine⟨_,rfl,_,rfl,y,_,_,j,rfl,rfl,w1 _ _ hv2,hix,_,_,rfl,qB,?_,(sb2.trans (jW w1)).trans jT⟩
       rw [← qK4 hm]
       exact((his2.ts (qi w1)).put (isN qB)).ts (xV (w1 _ _ hv2))
     · have hw:m.wd≠"nest":=by simpa using c
       have er:ren m=m:=by
        cases m with
        | nest nm b l=>exact absurd rfl hw
        | _=>rfl
       refine⟨_,vs',rfl,hv2,?_,sb2⟩
       rw [← qK4 hm,er]
       have e5:((ms.take j).map ren++ms.drop j).set j m=(ms.take j).map ren++ms.drop j:=by
        have q:=qIi hm
        obtain⟨q1,q2⟩:=List.getElem?_eq_some_iff.mp q
        rw [← q2,List.set_getElem_self]
       rw [e5]
       exact his2
   · rintro σ H2 ⟨o2,vs',rfl,hv2,his2,sb2⟩
     have e5:((vs.length:Nat):Int).toNat=ms.length:=by omega
     rw [e5,List.take_length,List.drop_length,List.append_nil] at his2
     exact⟨_,_,rfl,hfin H2 ⟨_,hv2,his2⟩ sb2 (sb2.ts hv)⟩
 rintro σ H8 ⟨o1,o2,rfl,tr1,tr2,e8⟩
 have tr1:Tr H8 y1 (m1.map ren):=tr1
 have tr2:Tr H8 y2 (m2.map ren):=tr2
 have hz8:=e8 _ _ ny1.symm ny2.symm hz7
 have rdk:∀ b u,(∀ xs,u≠ .lst xs)→H7 b=some u→H8 b=some u:=fun b u hu hb=>e8 _ _ (zG hb hy1 (hu v1)) (zG hb hy2 (hu v2)) hb
 have hll8:=e8 _ _ nl1 nl2 hll7
 have hlt8:=e8 _ _ nt1 nt2 hlt7
 have hlz8:=rdk _ _ (by intro xs q;cases q) hlz7
 have hre8:RE H8 re A':=by
  refine⟨?_,hre7.2⟩
  rcases hre7.1 with q | ⟨o,q⟩
  · exact .inl (rdk _ _ (by intro xs q;cases q) q)
  · exact .inr ⟨o,rdk _ _ (by intro xs q;cases q) q⟩
 have e8':Same H H8:=fun b u hb=>e8 _ _ (qH hb y1H) (qH hb y2H) (e7 _ _ hb)
 refine⟨_,rfl,_,rfl,_,rfl,zx,re,xs2,A',10,rfl,hz8,by omega,hre8,by decide,by decide,fun w1 c1 xs3 H9 s9 hz9 hl9 cf1 I1=>?_⟩
 refine⟨sL2,fun g hg=>?_⟩
 have w10:=qC hg (.tup [.str "gap",.int 3])
 have hre10:=(hre8.sb s9 nre).same w10
 refine⟨_,rfl,_,rfl,_,rfl,zx,re,xs3,A',10,rfl,w10 _ _ hz9,by omega,hre10,by decide,by decide,fun w2 c2 xs4 H11 s11 hz11 hl11 cf2 I2=>?_⟩
 refine⟨sL3,fun d1 hd1=>⟨sL1,fun d2 hd2=>⟨sL0,fun d3 hd3=>⟨sL2,fun dz hdz=>?_⟩⟩⟩⟩
 have k1:=qC hd1 (.lst [w1,.ref g,w2])
 have k2:=qC hd2 (.lst [.ref d1])
 have k3:=qC hd3 (.lst [])
 have k4:=qC hdz (.tup [.ref d2,.ref d3])
 have k14:=((k1.trans k2).trans k3).trans k4
 have s8_11:SB zx H8 H11:=(s9.trans (jW w10)).trans s11
 have ts8_11:TS H8 H11:=((s9.ts hz8).trans (qi w10)).trans (s11.ts (w10 _ _ hz9))
 have e11:Same H H11:=jD e8' s8_11 zxH
 have I1':IsI H11 c1 w1:=(I1.ts (qi w10)).ts (s11.ts (w10 _ _ hz9))
 have Ig:IsI H11 (.gap 3) (.ref g):=isG (s11 _ _ (zG (qB (H:=H9) (a:=g) (o:=.tup [.str "gap",.int 3])) (w10 _ _ hz9) (by intro q;cases q)) qB)
 have nd1:d1≠zx:=(qH hz11 hd1).symm
 have nd2:d2≠zx:=(qH (k1 _ _ hz11) hd2).symm
 have nd3:d3≠zx:=(qH ((k1.trans k2) _ _ hz11) hd3).symm
 have trd:Tr (upd (upd (upd (upd H11 d1 (.lst [w1,.ref g,w2])) d2 (.lst [.ref d1])) d3 (.lst [])) dz (.tup [.ref d2,.ref d3])) d1 [c1,.gap 3,c2]:=⟨_,k4 _ _ (k3 _ _ (k2 _ _ qB)),I1'.ts (qi k14),Ig.ts (qi k14),I2.ts (qi k14),trivial⟩
 have hd2':(upd (upd (upd (upd H11 d1 (.lst [w1,.ref g,w2])) d2 (.lst [.ref d1])) d3 (.lst [])) dz (.tup [.ref d2,.ref d3])) d2=some (.lst [.ref d1]):=k4 _ _ (k3 _ _ qB)
 have hd3':(upd (upd (upd (upd H11 d1 (.lst [w1,.ref g,w2])) d2 (.lst [.ref d1])) d3 (.lst [])) dz (.tup [.ref d2,.ref d3])) d3=some (.lst []):=k4 _ _ qB
 have hdz':(upd (upd (upd (upd H11 d1 (.lst [w1,.ref g,w2])) d2 (.lst [.ref d1])) d3 (.lst [])) dz (.tup [.ref d2,.ref d3])) dz=some (.tup [.ref d2,.ref d3]):=qB
 have hrd14:=k14 _ _ (s8_11 _ _ nre (rdk _ _ (by intro xs q;cases q) hrd7))
 have hlz14:=k14 _ _ (ts8_11 _ _ hlz8)
 have hll14:=k14 _ _ (s8_11 _ _ nlz hll8)
 have hlt14:=k14 _ _ (s8_11 _ _ ntz hlt8)
 have tr1:=(tr1.sb s8_11 ny1 ts8_11).same k14
 have tr2:=(tr2.sb s8_11 ny2 ts8_11).same k14
 have hz14:=k14 _ _ hz11
 have hre14:=(hre10.sb s11 nre).same k14
 have e14:=e11.trans k14
 generalize upd (upd (upd (upd H11 d1 (.lst [w1,.ref g,w2])) d2 (.lst [.ref d1])) d3 (.lst [])) dz (.tup [.ref d2,.ref d3])=H14 at hrd14 trd hd2' hd3' hdz' hlz14 hll14 hlt14 tr1 tr2 hz14 hre14 e14 ⊢
 refine⟨_,rfl,t,rfl,by omega,by omega,qBi (lo:=0) (n:=t.toNat) (fun i acc H'=>∃ (mss:List (List Im)) (xs':List Int),TrsAt H' mss acc∧mss.length=i∧(∀ ms∈mss,TP A' ms)∧H' zx=some (.lst (xs'.map V.int))∧xs4.length≤xs'.length+36*i∧SB zx H14 H'∧TS H14 H'∧∀ v∈acc,v≠ .ref zx) ⟨[],xs4,trivial,rfl,by simp,hz14,by omega,SB.refl _ _,TS.refl _,by simp⟩ ?_ ?_ ?_⟩
 · rintro i acc H' hi ⟨mss,xs',ht,hl,_⟩
   exact qS (by rw [ht.len];omega)
 · rintro i acc H' hi ⟨mss,xs',ht,hml,htp,hz',hxl',sb',ts',hne⟩
   refine⟨_,rfl,_,rfl,_,rfl,zx,re,xs',A',rfl,hz',by omega,hre14.sb sb' nre,fun y ms xs'' H'' s'' y0 hz'' hl'' tr n5 ti gg ng=>Nxt.mk hi ?_⟩
   have ny:y≠zx:=(qH hz' y0).symm
   refine⟨mss++[ms],xs'',qFo (ht.sb s'' hz' hne) tr,by simp [hml],?_,hz'',by omega,sb'.trans s'',ts'.trans (s''.ts hz'),?_⟩
   · intro m hm
     rcases List.mem_append.mp hm with hm | hm
     · exact htp m hm
     · have:m=ms:=by simpa using hm
       rw [this];exact⟨n5,ti,gg,ng⟩
   · intro v hv
     rcases List.mem_append.mp hv with hv | hv
     · exact hne v hv
     · have:v= .ref y:=by simpa using hv
       rw [this];intro q;cases q;exact ny rfl
 rintro acc H15 ⟨mss,xs',ht,hml,htp,hz',hxl',sb',ts',hne⟩ tl htl
 have j1:=qC htl (.lst acc)
 refine⟨sL0,fun ti hti=>⟨sL2,fun tz htz=>?_⟩⟩
 have j2:=qC hti (.lst [])
 have j3:=qC htz (.tup [.ref tl,.ref ti])
 have j13:=(j1.trans j2).trans j3
 have hTop:TabF (upd (upd (upd H15 tl (.lst acc)) ti (.lst [])) tz (.tup [.ref tl,.ref ti])) (.ref tz) mss []:=
  ⟨tz,tl,ti,acc,rfl,qB,j3 _ _ (j2 _ _ qB),ht.same j13,j3 _ _ qB⟩
 have hLow:TabF H15 (.ref lz) [m1.map ren,m2.map ren] []:=⟨lz,ll,lt,_,rfl,ts' _ _ hlz14,sb' _ _ nlz hll14,⟨⟨y1,rfl,tr1.sb sb' ny1 ts'⟩,⟨y2,rfl,tr2.sb sb' ny2 ts'⟩,trivial⟩,sb' _ _ ntz hlt14⟩
 have hDeep:TabF H15 (.ref dz) [[c1,.gap 3,c2]] []:=⟨dz,d2,d3,_,rfl,ts' _ _ hdz',sb' _ _ nd2 hd2',⟨⟨d1,rfl,trd.sb sb' nd1 ts'⟩,trivial⟩,sb' _ _ nd3 hd3'⟩
 have hLow:=hLow.same j13
 have hDeep:=hDeep.same j13
 have e15:Same H H15:=jD e14 sb' zxH
 have e18:=e15.trans j13
 have hre18:=j13 _ _ (sb' _ _ nre hrd14)
 generalize upd (upd (upd H15 tl (.lst acc)) ti (.lst [])) tz (.tup [.ref tl,.ref ti])=H18 at hTop hLow hDeep e18 hre18 ⊢
 refine⟨_,rfl,fun td htd=>?_⟩
 have g1:=qC htd (.dK [])
 have em:∀ x y z:V,wI [] [((Sum.inr ("top":Str):Key),x),(Sum.inr ("low":Str),y),(Sum.inr ("deep":Str),z)]=[(Sum.inr ("top":Str),x),(Sum.inr ("low":Str),y),(Sum.inr ("deep":Str),z)]:=fun x y z=>by rfl
 refine⟨_,rfl,_,rfl,_,rfl,qB,[(Sum.inr "top",.ref tz),(Sum.inr "low",.ref lz),(Sum.inr "deep",.ref dz)],rfl,(by show 3≤15;decide),?_⟩
 rw [em,qCq]
 have g2:=qC htd (.dK [(Sum.inr "top",.ref tz),(Sum.inr "low",.ref lz),(Sum.inr "deep",.ref dz)])
 refine⟨sL2,fun rz hrz=>?_⟩
 have g3:=qC hrz (.tup [.ref re,.ref td])
 have g23:=g2.trans g3
 exact kk rz re td (.ref tz) (.ref lz) (.ref dz) A' mss m1 m2 c1 c2 _ (e18.trans g23) qB (g23 _ _ hre18) a0 a1 (g3 _ _ qB) (qH hre18 htd) re0 (e18.free htd) (hTop.same g23) (hLow.same g23) (hDeep.same g23) hml htp ⟨n1,ti1,gg1,ng1⟩ ⟨n2,ti2,gg2,ng2⟩ cf1 cf2
theorem qPj {x b:Int}(hx:0≤x)(hb:0 < b):0≤x.fdiv b:=by
 have h:=(jI (p:=x) hb).2
 by_cases c:0≤x.fdiv b
 · exact c
 · have:=Int.mul_le_mul_of_nonneg_right (c:=b) (show x.fdiv b+1≤0 by omega) (by omega)
   omega
theorem qPb {lo rs to bo len N:Int}(b0:1≤bo)(n0:1≤len)(l0:0≤lo)(l1:lo+(((len - 1)*wE to).fdiv bo+1) < N)(r0:0≤rs)(r1:rs < 7):
 (0≤stF lo rs to bo len∧stF lo rs to bo len < N*(7*bo))∧0≤stF lo rs to bo len+7*(len - 1)*to∧stF lo rs to bo len+7*(len - 1)*to < N*(7*bo):=by
 have hf:=jI (p:=(len - 1)*wE to) (q:=bo) (by omega)
 have hx:0≤(len - 1)*wE to:=Int.mul_nonneg (by omega) (by unfold wE;split <;> omega)
 have hF:=qPj hx (show 0 < bo by omega)
 generalize ((len - 1)*wE to).fdiv bo=F at*
 have m1:0≤bo*(7*lo+rs):=Int.mul_nonneg (by omega) (by omega)
 have m2:bo*(7*(lo+F+1)+rs) < bo*(7*N):=Int.mul_lt_mul_of_pos_left (by omega) (by omega)
 have m3:bo*(7*lo+rs) < bo*(7*N):=Int.mul_lt_mul_of_pos_left (by omega) (by omega)
 have e1:lo*7*bo+rs*bo=bo*(7*lo+rs):=by grind
 have e2:N*(7*bo)=bo*(7*N):=by grind
 have e3:bo*(7*(lo+F+1)+rs)=bo*(7*lo+rs)+7*((F+1)*bo):=by grind
 unfold stF
 rw [e2]
 by_cases ht:to < 0
 · rw [if_pos ht]
   have ea:wE to= -to:=by unfold wE;rw [if_pos ht]
   rw [ea] at hf hx
   have e4:7*(len - 1)*to= -(7*((len - 1)* -to)):=by grind
   rw [e4,e1]
   generalize (len - 1)* -to=X at*
   generalize bo*(7*lo+rs)=Y at*
   generalize (F+1)*bo=Z at*
   generalize bo*(7*N)=W at*
   generalize bo*(7*(lo+F+1)+rs)=U at*
   exact⟨⟨by omega,by omega⟩,by omega,by omega⟩
 · rw [if_neg ht]
   have ea:wE to=to:=by unfold wE;rw [if_neg ht]
   rw [ea] at hf hx
   have e4:7*(len - 1)*to=7*((len - 1)*to):=by grind
   rw [e4,e1]
   generalize (len - 1)*to=X at*
   generalize bo*(7*lo+rs)=Y at*
   generalize (F+1)*bo=Z at*
   generalize bo*(7*N)=W at*
   generalize bo*(7*(lo+F+1)+rs)=U at*
   exact⟨⟨by omega,by omega⟩,by omega,by omega⟩
theorem qH5 {st to bo k N:Int}(b0:1≤bo)(h0:0≤st+7*k*to)(h1:st+7*k*to < N*(7*bo)):InR (Vk (jf st (7*bo)) (jP st (7*bo)) (jf to bo) (jP to bo) k) (jP st (7*bo)*jP to bo) N:=by
 have c1:=xo st (7*bo)
 have c2:=xo to bo
 have q0:=jv (t:=st) (b:=7*bo) (by omega)
 have s0:=jv (t:=to) (b:=bo) (by omega)
 generalize jf st (7*bo)=p at*
 generalize jP st (7*bo)=q at*
 generalize jf to bo=r at*
 generalize jP to bo=s at*
 refine(qH4 (Int.mul_pos q0 s0) (show 0 < 7*bo by omega) ?_).mpr ⟨h0,h1⟩
 unfold Vk
 have e1:(p*s+k*r*q)*(7*bo)=s*(p*(7*bo))+7*k*q*(r*bo):=by grind
 rw [e1,c1,c2]
 grind
inductive qBd (vs:List V)(H:Hp)(Q:VK)(_:XK):Prop
| mk (rz re td:Addr) (ar kvs:List (Key × V)) (tb:List Tb) (_:vs=[.ref rz]) (_:H rz=some (.tup [.ref re,.ref td])) (_:H re=some (.dK ar)) (_:H td=some (.dK kvs)) (_:re≠td) (_:TbsAt H tb kvs) (_:(tb.map (·.1)).Nodup) (_:tb.length≤20) (_:(∀ t∈tb,t.2.1.length≤300)) (_:∀ (rz' re' td':Addr) (kvs':List (Key × V)) (o:Obj) (H':Hp),SB td H H'→H' td=some (.frz o (.dK kvs))→H' rz'=some (.tup [.ref re',.ref td'])→H' re'=some (.dK ar)→H' td'=some (.dK kvs')→TbsAt H' tb kvs'→H re'=none→H td'=none→re'≠td'→Q (.ref rz') H')
theorem qA5 (T:Tx K mg a):FnOk P w K mg base CX0 1 a.A59 a.B59 ["_law_room_here"] qBd:=by
 refine T.D59.F.ok jz (fun vs H Q E h=>?_) (fun cdv A outer s H vs Q E hr h=>?_)
 · obtain⟨rz,re,td,ar,kvs,tb,rfl,_⟩:=h
   rfl
 refine qM fun _ Y=>?_
 obtain⟨rz,re,td,ar,kvs,tb,rfl,hrz,hre,htd,ntr,htb,nd,hl,hts,kk⟩:=h
 apply Y
 have hu:=hr.units
 have hu1:(A.deeper (PyProof.Rows.envOfC (Str.ofString "_law_copied") (qJ xI) s.heap.objs.size a.A59 cdv)).units+1 < cLine:=by omega
 have hkl:=htb.len
 refine⟨_,(qF (qg 1 jz.nd qCu)
  (qF (jk PassesOwn.never rfl (qBy (qX (pv 0))) (qD0 rfl (jy (qq (i:=2) jz.nd rfl (Or.inl rfl)) (jy (qq (i:=3) jz.nd rfl (Or.inl rfl)) wj))) (qG (jX hu1 (pv 1) (pv 2) (qK (qA (vE [] [] rfl (jp (qX (pv 3))) (fun _ _ _ _=>(jN (qB4 (K:=K) rfl) rfl T.b_list rfl (qA (pv 0) qD)))) (qA (jN jb rfl T.b_list rfl (qA (qX (pv 3)) qD)) qD))) rfl)))
  (qG (qU (qK (qA (jN qFw rfl T.b_dict rfl (qA (qX (pv 0)) qD)) (qA (pv 1) qD))))))),?_⟩
 try dsimp only [jc,qk]
 refine fun tn htn=>?_
 have w0:=qC htn (.dK [])
 have ntn:td≠tn:=qH htd htn
 refine(ixO (w0 _ _ hrz) at1 ⟨td,kvs,rfl,.inr ⟨w0 _ _ htd,fun o=>?_⟩⟩)
 have sf:SB td H (upd (upd H tn (.dK [])) td (.frz o (.dK kvs))):=(jW w0).trans jT
 have tf:(upd (upd H tn (.dK [])) td (.frz o (.dK kvs))) td=some (.frz o (.dK kvs)):=qB
 have nf:(upd (upd H tn (.dK [])) td (.frz o (.dK kvs))) tn=some (.dK []):=by rw [qZ ntn.symm];exact qB
 have tbf:=htb.sbD sf htd
 generalize upd (upd H tn (.dK [])) td (.frz o (.dK kvs))=Hf at sf tf nf tbf ⊢
 refine zn (d:=td) (o:=o) (kvs:=kvs) (fun i σ H'=>∃ (o1 o2:Option V) (kv':List (Key × V)),σ=[some (.ref rz),some (.ref tn),o1,o2]∧H' tn=some (.dK kv')∧TbsAt H' (tb.take i) kv'∧SB tn Hf H') ⟨none,none,[],rfl,nf,trivial,SB.refl _ _⟩ ?_ ?_ ?_
 · rintro i σ H' hi ⟨o1,o2,kv',rfl,_,_,e⟩
   exact e _ _ ntn tf
 · rintro i k v σ H' p hkv ⟨o1,o2,kv',rfl,htn',htb',e⟩ hp
   refine qM fun _ Y=>?_
   obtain⟨nm,ts,tie,hti,rfl,hT⟩:=(tbf.sbD e nf).get hkv
   apply Y
   have hi:i < tb.length:=(glt hti)
   have w1:=qC hp (.tup [.str nm,v])
   have hT1:=hT.same w1
   have htn1:=w1 _ _ htn'
   have htb1:=htb'.same w1
   have e1:=e.trans (jW w1)
   refine⟨p,_,rfl,SqT.of qB,rfl,_,_,rfl,_,_,rfl,rfl,?_⟩
   have hkk:(upd H' p (.tup [kV (Sum.inr nm),v]))=upd H' p (.tup [.str nm,v]):=rfl
   rw [hkk]
   generalize upd H' p (.tup [.str nm,v])=H1 at hT1 htn1 htb1 e1 ⊢
   refine qM fun _ Y=>?_
   obtain⟨tt,tl,ti,zs,rfl,h2,h3,h4,h5⟩:=hT1
   apply Y
   have hzl:=h4.len
   have hts':ts.length≤300:=hts _ (List.mem_of_getElem? hti)
   refine(ixO h2 at0 ⟨tl,rfl,⟨_,SqL.of h3⟩,vX (K:=K) (a:=tl) (xs:=zs) (fun j acc H2=>TrsAt H2 (ts.take j) acc∧Same H1 H2) ⟨trivial,Same.refl _⟩ ?_ ?_ ?_⟩)
   · rintro j acc H2 hj ⟨ht,e2⟩
     exact⟨SqL.of (e2 _ _ h3),qS (by rw [ht.len,List.length_take];omega)⟩
   · rintro j x acc H2 hj hx ⟨ht,e2⟩
     refine qM fun _ Y=>?_
     obtain⟨ms,z,hms,rfl,us,hz,his⟩:=h4.get hx
     apply Y
     refine⟨_,rfl,z,us,rfl,.inl (SqL.of (e2 _ _ hz)),fun l hl'=>Nxt.mk hj ⟨?_,e2.trans (qC hl' _)⟩⟩
     have w3:=qC hl' (.lst us)
     have etk:ts.take (j+1)=ts.take j++[ms]:=by rw [List.take_add_one,hms];rfl
     rw [etk]
     exact qFo (ht.same w3) ⟨us,qB,his.ts (qi (e2.trans w3))⟩
   rintro acc H2 ⟨ht,e2⟩ d hd
   rw [hzl,List.take_length] at ht
   have w3:=qC hd (.lst acc)
   have e3:=e2.trans w3
   refine(ixO (e3 _ _ h2) at1 ⟨ti,_,rfl,.inl (SqL.of (e3 _ _ h5)),fun l hl'=>?_⟩)
   have w4:=qC hl' (.lst (tie.map V.int))
   refine⟨sL2,fun t ht'=>?_⟩
   have w5:=qC ht' (.tup [.ref d,.ref l])
   have e5:=(e3.trans w4).trans w5
   have hnew:TabF (upd (upd (upd H2 d (.lst acc)) l (.lst (tie.map V.int))) t (.tup [.ref d,.ref l])) (.ref t) ts tie:=
    ⟨t,d,l,acc,rfl,qB,w5 _ _ (w4 _ _ qB),ht.same ((w3.trans w4).trans w5),w5 _ _ qB⟩
   have hput:(tb.take i).map (·.1)=(tb.map (·.1)).take i:=by rw [List.map_take]
   have hno:xv kv' (Sum.inr nm)=none:=by
    refine htb'.no fun q=>?_
    rw [hput] at q
    have hti':(tb.map (·.1))[i]? =some nm:=by rw [List.getElem?_map,hti];rfl
    obtain⟨j,hj,ej⟩:=List.mem_iff_getElem.mp q
    rw [List.length_take,List.length_map] at hj
    have hj1:(tb.map (·.1))[j]? =some nm:=by
     rw [List.getElem_take] at ej
     rw [List.getElem?_eq_getElem (by rw [List.length_map];omega),ej]
    have:=(List.getElem?_inj (i:=j) (j:=i) (by rw [List.length_map];omega) nd).mp (hj1.trans hti'.symm)
    omega
   refine⟨_,rfl,_,rfl,tn,_,rfl,.inl ⟨kv',Sum.inr nm,e5 _ _ htn1,rfl,qS (by rw [htb'.len,List.length_take];omega),rfl⟩,?_⟩
   rw [xJ _ hno]
   have sb6:SB tn (upd (upd (upd H2 d (.lst acc)) l (.lst (tie.map V.int))) t (.tup [.ref d,.ref l])) (upd (upd (upd (upd H2 d (.lst acc)) l (.lst (tie.map V.int))) t (.tup [.ref d,.ref l])) tn (.dK (kv'++[(Sum.inr nm,.ref t)]))):=jT
   have etk:tb.take (i+1)=tb.take i++[(nm,ts,tie)]:=by rw [List.take_add_one,hti];rfl
   refine⟨_,_,_,rfl,qB,?_,(e1.trans (jW e5)).trans sb6⟩
   rw [etk]
   exact((htb1.same e5).app hnew).sbD sb6 (e5 _ _ htn1)
 · rintro σ H' ⟨o1,o2,kv',rfl,htn',htb',e⟩
   rw [hkl,List.take_length] at htb'
   have hre':H' re=some (.dK ar):=e _ _ (qH hre htn) (sf _ _ ntr hre)
   have hrz':H' rz=some (.tup [.ref re,.ref td]):=kO e nf _ _ (sf _ _ (zG hrz htd (by intro q;cases q)) hrz)
   refine(ixO hrz' at0 ⟨re,ar,rfl,hre',fun rc hrc=>?_⟩)
   have w1:=qC hrc (.dK ar)
   refine⟨_,rfl,sL2,fun t ht=>?_⟩
   have w2:=qC ht (.tup [.ref rc,.ref tn])
   have w12:=w1.trans w2
   have htdn:H' td=some (.frz o (.dK kvs)):=e _ _ ntn tf
   have fre:∀ b,H' b=none→H b=none:=fun b hb=>by
    cases q:H b with
    | none=>rfl
    | some u=>
     by_cases h1:b=td
     · subst h1;rw [htdn] at hb;cases hb
     · rw [e _ _ (qH q htn) (sf _ _ h1 q)] at hb;cases hb
   refine kk t rc tn kv' o _ (fun b u n hb=>w12 _ _ (e _ _ (qH hb htn) (sf _ _ n hb))) (w12 _ _ htdn) qB (w2 _ _ qB) (w12 _ _ htn') (htb'.same w12) (fre rc hrc) htn (qH htn' hrc).symm
def OkI (rl:Rls)(tn:Str→Bool):Im→Prop
 | .clip n p q r s l=>∃ N,rl n=some N∧GF n p q r s l∧InR (Vk p q r s 0) (q*s) N∧InR (Vk p q r s (l - 1)) (q*s) N
 | .nest n b l=>jm n=true∧n.length≤1000∧0≤b∧1≤l∧tn n=true
 | .gap l=>1≤l
 | .mix l=>1≤l
structure RmH (H:Hp)(re td:Addr)(kvs:List (Key × V))(rl:Rls)(tn:Str→Bool):Prop where
 hr:ReelsAt H re rl
 hk:Rd H td (.dK kvs)
 ht:∀ n,tn n=true→(xv kvs (Sum.inr n)).isSome=true
theorem OkI.ic {H:Hp}{re td:Addr}{kvs:List (Key × V)}{rl:Rls}{tn:Str→Bool}{m:Im}{v:V}(R:RmH H re td kvs rl tn)(hI:IsI H m v)(ok:OkI rl tn m):IcB K H re td v true:=by
 cases m with
 | clip n p q r s l=>
  obtain⟨z,x,y,rfl,hz,hx,hy⟩:=hI
  obtain⟨N,h1,h2,h3,h4⟩:=ok
  exact .clip hz (.pics ⟨⟨x,y,hz,hx,hy⟩⟩ h2 (R.hr n N h1) ⟨fun _=>⟨h3,h4⟩,fun _=>rfl⟩)
 | nest n b l=>
  obtain⟨z,rfl,hz⟩:=hI
  obtain⟨h1,h2,h3,h4,h5⟩:=ok
  exact .nest hz h1 h2 R.hk (by rw [R.ht n h5,decide_eq_true h3,decide_eq_true h4];rfl)
 | gap l=>
  obtain⟨z,rfl,hz⟩:=hI
  have h:=IcB.two (K:=K) (re:=re) (td:=td) hz (.inl rfl)
  rwa [decide_eq_true (show 1≤l from ok)] at h
 | mix l=>
  obtain⟨z,rfl,hz⟩:=hI
  have h:=IcB.two (K:=K) (re:=re) (td:=td) hz (.inr rfl)
  rwa [decide_eq_true (show 1≤l from ok)] at h
theorem OkI.mo {rl:Rls}{tn:Str→Bool}{m:Im}(h:OkI rl tn m):0≤m.mo:=by
 cases m with
 | clip n p q r s l=>obtain⟨N,_,g,_⟩:=h;have:=g.l1;show 0≤l;omega
 | nest n b l=>obtain⟨_,_,_,h4,_⟩:=h;show 0≤l;omega
 | gap l=>have:1≤l:=h;show 0≤l;omega
 | mix=>exact Int.le_refl 0
theorem qPg {rl:Rls}{tn:Str→Bool}{ms:List Im}(h:∀ m∈ms,OkI rl tn m):qM6 ms:=fun l hl=>h _ hl
theorem qPe {H:Hp}{re td:Addr}{kvs:List (Key × V)}{rl:Rls}{tn:Str→Bool}(R:RmH H re td kvs rl tn){ms:List Im}{vs:List V}(hI:IsIs H ms vs)(ok:∀ m∈ms,OkI rl tn m):∀ v∈vs,IcB K H re td v true:=fun v hv=>by
 obtain⟨i,hi,e⟩:=List.mem_iff_getElem.mp hv
 obtain⟨m,hm,hI'⟩:=hI.get (i:=i) (v:=v) (by rw [List.getElem?_eq_getElem hi,e])
 exact OkI.ic R hI' (ok m (List.mem_of_getElem? hm))
theorem qNl {H:Hp}{re td:Addr}{kvs:List (Key × V)}{rl:Rls}{tn:Str→Bool}(R:RmH H re td kvs rl tn){z:Addr}{ms:List Im}{b:Bool}(tT:Tr H z ms)(len:ms.length≤100)(ok:∀ m∈ms,OkI rl tn m)(it:qC1 ms→(∃ l,Im.mix l∈ms)→∀ m∈ms,ItR rl m)(hb:b=true↔qC1 ms∧wG rl ms=true):TkB K H re td (.ref z) b:=by
 obtain⟨vs,hz,hI⟩:=tT
 exact .good hz hI len (qPe R hI ok) (qPg ok) (fun m hm=>(ok m hm).mo) it R.hr hb
structure GoodTk (rl:Rls)(tn:Str→Bool)(ms:List Im):Prop where
 len:ms.length≤100
 ok:∀ m∈ms,OkI rl tn m
 form:qC1 ms
 fit:wG rl ms=true
 it:(∃ l,Im.mix l∈ms)→∀ m∈ms,ItR rl m
theorem GoodTk.tk {H:Hp}{re td:Addr}{kvs:List (Key × V)}{rl:Rls}{tn:Str→Bool}{ms:List Im}(g:GoodTk rl tn ms)(R:RmH H re td kvs rl tn){z:Addr}(tT:Tr H z ms):TkB K H re td (.ref z) true:=
 qNl R tT g.len g.ok (fun _=>g.it) ⟨fun _=>⟨g.form,g.fit⟩,fun _=>rfl⟩
theorem qBs {H:Hp}{re td:Addr}{z:Addr}{v:V}{vs:List V}(hz:H z=some (.lst (v::vs)))(h:IcB K H re td v false):TkB K H re td (.ref z) false:=
 .bad (i:=0) hz (fun j u hj=>absurd hj (Nat.not_lt_zero j)) rfl h
theorem qH1:∀ {ms:List Im} {b:Int},(∀ l,Im.mix l ∉ ms)→xZ b ms=[]
 | [],_,_=>rfl
 | m::ms,b,h=>by
  have hm:m.wd≠"mix":=fun q=>by
   obtain⟨l,rfl⟩:=qAu q
   exact h l (by simp)
  rw [zA hm]
  exact qH1 fun l hl=>h l (by simp [hl])
theorem xQ {rl:Rls}{tn:Str→Bool}{ms:List Im}(len:ms.length≤100)(ok:∀ m∈ms,OkI rl tn m)(gp:GapP ms)(no:∀ l,Im.mix l ∉ ms):GoodTk rl tn ms:=
 ⟨len,ok,⟨gp,fun i l h=>absurd (List.mem_of_getElem? h) (no l)⟩,by unfold wG;rw [qH1 no];rfl,fun⟨l,h⟩=>absurd h (no l)⟩
theorem tk_nil {rl:Rls}{tn:Str→Bool}:GoodTk rl tn []:=xQ (by decide) (fun m h=>by simp at h) (fun i l h=>by simp at h) fun l h=>by simp at h
structure GoodTb (rl:Rls)(tn:Str→Bool)(ts:List (List Im))(tie:List Int):Prop where
 l1:1≤ts.length
 l8:ts.length≤8
 tk:∀ ms∈ts,GoodTk rl tn ms
 ti:qC4 0 ts.length (tie.map some)=true
theorem kB {H:Hp}(tie:List Int):NusAt H (tie.map some) (tie.map V.int):=by
 refine⟨by simp,fun i v o h1 h2=>?_⟩
 rw [List.getElem?_map] at h1 h2
 cases e:tie[i]? with
 | none=>rw [e] at h1;cases h1
 | some x=>
  rw [e] at h1 h2
  cases h1
  cases h2
  exact .int x
theorem qNe {H:Hp}{re td:Addr}{kvs:List (Key × V)}{rl:Rls}{tn:Str→Bool}(R:RmH H re td kvs rl tn){ts:List (List Im)}{zs:List V}(h:TrsAt H ts zs)(g:∀ ms∈ts,GoodTk rl tn ms):∀ v∈zs,TkB K H re td v true:=fun v hv=>by
 obtain⟨i,hi,e⟩:=List.mem_iff_getElem.mp hv
 obtain⟨ms,z,hm,rfl,tT⟩:=h.get (i:=i) (v:=v) (by rw [List.getElem?_eq_getElem hi,e])
 exact(g ms (List.mem_of_getElem? hm)).tk R tT
theorem qM9 {H:Hp}{re td:Addr}{kvs:List (Key × V)}{rl:Rls}{tn:Str→Bool}(R:RmH H re td kvs rl tn){tt tl ti:Addr}{ts:List (List Im)}{zs ws:List V}{os:List (Option Int)}{b:Bool}(h2:H tt=some (.tup [.ref tl,.ref ti]))(h3:H tl=some (.lst zs))(hT:TrsAt H ts zs)(l1:1≤ts.length)(l8:ts.length≤8)(g:∀ ms∈ts,GoodTk rl tn ms)(h5:H ti=some (.lst ws))(hw:NusAt H os ws)(hb:b=qC4 0 ts.length os):TbB K H re td (.ref tt) b:=by
 have e:=hT.len
 exact .tied h2 h3 (by omega) (by omega) (qNe R hT g) h5 hw (by rw [e];exact hb)
theorem GoodTb.tb {H:Hp}{re td:Addr}{kvs:List (Key × V)}{rl:Rls}{tn:Str→Bool}{ts:List (List Im)}{tie:List Int}(g:GoodTb rl tn ts tie)(R:RmH H re td kvs rl tn){v:V}(hT:TabF H v ts tie):TbB K H re td v true:=by
 obtain⟨tt,tl,ti,zs,rfl,h2,h3,h4,h5⟩:=hT
 exact qM9 R h2 h3 h4 g.l1 g.l8 g.tk h5 (kB tie) g.ti.symm
def qFv (n:Str):Prop:=jm n=true∧n.length≤1000
theorem qIy {H:Hp}{re td:Addr}{kvs:List (Key × V)}{rl:Rls}{tn:Str→Bool}{ts:List (List Im)}{tie:List Int}{n:Str}{v:V}(R:RmH H re td kvs rl tn)(hn:qFv n)(g:GoodTb rl tn ts tie)(hT:TabF H v ts tie):TeE K H re td (Sum.inr n,v) true:=⟨n,v,rfl,hn.2,.inr ⟨hn.1,g.tb R hT⟩⟩
structure GoodTs (rl:Rls)(tb:List Tb):Prop where
 nd:(tb.map (·.1)).Nodup
 l20:tb.length≤20
 nm:∀ t∈tb,qFv t.1
 gt:∀ t∈tb,GoodTb rl (fun n=>decide (n∈tb.map (·.1))) t.2.1 t.2.2
theorem qLy {H:Hp}{tb:List Tb}{kvs:List (Key × V)}(hT:TbsAt H tb kvs)(nd:(tb.map (·.1)).Nodup){n:Str}(h:n∈tb.map (·.1)):(xv kvs (Sum.inr n)).isSome=true:=by
 obtain⟨t,ht,rfl⟩:=List.mem_map.mp h
 obtain⟨i,hi,e⟩:=List.mem_iff_getElem.mp ht
 obtain⟨v,hv,_⟩:=hT.val (i:=i) nd (nm:=t.1) (ts:=t.2.1) (tie:=t.2.2) (by rw [List.getElem?_eq_getElem hi,e])
 rw [hv];rfl
theorem GoodTs.rm {H:Hp}{re td:Addr}{kvs:List (Key × V)}{rl:Rls}{tb:List Tb}(g:GoodTs rl tb)(hr:ReelsAt H re rl)(hk:Rd H td (.dK kvs))(hT:TbsAt H tb kvs):RmH H re td kvs rl (fun n=>decide (n∈tb.map (·.1))):=
 ⟨hr,hk,fun n hn=>qLy hT g.nd (by simpa using hn)⟩
theorem GoodTs.ts {H:Hp}{re td:Addr}{kvs:List (Key × V)}{rl:Rls}{tb:List Tb}(g:GoodTs rl tb)(hr:ReelsAt H re rl)(hk:Rd H td (.dK kvs))(hT:TbsAt H tb kvs):TsB K H re td kvs (kM tb):=by
 have R:=g.rm hr hk hT
 refine .deep (fun q hq=>?_) hT g.nd g.l20 (fun t ht=>⟨(g.gt t ht).l8,fun ms hm=>((g.gt t ht).tk ms hm).len⟩) rfl
 obtain⟨i,hi,e⟩:=List.mem_iff_getElem.mp hq
 obtain⟨k,v⟩:=q
 obtain⟨nm,ts,tie,h1,rfl,h3⟩:=hT.get (i:=i) (k:=k) (v:=v) (by rw [List.getElem?_eq_getElem hi,e])
 have ht:=List.mem_of_getElem? h1
 exact qIy R (g.nm _ ht) (g.gt _ ht) h3
def RoomV (K:W.Frag)(H:Hp)(rz:Addr)(b:Bool):Prop:=∃ (re td:Addr) (ar kvs:List (Key × V)) (b1 b2:Bool),H rz=some (.tup [.ref re,.ref td])∧Rd H re (.dK ar)∧Rd H td (.dK kvs)∧(∀ H',FL H H'→RsB H' ar b1)∧(b1=true→∀ H',FL H H'→TsB K H' re td kvs b2)∧b=(b1 && b2)
theorem RoomV.fl {H H':Hp}{rz:Addr}{b:Bool}(e:FL H H')(h:RoomV K H rz b):RoomV K H' rz b:=
 let ⟨re,td,ar,kvs,b1,b2,h1,h2,h3,h4,h5,h6⟩:=h
 ⟨re,td,ar,kvs,b1,b2,e.ts _ _ h1,e.rd h2,e.rd h3,fun H2 f=>h4 H2 (e.trans f),fun hb H2 f=>h5 hb H2 (e.trans f),h6⟩
theorem qE0 {H:Hp}{A:Int}(a0:60≤A)(a1:A < 360):RsB H [(Sum.inr "a",.int A),(Sum.inr "reelb",.int 1000000000)] true:=by
 refine .good fun p hp=>?_
 rcases List.mem_cons.mp hp with rfl | hp
 · refine⟨"a",.int A,some A,rfl,by decide+kernel,.int A,?_⟩
   have e:pcB (some A)=true:=by unfold pcB;dsimp only;rw [decide_eq_true (by omega),decide_eq_true (by omega)];rfl
   rw [e,show jm "a"=true by decide+kernel];rfl
 · obtain rfl:p=((Sum.inr ("reelb":Str):Key),V.int 1000000000):=by simpa using hp
   exact⟨"reelb",.int 1000000000,some 1000000000,rfl,by decide+kernel,.int _,by decide+kernel⟩
theorem qMv {H:Hp}{re:Addr}{A:Int}(h:Rd H re (.dK [(Sum.inr "a",.int A),(Sum.inr "reelb",.int 1000000000)])):ReelsAt H re (rlE A):=by
 intro n N e
 unfold rlE at e
 split at e
 · rename_i hn;cases e;subst hn;exact⟨_,h,rfl⟩
 · split at e
   · rename_i hn;cases e;subst hn;exact⟨_,h,rfl⟩
   · cases e
theorem qBq {H:Hp}{rz re td:Addr}{kvs:List (Key × V)}{A:Int}{tb:List Tb}(a0:60≤A)(a1:A < 360)(hz:H rz=some (.tup [.ref re,.ref td]))(hre:Rd H re (.dK [(Sum.inr "a",.int A),(Sum.inr "reelb",.int 1000000000)]))(htd:Rd H td (.dK kvs))(hT:TbsAt H tb kvs)(g:GoodTs (rlE A) tb):RoomV K H rz (kM tb):=
 ⟨re,td,_,_,true,kM tb,hz,hre,htd,fun _ _=>qE0 a0 a1,fun _ H' f=>g.ts (qMv (f.rd hre)) (f.rd htd) (f.tbs hT),rfl⟩
theorem CF.ok {A:Int}{m:Im}(h:CF A m)(hA0:60≤A)(hA:A < 360){tn:Str→Bool}:OkI (rlE A) tn m∧m.wd≠"mix"∧(∀ l,m≠ .gap l)∧nmO m=none:=by
 obtain⟨hit,_,_,hmo⟩:=h.it hA0 hA
 obtain⟨nm,N,lo,rs,to,bo,len,hn,n0,n1,t0,t1,b0,b1,l0,l1,r0,r1,rfl⟩:=h
 obtain⟨N',hc⟩:=hit _ _ _ _ _ _ rfl
 obtain⟨i0,i1⟩:=qPb (to:=to) b0 n0 l0 l1 r0 r1
 have hrl:rlE A nm=some N:=by
  unfold rlE
  rcases hn with ⟨rfl,rfl⟩ | ⟨rfl,rfl⟩
  · rw [if_pos rfl]
  · rw [if_neg (by decide+kernel),if_pos rfl]
 have eN:N'=N:=by have:=hc.rn;rw [hrl] at this;exact(Option.some.inj this).symm
 subst eN
 have hnm:jm nm=true∧nm.length≤1000:=by
  rcases hn with ⟨rfl,rfl⟩ | ⟨rfl,rfl⟩ <;> exact⟨by decide+kernel,by decide+kernel⟩
 refine⟨⟨N',hrl,⟨hnm.1,hnm.2,hc.bn.mono (m:=700),hc.g1.2.1,hc.g2.2.1,hc.l1,Nat.lt_of_lt_of_le hc.bl (Nat.pow_le_pow_right (by decide) (by decide))⟩,?_,?_⟩,(by decide+kernel:("clip":Str)≠"mix"),fun l q=>(by cases q),rfl⟩
 · exact qH5 b0 (by simpa using i0.1) (by simpa using i0.2)
 · exact qH5 b0 i1.1 i1.2
theorem TI.ok {A:Int}{m:Im}(h:TI A m)(hA0:60≤A)(hA:A < 360){tn:Str→Bool}:(tn "low"=true→OkI (rlE A) tn m)∧(tn "deep"=true→OkI (rlE A) tn (ren m))∧m.wd≠"mix"∧(ren m).wd=m.wd∧(∀ n,nmO m=some n→n="low")∧∀ n,nmO (ren m)=some n→n="deep":=by
 rcases h with ⟨l,rfl,l0,l1⟩ | ⟨b,l,rfl,b0,b1,l0,l1⟩ | h
 · exact⟨fun _=>l0,fun _=>l0,(by decide+kernel:("gap":Str)≠"mix"),rfl,fun _ q=>(nomatch q),fun _ q=>(nomatch q)⟩
 · exact⟨fun t=>⟨by decide+kernel,by decide+kernel,b0,l0,t⟩,fun t=>⟨by decide+kernel,by decide+kernel,b0,l0,t⟩,(by decide+kernel:("nest":Str)≠"mix"),rfl,fun _ q=>by cases q;rfl,fun _ q=>by cases q;rfl⟩
 · obtain⟨h1,h2,h3,h4⟩:=h.ok hA0 hA (tn:=tn)
   have e:ren m=m:=by
    cases m with
    | nest=>cases h4
    | _=>rfl
   rw [e]
   exact⟨fun _=>h1,fun _=>h1,h2,rfl,fun n q=>(by rw [h4] at q;cases q),fun n q=>(by rw [h4] at q;cases q)⟩
theorem TP.gp {A:Int}{ms:List Im}(h:TP A ms):GapP ms:=fun i l hi=>by
 obtain⟨_,_,hg,hn⟩:=h
 have hi1:=(glt hi)
 by_cases hl:i+1 < ms.length
 · refine⟨ms[i+1],List.getElem?_eq_getElem hl,fun q=>?_⟩
   obtain⟨l',e⟩:=qFx q
   exact hg i l l' hi (by rw [List.getElem?_eq_getElem hl,e])
 · exact absurd (by rw [show ms.length - 1=i by omega];exact hi) (hn l)
theorem qMo {ms:List Im}(h:GapP ms):GapP (ms.map ren):=fun i l hi=>by
 rw [List.getElem?_map] at hi
 cases e:ms[i]? with
 | none=>rw [e] at hi;cases hi
 | some m=>
  rw [e] at hi
  have hm:ren m= .gap l:=by simpa using hi
  have hm':m= .gap l:=by
   cases m with
   | nest=>cases hm
   | _=>exact hm
  subst hm'
  obtain⟨m',h1,h2⟩:=h i l e
  refine⟨ren m',by rw [List.getElem?_map,h1];rfl,?_⟩
  cases m' with
  | nest=>exact(by decide+kernel:("nest":Str)≠"gap")
  | _=>exact h2
theorem TP.good {A:Int}{ms:List Im}(h:TP A ms)(hA0:60≤A)(hA:A < 360){tn:Str→Bool}(t:tn "low"=true):GoodTk (rlE A) tn ms:=
 xQ (by have:=h.1;omega) (fun m hm=>((h.2.1 m hm).ok hA0 hA).1 t) h.gp fun l hl=>((h.2.1 _ hl).ok hA0 hA (tn:=tn)).2.2.1 rfl
theorem TP.goodR {A:Int}{ms:List Im}(h:TP A ms)(hA0:60≤A)(hA:A < 360){tn:Str→Bool}(t:tn "deep"=true):GoodTk (rlE A) tn (ms.map ren):=by
 refine xQ (by rw [List.length_map];have:=h.1;omega) (fun m hm=>?_) (qMo h.gp) fun l hl=>?_
 · obtain⟨m',h1,rfl⟩:=List.mem_map.mp hm
   exact((h.2.1 m' h1).ok hA0 hA).2.1 t
 · obtain⟨m',h1,e⟩:=List.mem_map.mp hl
   have:=((h.2.1 m' h1).ok hA0 hA (tn:=tn)).2.2
   exact this.1 (by rw [← this.2.1,e];rfl)
theorem qMl {A p q r s l:Int}{tn:Str→Bool}(hA:A < 360)(hb:p.natAbs < 2 ^ 30∧q.natAbs < 2 ^ 30∧r.natAbs < 2 ^ 30∧s.natAbs < 2 ^ 30∧l.natAbs < 2 ^ 110)(hq:1≤q)(hs:1≤s)(g1:Int.gcd p q=1)(g2:Int.gcd r s=1)(l1:1≤l)(h0:0≤p*s∧p*s < A*(q*s))(h1:0≤p*s+(l - 1)*r*q∧p*s+(l - 1)*r*q < A*(q*s)):OkI (rlE A) tn (.clip "a" p q r s l):=by
 refine qM fun _ Y=>?_
 obtain⟨b1,b2,b3,b4,b5⟩:=hb
 apply Y
 have e:(2:Nat) ^ 30≤2 ^ 700:=Nat.pow_le_pow_right (by decide) (by decide)
 refine⟨A,by unfold rlE;rw [if_pos rfl],⟨by decide+kernel,by decide+kernel,⟨by omega,by omega,by omega,by omega,by omega,by omega⟩,g1,g2,l1,b5⟩,?_,h1⟩
 unfold Vk InR
 rw [Int.zero_mul,Int.zero_mul,Int.add_zero]
 exact h0
theorem qOc {A p q r s l:Int}(hA0:60≤A)(hA:A < 360)(hb:p.natAbs < 2 ^ 30∧q.natAbs < 2 ^ 30∧r.natAbs < 2 ^ 30∧s.natAbs < 2 ^ 30∧l.natAbs < 2 ^ 30)(hq:1≤q)(hs:1≤s)(g1:Int.gcd p q=1)(g2:Int.gcd r s=1)(l1:1≤l):ItR (rlE A) (.clip "a" p q r s l):=fun n p' q' r' s' l' e=>by
 cases e
 obtain⟨b1,b2,b3,b4,b5⟩:=hb
 have e1:(2:Nat) ^ 30≤2 ^ 110:=Nat.pow_le_pow_right (by decide) (by decide)
 exact⟨A,⟨by omega,g1,by omega,by omega⟩,⟨by omega,g2,by omega,by omega⟩,b5,l1,by unfold rlE;rw [if_pos rfl],Nat.lt_of_le_of_lt (show A.natAbs≤360 by omega) (Nat.lt_of_lt_of_le (show 360 < 2 ^ 10 by decide) (Nat.pow_le_pow_right (by decide) (by decide)))⟩
def six:List Im:=[.clip "a" 7 2 1 2 4,.mix 1,.clip "a" 9 1 (-1) 3 2]
def wid:Im:=.clip "a" 20 1 1 1 9
def fiv (l:Int):List Im:=[wid,.mix 4,.clip "a" 20 1 1 1 l,.mix 4,wid]
def stl:List Im:=[.gap (10 ^ 20),.clip "a" 0 1 0 1 (10 ^ 30)]
theorem qLz:∀ i:Fin 300,wG (rlE (60+(i.val:Int))) six=true:=by decide+kernel
theorem qIv:∀ i:Fin 300,wG (rlE (60+(i.val:Int))) (fiv 4)=true∧wG (rlE (60+(i.val:Int))) (fiv 3)=false:=by decide+kernel
theorem qG6 {P:Int→Prop}(h:∀ i:Fin 300,P (60+(i.val:Int))){A:Int}(hA0:60≤A)(hA:A < 360):P A:=by
 have q:P (60+(((A - 60).toNat:Nat):Int)):=h ⟨(A - 60).toNat,by omega⟩
 have e:(60:Int)+(((A - 60).toNat:Nat):Int)=A:=by omega
 rwa [e] at q
theorem qK2 {A:Int}{tn:Str→Bool}(hA0:60≤A)(hA:A < 360)(l:Int)(l1:1≤l)(l9:l≤9):OkI (rlE A) tn (.clip "a" 20 1 1 1 l)∧ItR (rlE A) (.clip "a" 20 1 1 1 l):=by
 have e:(30:Nat) < 2 ^ 30:=by decide
 have e':(2:Nat) ^ 30≤2 ^ 110:=Nat.pow_le_pow_right (by decide) (by decide)
 exact⟨qMl hA ⟨by omega,by omega,by omega,by omega,by omega⟩ (by decide) (by decide) (by decide) (by decide) l1 ⟨by omega,by omega⟩ ⟨by omega,by omega⟩,qOc hA0 hA ⟨by omega,by omega,by omega,by omega,by omega⟩ (by decide) (by decide) (by decide) (by decide) l1⟩
theorem qJv {ms:List Im}(h:∀ l,Im.gap l ∉ ms):GapP ms:=fun i l hi=>absurd (List.mem_of_getElem? hi) (h l)
theorem qJt {A:Int}{tn:Str→Bool}(hA0:60≤A)(hA:A < 360):GoodTk (rlE A) tn six:=by
 have b:∀ {p q r s l:Int},(p.natAbs≤30∧q.natAbs≤30∧r.natAbs≤30∧s.natAbs≤30∧l.natAbs≤30)→p.natAbs < 2 ^ 30∧q.natAbs < 2 ^ 30∧r.natAbs < 2 ^ 30∧s.natAbs < 2 ^ 30∧l.natAbs < 2 ^ 30:=fun h=>by
  have e:(30:Nat) < 2 ^ 30:=by decide
  omega
 have up:∀ {l:Int},l.natAbs < 2 ^ 30→l.natAbs < 2 ^ 110:=fun h=>Nat.lt_of_lt_of_le h (Nat.pow_le_pow_right (by decide) (by decide))
 have b1:=b (p:=7) (q:=2) (r:=1) (s:=2) (l:=4) (by decide)
 have b2:=b (p:=9) (q:=1) (r:=-1) (s:=3) (l:=2) (by decide)
 refine⟨by decide,?_,⟨qJv fun l h=>by simp [six] at h,mixB_all.mp (by decide+kernel)⟩,qG6 (P:=fun A=>wG (rlE A) six=true) qLz hA0 hA,fun _=>?_⟩
 · intro m hm
   simp only [six,List.mem_cons,List.not_mem_nil,or_false] at hm
   rcases hm with rfl | rfl | rfl
   · exact qMl hA ⟨b1.1,b1.2.1,b1.2.2.1,b1.2.2.2.1,up b1.2.2.2.2⟩ (by decide) (by decide) (by decide) (by decide) (by decide) ⟨by decide,by omega⟩ ⟨by decide,by omega⟩
   · exact(by decide:(1:Int)≤1)
   · exact qMl hA ⟨b2.1,b2.2.1,b2.2.2.1,b2.2.2.2.1,up b2.2.2.2.2⟩ (by decide) (by decide) (by decide) (by decide) (by decide) ⟨by decide,by omega⟩ ⟨by decide,by omega⟩
 · intro m hm
   simp only [six,List.mem_cons,List.not_mem_nil,or_false] at hm
   rcases hm with rfl | rfl | rfl
   · exact qOc hA0 hA b1 (by decide) (by decide) (by decide) (by decide) (by decide)
   · exact fun _ _ _ _ _ _ q=>nomatch q
   · exact qOc hA0 hA b2 (by decide) (by decide) (by decide) (by decide) (by decide)
theorem qLa {A:Int}{tn:Str→Bool}(hA0:60≤A)(hA:A < 360){l:Int}(l1:1≤l)(l9:l≤9):(∀ m∈fiv l,OkI (rlE A) tn m∧ItR (rlE A) m)∧qC1 (fiv l):=by
 refine⟨fun m hm=>?_,qJv fun l h=>by simp [fiv,wid] at h,mixB_all.mp rfl⟩
 simp only [fiv,wid,List.mem_cons,List.not_mem_nil,or_false] at hm
 have w:=qK2 (tn:=tn) hA0 hA 9 (by decide) (by decide)
 have mx:OkI (rlE A) tn (.mix 4)∧ItR (rlE A) (.mix 4):=⟨(by decide:(1:Int)≤4),fun _ _ _ _ _ _ q=>nomatch q⟩
 rcases hm with rfl | rfl | rfl | rfl | rfl
 · exact w
 · exact mx
 · exact qK2 hA0 hA l l1 l9
 · exact mx
 · exact w
theorem qJ0 {A:Int}{tn:Str→Bool}(hA0:60≤A)(hA:A < 360):GoodTk (rlE A) tn (fiv 4):=
 have h:=qLa (tn:=tn) hA0 hA (l:=4) (by decide) (by decide)
 ⟨by show 5≤100;decide,fun m hm=>(h.1 m hm).1,h.2,(qG6 (P:=fun A=>wG (rlE A) (fiv 4)=true∧wG (rlE A) (fiv 3)=false) qIv hA0 hA).1,fun _ m hm=>(h.1 m hm).2⟩
theorem qKl {A:Int}{tn:Str→Bool}(hA0:60≤A)(hA:A < 360):GoodTk (rlE A) tn stl:=by
 refine xQ (by show 2≤100;decide) (fun m hm=>?_) (fun i l hi=>?_) fun l h=>by simp [stl] at h
 · simp only [stl,List.mem_cons,List.not_mem_nil,or_false] at hm
   rcases hm with rfl | rfl
   · exact(by decide:(1:Int)≤10 ^ 20)
   · exact qMl hA ⟨by decide,by decide,by decide,by decide,by decide⟩ (by decide) (by decide) (by decide) (by decide) (by decide) ⟨by omega,by omega⟩ ⟨by omega,by omega⟩
 · match i,hi with
   | 0,_=>exact⟨_,rfl,(by decide+kernel:("clip":Str)≠"gap")⟩
   | 1,hi=>simp [stl] at hi
   | i+2,hi=>simp [stl] at hi
def tb6 (tops:List (List Im))(l1 l2:List Im)(c1 c2:Im):List Tb:=[("top",tops,[]),("low",[l1.map ren,l2.map ren],[]),("deep",[[c1,.gap 3,c2]],[]),("six",[six],[]),("a",[fiv 4],[]),("x",[[],stl,[],[],[],stl,[],[]],[0,2,7])]
def nm6:List Str:=["top","low","deep","six","a","x"]
theorem qBt {tops:List (List Im)}{l1 l2:List Im}{c1 c2:Im}:(tb6 tops l1 l2 c1 c2).map (·.1)=nm6:=rfl
theorem qEr:nm6.Nodup:=by decide+kernel
theorem qBn:qFv "top":=⟨by decide+kernel,by decide+kernel⟩
theorem qBl:qFv "low":=⟨by decide+kernel,by decide+kernel⟩
theorem qCh:qFv "deep":=⟨by decide+kernel,by decide+kernel⟩
def rk6 (n:Str):Nat:=if n="top" then 2 else if n="low" then 1 else 0
theorem qNa:rk6 "top"=2∧rk6 "low"=1∧rk6 "deep"=0:=by decide+kernel
structure TOk (A:Int)(tops:List (List Im))(l1 l2:List Im)(c1 c2:Im):Prop where
 a0:60≤A
 a1:A < 360
 n1:1≤tops.length
 n3:tops.length≤3
 tt:∀ ms∈tops,TP A ms
 t1:TP A l1
 t2:TP A l2
 k1:CF A c1
 k2:CF A c2
theorem TOk.deep {A:Int}{tops:List (List Im)}{l1 l2:List Im}{c1 c2:Im}(h:TOk A tops l1 l2 c1 c2){tn:Str→Bool}:GoodTk (rlE A) tn [c1,.gap 3,c2]:=by
 obtain⟨o1,w1,g1,_⟩:=h.k1.ok h.a0 h.a1 (tn:=tn)
 obtain⟨o2,w2,g2,_⟩:=h.k2.ok h.a0 h.a1 (tn:=tn)
 refine xQ (by show 3≤100;decide) (fun m hm=>?_) (fun i l hi=>?_) fun l hl=>?_
 · simp only [List.mem_cons,List.not_mem_nil,or_false] at hm
   rcases hm with rfl | rfl | rfl
   · exact o1
   · exact(by decide:(1:Int)≤3)
   · exact o2
 · match i,hi with
   | 0,hi=>exact absurd (by simpa using hi) (g1 l)
   | 1,hi=>exact⟨c2,rfl,fun q=>by obtain⟨l',e⟩:=qFx q;exact g2 l' e⟩
   | 2,hi=>exact absurd (by simpa using hi) (g2 l)
   | i+3,hi=>simp at hi
 · simp only [List.mem_cons,List.not_mem_nil,or_false] at hl
   rcases hl with e | e | e
   · exact w1 (by rw [← e];rfl)
   · cases e
   · exact w2 (by rw [← e];rfl)
theorem TOk.each {A:Int}{tops:List (List Im)}{l1 l2:List Im}{c1 c2:Im}(h:TOk A tops l1 l2 c1 c2){tn:Str→Bool}(hl:tn "low"=true)(hd:tn "deep"=true):∀ t∈tb6 tops l1 l2 c1 c2,qFv t.1∧GoodTb (rlE A) tn t.2.1 t.2.2:=by
 intro t ht
 simp only [tb6,List.mem_cons,List.not_mem_nil,or_false] at ht
 rcases ht with rfl | rfl | rfl | rfl | rfl | rfl
 · exact⟨qBn,h.n1,by have:=h.n3;show tops.length≤8;omega,fun ms hm=>(h.tt ms hm).good h.a0 h.a1 hl,rfl⟩
 · refine⟨qBl,by show 1≤2;decide,by show 2≤8;decide,fun ms hm=>?_,rfl⟩
   simp only [List.mem_cons,List.not_mem_nil,or_false] at hm
   rcases hm with rfl | rfl
   · exact h.t1.goodR h.a0 h.a1 hd
   · exact h.t2.goodR h.a0 h.a1 hd
 · refine⟨qCh,by show 1≤1;decide,by show 1≤8;decide,fun ms hm=>?_,rfl⟩
   obtain rfl:ms=[c1,.gap 3,c2]:=by simpa using hm
   exact h.deep
 · refine⟨⟨by decide+kernel,by decide+kernel⟩,by show 1≤1;decide,by show 1≤8;decide,fun ms hm=>?_,rfl⟩
   obtain rfl:ms=six:=by simpa using hm
   exact qJt h.a0 h.a1
 · refine⟨⟨by decide+kernel,by decide+kernel⟩,by show 1≤1;decide,by show 1≤8;decide,fun ms hm=>?_,rfl⟩
   obtain rfl:ms=fiv 4:=by simpa using hm
   exact qJ0 h.a0 h.a1
 · refine⟨⟨by decide+kernel,by decide+kernel⟩,by show 1≤8;decide,by show 8≤8;decide,fun ms hm=>?_,by decide+kernel⟩
   have:ms=[]∨ms=stl:=by
    simp only [List.mem_cons,List.not_mem_nil,or_false] at hm
    rcases hm with h | h | h | h | h | h | h | h <;> first | exact .inl h | exact .inr h
   rcases this with rfl | rfl
   · exact tk_nil
   · exact qKl h.a0 h.a1
theorem TOk.nests {A:Int}{tops:List (List Im)}{l1 l2:List Im}{c1 c2:Im}(h:TOk A tops l1 l2 c1 c2):(∀ n∈je tops,n="low")∧(∀ n∈je [l1.map ren,l2.map ren],n="deep")∧je [[c1,.gap 3,c2]]=[]:=by
 refine⟨fun n hn=>?_,fun n hn=>?_,?_⟩
 · obtain⟨ms,hm,hn⟩:=List.mem_flatMap.mp hn
   obtain⟨m,h1,h2⟩:=List.mem_filterMap.mp hn
   exact(((h.tt ms hm).2.1 m h1).ok h.a0 h.a1 (tn:=fun _=>true)).2.2.2.2.1 n h2
 · obtain⟨ms,hm,hn⟩:=List.mem_flatMap.mp hn
   obtain⟨m,h1,h2⟩:=List.mem_filterMap.mp hn
   simp only [List.mem_cons,List.not_mem_nil,or_false] at hm
   rcases hm with rfl | rfl
   · obtain⟨m',h3,rfl⟩:=List.mem_map.mp h1
     exact((h.t1.2.1 m' h3).ok h.a0 h.a1 (tn:=fun _=>true)).2.2.2.2.2 n h2
   · obtain⟨m',h3,rfl⟩:=List.mem_map.mp h1
     exact((h.t2.2.1 m' h3).ok h.a0 h.a1 (tn:=fun _=>true)).2.2.2.2.2 n h2
 · have e1:=(h.k1.ok h.a0 h.a1 (tn:=fun _=>true)).2.2.2
   have e2:=(h.k2.ok h.a0 h.a1 (tn:=fun _=>true)).2.2.2
   have e3:nmO (.gap 3)=none:=rfl
   unfold je
   rw [List.flatMap_cons,List.filterMap_cons,e1,List.filterMap_cons,e3,List.filterMap_cons,e2]
   rfl
theorem TOk.good {A:Int}{tops:List (List Im)}{l1 l2:List Im}{c1 c2:Im}(h:TOk A tops l1 l2 c1 c2):GoodTs (rlE A) (tb6 tops l1 l2 c1 c2)∧kM (tb6 tops l1 l2 c1 c2)=true:=by
 have ev:=h.each (tn:=fun n=>decide (n∈(tb6 tops l1 l2 c1 c2).map (·.1))) (by rw [qBt];decide+kernel) (by rw [qBt];decide+kernel)
 refine⟨⟨by rw [qBt];exact qEr,by show 6≤20;decide,fun t ht=>(ev t ht).1,fun t ht=>(ev t ht).2⟩,qEm rk6 (by rw [qBt];exact qEr) fun t ht=>?_⟩
 obtain⟨n1,n2,n3⟩:=h.nests
 obtain⟨r1,r2,r3⟩:=qNa
 rw [qBt]
 simp only [tb6,List.mem_cons,List.not_mem_nil,or_false] at ht
 rcases ht with rfl | rfl | rfl | rfl | rfl | rfl
 · exact⟨by show rk6 "top" < 6;omega,fun n hn=>by rw [n1 n hn];exact⟨by show rk6 "low" < rk6 "top";omega,by decide+kernel⟩⟩
 · exact⟨by show rk6 "low" < 6;omega,fun n hn=>by rw [n2 n hn];exact⟨by show rk6 "deep" < rk6 "low";omega,by decide+kernel⟩⟩
 · exact⟨by show rk6 "deep" < 6;omega,fun n hn=>by dsimp only at hn;rw [n3] at hn;cases hn⟩
 · exact⟨by decide+kernel,fun n hn=>(by cases hn)⟩
 · exact⟨by decide+kernel,fun n hn=>(by cases hn)⟩
 · exact⟨by decide+kernel,fun n hn=>(by cases hn)⟩
seal L2.PPs
theorem z1:(1:Nat)≤sizeLine:=by decide
theorem z3:(3:Nat)≤sizeLine:=by decide
theorem z6:(6:Nat)≤sizeLine:=by decide
theorem z4:(4:Nat)≤sizeLine:=by decide
def tS (n:Nat):Str:=⟨(List.replicate n 116).toArray⟩
theorem qJc:∀ n:Nat,(List.replicate n [116]).flatten=List.replicate n 116
 | 0=>rfl
 | n+1=>by rw [List.replicate_succ,List.flatten_cons,qJc n,List.replicate_succ];rfl
theorem qN0 {n:Nat}{r:Str}(h:r.cps.toList=(List.replicate n ("t":Str).cps.toList).flatten):r=tS n:=by
 have e:("t":Str).cps.toList=[116]:=by decide+kernel
 rw [e,qJc] at h
 obtain⟨c⟩:=r
 unfold tS
 congr 1
 apply Array.ext'
 simpa using h
def chE (k:Nat):Tb:=if k=0 then ("t",[[.gap 2,.clip "a" 3 1 1 1 4]],[]) else (tS (k+1),[[.nest (tS k) k 3]],[0])
def chT (n:Nat):List Tb:=(List.range n).map chE
theorem ch_nd:((chT 6).map (·.1)).Nodup∧((chT 7).map (·.1)).Nodup:=by decide+kernel
theorem ch_deep:kM (chT 6)=true∧kM (chT 7)=false:=
 ⟨qEm (fun n=>n.length - 1) ch_nd.1 (by decide+kernel),qCs (fun n=>n.length - 1) (by decide+kernel) (t0:=chE 6) (by unfold chT;exact List.mem_map.mpr ⟨6,by decide,rfl⟩) (by decide+kernel)⟩
theorem ch_nm:(∀ t∈(chT 6).map (·.1),jm t=true∧t.length≤1000)∧∀ t∈(chT 7).map (·.1),jm t=true∧t.length≤1000:=by decide+kernel
theorem qOp:∀ k:Fin 7,k.val≠0→(tS k.val∈(chT 7).map (·.1)∧(k.val < 6→tS k.val∈(chT 6).map (·.1)))∧jm (tS k.val)=true∧(tS k.val).length≤1000:=by decide+kernel
theorem qH0 {A:Int}(hA0:60≤A)(hA:A < 360){n:Nat}(hn:n=6∨n=7):GoodTs (rlE A) (chT n):=by
 have nd:((chT n).map (·.1)).Nodup:=by rcases hn with rfl | rfl;exact ch_nd.1;exact ch_nd.2
 have hl:(chT n).length=n:=by unfold chT;rw [List.length_map,List.length_range]
 refine⟨nd,by omega,fun t ht=>?_,fun t ht=>?_⟩
 · have h1:t.1∈(chT n).map (·.1):=List.mem_map.mpr ⟨t,ht,rfl⟩
   rcases hn with rfl | rfl
   · exact ch_nm.1 _ h1
   · exact ch_nm.2 _ h1
 · obtain⟨k,hk,rfl⟩:=List.mem_map.mp ht
   have hk:=List.mem_range.mp hk
   unfold chE
   by_cases h0:k=0
   · rw [if_pos h0]
     refine⟨by show 1≤1;decide,by show 1≤8;decide,fun ms hm=>?_,by rfl⟩
     obtain rfl:ms=[.gap 2,.clip "a" 3 1 1 1 4]:=by simpa using hm
     refine xQ (by show 2≤100;decide) (fun m hm=>?_) (fun i l hi=>?_) fun l h=>by simp at h
     · simp only [List.mem_cons,List.not_mem_nil,or_false] at hm
       rcases hm with rfl | rfl
       · exact(by decide:(1:Int)≤2)
       · exact qMl hA ⟨by decide,by decide,by decide,by decide,by decide⟩ (by decide) (by decide) (by decide) (by decide) (by decide) ⟨by omega,by omega⟩ ⟨by omega,by omega⟩
     · match i,hi with
       | 0,_=>exact⟨_,rfl,(by decide+kernel:("clip":Str)≠"gap")⟩
       | 1,hi=>simp at hi
       | i+2,hi=>simp at hi
   · rw [if_neg h0]
     refine⟨by show 1≤1;decide,by show 1≤8;decide,fun ms hm=>?_,by rfl⟩
     obtain rfl:ms=[.nest (tS k) k 3]:=by simpa using hm
     obtain⟨⟨i7,i6⟩,i1,i2⟩:=qOp ⟨k,by omega⟩ h0
     refine xQ (by show 1≤100;decide) (fun m hm=>?_) (qJv fun l h=>by simp at h) fun l h=>by simp at h
     obtain rfl:m= .nest (tS k) k 3:=by simpa using hm
     refine⟨i1,i2,by omega,by decide,decide_eq_true ?_⟩
     rcases hn with rfl | rfl
     · exact i6 hk
     · exact i7
theorem qL0 (n:Nat):chT (n+1)=chT n++[chE n]:=by unfold chT;rw [List.range_succ,List.map_append];rfl
theorem qN5:∀ k:Fin 7,tS (k.val+1) ∉ (chT k.val).map (·.1):=by decide+kernel
inductive qBz (vs:List V)(H:Hp)(Q:VK)(_:XK):Prop
| mk (n:Nat) (_:vs=[.int (n:Int)]) (_:(n=6∨n=7)) (_:∀ (td:Addr) (kvs:List (Key × V)) (H':Hp),Same H H'→H td=none→H' td=some (.dK kvs)→TbsAt H' (chT n) kvs→Q (.ref td) H')
theorem vO (T:Tx K mg a):FnOk P w K mg base CX0 1 a.A55 a.B55 ["_law_deep"] qBz:=by
 refine T.D55.F.ok xG (fun vs H Q E h=>?_) (fun cdv A outer s H vs Q E hr h=>?_)
 · obtain⟨n,rfl,_⟩:=h
   rfl
 refine qM fun _ Y=>?_
 obtain⟨n,rfl,hn,kk⟩:=h
 apply Y
 have hu1:=qBg hr
 refine⟨_,(qF (qg 1 xG.nd (qEy (kH qI (qK (qA (qO (qA (qO (qA (qK (qA qI (qA qE qD))) (qA (qK (qA qI (qA qI (qA (qK (qA qE (qA qE qD))) (qA (qK (qA qE (qA qE qD))) (qA qE qD)))))) qD))) qD)) (qA (qO qD) qD))) qFm) rfl rfl (by simp) (by decide)))
  (qF (jk PassesOwn.never rfl (qIz rfl T.b_range (qA qE (qA (pv 0) qD))) (qq (i:=2) xG.nd rfl (Or.inl rfl)) (qF (qg 3 xG.nd (qN qGv qI (qN jE (pv 2) qE)))
  (qG (jX hu1 (pv 1) (pv 3) (qK (qA (qO (qA (qO (qA (qK (qA qI (qA (qN qGv qI (pv 2)) (qA (pv 2) (qA qE qD))))) qD)) qD)) (qA (qO (qA qE qD)) qD))) rfl))))
  (qG (qU (pv 1))))),?_⟩
 try dsimp only [jc,qk]
 refine fun td htd=>?_
 have w0:=qC htd (.dK [])
 refine⟨sL2,fun g1 hg1=>⟨sL2,fun x1 hx1=>⟨sL2,fun y1 hy1=>⟨sL5,fun c1 hc1=>⟨sL2,fun l1 hl1=>⟨z1,fun l2 hl2=>⟨sL0,fun l3 hl3=>⟨sL2,fun t1 ht1=>?_⟩⟩⟩⟩⟩⟩⟩⟩
 have i_td:=qB (H:=H) (a:=td) (o:=.dK [])
 generalize upd H td _=H0 at w0 i_td hg1 hx1 hy1 hc1 hl1 hl2 hl3 ht1 ⊢
 have n1:=qC hg1 (.tup [.str "gap",.int 2])
 have n2:=qC hx1 (.tup [.int 3,.int 1])
 have n3:=qC hy1 (.tup [.int 1,.int 1])
 have n4:=qC hc1 (.tup [.str "clip",.str "a",.ref x1,.ref y1,.int 4])
 have n5:=qC hl1 (.lst [.ref g1,.ref c1])
 have n6:=qC hl2 (.lst [.ref l1])
 have n7:=qC hl3 (.lst [])
 have n8:=qC ht1 (.tup [.ref l2,.ref l3])
 have q7:=n8
 have q6:=n7.trans q7
 have q5:=n6.trans q6
 have q4:=n5.trans q5
 have q3:=n4.trans q4
 have q2:=n3.trans q3
 have q1:=n2.trans q2
 have i_g1:=q1 _ _ qB
 have i_x1:=q2 _ _ qB
 have i_y1:=q3 _ _ qB
 have i_c1:=q4 _ _ qB
 have i_l1:=q5 _ _ qB
 have i_l2:=q6 _ _ qB
 have i_l3:=q7 _ _ qB
 have i_t1:=qB (H:=(upd (upd (upd (upd (upd (upd (upd H0 g1 (.tup [.str "gap",.int 2])) x1 (.tup [.int 3,.int 1])) y1 (.tup [.int 1,.int 1])) c1 (.tup [.str "clip",.str "a",.ref x1,.ref y1,.int 4])) l1 (.lst [.ref g1,.ref c1])) l2 (.lst [.ref l1])) l3 (.lst []))) (a:=t1) (o:=.tup [.ref l2,.ref l3])
 have s_H1:=n1.trans q1
 have l_t1:H0 t1=none:=(((((((n1.trans n2).trans n3).trans n4).trans n5).trans n6).trans n7)).free ht1
 clear n1 n2 n3 n4 n5 n6 n7 n8 q1 q2 q3 q4 q5 q6 q7
 generalize (upd (upd (upd (upd (upd (upd (upd (upd H0 g1 _) x1 _) y1 _) c1 _) l1 _) l2 _) l3 _) t1 _)=H1 at i_g1 i_x1 i_y1 i_c1 i_l1 i_l2 i_l3 i_t1 s_H1 ⊢
 clear hg1 hx1 hy1 hc1 hl1 hl2 hl3 ht1
 have i_td:=s_H1 _ _ i_td
 refine⟨i_td,[(Sum.inr "t",.ref t1)],rfl,(by show 1≤15;decide),?_⟩
 have em:wI [] [((Sum.inr ("t":Str):Key),V.ref t1)]=[(Sum.inr ("t":Str),.ref t1)]:=by rfl
 rw [em]
 have hT1:TbsAt H1 (chT 1) [(Sum.inr "t",.ref t1)]:=⟨rfl,⟨t1,l2,l3,_,rfl,i_t1,i_l2,⟨⟨l1,rfl,_,i_l1,⟨g1,rfl,i_g1⟩,⟨c1,x1,y1,rfl,i_c1,i_x1,i_y1⟩,trivial⟩,trivial⟩,i_l3⟩,trivial⟩
 have sb:=jT (z:=td) (H:=H1) (o:=.dK [(Sum.inr "t",.ref t1)])
 have hT2:=hT1.sbD sb i_td
 have s02:Same H (upd H1 td (.dK [(Sum.inr "t",.ref t1)])):=jD (w0.trans s_H1) sb htd
 have i_td2:=qB (H:=H1) (a:=td) (o:=.dK [(Sum.inr "t",.ref t1)])
 generalize upd H1 td _=H2 at hT2 s02 i_td2 ⊢
 have en:((n:Int) - 1).toNat=n - 1:=by omega
 refine⟨_,rfl,1,_,rfl,⟨by omega,by omega,by omega,by omega⟩,?_⟩
 rw [en]
 refine xm (lo:=1) (n:=n - 1) (fun i σ H'=>∃ (o1 o2:Option V) (kvs:List (Key × V)),σ=[some (.int (n:Int)),some (.ref td),o1,o2]∧Same H H'∧H' td=some (.dK kvs)∧TbsAt H' (chT (i+1)) kvs) ⟨none,none,_,rfl,s02,i_td2,hT2⟩ ?_ ?_
 · rintro i σ H3 hi ⟨o1,o2,kvs,rfl,e3,h3,hT3⟩
   refine⟨_,rfl,_,_,rfl,rfl,"t",_,rfl,rfl,by omega,by omega,by decide+kernel,by decide+kernel,fun r hr=>?_⟩
   have er:r=tS (i+2):=qN0 (by rw [show (1+(i:Int)+1).toNat=i+2 by omega] at hr;exact hr)
   subst er
   refine⟨_,rfl,"t",_,rfl,rfl,(by omega),(by omega),(by decide+kernel),(by decide+kernel),fun r2 hr2=>⟨_,rfl,z4,fun b1 hb1=>⟨z1,fun m1 hm1=>⟨z1,fun m2 hm2=>⟨z1,fun m3 hm3=>⟨sL2,fun t2 ht2=>?_⟩⟩⟩⟩⟩⟩
   have er:r2=tS (i+1):=qN0 (by rw [show (1+(i:Int)).toNat=i+1 by omega] at hr2;exact hr2)
   subst er
   have n1:=qC hb1 (.tup [.str "nest",.str (tS (i+1)),.int (1+(i:Int)),.int 3])
   have n2:=qC hm1 (.lst [.ref b1])
   have n3:=qC hm2 (.lst [.ref m1])
   have n4:=qC hm3 (.lst [.int 0])
   have n5:=qC ht2 (.tup [.ref m2,.ref m3])
   have q4:=n5
   have q3:=n4.trans q4
   have q2:=n3.trans q3
   have q1:=n2.trans q2
   have i_b1:=q1 _ _ qB
   have i_m1:=q2 _ _ qB
   have i_m2:=q3 _ _ qB
   have i_m3:=q4 _ _ qB
   have i_t2:=qB (H:=(upd (upd (upd (upd H3 b1 (.tup [.str "nest",.str (tS (i+1)),.int (1+(i:Int)),.int 3])) m1 (.lst [.ref b1])) m2 (.lst [.ref m1])) m3 (.lst [.int 0]))) (a:=t2) (o:=.tup [.ref m2,.ref m3])
   have s_H4:=n1.trans q1
   have l_t2:H3 t2=none:=((((n1.trans n2).trans n3).trans n4)).free ht2
   clear n1 n2 n3 n4 n5 q1 q2 q3 q4
   generalize (upd (upd (upd (upd (upd H3 b1 _) m1 _) m2 _) m3 _) t2 _)=H4 at i_b1 i_m1 i_m2 i_m3 i_t2 s_H4 ⊢
   clear hb1 hm1 hm2 hm3 ht2
   have i_td4:=s_H4 _ _ h3
   have hl:=hT3.len
   have hcl:(chT (i+1)).length=i+1:=by unfold chT;rw [List.length_map,List.length_range]
   refine⟨_,rfl,_,rfl,td,_,rfl,.inl ⟨kvs,Sum.inr (tS (i+2)),i_td4,rfl,qS (by omega),rfl⟩,?_⟩
   have hno:xv kvs (Sum.inr (tS (i+2)))=none:=hT3.no (qN5 ⟨i+1,by omega⟩)
   rw [xJ _ hno]
   have sb3:=jT (z:=td) (H:=H4) (o:=.dK (kvs++[(Sum.inr (tS (i+2)),.ref t2)]))
   have hN:TabF H4 (.ref t2) [[.nest (tS (i+1)) (1+(i:Int)) 3]] [0]:=⟨t2,m2,m3,_,rfl,i_t2,i_m2,⟨⟨m1,rfl,_,i_m1,⟨b1,rfl,i_b1⟩,trivial⟩,trivial⟩,i_m3⟩
   have ec:chE (i+1)=(tS (i+2),[[.nest (tS (i+1)) (1+(i:Int)) 3]],[0]):=by
    unfold chE
    rw [if_neg (by omega)]
    have e1:((i+1:Nat):Int)=1+(i:Int):=by omega
    rw [e1]
   refine⟨_,_,_,rfl,jD (e3.trans s_H4) sb3 htd,qB,?_⟩
   rw [qL0,ec]
   exact((hT3.same s_H4).app hN).sbD sb3 i_td4
 · rintro σ H3 ⟨o1,o2,kvs,rfl,e3,h3,hT3⟩
   rw [show n - 1+1=n by omega] at hT3
   exact⟨_,rfl,kk td kvs H3 e3 htd h3 hT3⟩
def cl (A w:Int):Im:=.clip "a" (A - w) 1 1 1 w
def qBc (A w:Int):Nat→List Im
 | 0=>[.gap 2,.gap 3,cl A w]
 | 1=>[cl A w,.gap 2]
 | 2=>[.clip "a" (A - w) 1 1 1 (w+1)]
 | 3=>[.clip "a" w 1 (-1) 1 (w+2)]
 | 4=>[.clip "a" 2 2 1 1 1]
 | 5=>[.clip "a" 1 1 1 1 0]
 | 7=>[.nest "nobody" 0 1]
 | 8=>[.nest "top" 0 1]
 | 9=>[.nest "low" (-1) 1]
 | 10=>[.nest "low" 0 0]
 | 11=>[.mix 1,cl A w,cl A w]
 | 12=>[cl A w,cl A w,.mix 1]
 | 13=>[cl A w,.mix 1,.gap 1,cl A w]
 | 14=>[cl A w,.mix 1,cl A w]
 | 15=>[.clip "a" 0 1 1 1 3,.mix 8,.clip "a" 9 1 1 1 9]
 | 17=>[.clip "nobody" 1 1 1 1 1]
 | 18=>[.clip "a" 30 1 1 1 9,.mix 4,.clip "a" 1 1 1 1 9]
 | 19=>fiv 3
 | _=>[]
def BdT (sm:Addr)(A w:Int)(H:Hp)(z:Addr)(k:Nat):Prop:=
 if k=6 then ∃ q x y:Addr,H z=some (.lst [.ref q])∧H q=some (.tup [.str "clip",.str "a",.ref x,.ref y,.bl true])∧H x=some (.tup [.int 1,.int 1])∧H y=some (.tup [.int 1,.int 1])
 else if k=16 then ∃ (q:Addr) (xs:List V),H z=some (.lst [.ref q])∧q≠sm∧H q=some (.lst xs)
 else Tr H z (qBc A w k)
theorem BdT.tr {sm:Addr}{A w:Int}{H:Hp}{z:Addr}{k:Nat}(h:Tr H z (qBc A w k))(h1:k≠6)(h2:k≠16):BdT sm A w H z k:=by unfold BdT;rw [if_neg h1,if_neg h2];exact h
def Bd (sm:Addr)(A w:Int)(H:Hp)(k:Nat)(v:V):Prop:=∃ z,v= .ref z∧z≠sm∧BdT sm A w H z k
def BdL (sm:Addr)(A w:Int)(H:Hp):Nat→List V→Prop
 | _,[]=>True
 | k,v::vs=>Bd sm A w H k v∧BdL sm A w H (k+1) vs
theorem Bd.up {sm:Addr}{A w:Int}{H H':Hp}{k:Nat}{v:V}(sb:SB sm H H')(ts:TS H H')(h:Bd sm A w H k v):Bd sm A w H' k v:=by
 obtain⟨z,rfl,nz,h⟩:=h
 refine⟨z,rfl,nz,?_⟩
 unfold BdT at h ⊢
 split at h
 · rename_i hk
   rw [if_pos hk]
   obtain⟨q,x,y,h1,h2,h3,h4⟩:=h
   exact⟨q,x,y,sb _ _ nz h1,ts _ _ h2,ts _ _ h3,ts _ _ h4⟩
 · rename_i hk
   rw [if_neg hk]
   split at h
   · rename_i hk
     rw [if_pos hk]
     obtain⟨q,xs,h1,h2,h3⟩:=h
     exact⟨q,xs,sb _ _ nz h1,h2,sb _ _ h2 h3⟩
   · rename_i hk
     rw [if_neg hk]
     exact h.sb sb nz ts
theorem BdL.up {sm:Addr}{A w:Int}{H H':Hp}(sb:SB sm H H')(ts:TS H H'):∀ {k:Nat} {vs:List V},BdL sm A w H k vs→BdL sm A w H' k vs
 | _,[],_=>trivial
 | _,_::_,⟨h1,h2⟩=>⟨h1.up sb ts,BdL.up sb ts h2⟩
theorem BdL.app {sm:Addr}{A w:Int}{H:Hp}{v:V}:∀ {k:Nat} {vs:List V},BdL sm A w H k vs→Bd sm A w H (k+vs.length) v→BdL sm A w H k (vs++[v])
 | k,[],_,h=>⟨h,trivial⟩
 | k,u::vs,⟨h1,h2⟩,h=>⟨h1,BdL.app h2 (by rw [show k+1+vs.length=k+(u::vs).length by rw [List.length_cons];omega];exact h)⟩
theorem BdL.get {sm:Addr}{A w:Int}{H:Hp}{v:V}:∀ {k:Nat} {vs:List V} {i:Nat},BdL sm A w H k vs→vs[i]? =some v→Bd sm A w H (k+i) v
 | _,[],_,_,h=>by simp at h
 | k,u::vs,0,⟨h1,_⟩,h=>by
  have e:u=v:=by simpa using h
  subst e;exact h1
 | k,u::vs,i+1,⟨_,h2⟩,h=>by
  have:=BdL.get (i:=i) h2 (by simpa using h)
  rwa [show k+1+i=k+(i+1) by omega] at this
theorem jO {sm:Addr}{A w:Int}{Hc Hn H:Hp}{k:Nat}{v:V}{vs:List V}(s0:Same H Hc)(h0:H sm=none)(bd:BdL sm A w Hc 0 vs)(hl:vs.length=k)(e:Same Hc Hn)(hs:Hc sm=some (.lst vs))(hb:Bd sm A w Hn k v):
 Same H (upd Hn sm (.lst (vs++[v])))∧BdL sm A w (upd Hn sm (.lst (vs++[v]))) 0 (vs++[v])∧(vs++[v]).length=k+1∧upd Hn sm (.lst (vs++[v])) sm=some (.lst (vs++[v]))∧TS Hc (upd Hn sm (.lst (vs++[v]))):=by
 have hn:=e _ _ hs
 have sb:SB sm Hn (upd Hn sm (.lst (vs++[v]))):=jT
 have ts:TS Hn (upd Hn sm (.lst (vs++[v]))):=xV hn
 refine⟨jD (s0.trans e) sb h0,BdL.app ((bd.up (jW e) (qi e)).up sb ts) ?_,by simp [hl],qB,(qi e).trans ts⟩
 rw [Nat.zero_add,hl]
 exact hb.up sb ts
inductive vh (vs:List V)(H:Hp)(Q:VK)(_:XK):Prop
| mk (c A:Int) (_:vs=[.int c,.int A]) (_:∀ (sm z:Addr) (w:Int) (H':Hp),Same H H'→1≤w→w≤9→BdT sm A w H' z (c.fmod 20).toNat→Q (.ref z) H')
theorem vx (T:Tx K mg a):FnOk P w K mg base CX0 1 a.A56 a.B56 ["_law_cell","_law_many"] vh:=by
 refine T.D56.F.ok jF (fun vs H Q E h=>?_) (fun cdv A outer s H vs Q E hr h=>?_)
 · obtain⟨c,A',rfl,_⟩:=h
   rfl
 refine qM fun _ Y=>?_
 obtain⟨c,A',rfl,kk⟩:=h
 apply Y
 refine⟨_,(qF (qg 2 jF.nd (qN jE qE (qN qm (qN qY (pv 0) qE) qE)))
  (qF (qg 3 jF.nd (qK (qA qI (qA qI (qA (qK (qA (qN jZ (pv 1) (pv 2)) (qA qE qD))) (qA (qK (qA qE (qA qE qD))) (qA (pv 2) qD)))))))
  (qF (qg 4 jF.nd (qO (qA (qO (qA (qK (qA qI (qA qE qD))) (qA (qK (qA qI (qA qE qD))) (qA (pv 3) qD)))) (qA (qO (qA (pv 3) (qA (qK (qA qI (qA qE qD))) qD))) (qA (qO (qA (qK (qA qI (qA qI (qA (qK (qA (qN jZ (pv 1) (pv 2)) (qA qE qD))) (qA (qK (qA qE (qA qE qD))) (qA (qN jE (pv 2) qE) qD)))))) qD)) qD)))))
  (qF (qf (j6 F.plainAttrs_list F.slot_list_append F.type_list_append qc (pv 4) (qA (qO (qA (qK (qA qI (qA qI (qA (qK (qA (pv 2) (qA qE qD))) (qA (qK (qA (wP zO qE) (qA qE qD))) (qA (qN jE (pv 2) qE) qD)))))) qD)) qD)))
  (qF (qf (j6 F.plainAttrs_list F.slot_list_append F.type_list_append qc (pv 4) (qA (qO (qA (qK (qA qI (qA qI (qA (qK (qA qE (qA qE qD))) (qA (qK (qA qE (qA qE qD))) (qA qE qD)))))) qD)) qD)))
  (qF (qf (j6 F.plainAttrs_list F.slot_list_append F.type_list_append qc (pv 4) (qA (qO (qA (qK (qA qI (qA qI (qA (qK (qA qE (qA qE qD))) (qA (qK (qA qE (qA qE qD))) (qA qE qD)))))) qD)) qD)))
  (qF (qf (j6 F.plainAttrs_list F.slot_list_append F.type_list_append qc (pv 4) (qA (qO (qA (qK (qA qI (qA qI (qA (qK (qA qE (qA qE qD))) (qA (qK (qA qE (qA qE qD))) (qA xq qD)))))) qD)) qD)))
  (qF (qf (j6 F.plainAttrs_list F.slot_list_append F.type_list_append qc (pv 4) (qA (qO (qA (qK (qA qI (qA qI (qA qE (qA qE qD))))) qD)) qD)))
  (qF (qf (j6 F.plainAttrs_list F.slot_list_append F.type_list_append qc (pv 4) (qA (qO (qA (qK (qA qI (qA qI (qA qE (qA qE qD))))) qD)) qD)))
  (qF (qf (j6 F.plainAttrs_list F.slot_list_append F.type_list_append qc (pv 4) (qA (qO (qA (qK (qA qI (qA qI (qA (wP zO qE) (qA qE qD))))) qD)) qD)))
  (qF (qf (j6 F.plainAttrs_list F.slot_list_append F.type_list_append qc (pv 4) (qA (qO (qA (qK (qA qI (qA qI (qA qE (qA qE qD))))) qD)) qD)))
  (qF (qf (j6 F.plainAttrs_list F.slot_list_append F.type_list_append qc (pv 4) (qA (qO (qA (qK (qA qI (qA qE qD))) (qA (pv 3) (qA (pv 3) qD)))) qD)))
  (qF (qf (j6 F.plainAttrs_list F.slot_list_append F.type_list_append qc (pv 4) (qA (qO (qA (pv 3) (qA (pv 3) (qA (qK (qA qI (qA qE qD))) qD)))) qD)))
  (qF (qf (j6 F.plainAttrs_list F.slot_list_append F.type_list_append qc (pv 4) (qA (qO (qA (pv 3) (qA (qK (qA qI (qA qE qD))) (qA (qK (qA qI (qA qE qD))) (qA (pv 3) qD))))) qD)))
  (qF (qf (j6 F.plainAttrs_list F.slot_list_append F.type_list_append qc (pv 4) (qA (qO (qA (pv 3) (qA (qK (qA qI (qA qE qD))) (qA (pv 3) qD)))) qD)))
  (qF (qf (j6 F.plainAttrs_list F.slot_list_append F.type_list_append qc (pv 4) (qA (qO (qA (qK (qA qI (qA qI (qA (qK (qA qE (qA qE qD))) (qA (qK (qA qE (qA qE qD))) (qA qE qD)))))) (qA (qK (qA qI (qA qE qD))) (qA (qK (qA qI (qA qI (qA (qK (qA qE (qA qE qD))) (qA (qK (qA qE (qA qE qD))) (qA qE qD)))))) qD)))) qD)))
  (qF (qf (j6 F.plainAttrs_list F.slot_list_append F.type_list_append qc (pv 4) (qA (qO (qA (qO (qA qI (qA qI (qA (qK (qA qE (qA qE qD))) (qA (qK (qA qE (qA qE qD))) (qA qE qD)))))) qD)) qD)))
  (qF (qf (j6 F.plainAttrs_list F.slot_list_append F.type_list_append qc (pv 4) (qA (qO (qA (qK (qA qI (qA qI (qA (qK (qA qE (qA qE qD))) (qA (qK (qA qE (qA qE qD))) (qA qE qD)))))) qD)) qD)))
  (qF (qf (j6 F.plainAttrs_list F.slot_list_append F.type_list_append qc (pv 4) (qA (qO (qA (qK (qA qI (qA qI (qA (qK (qA qE (qA qE qD))) (qA (qK (qA qE (qA qE qD))) (qA qE qD)))))) (qA (qK (qA qI (qA qE qD))) (qA (qK (qA qI (qA qI (qA (qK (qA qE (qA qE qD))) (qA (qK (qA qE (qA qE qD))) (qA qE qD)))))) qD)))) qD)))
  (qF (qg 2 jF.nd (qK (qA qI (qA qI (qA (qK (qA qE (qA qE qD))) (qA (qK (qA qE (qA qE qD))) (qA qE qD)))))))
  (qF (qf (j6 F.plainAttrs_list F.slot_list_append F.type_list_append qc (pv 4) (qA (qO (qA (pv 2) (qA (qK (qA qI (qA qE qD))) (qA (qK (qA qI (qA qI (qA (qK (qA qE (qA qE qD))) (qA (qK (qA qE (qA qE qD))) (qA qE qD)))))) (qA (qK (qA qI (qA qE qD))) (qA (pv 2) qD)))))) qD)))
  (qG (qU (jr jL (pv 4) (qN qm (pv 0) qE) (fun _ _=>rfl))))))))))))))))))))))))),?_⟩
 try dsimp only [jc,qk]
 refine⟨_,rfl,_,_,rfl,rfl,cdB (by decide) (by decide),_,_,rfl,rfl,nz,_,_,rfl,rfl,?_⟩
 have f9:=fm (c.fdiv 23) (show (0:Int) < 9 by decide)
 dsimp only
 generalize hw:1+(c.fdiv 23).fmod 9=w
 have w1:1≤w:=by omega
 have w9:w≤9:=by omega
 clear hw f9
 refine⟨_,rfl,_,rfl,_,_,rfl,rfl,sL2,fun x0 hx0=>⟨sL2,fun y0 hy0=>⟨_,rfl,sL5,fun c0 hc0=>?_⟩⟩⟩
 have n1:=qC hx0 (.tup [.int (A' - w),.int 1])
 have n2:=qC hy0 (.tup [.int 1,.int 1])
 have n3:=qC hc0 (.tup [.str "clip",.str "a",.ref x0,.ref y0,.int w])
 have q2:=n3
 have q1:=n2.trans q2
 have i_x0:=q1 _ _ qB
 have i_y0:=q2 _ _ qB
 have i_c0:=qB (H:=(upd (upd H x0 (.tup [.int (A' - w),.int 1])) y0 (.tup [.int 1,.int 1]))) (a:=c0) (o:=.tup [.str "clip",.str "a",.ref x0,.ref y0,.int w])
 have s_Ha:=n1.trans q1
 have l_c0:H c0=none:=((n1.trans n2)).free hc0
 clear n1 n2 n3 q1 q2
 generalize (upd (upd (upd H x0 _) y0 _) c0 _)=Ha at i_x0 i_y0 i_c0 s_Ha ⊢
 clear hx0 hy0 hc0
 refine⟨sL2,fun g52 hg52=>⟨sL2,fun g53 hg53=>⟨_,rfl,z3,fun r0 hr0=>⟨_,rfl,sL2,fun g54 hg54=>⟨sL2,fun r1 hr1=>⟨_,rfl,_,rfl,_,_,rfl,rfl,sL2,fun x56 hx56=>⟨sL2,fun y57 hy57=>⟨_,rfl,_,_,rfl,rfl,sL5,fun c55 hc55=>⟨z1,fun r2 hr2=>⟨z3,fun sm hsm=>?_⟩⟩⟩⟩⟩⟩⟩⟩⟩⟩
 have n1:=qC hg52 (.tup [.str "gap",.int 2])
 have n2:=qC hg53 (.tup [.str "gap",.int 3])
 have n3:=qC hr0 (.lst [.ref g52,.ref g53,.ref c0])
 have n4:=qC hg54 (.tup [.str "gap",.int 2])
 have n5:=qC hr1 (.lst [.ref c0,.ref g54])
 have n6:=qC hx56 (.tup [.int (A' - w),.int 1])
 have n7:=qC hy57 (.tup [.int 1,.int 1])
 have n8:=qC hc55 (.tup [.str "clip",.str "a",.ref x56,.ref y57,.int (w+1)])
 have n9:=qC hr2 (.lst [.ref c55])
 have n10:=qC hsm (.lst [.ref r0,.ref r1,.ref r2])
 have q9:=n10
 have q8:=n9.trans q9
 have q7:=n8.trans q8
 have q6:=n7.trans q7
 have q5:=n6.trans q6
 have q4:=n5.trans q5
 have q3:=n4.trans q4
 have q2:=n3.trans q3
 have q1:=n2.trans q2
 have i_g52:=q1 _ _ qB
 have i_g53:=q2 _ _ qB
 have i_r0:=q3 _ _ qB
 have i_g54:=q4 _ _ qB
 have i_r1:=q5 _ _ qB
 have i_x56:=q6 _ _ qB
 have i_y57:=q7 _ _ qB
 have i_c55:=q8 _ _ qB
 have i_r2:=q9 _ _ qB
 have i_sm:=qB (H:=(upd (upd (upd (upd (upd (upd (upd (upd (upd Ha g52 (.tup [.str "gap",.int 2])) g53 (.tup [.str "gap",.int 3])) r0 (.lst [.ref g52,.ref g53,.ref c0])) g54 (.tup [.str "gap",.int 2])) r1 (.lst [.ref c0,.ref g54])) x56 (.tup [.int (A' - w),.int 1])) y57 (.tup [.int 1,.int 1])) c55 (.tup [.str "clip",.str "a",.ref x56,.ref y57,.int (w+1)])) r2 (.lst [.ref c55]))) (a:=sm) (o:=.lst [.ref r0,.ref r1,.ref r2])
 have s_Hb:=n1.trans q1
 have l_sm:Ha sm=none:=(((((((((n1.trans n2).trans n3).trans n4).trans n5).trans n6).trans n7).trans n8).trans n9)).free hsm
 have ne_r0:r0≠sm:=qH ((((((n4.trans n5).trans n6).trans n7).trans n8).trans n9) _ _ qB) hsm
 have ne_r1:r1≠sm:=qH ((((n6.trans n7).trans n8).trans n9) _ _ qB) hsm
 have ne_r2:r2≠sm:=qH qB hsm
 clear n1 n2 n3 n4 n5 n6 n7 n8 n9 n10 q1 q2 q3 q4 q5 q6 q7 q8 q9
 generalize (upd (upd (upd (upd (upd (upd (upd (upd (upd (upd Ha g52 _) g53 _) r0 _) g54 _) r1 _) x56 _) y57 _) c55 _) r2 _) sm _)=Hb at i_g52 i_g53 i_r0 i_g54 i_r1 i_x56 i_y57 i_c55 i_r2 i_sm s_Hb ⊢
 clear hg52 hg53 hr0 hg54 hr1 hx56 hy57 hc55 hr2 hsm
 have l_sm0:=s_Ha.free l_sm
 have nr:∀ {z:Addr} {xs:List V},Hb z=some (.lst xs)→xs.length≠3∨(∃ x y,xs=[.ref x,.ref y,.ref c0])→True:=fun _ _=>trivial
 clear nr
 have d0:Tr Hb r0 (qBc A' w 0):=⟨_,i_r0,⟨g52,rfl,i_g52⟩,⟨g53,rfl,i_g53⟩,⟨c0,x0,y0,rfl,s_Hb _ _ i_c0,s_Hb _ _ i_x0,s_Hb _ _ i_y0⟩,trivial⟩
 have d1:Tr Hb r1 (qBc A' w 1):=⟨_,i_r1,⟨c0,x0,y0,rfl,s_Hb _ _ i_c0,s_Hb _ _ i_x0,s_Hb _ _ i_y0⟩,⟨g54,rfl,i_g54⟩,trivial⟩
 have d2:Tr Hb r2 (qBc A' w 2):=⟨_,i_r2,⟨c55,x56,y57,rfl,i_c55,i_x56,i_y57⟩,trivial⟩
 have bd:BdL sm A' w Hb 0 [.ref r0,.ref r1,.ref r2]:=⟨⟨r0,rfl,ne_r0,.tr d0 (by decide) (by decide)⟩,⟨r1,rfl,ne_r1,.tr d1 (by decide) (by decide)⟩,⟨r2,rfl,ne_r2,.tr d2 (by decide) (by decide)⟩,trivial⟩
 have hl:([.ref r0,.ref r1,.ref r2]:List V).length=3:=rfl
 have i_c0:=s_Hb _ _ i_c0
 have i_x0:=s_Hb _ _ i_x0
 have i_y0:=s_Hb _ _ i_y0
 have s0:=s_Ha.trans s_Hb
 clear d0 d1 d2 i_g52 i_g53 i_r0 i_g54 i_r1 i_x56 i_y57 i_c55 i_r2
 generalize ([.ref r0,.ref r1,.ref r2]:List V)=vs at bd hl i_sm ⊢
 refine⟨_,rfl,.inl ⟨rfl,_,SqL.of i_sm⟩,_,rfl,sL2,fun x318 hx318=>⟨_,rfl,sL2,fun y319 hy319=>⟨_,rfl,_,_,rfl,rfl,sL5,fun c317 hc317=>⟨z1,fun r3 hr3=>?_⟩⟩⟩⟩
 have n1:=qC hx318 (.tup [.int w,.int 1])
 have n2:=qC hy319 (.tup [.int (-1),.int 1])
 have n3:=qC hc317 (.tup [.str "clip",.str "a",.ref x318,.ref y319,.int (w+2)])
 have n4:=qC hr3 (.lst [.ref c317])
 have q3:=n4
 have q2:=n3.trans q3
 have q1:=n2.trans q2
 have i_x318:=q1 _ _ qB
 have i_y319:=q2 _ _ qB
 have i_c317:=q3 _ _ qB
 have i_r3:=qB (H:=(upd (upd (upd Hb x318 (.tup [.int w,.int 1])) y319 (.tup [.int (-1),.int 1])) c317 (.tup [.str "clip",.str "a",.ref x318,.ref y319,.int (w+2)]))) (a:=r3) (o:=.lst [.ref c317])
 have s_Hn3:=n1.trans q1
 have l_r3:Hb r3=none:=(((n1.trans n2).trans n3)).free hr3
 clear n1 n2 n3 n4 q1 q2 q3
 generalize (upd (upd (upd (upd Hb x318 _) y319 _) c317 _) r3 _)=Hn3 at i_x318 i_y319 i_c317 i_r3 s_Hn3 ⊢
 clear hx318 hy319 hc317 hr3
 refine⟨sm,_,_,rfl,rfl,s_Hn3 _ _ i_sm,qS (by omega),?_⟩
 have db:Bd sm A' w Hn3 3 (.ref r3):=⟨r3,rfl,(qH i_sm l_r3).symm,.tr ⟨_,i_r3,⟨c317,x318,y319,rfl,i_c317,i_x318,i_y319⟩,trivial⟩ (by decide) (by decide)⟩
 refine qM fun _ Y=>?_
 obtain⟨s0,bd,hl,i_sm,tsn⟩:=jO s0 l_sm0 bd hl s_Hn3 i_sm db
 apply Y
 have i_c0:=tsn _ _ i_c0
 have i_x0:=tsn _ _ i_x0
 have i_y0:=tsn _ _ i_y0
 generalize upd Hn3 sm _=Hm3 at s0 bd i_sm i_c0 i_x0 i_y0 ⊢
 generalize vs++[.ref r3]=vs at bd hl i_sm ⊢
 refine⟨_,rfl,.inl ⟨rfl,_,SqL.of i_sm⟩,sL2,fun x421 hx421=>⟨sL2,fun y422 hy422=>⟨sL5,fun c420 hc420=>⟨z1,fun r4 hr4=>?_⟩⟩⟩⟩
 have n1:=qC hx421 (.tup [.int 2,.int 2])
 have n2:=qC hy422 (.tup [.int 1,.int 1])
 have n3:=qC hc420 (.tup [.str "clip",.str "a",.ref x421,.ref y422,.int 1])
 have n4:=qC hr4 (.lst [.ref c420])
 have q3:=n4
 have q2:=n3.trans q3
 have q1:=n2.trans q2
 have i_x421:=q1 _ _ qB
 have i_y422:=q2 _ _ qB
 have i_c420:=q3 _ _ qB
 have i_r4:=qB (H:=(upd (upd (upd Hm3 x421 (.tup [.int 2,.int 2])) y422 (.tup [.int 1,.int 1])) c420 (.tup [.str "clip",.str "a",.ref x421,.ref y422,.int 1]))) (a:=r4) (o:=.lst [.ref c420])
 have s_Hn4:=n1.trans q1
 have l_r4:Hm3 r4=none:=(((n1.trans n2).trans n3)).free hr4
 clear n1 n2 n3 n4 q1 q2 q3
 generalize (upd (upd (upd (upd Hm3 x421 _) y422 _) c420 _) r4 _)=Hn4 at i_x421 i_y422 i_c420 i_r4 s_Hn4 ⊢
 clear hx421 hy422 hc420 hr4
 refine⟨sm,_,_,rfl,rfl,s_Hn4 _ _ i_sm,qS (by omega),?_⟩
 have db:Bd sm A' w Hn4 4 (.ref r4):=⟨r4,rfl,(qH i_sm l_r4).symm,.tr ⟨_,i_r4,⟨c420,x421,y422,rfl,i_c420,i_x421,i_y422⟩,trivial⟩ (by decide) (by decide)⟩
 refine qM fun _ Y=>?_
 obtain⟨s0,bd,hl,i_sm,tsn⟩:=jO s0 l_sm0 bd hl s_Hn4 i_sm db
 apply Y
 have i_c0:=tsn _ _ i_c0
 have i_x0:=tsn _ _ i_x0
 have i_y0:=tsn _ _ i_y0
 generalize upd Hn4 sm _=Hm4 at s0 bd i_sm i_c0 i_x0 i_y0 ⊢
 generalize vs++[.ref r4]=vs at bd hl i_sm ⊢
 refine⟨_,rfl,.inl ⟨rfl,_,SqL.of i_sm⟩,sL2,fun x524 hx524=>⟨sL2,fun y525 hy525=>⟨sL5,fun c523 hc523=>⟨z1,fun r5 hr5=>?_⟩⟩⟩⟩
 have n1:=qC hx524 (.tup [.int 1,.int 1])
 have n2:=qC hy525 (.tup [.int 1,.int 1])
 have n3:=qC hc523 (.tup [.str "clip",.str "a",.ref x524,.ref y525,.int 0])
 have n4:=qC hr5 (.lst [.ref c523])
 have q3:=n4
 have q2:=n3.trans q3
 have q1:=n2.trans q2
 have i_x524:=q1 _ _ qB
 have i_y525:=q2 _ _ qB
 have i_c523:=q3 _ _ qB
 have i_r5:=qB (H:=(upd (upd (upd Hm4 x524 (.tup [.int 1,.int 1])) y525 (.tup [.int 1,.int 1])) c523 (.tup [.str "clip",.str "a",.ref x524,.ref y525,.int 0]))) (a:=r5) (o:=.lst [.ref c523])
 have s_Hn5:=n1.trans q1
 have l_r5:Hm4 r5=none:=(((n1.trans n2).trans n3)).free hr5
 clear n1 n2 n3 n4 q1 q2 q3
 generalize (upd (upd (upd (upd Hm4 x524 _) y525 _) c523 _) r5 _)=Hn5 at i_x524 i_y525 i_c523 i_r5 s_Hn5 ⊢
 clear hx524 hy525 hc523 hr5
 refine⟨sm,_,_,rfl,rfl,s_Hn5 _ _ i_sm,qS (by omega),?_⟩
 have db:Bd sm A' w Hn5 5 (.ref r5):=⟨r5,rfl,(qH i_sm l_r5).symm,.tr ⟨_,i_r5,⟨c523,x524,y525,rfl,i_c523,i_x524,i_y525⟩,trivial⟩ (by decide) (by decide)⟩
 refine qM fun _ Y=>?_
 obtain⟨s0,bd,hl,i_sm,tsn⟩:=jO s0 l_sm0 bd hl s_Hn5 i_sm db
 apply Y
 have i_c0:=tsn _ _ i_c0
 have i_x0:=tsn _ _ i_x0
 have i_y0:=tsn _ _ i_y0
 generalize upd Hn5 sm _=Hm5 at s0 bd i_sm i_c0 i_x0 i_y0 ⊢
 generalize vs++[.ref r5]=vs at bd hl i_sm ⊢
 refine⟨_,rfl,.inl ⟨rfl,_,SqL.of i_sm⟩,sL2,fun x6 hx6=>⟨sL2,fun y6 hy6=>⟨sL5,fun c6 hc6=>⟨z1,fun r6 hr6=>?_⟩⟩⟩⟩
 have n1:=qC hx6 (.tup [.int 1,.int 1])
 have n2:=qC hy6 (.tup [.int 1,.int 1])
 have n3:=qC hc6 (.tup [.str "clip",.str "a",.ref x6,.ref y6,.bl true])
 have n4:=qC hr6 (.lst [.ref c6])
 have q3:=n4
 have q2:=n3.trans q3
 have q1:=n2.trans q2
 have i_x6:=q1 _ _ qB
 have i_y6:=q2 _ _ qB
 have i_c6:=q3 _ _ qB
 have i_r6:=qB (H:=(upd (upd (upd Hm5 x6 (.tup [.int 1,.int 1])) y6 (.tup [.int 1,.int 1])) c6 (.tup [.str "clip",.str "a",.ref x6,.ref y6,.bl true]))) (a:=r6) (o:=.lst [.ref c6])
 have s_Hn6:=n1.trans q1
 have l_r6:Hm5 r6=none:=(((n1.trans n2).trans n3)).free hr6
 clear n1 n2 n3 n4 q1 q2 q3
 generalize (upd (upd (upd (upd Hm5 x6 _) y6 _) c6 _) r6 _)=Hn6 at i_x6 i_y6 i_c6 i_r6 s_Hn6 ⊢
 clear hx6 hy6 hc6 hr6
 refine⟨sm,_,_,rfl,rfl,s_Hn6 _ _ i_sm,qS (by omega),?_⟩
 have db:Bd sm A' w Hn6 6 (.ref r6):=⟨r6,rfl,(qH i_sm l_r6).symm,by unfold BdT;rw [if_pos rfl];exact⟨c6,x6,y6,i_r6,i_c6,i_x6,i_y6⟩⟩
 refine qM fun _ Y=>?_
 obtain⟨s0,bd,hl,i_sm,tsn⟩:=jO s0 l_sm0 bd hl s_Hn6 i_sm db
 apply Y
 have i_c0:=tsn _ _ i_c0
 have i_x0:=tsn _ _ i_x0
 have i_y0:=tsn _ _ i_y0
 generalize upd Hn6 sm _=Hm6 at s0 bd i_sm i_c0 i_x0 i_y0 ⊢
 generalize vs++[.ref r6]=vs at bd hl i_sm ⊢
 refine⟨_,rfl,.inl ⟨rfl,_,SqL.of i_sm⟩,z4,fun e726 he726=>⟨z1,fun r7 hr7=>?_⟩⟩
 have n1:=qC he726 (.tup [.str "nest",.str "nobody",.int 0,.int 1])
 have n2:=qC hr7 (.lst [.ref e726])
 have q1:=n2
 have i_e726:=q1 _ _ qB
 have i_r7:=qB (H:=(upd Hm6 e726 (.tup [.str "nest",.str "nobody",.int 0,.int 1]))) (a:=r7) (o:=.lst [.ref e726])
 have s_Hn7:=n1.trans q1
 have l_r7:Hm6 r7=none:=(n1).free hr7
 clear n1 n2 q1
 generalize (upd (upd Hm6 e726 _) r7 _)=Hn7 at i_e726 i_r7 s_Hn7 ⊢
 clear he726 hr7
 refine⟨sm,_,_,rfl,rfl,s_Hn7 _ _ i_sm,qS (by omega),?_⟩
 have db:Bd sm A' w Hn7 7 (.ref r7):=⟨r7,rfl,(qH i_sm l_r7).symm,.tr ⟨_,i_r7,⟨e726,rfl,i_e726⟩,trivial⟩ (by decide) (by decide)⟩
 refine qM fun _ Y=>?_
 obtain⟨s0,bd,hl,i_sm,tsn⟩:=jO s0 l_sm0 bd hl s_Hn7 i_sm db
 apply Y
 have i_c0:=tsn _ _ i_c0
 have i_x0:=tsn _ _ i_x0
 have i_y0:=tsn _ _ i_y0
 generalize upd Hn7 sm _=Hm7 at s0 bd i_sm i_c0 i_x0 i_y0 ⊢
 generalize vs++[.ref r7]=vs at bd hl i_sm ⊢
 refine⟨_,rfl,.inl ⟨rfl,_,SqL.of i_sm⟩,z4,fun e827 he827=>⟨z1,fun r8 hr8=>?_⟩⟩
 have n1:=qC he827 (.tup [.str "nest",.str "top",.int 0,.int 1])
 have n2:=qC hr8 (.lst [.ref e827])
 have q1:=n2
 have i_e827:=q1 _ _ qB
 have i_r8:=qB (H:=(upd Hm7 e827 (.tup [.str "nest",.str "top",.int 0,.int 1]))) (a:=r8) (o:=.lst [.ref e827])
 have s_Hn8:=n1.trans q1
 have l_r8:Hm7 r8=none:=(n1).free hr8
 clear n1 n2 q1
 generalize (upd (upd Hm7 e827 _) r8 _)=Hn8 at i_e827 i_r8 s_Hn8 ⊢
 clear he827 hr8
 refine⟨sm,_,_,rfl,rfl,s_Hn8 _ _ i_sm,qS (by omega),?_⟩
 have db:Bd sm A' w Hn8 8 (.ref r8):=⟨r8,rfl,(qH i_sm l_r8).symm,.tr ⟨_,i_r8,⟨e827,rfl,i_e827⟩,trivial⟩ (by decide) (by decide)⟩
 refine qM fun _ Y=>?_
 obtain⟨s0,bd,hl,i_sm,tsn⟩:=jO s0 l_sm0 bd hl s_Hn8 i_sm db
 apply Y
 have i_c0:=tsn _ _ i_c0
 have i_x0:=tsn _ _ i_x0
 have i_y0:=tsn _ _ i_y0
 generalize upd Hn8 sm _=Hm8 at s0 bd i_sm i_c0 i_x0 i_y0 ⊢
 generalize vs++[.ref r8]=vs at bd hl i_sm ⊢
 refine⟨_,rfl,.inl ⟨rfl,_,SqL.of i_sm⟩,_,rfl,z4,fun e928 he928=>⟨z1,fun r9 hr9=>?_⟩⟩
 have n1:=qC he928 (.tup [.str "nest",.str "low",.int (-1),.int 1])
 have n2:=qC hr9 (.lst [.ref e928])
 have q1:=n2
 have i_e928:=q1 _ _ qB
 have i_r9:=qB (H:=(upd Hm8 e928 (.tup [.str "nest",.str "low",.int (-1),.int 1]))) (a:=r9) (o:=.lst [.ref e928])
 have s_Hn9:=n1.trans q1
 have l_r9:Hm8 r9=none:=(n1).free hr9
 clear n1 n2 q1
 generalize (upd (upd Hm8 e928 _) r9 _)=Hn9 at i_e928 i_r9 s_Hn9 ⊢
 clear he928 hr9
 refine⟨sm,_,_,rfl,rfl,s_Hn9 _ _ i_sm,qS (by omega),?_⟩
 have db:Bd sm A' w Hn9 9 (.ref r9):=⟨r9,rfl,(qH i_sm l_r9).symm,.tr ⟨_,i_r9,⟨e928,rfl,i_e928⟩,trivial⟩ (by decide) (by decide)⟩
 refine qM fun _ Y=>?_
 obtain⟨s0,bd,hl,i_sm,tsn⟩:=jO s0 l_sm0 bd hl s_Hn9 i_sm db
 apply Y
 have i_c0:=tsn _ _ i_c0
 have i_x0:=tsn _ _ i_x0
 have i_y0:=tsn _ _ i_y0
 generalize upd Hn9 sm _=Hm9 at s0 bd i_sm i_c0 i_x0 i_y0 ⊢
 generalize vs++[.ref r9]=vs at bd hl i_sm ⊢
 refine⟨_,rfl,.inl ⟨rfl,_,SqL.of i_sm⟩,z4,fun e1029 he1029=>⟨z1,fun r10 hr10=>?_⟩⟩
 have n1:=qC he1029 (.tup [.str "nest",.str "low",.int 0,.int 0])
 have n2:=qC hr10 (.lst [.ref e1029])
 have q1:=n2
 have i_e1029:=q1 _ _ qB
 have i_r10:=qB (H:=(upd Hm9 e1029 (.tup [.str "nest",.str "low",.int 0,.int 0]))) (a:=r10) (o:=.lst [.ref e1029])
 have s_Hn10:=n1.trans q1
 have l_r10:Hm9 r10=none:=(n1).free hr10
 clear n1 n2 q1
 generalize (upd (upd Hm9 e1029 _) r10 _)=Hn10 at i_e1029 i_r10 s_Hn10 ⊢
 clear he1029 hr10
 refine⟨sm,_,_,rfl,rfl,s_Hn10 _ _ i_sm,qS (by omega),?_⟩
 have db:Bd sm A' w Hn10 10 (.ref r10):=⟨r10,rfl,(qH i_sm l_r10).symm,.tr ⟨_,i_r10,⟨e1029,rfl,i_e1029⟩,trivial⟩ (by decide) (by decide)⟩
 refine qM fun _ Y=>?_
 obtain⟨s0,bd,hl,i_sm,tsn⟩:=jO s0 l_sm0 bd hl s_Hn10 i_sm db
 apply Y
 have i_c0:=tsn _ _ i_c0
 have i_x0:=tsn _ _ i_x0
 have i_y0:=tsn _ _ i_y0
 generalize upd Hn10 sm _=Hm10 at s0 bd i_sm i_c0 i_x0 i_y0 ⊢
 generalize vs++[.ref r10]=vs at bd hl i_sm ⊢
 refine⟨_,rfl,.inl ⟨rfl,_,SqL.of i_sm⟩,sL2,fun g1130 hg1130=>⟨_,rfl,_,rfl,z3,fun r11 hr11=>?_⟩⟩
 have n1:=qC hg1130 (.tup [.str "mix",.int 1])
 have n2:=qC hr11 (.lst [.ref g1130,.ref c0,.ref c0])
 have q1:=n2
 have i_g1130:=q1 _ _ qB
 have i_r11:=qB (H:=(upd Hm10 g1130 (.tup [.str "mix",.int 1]))) (a:=r11) (o:=.lst [.ref g1130,.ref c0,.ref c0])
 have s_Hn11:=n1.trans q1
 have l_r11:Hm10 r11=none:=(n1).free hr11
 clear n1 n2 q1
 generalize (upd (upd Hm10 g1130 _) r11 _)=Hn11 at i_g1130 i_r11 s_Hn11 ⊢
 clear hg1130 hr11
 refine⟨sm,_,_,rfl,rfl,s_Hn11 _ _ i_sm,qS (by omega),?_⟩
 have db:Bd sm A' w Hn11 11 (.ref r11):=⟨r11,rfl,(qH i_sm l_r11).symm,.tr ⟨_,i_r11,⟨g1130,rfl,i_g1130⟩,⟨c0,x0,y0,rfl,s_Hn11 _ _ i_c0,s_Hn11 _ _ i_x0,s_Hn11 _ _ i_y0⟩,⟨c0,x0,y0,rfl,s_Hn11 _ _ i_c0,s_Hn11 _ _ i_x0,s_Hn11 _ _ i_y0⟩,trivial⟩ (by decide) (by decide)⟩
 refine qM fun _ Y=>?_
 obtain⟨s0,bd,hl,i_sm,tsn⟩:=jO s0 l_sm0 bd hl s_Hn11 i_sm db
 apply Y
 have i_c0:=tsn _ _ i_c0
 have i_x0:=tsn _ _ i_x0
 have i_y0:=tsn _ _ i_y0
 generalize upd Hn11 sm _=Hm11 at s0 bd i_sm i_c0 i_x0 i_y0 ⊢
 generalize vs++[.ref r11]=vs at bd hl i_sm ⊢
 refine⟨_,rfl,.inl ⟨rfl,_,SqL.of i_sm⟩,_,rfl,_,rfl,sL2,fun g1231 hg1231=>⟨z3,fun r12 hr12=>?_⟩⟩
 have n1:=qC hg1231 (.tup [.str "mix",.int 1])
 have n2:=qC hr12 (.lst [.ref c0,.ref c0,.ref g1231])
 have q1:=n2
 have i_g1231:=q1 _ _ qB
 have i_r12:=qB (H:=(upd Hm11 g1231 (.tup [.str "mix",.int 1]))) (a:=r12) (o:=.lst [.ref c0,.ref c0,.ref g1231])
 have s_Hn12:=n1.trans q1
 have l_r12:Hm11 r12=none:=(n1).free hr12
 clear n1 n2 q1
 generalize (upd (upd Hm11 g1231 _) r12 _)=Hn12 at i_g1231 i_r12 s_Hn12 ⊢
 clear hg1231 hr12
 refine⟨sm,_,_,rfl,rfl,s_Hn12 _ _ i_sm,qS (by omega),?_⟩
 have db:Bd sm A' w Hn12 12 (.ref r12):=⟨r12,rfl,(qH i_sm l_r12).symm,.tr ⟨_,i_r12,⟨c0,x0,y0,rfl,s_Hn12 _ _ i_c0,s_Hn12 _ _ i_x0,s_Hn12 _ _ i_y0⟩,⟨c0,x0,y0,rfl,s_Hn12 _ _ i_c0,s_Hn12 _ _ i_x0,s_Hn12 _ _ i_y0⟩,⟨g1231,rfl,i_g1231⟩,trivial⟩ (by decide) (by decide)⟩
 refine qM fun _ Y=>?_
 obtain⟨s0,bd,hl,i_sm,tsn⟩:=jO s0 l_sm0 bd hl s_Hn12 i_sm db
 apply Y
 have i_c0:=tsn _ _ i_c0
 have i_x0:=tsn _ _ i_x0
 have i_y0:=tsn _ _ i_y0
 generalize upd Hn12 sm _=Hm12 at s0 bd i_sm i_c0 i_x0 i_y0 ⊢
 generalize vs++[.ref r12]=vs at bd hl i_sm ⊢
 refine⟨_,rfl,.inl ⟨rfl,_,SqL.of i_sm⟩,_,rfl,sL2,fun g1332 hg1332=>⟨sL2,fun g1333 hg1333=>⟨_,rfl,z4,fun r13 hr13=>?_⟩⟩⟩
 have n1:=qC hg1332 (.tup [.str "mix",.int 1])
 have n2:=qC hg1333 (.tup [.str "gap",.int 1])
 have n3:=qC hr13 (.lst [.ref c0,.ref g1332,.ref g1333,.ref c0])
 have q2:=n3
 have q1:=n2.trans q2
 have i_g1332:=q1 _ _ qB
 have i_g1333:=q2 _ _ qB
 have i_r13:=qB (H:=(upd (upd Hm12 g1332 (.tup [.str "mix",.int 1])) g1333 (.tup [.str "gap",.int 1]))) (a:=r13) (o:=.lst [.ref c0,.ref g1332,.ref g1333,.ref c0])
 have s_Hn13:=n1.trans q1
 have l_r13:Hm12 r13=none:=((n1.trans n2)).free hr13
 clear n1 n2 n3 q1 q2
 generalize (upd (upd (upd Hm12 g1332 _) g1333 _) r13 _)=Hn13 at i_g1332 i_g1333 i_r13 s_Hn13 ⊢
 clear hg1332 hg1333 hr13
 refine⟨sm,_,_,rfl,rfl,s_Hn13 _ _ i_sm,qS (by omega),?_⟩
 have db:Bd sm A' w Hn13 13 (.ref r13):=⟨r13,rfl,(qH i_sm l_r13).symm,.tr ⟨_,i_r13,⟨c0,x0,y0,rfl,s_Hn13 _ _ i_c0,s_Hn13 _ _ i_x0,s_Hn13 _ _ i_y0⟩,⟨g1332,rfl,i_g1332⟩,⟨g1333,rfl,i_g1333⟩,⟨c0,x0,y0,rfl,s_Hn13 _ _ i_c0,s_Hn13 _ _ i_x0,s_Hn13 _ _ i_y0⟩,trivial⟩ (by decide) (by decide)⟩
 refine qM fun _ Y=>?_
 obtain⟨s0,bd,hl,i_sm,tsn⟩:=jO s0 l_sm0 bd hl s_Hn13 i_sm db
 apply Y
 have i_c0:=tsn _ _ i_c0
 have i_x0:=tsn _ _ i_x0
 have i_y0:=tsn _ _ i_y0
 generalize upd Hn13 sm _=Hm13 at s0 bd i_sm i_c0 i_x0 i_y0 ⊢
 generalize vs++[.ref r13]=vs at bd hl i_sm ⊢
 refine⟨_,rfl,.inl ⟨rfl,_,SqL.of i_sm⟩,_,rfl,sL2,fun g1434 hg1434=>⟨_,rfl,z3,fun r14 hr14=>?_⟩⟩
 have n1:=qC hg1434 (.tup [.str "mix",.int 1])
 have n2:=qC hr14 (.lst [.ref c0,.ref g1434,.ref c0])
 have q1:=n2
 have i_g1434:=q1 _ _ qB
 have i_r14:=qB (H:=(upd Hm13 g1434 (.tup [.str "mix",.int 1]))) (a:=r14) (o:=.lst [.ref c0,.ref g1434,.ref c0])
 have s_Hn14:=n1.trans q1
 have l_r14:Hm13 r14=none:=(n1).free hr14
 clear n1 n2 q1
 generalize (upd (upd Hm13 g1434 _) r14 _)=Hn14 at i_g1434 i_r14 s_Hn14 ⊢
 clear hg1434 hr14
 refine⟨sm,_,_,rfl,rfl,s_Hn14 _ _ i_sm,qS (by omega),?_⟩
 have db:Bd sm A' w Hn14 14 (.ref r14):=⟨r14,rfl,(qH i_sm l_r14).symm,.tr ⟨_,i_r14,⟨c0,x0,y0,rfl,s_Hn14 _ _ i_c0,s_Hn14 _ _ i_x0,s_Hn14 _ _ i_y0⟩,⟨g1434,rfl,i_g1434⟩,⟨c0,x0,y0,rfl,s_Hn14 _ _ i_c0,s_Hn14 _ _ i_x0,s_Hn14 _ _ i_y0⟩,trivial⟩ (by decide) (by decide)⟩
 refine qM fun _ Y=>?_
 obtain⟨s0,bd,hl,i_sm,tsn⟩:=jO s0 l_sm0 bd hl s_Hn14 i_sm db
 apply Y
 have i_c0:=tsn _ _ i_c0
 have i_x0:=tsn _ _ i_x0
 have i_y0:=tsn _ _ i_y0
 generalize upd Hn14 sm _=Hm14 at s0 bd i_sm i_c0 i_x0 i_y0 ⊢
 generalize vs++[.ref r14]=vs at bd hl i_sm ⊢
 refine⟨_,rfl,.inl ⟨rfl,_,SqL.of i_sm⟩,sL2,fun x1536 hx1536=>⟨sL2,fun y1537 hy1537=>⟨sL5,fun c1535 hc1535=>⟨sL2,fun g1538 hg1538=>⟨sL2,fun x1540 hx1540=>⟨sL2,fun y1541 hy1541=>⟨sL5,fun c1539 hc1539=>⟨z3,fun r15 hr15=>?_⟩⟩⟩⟩⟩⟩⟩⟩
 have n1:=qC hx1536 (.tup [.int 0,.int 1])
 have n2:=qC hy1537 (.tup [.int 1,.int 1])
 have n3:=qC hc1535 (.tup [.str "clip",.str "a",.ref x1536,.ref y1537,.int 3])
 have n4:=qC hg1538 (.tup [.str "mix",.int 8])
 have n5:=qC hx1540 (.tup [.int 9,.int 1])
 have n6:=qC hy1541 (.tup [.int 1,.int 1])
 have n7:=qC hc1539 (.tup [.str "clip",.str "a",.ref x1540,.ref y1541,.int 9])
 have n8:=qC hr15 (.lst [.ref c1535,.ref g1538,.ref c1539])
 have q7:=n8
 have q6:=n7.trans q7
 have q5:=n6.trans q6
 have q4:=n5.trans q5
 have q3:=n4.trans q4
 have q2:=n3.trans q3
 have q1:=n2.trans q2
 have i_x1536:=q1 _ _ qB
 have i_y1537:=q2 _ _ qB
 have i_c1535:=q3 _ _ qB
 have i_g1538:=q4 _ _ qB
 have i_x1540:=q5 _ _ qB
 have i_y1541:=q6 _ _ qB
 have i_c1539:=q7 _ _ qB
 have i_r15:=qB (H:=(upd (upd (upd (upd (upd (upd (upd Hm14 x1536 (.tup [.int 0,.int 1])) y1537 (.tup [.int 1,.int 1])) c1535 (.tup [.str "clip",.str "a",.ref x1536,.ref y1537,.int 3])) g1538 (.tup [.str "mix",.int 8])) x1540 (.tup [.int 9,.int 1])) y1541 (.tup [.int 1,.int 1])) c1539 (.tup [.str "clip",.str "a",.ref x1540,.ref y1541,.int 9]))) (a:=r15) (o:=.lst [.ref c1535,.ref g1538,.ref c1539])
 have s_Hn15:=n1.trans q1
 have l_r15:Hm14 r15=none:=(((((((n1.trans n2).trans n3).trans n4).trans n5).trans n6).trans n7)).free hr15
 clear n1 n2 n3 n4 n5 n6 n7 n8 q1 q2 q3 q4 q5 q6 q7
 generalize (upd (upd (upd (upd (upd (upd (upd (upd Hm14 x1536 _) y1537 _) c1535 _) g1538 _) x1540 _) y1541 _) c1539 _) r15 _)=Hn15 at i_x1536 i_y1537 i_c1535 i_g1538 i_x1540 i_y1541 i_c1539 i_r15 s_Hn15 ⊢
 clear hx1536 hy1537 hc1535 hg1538 hx1540 hy1541 hc1539 hr15
 refine⟨sm,_,_,rfl,rfl,s_Hn15 _ _ i_sm,qS (by omega),?_⟩
 have db:Bd sm A' w Hn15 15 (.ref r15):=⟨r15,rfl,(qH i_sm l_r15).symm,.tr ⟨_,i_r15,⟨c1535,x1536,y1537,rfl,i_c1535,i_x1536,i_y1537⟩,⟨g1538,rfl,i_g1538⟩,⟨c1539,x1540,y1541,rfl,i_c1539,i_x1540,i_y1541⟩,trivial⟩ (by decide) (by decide)⟩
 refine qM fun _ Y=>?_
 obtain⟨s0,bd,hl,i_sm,tsn⟩:=jO s0 l_sm0 bd hl s_Hn15 i_sm db
 apply Y
 have i_c0:=tsn _ _ i_c0
 have i_x0:=tsn _ _ i_x0
 have i_y0:=tsn _ _ i_y0
 generalize upd Hn15 sm _=Hm15 at s0 bd i_sm i_c0 i_x0 i_y0 ⊢
 generalize vs++[.ref r15]=vs at bd hl i_sm ⊢
 refine⟨_,rfl,.inl ⟨rfl,_,SqL.of i_sm⟩,sL2,fun x16 hx16=>⟨sL2,fun y16 hy16=>⟨sL5,fun c16 hc16=>⟨z1,fun r16 hr16=>?_⟩⟩⟩⟩
 have n1:=qC hx16 (.tup [.int 1,.int 1])
 have n2:=qC hy16 (.tup [.int 1,.int 1])
 have n3:=qC hc16 (.lst [.str "clip",.str "a",.ref x16,.ref y16,.int 1])
 have n4:=qC hr16 (.lst [.ref c16])
 have q3:=n4
 have q2:=n3.trans q3
 have q1:=n2.trans q2
 have i_x16:=q1 _ _ qB
 have i_y16:=q2 _ _ qB
 have i_c16:=q3 _ _ qB
 have i_r16:=qB (H:=(upd (upd (upd Hm15 x16 (.tup [.int 1,.int 1])) y16 (.tup [.int 1,.int 1])) c16 (.lst [.str "clip",.str "a",.ref x16,.ref y16,.int 1]))) (a:=r16) (o:=.lst [.ref c16])
 have s_Hn16:=n1.trans q1
 have l_r16:Hm15 r16=none:=(((n1.trans n2).trans n3)).free hr16
 clear n1 n2 n3 n4 q1 q2 q3
 generalize (upd (upd (upd (upd Hm15 x16 _) y16 _) c16 _) r16 _)=Hn16 at i_x16 i_y16 i_c16 i_r16 s_Hn16 ⊢
 clear hx16 hy16 hc16 hr16
 refine⟨sm,_,_,rfl,rfl,s_Hn16 _ _ i_sm,qS (by omega),?_⟩
 have db:Bd sm A' w Hn16 16 (.ref r16):=⟨r16,rfl,(qH i_sm l_r16).symm,by unfold BdT;rw [if_neg (by decide),if_pos rfl];exact⟨c16,_,i_r16,fun q=>by rw [q,s_Hn16 _ _ i_sm] at i_c16;exact absurd (congrArg List.length (HO.lst.inj (Option.some.inj i_c16))) (by rw [hl];show ¬ (16:Nat)=5;decide),i_c16⟩⟩
 refine qM fun _ Y=>?_
 obtain⟨s0,bd,hl,i_sm,tsn⟩:=jO s0 l_sm0 bd hl s_Hn16 i_sm db
 apply Y
 have i_c0:=tsn _ _ i_c0
 have i_x0:=tsn _ _ i_x0
 have i_y0:=tsn _ _ i_y0
 generalize upd Hn16 sm _=Hm16 at s0 bd i_sm i_c0 i_x0 i_y0 ⊢
 generalize vs++[.ref r16]=vs at bd hl i_sm ⊢
 refine⟨_,rfl,.inl ⟨rfl,_,SqL.of i_sm⟩,sL2,fun x1743 hx1743=>⟨sL2,fun y1744 hy1744=>⟨sL5,fun c1742 hc1742=>⟨z1,fun r17 hr17=>?_⟩⟩⟩⟩
 have n1:=qC hx1743 (.tup [.int 1,.int 1])
 have n2:=qC hy1744 (.tup [.int 1,.int 1])
 have n3:=qC hc1742 (.tup [.str "clip",.str "nobody",.ref x1743,.ref y1744,.int 1])
 have n4:=qC hr17 (.lst [.ref c1742])
 have q3:=n4
 have q2:=n3.trans q3
 have q1:=n2.trans q2
 have i_x1743:=q1 _ _ qB
 have i_y1744:=q2 _ _ qB
 have i_c1742:=q3 _ _ qB
 have i_r17:=qB (H:=(upd (upd (upd Hm16 x1743 (.tup [.int 1,.int 1])) y1744 (.tup [.int 1,.int 1])) c1742 (.tup [.str "clip",.str "nobody",.ref x1743,.ref y1744,.int 1]))) (a:=r17) (o:=.lst [.ref c1742])
 have s_Hn17:=n1.trans q1
 have l_r17:Hm16 r17=none:=(((n1.trans n2).trans n3)).free hr17
 clear n1 n2 n3 n4 q1 q2 q3
 generalize (upd (upd (upd (upd Hm16 x1743 _) y1744 _) c1742 _) r17 _)=Hn17 at i_x1743 i_y1744 i_c1742 i_r17 s_Hn17 ⊢
 clear hx1743 hy1744 hc1742 hr17
 refine⟨sm,_,_,rfl,rfl,s_Hn17 _ _ i_sm,qS (by omega),?_⟩
 have db:Bd sm A' w Hn17 17 (.ref r17):=⟨r17,rfl,(qH i_sm l_r17).symm,.tr ⟨_,i_r17,⟨c1742,x1743,y1744,rfl,i_c1742,i_x1743,i_y1744⟩,trivial⟩ (by decide) (by decide)⟩
 refine qM fun _ Y=>?_
 obtain⟨s0,bd,hl,i_sm,tsn⟩:=jO s0 l_sm0 bd hl s_Hn17 i_sm db
 apply Y
 have i_c0:=tsn _ _ i_c0
 have i_x0:=tsn _ _ i_x0
 have i_y0:=tsn _ _ i_y0
 generalize upd Hn17 sm _=Hm17 at s0 bd i_sm i_c0 i_x0 i_y0 ⊢
 generalize vs++[.ref r17]=vs at bd hl i_sm ⊢
 refine⟨_,rfl,.inl ⟨rfl,_,SqL.of i_sm⟩,sL2,fun x1846 hx1846=>⟨sL2,fun y1847 hy1847=>⟨sL5,fun c1845 hc1845=>⟨sL2,fun g1848 hg1848=>⟨sL2,fun x1850 hx1850=>⟨sL2,fun y1851 hy1851=>⟨sL5,fun c1849 hc1849=>⟨z3,fun r18 hr18=>?_⟩⟩⟩⟩⟩⟩⟩⟩
 have n1:=qC hx1846 (.tup [.int 30,.int 1])
 have n2:=qC hy1847 (.tup [.int 1,.int 1])
 have n3:=qC hc1845 (.tup [.str "clip",.str "a",.ref x1846,.ref y1847,.int 9])
 have n4:=qC hg1848 (.tup [.str "mix",.int 4])
 have n5:=qC hx1850 (.tup [.int 1,.int 1])
 have n6:=qC hy1851 (.tup [.int 1,.int 1])
 have n7:=qC hc1849 (.tup [.str "clip",.str "a",.ref x1850,.ref y1851,.int 9])
 have n8:=qC hr18 (.lst [.ref c1845,.ref g1848,.ref c1849])
 have q7:=n8
 have q6:=n7.trans q7
 have q5:=n6.trans q6
 have q4:=n5.trans q5
 have q3:=n4.trans q4
 have q2:=n3.trans q3
 have q1:=n2.trans q2
 have i_x1846:=q1 _ _ qB
 have i_y1847:=q2 _ _ qB
 have i_c1845:=q3 _ _ qB
 have i_g1848:=q4 _ _ qB
 have i_x1850:=q5 _ _ qB
 have i_y1851:=q6 _ _ qB
 have i_c1849:=q7 _ _ qB
 have i_r18:=qB (H:=(upd (upd (upd (upd (upd (upd (upd Hm17 x1846 (.tup [.int 30,.int 1])) y1847 (.tup [.int 1,.int 1])) c1845 (.tup [.str "clip",.str "a",.ref x1846,.ref y1847,.int 9])) g1848 (.tup [.str "mix",.int 4])) x1850 (.tup [.int 1,.int 1])) y1851 (.tup [.int 1,.int 1])) c1849 (.tup [.str "clip",.str "a",.ref x1850,.ref y1851,.int 9]))) (a:=r18) (o:=.lst [.ref c1845,.ref g1848,.ref c1849])
 have s_Hn18:=n1.trans q1
 have l_r18:Hm17 r18=none:=(((((((n1.trans n2).trans n3).trans n4).trans n5).trans n6).trans n7)).free hr18
 clear n1 n2 n3 n4 n5 n6 n7 n8 q1 q2 q3 q4 q5 q6 q7
 generalize (upd (upd (upd (upd (upd (upd (upd (upd Hm17 x1846 _) y1847 _) c1845 _) g1848 _) x1850 _) y1851 _) c1849 _) r18 _)=Hn18 at i_x1846 i_y1847 i_c1845 i_g1848 i_x1850 i_y1851 i_c1849 i_r18 s_Hn18 ⊢
 clear hx1846 hy1847 hc1845 hg1848 hx1850 hy1851 hc1849 hr18
 refine⟨sm,_,_,rfl,rfl,s_Hn18 _ _ i_sm,qS (by omega),?_⟩
 have db:Bd sm A' w Hn18 18 (.ref r18):=⟨r18,rfl,(qH i_sm l_r18).symm,.tr ⟨_,i_r18,⟨c1845,x1846,y1847,rfl,i_c1845,i_x1846,i_y1847⟩,⟨g1848,rfl,i_g1848⟩,⟨c1849,x1850,y1851,rfl,i_c1849,i_x1850,i_y1851⟩,trivial⟩ (by decide) (by decide)⟩
 refine qM fun _ Y=>?_
 obtain⟨s0,bd,hl,i_sm,tsn⟩:=jO s0 l_sm0 bd hl s_Hn18 i_sm db
 apply Y
 have i_c0:=tsn _ _ i_c0
 have i_x0:=tsn _ _ i_x0
 have i_y0:=tsn _ _ i_y0
 generalize upd Hn18 sm _=Hm18 at s0 bd i_sm i_c0 i_x0 i_y0 ⊢
 generalize vs++[.ref r18]=vs at bd hl i_sm ⊢
 refine⟨sL2,fun xw hxw=>⟨sL2,fun yw hyw=>⟨sL5,fun cw hcw=>?_⟩⟩⟩
 have n1:=qC hxw (.tup [.int 20,.int 1])
 have n2:=qC hyw (.tup [.int 1,.int 1])
 have n3:=qC hcw (.tup [.str "clip",.str "a",.ref xw,.ref yw,.int 9])
 have q2:=n3
 have q1:=n2.trans q2
 have i_xw:=q1 _ _ qB
 have i_yw:=q2 _ _ qB
 have i_cw:=qB (H:=(upd (upd Hm18 xw (.tup [.int 20,.int 1])) yw (.tup [.int 1,.int 1]))) (a:=cw) (o:=.tup [.str "clip",.str "a",.ref xw,.ref yw,.int 9])
 have s_Hw:=n1.trans q1
 have l_cw:Hm18 cw=none:=((n1.trans n2)).free hcw
 clear n1 n2 n3 q1 q2
 generalize (upd (upd (upd Hm18 xw _) yw _) cw _)=Hw at i_xw i_yw i_cw s_Hw ⊢
 clear hxw hyw hcw
 have bd:=bd.up (jW s_Hw) (qi s_Hw)
 have i_sm:=s_Hw _ _ i_sm
 have s0:=s0.trans s_Hw
 refine⟨_,rfl,.inl ⟨rfl,_,SqL.of i_sm⟩,_,rfl,sL2,fun g2011 hg2011=>⟨sL2,fun x2013 hx2013=>⟨sL2,fun y2014 hy2014=>⟨sL5,fun c2012 hc2012=>⟨sL2,fun g2015 hg2015=>⟨_,rfl,sL5,fun r19 hr19=>?_⟩⟩⟩⟩⟩⟩
 have n1:=qC hg2011 (.tup [.str "mix",.int 4])
 have n2:=qC hx2013 (.tup [.int 20,.int 1])
 have n3:=qC hy2014 (.tup [.int 1,.int 1])
 have n4:=qC hc2012 (.tup [.str "clip",.str "a",.ref x2013,.ref y2014,.int 3])
 have n5:=qC hg2015 (.tup [.str "mix",.int 4])
 have n6:=qC hr19 (.lst [.ref cw,.ref g2011,.ref c2012,.ref g2015,.ref cw])
 have q5:=n6
 have q4:=n5.trans q5
 have q3:=n4.trans q4
 have q2:=n3.trans q3
 have q1:=n2.trans q2
 have i_g2011:=q1 _ _ qB
 have i_x2013:=q2 _ _ qB
 have i_y2014:=q3 _ _ qB
 have i_c2012:=q4 _ _ qB
 have i_g2015:=q5 _ _ qB
 have i_r19:=qB (H:=(upd (upd (upd (upd (upd Hw g2011 (.tup [.str "mix",.int 4])) x2013 (.tup [.int 20,.int 1])) y2014 (.tup [.int 1,.int 1])) c2012 (.tup [.str "clip",.str "a",.ref x2013,.ref y2014,.int 3])) g2015 (.tup [.str "mix",.int 4]))) (a:=r19) (o:=.lst [.ref cw,.ref g2011,.ref c2012,.ref g2015,.ref cw])
 have s_Hn19:=n1.trans q1
 have l_r19:Hw r19=none:=(((((n1.trans n2).trans n3).trans n4).trans n5)).free hr19
 clear n1 n2 n3 n4 n5 n6 q1 q2 q3 q4 q5
 generalize (upd (upd (upd (upd (upd (upd Hw g2011 _) x2013 _) y2014 _) c2012 _) g2015 _) r19 _)=Hn19 at i_g2011 i_x2013 i_y2014 i_c2012 i_g2015 i_r19 s_Hn19 ⊢
 clear hg2011 hx2013 hy2014 hc2012 hg2015 hr19
 refine⟨sm,_,_,rfl,rfl,s_Hn19 _ _ i_sm,qS (by omega),?_⟩
 have db:Bd sm A' w Hn19 19 (.ref r19):=⟨r19,rfl,(qH i_sm l_r19).symm,.tr ⟨_,i_r19,⟨cw,xw,yw,rfl,s_Hn19 _ _ i_cw,s_Hn19 _ _ i_xw,s_Hn19 _ _ i_yw⟩,⟨g2011,rfl,i_g2011⟩,⟨c2012,x2013,y2014,rfl,i_c2012,i_x2013,i_y2014⟩,⟨g2015,rfl,i_g2015⟩,⟨cw,xw,yw,rfl,s_Hn19 _ _ i_cw,s_Hn19 _ _ i_xw,s_Hn19 _ _ i_yw⟩,trivial⟩ (by decide) (by decide)⟩
 refine qM fun _ Y=>?_
 obtain⟨s0,bd,hl,i_sm,tsn⟩:=jO s0 l_sm0 bd hl s_Hn19 i_sm db
 apply Y
 generalize upd Hn19 sm _=Hf at s0 bd i_sm ⊢
 generalize vs++[.ref r19]=vs at bd hl i_sm ⊢
 have f20:=fm c (show (0:Int) < 20 by decide)
 have hlt:(c.fmod 20).toNat < vs.length:=by omega
 have hv:vs[(c.fmod 20).toNat]? =some vs[(c.fmod 20).toNat]:=List.getElem?_eq_getElem hlt
 generalize vs[(c.fmod 20).toNat]=v at hv
 have hat:atI vs (c.fmod 20)=some v:=by
  have:=xX hv
  rwa [show (((c.fmod 20).toNat:Nat):Int)=c.fmod 20 by omega] at this
 refine qM fun _ Y=>?_
 obtain⟨z,rfl,_,hz⟩:=bd.get hv
 apply Y
 rw [Nat.zero_add] at hz
 exact⟨_,rfl,_,rfl,_,_,rfl,rfl,nz,sm,_,_,_,rfl,rfl,SqL.of i_sm,hat,kk sm z w Hf s0 w1 w9 hz⟩
theorem BdT.lst {sm:Addr}{A w:Int}{H:Hp}{z:Addr}{k:Nat}(h:BdT sm A w H z k):∃ xs,H z=some (.lst xs):=by
 unfold BdT at h
 split at h
 · obtain⟨q,x,y,h1,_⟩:=h;exact⟨_,h1⟩
 · split at h
   · obtain⟨q,xs,h1,_⟩:=h;exact⟨_,h1⟩
   · obtain⟨xs,h1,_⟩:=h;exact⟨_,h1⟩
theorem BdT.copy {sm:Addr}{A w:Int}{H H':Hp}{z z':Addr}{k:Nat}{xs:List V}(e:FL H H')(h1:H z=some (.lst xs))(h2:H' z'=some (.lst xs))(h:BdT sm A w H z k):BdT sm A w H' z' k:=by
 unfold BdT at h ⊢
 split at h
 · rename_i hk
   rw [if_pos hk]
   obtain⟨q,x,y,q1,q2,q3,q4⟩:=h
   rw [h1] at q1
   cases q1
   exact⟨q,x,y,h2,e.ts _ _ q2,e.ts _ _ q3,e.ts _ _ q4⟩
 · rename_i hk
   rw [if_neg hk]
   split at h
   · rename_i hk
     rw [if_pos hk]
     obtain⟨q,ys,q1,q2,q3⟩:=h
     rw [h1] at q1
     cases q1
     exact⟨q,ys,h2,q2,e.lst q3⟩
   · rename_i hk
     rw [if_neg hk]
     obtain⟨vs,q1,q2⟩:=h
     rw [h1] at q1
     cases q1
     exact⟨_,h2,q2.ts e.ts⟩
theorem qPt {P:Int→Prop}(h:∀ i:Fin 9,P (1+(i.val:Int))){w:Int}(h1:1≤w)(h9:w≤9):P w:=by
 have q:P (1+(((w - 1).toNat:Nat):Int)):=h ⟨(w - 1).toNat,by omega⟩
 have e:(1:Int)+(((w - 1).toNat:Nat):Int)=w:=by omega
 rwa [e] at q
theorem qMw:∀ (i:Fin 300) (j:Fin 9),wG (rlE (60+(i.val:Int))) (qBc (60+(i.val:Int)) (1+(j.val:Int)) 14)=false:=by decide+kernel
theorem qK1:∀ i:Fin 300,wG (rlE (60+(i.val:Int))) (qBc 0 0 15)=false∧wG (rlE (60+(i.val:Int))) (qBc 0 0 18)=false:=by decide+kernel
theorem b30 {p q r s l:Int}(h:p.natAbs≤400∧q.natAbs≤400∧r.natAbs≤400∧s.natAbs≤400∧l.natAbs≤400):p.natAbs < 2 ^ 30∧q.natAbs < 2 ^ 30∧r.natAbs < 2 ^ 30∧s.natAbs < 2 ^ 30∧l.natAbs < 2 ^ 30:=by
 have e:(400:Nat) < 2 ^ 30:=by decide
 omega
theorem b31 {p q r s l:Int}(h:p.natAbs≤400∧q.natAbs≤400∧r.natAbs≤400∧s.natAbs≤400∧l.natAbs≤400):p.natAbs < 2 ^ 30∧q.natAbs < 2 ^ 30∧r.natAbs < 2 ^ 30∧s.natAbs < 2 ^ 30∧l.natAbs < 2 ^ 110:=by
 have e:(400:Nat) < 2 ^ 30:=by decide
 have e':(2:Nat) ^ 30≤2 ^ 110:=Nat.pow_le_pow_right (by decide) (by decide)
 omega
theorem qOd (p:Int):Int.gcd p 1=1:=by simp
theorem qKk {A p l:Int}{tn:Str→Bool}(hA0:60≤A)(hA:A < 360)(p0:0≤p)(l1:1≤l)(h:p+l≤A):OkI (rlE A) tn (.clip "a" p 1 1 1 l)∧ItR (rlE A) (.clip "a" p 1 1 1 l):=
 ⟨qMl hA (b31 (by omega)) (by decide) (by decide) (qOd _) (by decide) l1 ⟨by omega,by omega⟩ ⟨by omega,by omega⟩,qOc hA0 hA (b30 (by omega)) (by decide) (by decide) (qOd _) (by decide) l1⟩
theorem qPc {n:Str}{p q r s l:Int}(hn:qFv n)(hb:p.natAbs≤400∧q.natAbs≤400∧r.natAbs≤400∧s.natAbs≤400∧l.natAbs≤400)(hq:1≤q)(hs:1≤s)(g1:Int.gcd p q=1)(g2:Int.gcd r s=1)(l1:1≤l):GF n p q r s l:=by
 obtain⟨b1,b2,b3,b4,b5⟩:=b31 hb
 have e:(2:Nat) ^ 30≤2 ^ 700:=Nat.pow_le_pow_right (by decide) (by decide)
 exact⟨hn.1,hn.2,⟨by omega,by omega,by omega,by omega,by omega,by omega⟩,g1,g2,l1,b5⟩
theorem ff {P:Prop}(h:¬ P):(false=true↔P):=⟨fun q=>(by cases q),fun q=>absurd q h⟩
theorem no_a:qFv "a":=⟨by decide+kernel,by decide+kernel⟩
theorem qDu:qFv "nobody":=⟨by decide+kernel,by decide+kernel⟩
structure SpH (H:Hp)(re td:Addr)(ar kvs:List (Key × V))(A:Int)(tn:Str→Bool):Prop where
 a0:60≤A
 a1:A < 360
 R:RmH H re td kvs (rlE A) tn
 lo:tn "low"=true
 nb:xv kvs (Sum.inr "nobody")=none
 hr:Rd H re (.dK ar)
 nr:xv ar (Sum.inr "nobody")=none
theorem qNd {H:Hp}{re td sm z:Addr}{ar kvs:List (Key × V)}{A w:Int}{tn:Str→Bool}{k:Nat}(S:SpH H re td ar kvs A tn)(w1:1≤w)(w9:w≤9)(hk:k < 20)(h8:k≠8)(h:BdT sm A w H z k):TkB K H re td (.ref z) false:=by
 have a0:=S.a0
 have a1:=S.a1
 have R:=S.R
 obtain⟨oc,ic⟩:=qKk (tn:=tn) a0 a1 (p:=A - w) (l:=w) (by omega) w1 (by omega)
 have mx:∀ l:Int,1≤l→OkI (rlE A) tn (.mix l)∧ItR (rlE A) (.mix l):=fun l hl=>⟨hl,fun _ _ _ _ _ _ q=>nomatch q⟩
 have pic:∀ {p q r s l:Int},Tr H z [.clip "a" p q r s l]→GF "a" p q r s l→¬ (InR (Vk p q r s 0) (q*s) A∧InR (Vk p q r s (l - 1)) (q*s) A)→TkB K H re td (.ref z) false:=fun {p q r s l} hT g hn=>by
  obtain⟨vs,hz,hI⟩:=hT
  match vs,hI with
  | [v],⟨⟨c,x,y,e,hc,hx,hy⟩,_⟩=>
   subst e
   exact qBs hz (.clip hc (.pics ⟨⟨x,y,hc,hx,hy⟩⟩ g (R.hr "a" A (by unfold rlE;rw [if_pos rfl])) (ff hn)))
 have frm:∀ {p q r s l:Int},Tr H z [.clip "a" p q r s l]→(∀ (c x y:Addr),H c=some (.tup [.str "clip",.str "a",.ref x,.ref y,.int l])→H x=some (.tup [.int p,.int q])→H y=some (.tup [.int r,.int s])→CfB K H (.ref c) false)→TkB K H re td (.ref z) false:=fun {p q r s l} hT g=>by
  obtain⟨vs,hz,hI⟩:=hT
  match vs,hI with
  | [v],⟨⟨c,x,y,e,hc,hx,hy⟩,_⟩=>
   subst e
   exact qBs hz (.clip hc (.form (g c x y hc hx hy)))
 have nst:∀ {n:Str} {b l:Int},Tr H z [.nest n b l]→qFv n→(decide (0≤b) && decide (1≤l) && (xv kvs (Sum.inr n)).isSome)=false→TkB K H re td (.ref z) false:=fun {n b l} hT hn hf=>by
  obtain⟨vs,hz,hI⟩:=hT
  match vs,hI with
  | [v],⟨⟨c,e,hc⟩,_⟩=>
   subst e
   exact qBs hz (.nest hc hn.1 hn.2 R.hk hf.symm)
 have nma:NmB K H (.str "a") true:=by
  have:=NmB.str (K:=K) (H:=H) "a" no_a.2
  rwa [no_a.1] at this
 have fr11:∀ {x:Addr},H x=some (.tup [.int 1,.int 1])→FrB K H (.ref x) true:=fun h=>by
  have:=FrB.nums (K:=K) h
  rwa [show (decide ((1:Int)≤1) && decide (Int.gcd 1 1=1))=true by decide] at this
 have frm0:∀ {ms:List Im},Tr H z ms→ms.length≤100→(∀ m∈ms,OkI (rlE A) tn m)→(∀ m∈ms,ItR (rlE A) m)→¬ (qC1 ms∧wG (rlE A) ms=true)→TkB K H re td (.ref z) false:=fun hT hl ho hi hn=>qNl R hT hl ho (fun _ _=>hi) (ff hn)
 have itg:∀ l:Int,ItR (rlE A) (.gap l):=fun l _ _ _ _ _ _ q=>nomatch q
 have tr:k≠6→k≠16→Tr H z (qBc A w k):=fun h1 h2=>by unfold BdT at h;rwa [if_neg h1,if_neg h2] at h
 rcases (by omega:k=0∨k=1∨k=2∨k=3∨k=4∨k=5∨k=6∨k=7∨k=9∨k=10∨k=11∨k=12∨k=13∨k=14∨k=15∨k=16∨k=17∨k=18∨k=19) with rfl | rfl | rfl | rfl | rfl | rfl | rfl | rfl | rfl | rfl | rfl | rfl | rfl | rfl | rfl | rfl | rfl | rfl | rfl
 · refine frm0 (ms:=[.gap 2,.gap 3,cl A w]) (tr (by decide) (by decide)) (by show 3≤100;decide) ?_ ?_ fun q=>?_
   · intro m hm
     simp only [List.mem_cons,List.not_mem_nil,or_false] at hm
     rcases hm with rfl | rfl | rfl
     · exact(by decide:(1:Int)≤2)
     · exact(by decide:(1:Int)≤3)
     · exact oc
   · intro m hm
     simp only [List.mem_cons,List.not_mem_nil,or_false] at hm
     rcases hm with rfl | rfl | rfl
     · exact itg _
     · exact itg _
     · exact ic
   · obtain⟨m,h1,h2⟩:=q.1.1 0 2 rfl
     cases h1
     exact h2 rfl
 · refine frm0 (ms:=[cl A w,.gap 2]) (tr (by decide) (by decide)) (by show 2≤100;decide) ?_ ?_ fun q=>?_
   · intro m hm
     simp only [List.mem_cons,List.not_mem_nil,or_false] at hm
     rcases hm with rfl | rfl
     · exact oc
     · exact(by decide:(1:Int)≤2)
   · intro m hm
     simp only [List.mem_cons,List.not_mem_nil,or_false] at hm
     rcases hm with rfl | rfl
     · exact ic
     · exact itg _
   · obtain⟨m,h1,h2⟩:=q.1.1 1 2 rfl
     cases h1
 · refine pic (tr (by decide) (by decide)) (qPc no_a (by omega) (by decide) (by decide) (qOd _) (by decide) (by omega)) fun q=>?_
   have:=q.2.2
   unfold Vk at this
   omega
 · refine pic (tr (by decide) (by decide)) (qPc no_a (by omega) (by decide) (by decide) (qOd _) (by decide) (by omega)) fun q=>?_
   have:=q.2.1
   unfold Vk at this
   omega
 · refine frm (tr (by decide) (by decide)) fun c x y hc hx hy=>.st hc nma ?_
   have:=FrB.nums (K:=K) hx
   rwa [show (decide ((1:Int)≤2) && decide (Int.gcd 2 2=1))=false by decide] at this
 · refine frm (tr (by decide) (by decide)) fun c x y hc hx hy=>.ln hc nma (fr11 hx) (fr11 hy) ?_
   have:=LnB.int (H:=H) 0
   rwa [show decide ((1:Int)≤0)=false by decide] at this
 · unfold BdT at h
   rw [if_pos rfl] at h
   obtain⟨q,x,y,h1,h2,h3,h4⟩:=h
   exact qBs h1 (.clip h2 (.form (.ln h2 nma (fr11 h3) (fr11 h4) (.no (.bl true)))))
 · refine nst (tr (by decide) (by decide)) qDu ?_
   rw [S.nb];rfl
 · exact nst (tr (by decide) (by decide)) qBl (by rw [show decide ((0:Int)≤ -1)=false by decide];rfl)
 · exact nst (tr (by decide) (by decide)) qBl (by rw [show decide ((1:Int)≤0)=false by decide,Bool.and_false];rfl)
 · refine frm0 (ms:=[.mix 1,cl A w,cl A w]) (tr (by decide) (by decide)) (by show 3≤100;decide) ?_ ?_ fun q=>?_
   · intro m hm
     simp only [List.mem_cons,List.not_mem_nil,or_false] at hm
     rcases hm with rfl | rfl | rfl
     · exact(mx 1 (by decide)).1
     · exact oc
     · exact oc
   · intro m hm
     simp only [List.mem_cons,List.not_mem_nil,or_false] at hm
     rcases hm with rfl | rfl | rfl
     · exact(mx 1 (by decide)).2
     · exact ic
     · exact ic
   · exact absurd (q.1.2 0 1 rfl).1 (by show ("":Str)≠"clip";decide+kernel)
 · refine frm0 (ms:=[cl A w,cl A w,.mix 1]) (tr (by decide) (by decide)) (by show 3≤100;decide) ?_ ?_ fun q=>?_
   · intro m hm
     simp only [List.mem_cons,List.not_mem_nil,or_false] at hm
     rcases hm with rfl | rfl | rfl
     · exact oc
     · exact oc
     · exact(mx 1 (by decide)).1
   · intro m hm
     simp only [List.mem_cons,List.not_mem_nil,or_false] at hm
     rcases hm with rfl | rfl | rfl
     · exact ic
     · exact ic
     · exact(mx 1 (by decide)).2
   · exact absurd (q.1.2 2 1 rfl).2 (by show ("":Str)≠"clip";decide+kernel)
 · refine frm0 (ms:=[cl A w,.mix 1,.gap 1,cl A w]) (tr (by decide) (by decide)) (by show 4≤100;decide) ?_ ?_ fun q=>?_
   · intro m hm
     simp only [List.mem_cons,List.not_mem_nil,or_false] at hm
     rcases hm with rfl | rfl | rfl | rfl
     · exact oc
     · exact(mx 1 (by decide)).1
     · exact(by decide:(1:Int)≤1)
     · exact oc
   · intro m hm
     simp only [List.mem_cons,List.not_mem_nil,or_false] at hm
     rcases hm with rfl | rfl | rfl | rfl
     · exact ic
     · exact(mx 1 (by decide)).2
     · exact itg _
     · exact ic
   · exact absurd (q.1.2 1 1 rfl).2 (by show ("gap":Str)≠"clip";decide+kernel)
 · refine frm0 (ms:=[cl A w,.mix 1,cl A w]) (tr (by decide) (by decide)) (by show 3≤100;decide) ?_ ?_ fun q=>?_
   · intro m hm
     simp only [List.mem_cons,List.not_mem_nil,or_false] at hm
     rcases hm with rfl | rfl | rfl
     · exact oc
     · exact(mx 1 (by decide)).1
     · exact oc
   · intro m hm
     simp only [List.mem_cons,List.not_mem_nil,or_false] at hm
     rcases hm with rfl | rfl | rfl
     · exact ic
     · exact(mx 1 (by decide)).2
     · exact ic
   · have hf:=qG6 (P:=fun A=>∀ j:Fin 9,wG (rlE A) (qBc A (1+(j.val:Int)) 14)=false) qMw a0 a1
     have hf:=qPt (P:=fun w=>wG (rlE A) (qBc A w 14)=false) hf w1 w9
     have hf:wG (rlE A) [cl A w,.mix 1,cl A w]=false:=hf
     rw [hf] at q
     cases q.2
 · refine frm0 (ms:=qBc 0 0 15) (tr (by decide) (by decide)) (by show 3≤100;decide) ?_ ?_ fun q=>?_
   · intro m hm
     simp only [qBc,List.mem_cons,List.not_mem_nil,or_false] at hm
     rcases hm with rfl | rfl | rfl
     · exact(qKk a0 a1 (by decide) (by decide) (by omega)).1
     · exact(mx 8 (by decide)).1
     · exact(qKk a0 a1 (by decide) (by decide) (by omega)).1
   · intro m hm
     simp only [qBc,List.mem_cons,List.not_mem_nil,or_false] at hm
     rcases hm with rfl | rfl | rfl
     · exact(qKk (tn:=tn) a0 a1 (by decide) (by decide) (by omega)).2
     · exact(mx 8 (by decide)).2
     · exact(qKk (tn:=tn) a0 a1 (by decide) (by decide) (by omega)).2
   · have hf:=(qG6 (P:=fun A=>wG (rlE A) (qBc 0 0 15)=false∧wG (rlE A) (qBc 0 0 18)=false) qK1 a0 a1).1
     rw [hf] at q
     cases q.2
 · unfold BdT at h
   rw [if_neg (by decide),if_pos rfl] at h
   obtain⟨q,xs,h1,h2,h3⟩:=h
   exact qBs h1 (.lst h3)
 · have hT:Tr H z [.clip "nobody" 1 1 1 1 1]:=tr (by decide) (by decide)
   obtain⟨vs,hz,hI⟩:=hT
   match vs,hI with
   | [v],⟨⟨c,x,y,e,hc,hx,hy⟩,_⟩=>
    subst e
    exact qBs hz (.clip hc (.reel ⟨⟨x,y,hc,hx,hy⟩⟩ (qPc qDu (by decide) (by decide) (by decide) (by decide) (by decide) (by decide)) S.hr S.nr))
 · refine frm0 (ms:=qBc 0 0 18) (tr (by decide) (by decide)) (by show 3≤100;decide) ?_ ?_ fun q=>?_
   · intro m hm
     simp only [qBc,List.mem_cons,List.not_mem_nil,or_false] at hm
     rcases hm with rfl | rfl | rfl
     · exact(qKk a0 a1 (by decide) (by decide) (by omega)).1
     · exact(mx 4 (by decide)).1
     · exact(qKk a0 a1 (by decide) (by decide) (by omega)).1
   · intro m hm
     simp only [qBc,List.mem_cons,List.not_mem_nil,or_false] at hm
     rcases hm with rfl | rfl | rfl
     · exact(qKk (tn:=tn) a0 a1 (by decide) (by decide) (by omega)).2
     · exact(mx 4 (by decide)).2
     · exact(qKk (tn:=tn) a0 a1 (by decide) (by decide) (by omega)).2
   · have hf:=(qG6 (P:=fun A=>wG (rlE A) (qBc 0 0 15)=false∧wG (rlE A) (qBc 0 0 18)=false) qK1 a0 a1).2
     rw [hf] at q
     cases q.2
 · have ho:=qLa (tn:=tn) a0 a1 (l:=3) (by decide) (by decide)
   refine frm0 (ms:=fiv 3) (tr (by decide) (by decide)) (by show 5≤100;decide) (fun m hm=>(ho.1 m hm).1) (fun m hm=>(ho.1 m hm).2) fun q=>?_
   have hf:=(qG6 (P:=fun A=>wG (rlE A) (fiv 4)=true∧wG (rlE A) (fiv 3)=false) qIv a0 a1).2
   rw [hf] at q
   cases q.2
def arE (A:Int):List (Key × V):=[(Sum.inr "a",.int A),(Sum.inr "reelb",.int 1000000000)]
def tn6 (n:Str):Bool:=decide (n∈nm6)
theorem kL {kvs:List (Key × V)}{k:Key}{i:Nat}{v:V}(h:kvs[i]? =some (k,v)):(xv kvs k).isSome=true:=by
 rw [← vN,List.any_eq_true]
 exact⟨_,List.mem_of_getElem? h,by simp⟩
theorem qLr {H:Hp}{re td:Addr}{kv kvs:List (Key × V)}{rl:Rls}{tn:Str→Bool}{tb:List Tb}(hT:TbsAt H tb kv)(R:RmH H re td kvs rl tn)(hg:∀ t∈tb,qFv t.1∧GoodTb rl tn t.2.1 t.2.2)(j:Nat)(q:Key × V)(h:kv[j]? =some q):TeE K H re td q true:=by
 obtain⟨k,v⟩:=q
 obtain⟨nm,ts,tie,h1,rfl,h3⟩:=hT.get h
 have ht:=hg _ (List.mem_of_getElem? h1)
 exact qIy R ht.1 ht.2 h3
theorem qD8 {Hf:Hp}{rn tn r:Addr}{A:Int}{tops:List (List Im)}{l1 l2:List Im}{c1 c2:Im}{kvs kvs':List (Key × V)}{i:Nat}{p:Key × V}(O:TOk A tops l1 l2 c1 c2)(hz:Hf r=some (.tup [.ref rn,.ref tn]))(hrn:Hf rn=some (.dK (arE A)))(htn:Hf tn=some (.dK kvs'))(hT:TbsAt Hf (tb6 tops l1 l2 c1 c2) kvs)
 (hkeys:∀ n∈nm6,(xv kvs' (Sum.inr n)).isSome=true) (hsame:∀ j,j < i→kvs'[j]? =kvs[j]?) (hi:kvs'[i]? =some p) (hb:∀ H',FL Hf H'→RmH H' rn tn kvs' (rlE A) tn6→TeE K H' rn tn p false):RoomV K Hf r false:=by
 refine⟨rn,tn,_,kvs',true,false,hz,.inl hrn,.inl htn,fun _ _=>qE0 O.a0 O.a1,fun _ H' f=>?_,rfl⟩
 have R:RmH H' rn tn kvs' (rlE A) tn6:=⟨qMv (f.rd (.inl hrn)),f.rd (.inl htn),fun n hn=>hkeys n (by unfold tn6 at hn;simpa using hn)⟩
 exact .bad (i:=i) (fun j q hj hq=>qLr (f.tbs hT) R (O.each (by decide+kernel) (by decide+kernel)) j q (by rw [← hsame j hj];exact hq)) hi (hb H' f R)
theorem qBp {Hf:Hp}{rn tn r:Addr}{A:Int}{n:Str}{v:V}{o:Option Int}{kvs:List (Key × V)}(a0:60≤A)(a1:A < 360)(hz:Hf r=some (.tup [.ref rn,.ref tn]))(hrn:Hf rn=some (.dK (arE A++[(Sum.inr n,v)])))(htn:Hf tn=some (.dK kvs))(hn:n.length≤1000)(hv:Nu (fun _=>none) v o)(hb:(jm n && pcB o)=false):RoomV K Hf r false:=by
 refine⟨rn,tn,_,kvs,false,false,hz,.inl hrn,.inl htn,fun H' _=>?_,fun q=>(by cases q),rfl⟩
 refine .bad (i:=2) (p:=(Sum.inr n,v)) (fun j q hj hq=>?_) rfl ⟨n,v,o,rfl,hn,?_,hb.symm⟩
 · have hg:=qE0 (H:=H') a0 a1
   cases hg with
   | good h=>
    refine h q ?_
    have hq':(arE A)[j]? =some q:=by rw [List.getElem?_append_left (by show j < 2;omega)] at hq;exact hq
    exact List.mem_of_getElem? hq'
 · cases hv with
   | int i=>exact .int i
   | no h=>
    cases h with
    | non=>exact .no .non
    | bl b=>exact .no (.bl b)
    | str z=>exact .no (.str z)
    | lst e=>cases e
    | tup e=>cases e
def kv6 (t1 t2 t3 t4 t5 t6:V):List (Key × V):=[(Sum.inr "top",t1),(Sum.inr "low",t2),(Sum.inr "deep",t3),(Sum.inr "six",t4),(Sum.inr "a",t5),(Sum.inr "x",t6)]
theorem qL5 {H:Hp}{tops:List (List Im)}{l1 l2:List Im}{c1 c2:Im}{kvs:List (Key × V)}(h:TbsAt H (tb6 tops l1 l2 c1 c2) kvs):∃ t1 t2 t3 t4 t5 t6:V,kvs=kv6 t1 t2 t3 t4 t5 t6∧TabF H t1 tops []∧TabF H t2 [l1.map ren,l2.map ren] []∧TabF H t3 [[c1,.gap 3,c2]] []∧TabF H t4 [six] []∧TabF H t5 [fiv 4] []∧TabF H t6 [[],stl,[],[],[],stl,[],[]] [0,2,7]:=by
 match kvs,h with
 | [(_,t1),(_,t2),(_,t3),(_,t4),(_,t5),(_,t6)],⟨e1,h1,e2,h2,e3,h3,e4,h4,e5,h5,e6,h6,_⟩=>
  subst e1 e2 e3 e4 e5 e6
  exact⟨t1,t2,t3,t4,t5,t6,rfl,h1,h2,h3,h4,h5,h6⟩
theorem qMs {t1 t2 t3 t4 t5 t6:V}{more:List (Key × V)}:∀ n∈nm6,(xv (kv6 t1 t2 t3 t4 t5 t6++more) (Sum.inr n)).isSome=true:=by
 intro n hn
 simp only [nm6,List.mem_cons,List.not_mem_nil,or_false] at hn
 rcases hn with rfl | rfl | rfl | rfl | rfl | rfl
 · exact kL (i:=0) (v:=t1) rfl
 · exact kL (i:=1) (v:=t2) rfl
 · exact kL (i:=2) (v:=t3) rfl
 · exact kL (i:=3) (v:=t4) rfl
 · exact kL (i:=4) (v:=t5) rfl
 · exact kL (i:=5) (v:=t6) rfl
theorem qL1 {t1 t2 t3 t4 t5 t6 v:V}:qAr (kv6 t1 t2 t3 t4 t5 t6) (Sum.inr "x") v=kv6 t1 t2 t3 t4 t5 v:=by rfl
theorem qIt {t1 t2 t3 t4 t5 t6 v:V}:qAr (kv6 t1 t2 t3 t4 t5 t6) (Sum.inr "top") v=kv6 v t2 t3 t4 t5 t6:=by rfl
theorem qL7 {t1 t2 t3 t4 t5 t6 v:V}:qAr (kv6 t1 t2 t3 t4 t5 t6) (Sum.inr "low") v=kv6 t1 v t3 t4 t5 t6:=by rfl
theorem qKr {t1 t2 t3 t4 t5 t6 v:V}:qAr (kv6 t1 t2 t3 t4 t5 t6) (Sum.inr "deep") v=kv6 t1 t2 v t4 t5 t6:=by rfl
theorem qJo {t1 t2 t3 t4 t5 t6 t6':V}:∀ j,j < 5→(kv6 t1 t2 t3 t4 t5 t6')[j]? =(kv6 t1 t2 t3 t4 t5 t6)[j]?:=fun j hj=>by
 rcases (by omega:j=0∨j=1∨j=2∨j=3∨j=4) with rfl | rfl | rfl | rfl | rfl <;> rfl
theorem qFk {Hf:Hp}{rn tn r:Addr}{A:Int}{tops:List (List Im)}{l1 l2:List Im}{c1 c2:Im}{t1 t2 t3 t4 t5 t6 v:V}(O:TOk A tops l1 l2 c1 c2)(hz:Hf r=some (.tup [.ref rn,.ref tn]))(hrn:Hf rn=some (.dK (arE A)))(htn:Hf tn=some (.dK (kv6 t1 t2 t3 t4 t5 v)))(hT:TbsAt Hf (tb6 tops l1 l2 c1 c2) (kv6 t1 t2 t3 t4 t5 t6))
 (hb:∀ H',FL Hf H'→RmH H' rn tn (kv6 t1 t2 t3 t4 t5 v) (rlE A) tn6→TbB K H' rn tn v false):RoomV K Hf r false:=
 qD8 (i:=5) (p:=(Sum.inr "x",v)) O hz hrn htn hT (qMs (more:=[])) qJo rfl fun H' f R=>⟨"x",v,rfl,by decide+kernel,.inr ⟨by decide+kernel,hb H' f R⟩⟩
theorem qAe {A:Int}{tn:Str→Bool}{n:Str}{b l:Int}(hn:qFv n)(b0:0≤b)(l1:1≤l)(t:tn n=true):GoodTk (rlE A) tn [.nest n b l]:=by
 refine xQ (by show 1≤100;decide) (fun m hm=>?_) (qJv fun l h=>by simp at h) fun l h=>by simp at h
 obtain rfl:m= .nest n b l:=by simpa using hm
 exact⟨hn.1,hn.2,b0,l1,t⟩
def tb5 (X:Str):List Tb:=[("top",[[.nest "low" 0 2]],[]),("low",[[],[.nest "deep" 0 2]],[]),("deep",[[.nest X 0 3]],[]),("six",[six],[]),("a",[fiv 4],[]),("x",[[],stl,[],[],[],stl,[],[]],[0,2,7])]
def tb8 (l1 l2:List Im)(c1 c2:Im):List Tb:=[("top",[[.nest "top" 0 1]],[]),("low",[l1.map ren,l2.map ren],[]),("deep",[[c1,.gap 3,c2]],[]),("six",[six],[]),("a",[fiv 4],[]),("x",[[],[.nest "top" 0 1]],[0,1])]
theorem qJh {rl:Rls}{tn:Str→Bool}{ms:List Im}(h:GoodTk rl tn ms):GoodTb rl tn [ms] []:=⟨by show 1≤1;decide,by show 1≤8;decide,fun m hm=>by rw [List.mem_singleton.mp hm];exact h,rfl⟩
theorem qKs {rl:Rls}{tn:Str→Bool}{ms:List Im}{tie:List Int}(h:GoodTk rl tn ms)(ht:qC4 0 2 (tie.map some)=true):GoodTb rl tn [[],ms] tie:=by
 refine⟨by show 1≤2;decide,by show 2≤8;decide,fun m hm=>?_,ht⟩
 simp only [List.mem_cons,List.not_mem_nil,or_false] at hm
 rcases hm with rfl | rfl
 · exact tk_nil
 · exact h
theorem tn_all:tn6 "top"=true∧tn6 "low"=true∧tn6 "deep"=true:=by decide+kernel
theorem TOk.tb5 {A:Int}{tops:List (List Im)}{l1 l2:List Im}{c1 c2:Im}(h:TOk A tops l1 l2 c1 c2){X:Str}(hX:X="top"∨X="low"∨X="deep"):GoodTs (rlE A) (tb5 X)∧kM (Lw.tb5 X)=false:=by
 have en:(Lw.tb5 X).map (·.1)=nm6:=rfl
 obtain⟨q1,q2,q3⟩:=tn_all
 have hn:qFv X∧tn6 X=true:=by rcases hX with rfl | rfl | rfl;exact⟨qBn,q1⟩;exact⟨qBl,q2⟩;exact⟨qCh,q3⟩
 have ev:=h.each (tn:=tn6) q2 q3
 have all:∀ t∈Lw.tb5 X,qFv t.1∧GoodTb (rlE A) tn6 t.2.1 t.2.2:=by
  intro t ht
  simp only [Lw.tb5,List.mem_cons,List.not_mem_nil,or_false] at ht
  rcases ht with rfl | rfl | rfl | rfl | rfl | rfl
  · exact⟨qBn,qJh (qAe qBl (by decide) (by decide) q2)⟩
  · exact⟨qBl,qKs (qAe qCh (by decide) (by decide) q3) rfl⟩
  · exact⟨qCh,qJh (qAe hn.1 (by decide) (by decide) hn.2)⟩
  · exact ev _ (by simp [tb6])
  · exact ev _ (by simp [tb6])
  · exact ev _ (by simp [tb6])
 refine⟨⟨by rw [en];exact qEr,by show 6≤20;decide,fun t ht=>(all t ht).1,fun t ht=>by rw [en];exact(all t ht).2⟩,?_⟩
 have r3:(if ("top":Str)="top"∨("top":Str)="low"∨("top":Str)="deep" then 100 else 0)=100∧(if ("low":Str)="top"∨("low":Str)="low"∨("low":Str)="deep" then 100 else 0)=100∧(if ("deep":Str)="top"∨("deep":Str)="low"∨("deep":Str)="deep" then 100 else 0)=100:=by decide+kernel
 refine qCs (fun n=>if n="top"∨n="low"∨n="deep" then 100 else 0) (fun t ht=>?_) (t0:=("top",[[.nest "low" 0 2]],[])) (by simp [Lw.tb5]) (by show 6≤_;rw [r3.1];decide)
 simp only [Lw.tb5,List.mem_cons,List.not_mem_nil,or_false] at ht
 rcases ht with rfl | rfl | rfl | rfl | rfl | rfl
 · exact .inr ⟨"low",by simp [je,nmO],by dsimp only;rw [r3.1,r3.2.1];decide⟩
 · exact .inr ⟨"deep",by simp [je,nmO],by dsimp only;rw [r3.2.2,r3.2.1];decide⟩
 · refine .inr ⟨X,by simp [je,nmO],?_⟩
   dsimp only
   rw [r3.2.2,if_pos hX]
   decide
 · exact .inl (by decide+kernel)
 · exact .inl (by decide+kernel)
 · exact .inl (by decide+kernel)
theorem TOk.tb8 {A:Int}{tops:List (List Im)}{l1 l2:List Im}{c1 c2:Im}(h:TOk A tops l1 l2 c1 c2):GoodTs (rlE A) (tb8 l1 l2 c1 c2)∧kM (Lw.tb8 l1 l2 c1 c2)=false:=by
 have en:(Lw.tb8 l1 l2 c1 c2).map (·.1)=nm6:=rfl
 obtain⟨q1,q2,q3⟩:=tn_all
 have ev:=h.each (tn:=tn6) q2 q3
 have all:∀ t∈Lw.tb8 l1 l2 c1 c2,qFv t.1∧GoodTb (rlE A) tn6 t.2.1 t.2.2:=by
  intro t ht
  simp only [Lw.tb8,List.mem_cons,List.not_mem_nil,or_false] at ht
  rcases ht with rfl | rfl | rfl | rfl | rfl | rfl
  · exact⟨qBn,qJh (qAe qBn (by decide) (by decide) q1)⟩
  · exact ev _ (by simp [tb6])
  · exact ev _ (by simp [tb6])
  · exact ev _ (by simp [tb6])
  · exact ev _ (by simp [tb6])
  · exact⟨⟨by decide+kernel,by decide+kernel⟩,qKs (qAe qBn (by decide) (by decide) q1) rfl⟩
 refine⟨⟨by rw [en];exact qEr,by show 6≤20;decide,fun t ht=>(all t ht).1,fun t ht=>by rw [en];exact(all t ht).2⟩,?_⟩
 have r1:(if ("top":Str)="top" then 100 else 0)=100:=by decide+kernel
 have r0:(if ("low":Str)="top" then 100 else 0)=0∧(if ("deep":Str)="top" then 100 else 0)=0:=by decide+kernel
 refine qCs (fun n=>if n="top" then 100 else 0) (fun t ht=>?_) (t0:=("top",[[.nest "top" 0 1]],[])) (by simp [Lw.tb8]) (by show 6≤_;rw [r1];decide)
 simp only [Lw.tb8,List.mem_cons,List.not_mem_nil,or_false] at ht
 rcases ht with rfl | rfl | rfl | rfl | rfl | rfl
 · exact .inr ⟨"top",by simp [je,nmO],by dsimp only;rw [r1];decide⟩
 · exact .inl r0.1
 · exact .inl r0.2
 · exact .inl (by decide+kernel)
 · exact .inl (by decide+kernel)
 · exact .inl (by decide+kernel)
inductive wp (K:W.Frag)(vs:List V)(H:Hp)(Q:VK)(_:XK):Prop
| mk (rz re td:Addr) (c A:Int) (tops:List (List Im)) (l1 l2:List Im) (c1 c2:Im) (kvs:List (Key × V)) (_:vs=[.ref rz,.int c]) (_:H rz=some (.tup [.ref re,.ref td])) (_:Rd H re (.dK (arE A))) (_:Rd H td (.dK kvs)) (_:TOk A tops l1 l2 c1 c2) (_:TbsAt H (tb6 tops l1 l2 c1 c2) kvs) (_:∀ (r:Addr) (H':Hp),Same H H'→RoomV K H' r false→Q (.ref r) H')
theorem qAl (T:Tx K mg a):FnOk P w K mg base CX0 2 a.A57 a.B57 ["_law_room_here","_law_cell"] (wp K):=by
 refine T.D57.F.ok jG (fun vs H Q E h=>?_) (fun cdv A outer s H vs Q E hr h=>?_)
 · obtain⟨rz,re,td,c,A',tops,l1,l2,c1,c2,kvs,rfl,_⟩:=h
   rfl
 refine qM fun _ Y=>?_
 obtain⟨rz,re,td,c,A',tops,l1,l2,c1,c2,kvs,rfl,hz,hre,htd,O,hT,kk⟩:=h
 obtain⟨t1,t2,t3,t4,t5,t6,rfl,_⟩:=qL5 hT
 apply Y
 have hu1:=qBg hr
 refine⟨_,(qF (qg 2 jG.nd (jN kK rfl T.b_dict rfl (qA (qX (pv 0)) qD)))
  (qF (qg 3 jG.nd (jN kK rfl T.b_dict rfl (qA (qX (pv 0)) qD)))
  (qF (qg 4 jG.nd (qN qm (pv 1) qE))
  (qF (qh (qQ xA (pv 4) qE (qW _)) (qG (jX hu1 (pv 2) (jr jL (qO (qA qI (qA qI (qA qI (qA qI qD))))) (qN qm (qN qY (pv 1) qE) qE) (fun _ _=>rfl)) qE rfl)) qR)
  (qF (qh (qQ xA (pv 4) qE (qW _)) (qG (jX hu1 (pv 2) qI (jr jL (qO (qA qE (qA (wP zO qE) (qA (qN jE (qN qC5 qE qE) qE) (qA xq (qA qI qD)))))) (qN qm (qN qY (pv 1) qE) qE) (fun _ _=>rfl)) rfl)) qR)
  (qF (qh (qQ xA (pv 4) qE (qW _)) (qG (jX hu1 (pv 3) (jr jL (qO (qA qI (qA qI (qA qI (qA qI qD))))) (qN qm (qN qY (pv 1) qE) qE) (fun _ _=>rfl)) (qK (qA (qO (qA (qO qD) qD)) (qA (qO qD) qD))) rfl)) qR)
  (qF (qh (qQ xA (pv 4) qE (qW _)) (qG (jX hu1 (pv 3) qI (qK (qA (vE [] [] rfl (xM rfl T.b_range (qA (jr jL (qO (qA qE (qA qE (qA qE qD)))) (qN qm (qN qY (pv 1) qE) qE) (fun _ _=>rfl)) qD)) (fun _ _ _ _=>(qO qD))) (qA (qO qD) qD))) rfl)) qR)
  (qF (qh (qQ xA (pv 4) qE (qW _)) (qG (jX hu1 (pv 3) qI (qK (qA (qO (qA (qO qD) (qA (qO qD) (qA (qO qD) qD)))) (qA (jr jL (qO (qA (qO (qA qE (qA qE qD))) (qA (qO (qA qE (qA qE qD))) (qA (qO (qA qE (qA qE qD))) (qA (qO (qA (wP zO qE) qD)) (qA (qO (qA xq qD)) (qA (qO (qA qE (qA qE (qA qE (qA qE qD))))) qD))))))) (qN qm (qN qY (pv 1) qE) qE) (fun _ _=>rfl)) qD))) rfl)) qR)
  (qF (qh (qQ xA (pv 4) qE (qW _)) (qF (jX hu1 (pv 3) qI (qK (qA (qO (qA (qO (qA (qK (qA qI (qA (jr jL (qO (qA qI (qA qI (qA qI qD)))) (qN qm (qN qY (pv 1) qE) qE) (fun _ _=>rfl)) (qA qE (qA qE qD))))) qD)) qD)) (qA (qO qD) qD))) rfl)
  (qF (jX hu1 (pv 3) qI (qK (qA (qO (qA (qO (qA (qK (qA qI (qA qI (qA qE (qA qE qD))))) qD)) qD)) (qA (qO qD) qD))) rfl)
  (qG (jX hu1 (pv 3) qI (qK (qA (qO (qA (qO qD) (qA (qO (qA (qK (qA qI (qA qI (qA qE (qA qE qD))))) qD)) qD))) (qA (qO qD) qD))) rfl)))) qR)
  (qF (qh (qQ xA (pv 4) qE (qW _)) (qG (qg 3 jG.nd (qL T.D55 (vO T) hr rfl (qA qE qD)))) qR)
  (qF (qh (qQ qHn (pv 4) qE (qW _)) (qF (qg 5 jG.nd (qL T.D56 (vx T) hr rfl (qA (qN qY (pv 1) qE) (qA (kq hu1 (qX (pv 0)) qI (fun _ _=>rfl)) qD))))
  (qF (jX hu1 (pv 3) qI (qK (qA (qO (qA (qO qD) (qA (jN jb rfl T.b_list rfl (qA (pv 5) qD)) qD))) (qA (qO (qA qE (qA qE qD))) qD))) rfl)
  (qG (qh (qQ xA (qN qm (qN qY (pv 1) qE) qE) qE (qW _)) (qG (jX hu1 (pv 3) qI (qK (qA (qO (qA (jN jb rfl T.b_list rfl (qA (pv 5) qD)) qD)) (qA (qO qD) qD))) rfl)) qR)))) qR)
  (qG (qU (qK (qA (pv 2) (qA (pv 3) qD)))))))))))))))),?_⟩
 try dsimp only [jc,qk]
 refine(ixO hz at0 ⟨re,_,rfl,hre,fun rn hrn=>?_⟩)
 have w1:=qC hrn (.dK (arE A'))
 refine(ixO (w1 _ _ hz) at1 ⟨td,_,rfl,zy w1 htd,fun tn htn=>?_⟩)
 have w2:=qC htn (.dK (kv6 t1 t2 t3 t4 t5 t6))
 have e2:=w1.trans w2
 have i_rn:=w2 _ _ (qB (H:=H) (a:=rn) (o:=.dK (arE A')))
 have i_tn:=qB (H:=upd H rn (.dK (arE A'))) (a:=tn) (o:=.dK (kv6 t1 t2 t3 t4 t5 t6))
 have nrt:rn≠tn:=qH (qB (H:=H) (a:=rn) (o:=.dK (arE A'))) htn
 have h0tn:=w1.free htn
 generalize upd (upd H rn _) tn _=H2 at e2 i_rn i_tn ⊢
 have hT2:=hT.same e2
 have i_rz:=e2 _ _ hz
 have i_re:=zy e2 hre
 refine⟨_,rfl,_,_,rfl,rfl,nz,?_⟩
 have f12:=fm c (show (0:Int) < 12 by decide)
 dsimp only
 generalize c.fmod 12=way at f12 ⊢
 rcases (by omega:way=0∨way=1∨way=2∨way=3∨way=4∨way=5∨way=6∨6 < way) with rfl | rfl | rfl | rfl | rfl | rfl | rfl | h6
 · refine⟨_,rfl,rfl,_,rfl,qz ?_⟩
   refine⟨_,rfl,sL4,fun ld hld=>?_⟩
   have w3:=qC hld (.lst [.str "A",.str "",.str "abcdefghi",.str "x1"])
   have f4:=fm (c.fdiv 12) (show (0:Int) < 4 by decide)
   refine qM fun _ Y=>?_
   obtain⟨v,hv,hor⟩:=atN (xs:=[V.str "A",.str "",.str "abcdefghi",.str "x1"]) (n:=4) rfl f4.1 f4.2
   apply Y
   refine⟨_,rfl,_,_,rfl,rfl,cdB (by decide) (by decide),_,_,rfl,rfl,nz,ld,_,_,v,rfl,rfl,SqL.of qB,hv,?_⟩
   refine qM fun _ Y=>?_
   obtain⟨n,rfl,hn1,hn2,hn3⟩:∃ n:Str,v= .str n∧n.length≤1000∧jm n=false∧xv (arE A') (Sum.inr n)=none:=by
    simp only [List.mem_cons,List.not_mem_nil,or_false] at hor
    rcases hor with rfl | rfl | rfl | rfl <;> exact⟨_,rfl,by decide+kernel,by decide+kernel,rfl⟩
   apply Y
   have i_rn3:=w3 _ _ i_rn
   have i_tn3:=w3 _ _ i_tn
   generalize upd H2 ld _=H3 at w3 i_rn3 i_tn3 ⊢
   refine⟨rn,_,rfl,.inl ⟨arE A',Sum.inr n,i_rn3,rfl,by show 2 < sizeLine;decide,rfl⟩,?_⟩
   rw [xJ _ hn3]
   have sb:=jT (z:=rn) (H:=H3) (o:=.dK (arE A'++[(Sum.inr n,.int 5)]))
   have i_tn4:=sb _ _ nrt.symm i_tn3
   have e4:Same H (upd H3 rn (.dK (arE A'++[(Sum.inr n,.int 5)]))):=jD (e2.trans w3) sb hrn
   have i_rn4:=qB (H:=H3) (a:=rn) (o:=.dK (arE A'++[(Sum.inr n,.int 5)]))
   generalize upd H3 rn _=H4 at i_tn4 e4 i_rn4 ⊢
   refine⟨_,rfl,rfl,_,rfl,qd ⟨_,rfl,rfl,_,rfl,qd ⟨_,rfl,rfl,_,rfl,qd ⟨_,rfl,rfl,_,rfl,qd ⟨_,rfl,rfl,_,rfl,qd ⟨_,rfl,rfl,_,rfl,qd ⟨_,rfl,_,_,rfl,rfl,_,rfl,qd ?_⟩⟩⟩⟩⟩⟩⟩
   refine⟨_,rfl,_,rfl,sL2,fun r hr=>kk r _ (e4.trans (qC hr _)) ?_⟩
   have w5:=qC hr (.tup [.ref rn,.ref tn])
   exact qBp (o:=some 5) O.a0 O.a1 qB (w5 _ _ i_rn4) (w5 _ _ i_tn4) hn1 (.int 5) (by rw [hn2];rfl)
 · refine⟨_,rfl,rfl,_,rfl,qd ?_⟩
   refine⟨_,rfl,rfl,_,rfl,qz ?_⟩
   refine⟨_,rfl,_,_,rfl,rfl,cpw (n:=9) (by decide),_,_,rfl,rfl,sL5,fun ld hld=>?_⟩
   have e9:(10:Int) ^ (9:Int).toNat=1000000000:=by decide
   have w3:=qC hld (.lst [.int 0,.int (-3),.int (10 ^ (9:Int).toNat+1),.bl true,.str "7"])
   have f4:=fm (c.fdiv 12) (show (0:Int) < 5 by decide)
   refine qM fun _ Y=>?_
   obtain⟨v,hv,hor⟩:=atN (xs:=[V.int 0,.int (-3),.int (10 ^ (9:Int).toNat+1),.bl true,.str "7"]) (n:=5) rfl f4.1 f4.2
   apply Y
   refine⟨_,rfl,_,_,rfl,rfl,cdB (by decide) (by decide),_,_,rfl,rfl,nz,ld,_,_,v,rfl,rfl,SqL.of qB,hv,?_⟩
   refine qM fun _ Y=>?_
   obtain⟨o,ho,hn2⟩:∃ o:Option Int,Nu (fun _=>none) v o∧pcB o=false:=by
    simp only [List.mem_cons,List.not_mem_nil,or_false] at hor
    rcases hor with rfl | rfl | rfl | rfl | rfl
    · exact⟨_,.int 0,by decide⟩
    · exact⟨_,.int (-3),by decide⟩
    · exact⟨_,.int _,by decide⟩
    · exact⟨_,.no (.bl true),by decide⟩
    · exact⟨_,.no (.str "7"),by decide⟩
   apply Y
   have hn3:xv (arE A') (Sum.inr "b")=none:=rfl
   have i_rn3:=w3 _ _ i_rn
   have i_tn3:=w3 _ _ i_tn
   generalize upd H2 ld _=H3 at w3 i_rn3 i_tn3 ⊢
   refine⟨_,rfl,rn,_,rfl,.inl ⟨arE A',Sum.inr "b",i_rn3,rfl,by show 2 < sizeLine;decide,rfl⟩,?_⟩
   rw [xJ _ hn3]
   have sb:=jT (z:=rn) (H:=H3) (o:=.dK (arE A'++[(Sum.inr ("b":Str),v)]))
   have i_tn4:=sb _ _ nrt.symm i_tn3
   have e4:Same H (upd H3 rn (.dK (arE A'++[(Sum.inr ("b":Str),v)]))):=jD (e2.trans w3) sb hrn
   have i_rn4:=qB (H:=H3) (a:=rn) (o:=.dK (arE A'++[(Sum.inr ("b":Str),v)]))
   generalize upd H3 rn _=H4 at i_tn4 e4 i_rn4 ⊢
   refine⟨_,rfl,rfl,_,rfl,qd ⟨_,rfl,rfl,_,rfl,qd ⟨_,rfl,rfl,_,rfl,qd ⟨_,rfl,rfl,_,rfl,qd ⟨_,rfl,rfl,_,rfl,qd ⟨_,rfl,_,_,rfl,rfl,_,rfl,qd ?_⟩⟩⟩⟩⟩⟩
   refine⟨_,rfl,_,rfl,sL2,fun r hr=>kk r _ (e4.trans (qC hr _)) ?_⟩
   have w5:=qC hr (.tup [.ref rn,.ref tn])
   exact qBp O.a0 O.a1 qB (w5 _ _ i_rn4) (w5 _ _ i_tn4) (by decide+kernel) ho (by rw [hn2,Bool.and_false])
 · refine⟨_,rfl,rfl,_,rfl,qd ⟨_,rfl,rfl,_,rfl,qd ?_⟩⟩
   refine⟨_,rfl,rfl,_,rfl,qz ?_⟩
   refine⟨sL0,fun k1 hk1=>⟨z1,fun k2 hk2=>⟨sL0,fun k3 hk3=>⟨sL2,fun k4 hk4=>?_⟩⟩⟩⟩
   have n1:=qC hk1 (.lst [])
   have n2:=qC hk2 (.lst [.ref k1])
   have n3:=qC hk3 (.lst [])
   have n4:=qC hk4 (.tup [.ref k2,.ref k3])
   have q3:=n4
   have q2:=n3.trans q3
   have q1:=n2.trans q2
   have i_k1:=q1 _ _ qB
   have i_k2:=q2 _ _ qB
   have i_k3:=q3 _ _ qB
   have i_k4:=qB (H:=(upd (upd (upd H2 k1 (.lst [])) k2 (.lst [.ref k1])) k3 (.lst []))) (a:=k4) (o:=.tup [.ref k2,.ref k3])
   have s_H3:=n1.trans q1
   have l_k4:H2 k4=none:=(((n1.trans n2).trans n3)).free hk4
   clear n1 n2 n3 n4 q1 q2 q3
   generalize (upd (upd (upd (upd H2 k1 _) k2 _) k3 _) k4 _)=H3 at i_k1 i_k2 i_k3 i_k4 s_H3 ⊢
   clear hk1 hk2 hk3 hk4
   refine⟨_,rfl,sL4,fun ld hld=>?_⟩
   have w4:=qC hld (.lst [.str "A",.str "",.str "abcdefghi",.str "x1"])
   have f4:=fm (c.fdiv 12) (show (0:Int) < 4 by decide)
   refine qM fun _ Y=>?_
   obtain⟨v,hv,hor⟩:=atN (xs:=[V.str "A",.str "",.str "abcdefghi",.str "x1"]) (n:=4) rfl f4.1 f4.2
   apply Y
   refine⟨_,rfl,_,_,rfl,rfl,cdB (by decide) (by decide),_,_,rfl,rfl,nz,ld,_,_,v,rfl,rfl,SqL.of qB,hv,?_⟩
   refine qM fun _ Y=>?_
   obtain⟨n,rfl,hn1,hn2,hn3⟩:∃ n:Str,v= .str n∧n.length≤1000∧jm n=false∧xv (kv6 t1 t2 t3 t4 t5 t6) (Sum.inr n)=none:=by
    simp only [List.mem_cons,List.not_mem_nil,or_false] at hor
    rcases hor with rfl | rfl | rfl | rfl <;> exact⟨_,rfl,by decide+kernel,by decide+kernel,rfl⟩
   apply Y
   have e3:=s_H3.trans w4
   generalize upd H3 ld _=H4 at e3 ⊢
   have i_tn4:=e3 _ _ i_tn
   refine⟨tn,_,rfl,.inl ⟨_,Sum.inr n,i_tn4,rfl,by show 6 < sizeLine;decide,rfl⟩,?_⟩
   rw [xJ _ hn3]
   have sb:=jT (z:=tn) (H:=H4) (o:=.dK (kv6 t1 t2 t3 t4 t5 t6++[(Sum.inr n,.ref k4)]))
   have i_rn5:=sb _ _ nrt (e3 _ _ i_rn)
   have hT5:=(hT2.same e3).sbD sb i_tn4
   have e5:Same H (upd H4 tn (.dK (kv6 t1 t2 t3 t4 t5 t6++[(Sum.inr n,.ref k4)]))):=jD (e2.trans e3) sb h0tn
   have i_tn5:=qB (H:=H4) (a:=tn) (o:=.dK (kv6 t1 t2 t3 t4 t5 t6++[(Sum.inr n,.ref k4)]))
   generalize upd H4 tn _=H5 at i_rn5 hT5 e5 i_tn5 ⊢
   refine⟨_,rfl,rfl,_,rfl,qd ⟨_,rfl,rfl,_,rfl,qd ⟨_,rfl,rfl,_,rfl,qd ⟨_,rfl,rfl,_,rfl,qd ⟨_,rfl,_,_,rfl,rfl,_,rfl,qd ?_⟩⟩⟩⟩⟩
   refine⟨_,rfl,_,rfl,sL2,fun r hr=>kk r _ (e5.trans (qC hr _)) ?_⟩
   have w6:=qC hr (.tup [.ref rn,.ref tn])
   exact qD8 (i:=6) O qB (w6 _ _ i_rn5) (w6 _ _ i_tn5) (hT5.same w6) qMs (fun j hj=>by rw [List.getElem?_append_left (by show j < 6;omega)]) rfl fun H' _ _=>⟨n,_,rfl,hn1,.inl ⟨hn2,rfl⟩⟩
 · refine⟨_,rfl,rfl,_,rfl,qd ⟨_,rfl,rfl,_,rfl,qd ⟨_,rfl,rfl,_,rfl,qd ?_⟩⟩⟩
   refine⟨_,rfl,rfl,_,rfl,qz ?_⟩
   refine⟨z3,fun ld hld=>?_⟩
   have w3:=qC hld (.lst [.int 0,.int 9,.int 12])
   have f4:=fm (c.fdiv 12) (show (0:Int) < 3 by decide)
   refine qM fun _ Y=>?_
   obtain⟨v,hv,hor⟩:=atN (xs:=[V.int 0,.int 9,.int 12]) (n:=3) rfl f4.1 f4.2
   apply Y
   refine⟨_,rfl,_,_,rfl,rfl,cdB (by decide) (by decide),_,_,rfl,rfl,nz,ld,_,_,v,rfl,rfl,SqL.of qB,hv,?_⟩
   refine qM fun _ Y=>?_
   obtain⟨n,rfl,hn⟩:∃ n:Nat,v= .int (n:Int)∧(n=0∨n=9∨n=12):=by
    simp only [List.mem_cons,List.not_mem_nil,or_false] at hor
    rcases hor with rfl | rfl | rfl
    · exact⟨0,rfl,.inl rfl⟩
    · exact⟨9,rfl,.inr (.inl rfl)⟩
    · exact⟨12,rfl,.inr (.inr rfl)⟩
   apply Y
   generalize upd H2 ld _=H3 at w3 ⊢
   refine⟨_,rfl,by omega,by omega,qBi (lo:=0) (n:=((n:Int)).toNat) (fun i acc H'=>Same H3 H'∧acc.length=i) ⟨Same.refl _,rfl⟩ ?_ ?_ ?_⟩
   · rintro i acc H' hi ⟨_,hl⟩
     exact qS (by omega)
   · rintro i acc H' hi ⟨e,hl⟩
     exact⟨sL0,fun q hq=>Nxt.mk hi ⟨e.trans (qC hq _),by simp [hl]⟩⟩
   rintro acc H4 ⟨e4,hl⟩ zl hzl
   have w5:=qC hzl (.lst acc)
   refine⟨sL0,fun ti hti=>⟨sL2,fun tt htt=>?_⟩⟩
   have w6:=qC hti (.lst [])
   have w7:=qC htt (.tup [.ref zl,.ref ti])
   have i_tt:=qB (H:=upd (upd H4 zl (.lst acc)) ti (.lst [])) (a:=tt) (o:=.tup [.ref zl,.ref ti])
   have i_zl:=(w6.trans w7) _ _ (qB (H:=H4) (a:=zl) (o:=.lst acc))
   have e7:=((w3.trans e4).trans w5).trans (w6.trans w7)
   generalize upd (upd (upd H4 zl _) ti _) tt _=H7 at e7 i_tt i_zl ⊢
   have i_tnq:=e7 _ _ i_tn
   refine⟨_,rfl,tn,_,rfl,.inl ⟨_,Sum.inr "x",i_tnq,rfl,by show 6 < sizeLine;decide,rfl⟩,?_⟩
   rw [qL1]
   have sb:=jT (z:=tn) (H:=H7) (o:=.dK (kv6 t1 t2 t3 t4 t5 (.ref tt)))
   have i_rnx:=sb _ _ nrt (e7 _ _ i_rn)
   have hTx:=(hT2.same e7).sbD sb i_tnq
   have ex:Same H (upd H7 tn (.dK (kv6 t1 t2 t3 t4 t5 (.ref tt)))):=jD (e2.trans e7) sb h0tn
   have i_tnx:=qB (H:=H7) (a:=tn) (o:=.dK (kv6 t1 t2 t3 t4 t5 (.ref tt)))
   have i_tt:=kO sb i_tnq _ _ i_tt
   have i_zl:=sb _ _ (zG i_zl i_tnq (by intro q;cases q)) i_zl
   generalize upd H7 tn _=H8 at i_rnx hTx ex i_tnx i_tt i_zl ⊢
   refine⟨_,rfl,rfl,_,rfl,qd ⟨_,rfl,rfl,_,rfl,qd ⟨_,rfl,rfl,_,rfl,qd ⟨_,rfl,_,_,rfl,rfl,_,rfl,qd ?_⟩⟩⟩⟩
   refine⟨_,rfl,_,rfl,sL2,fun r hr=>kk r _ (ex.trans (qC hr _)) ?_⟩
   have w9:=qC hr (.tup [.ref rn,.ref tn])
   exact qFk O qB (w9 _ _ i_rnx) (w9 _ _ i_tnx) (hTx.same w9) fun H' f _=>.many (f.ts _ _ (w9 _ _ i_tt)) (f.lst (w9 _ _ i_zl)) (by rw [hl];omega)
 · refine⟨_,rfl,rfl,_,rfl,qd ⟨_,rfl,rfl,_,rfl,qd ⟨_,rfl,rfl,_,rfl,qd ⟨_,rfl,rfl,_,rfl,qd ?_⟩⟩⟩⟩
   refine⟨_,rfl,rfl,_,rfl,qz ?_⟩
   refine⟨sL0,fun k1 hk1=>⟨sL0,fun k2 hk2=>⟨sL0,fun k3 hk3=>⟨z3,fun k4 hk4=>?_⟩⟩⟩⟩
   have n1:=qC hk1 (.lst [])
   have n2:=qC hk2 (.lst [])
   have n3:=qC hk3 (.lst [])
   have n4:=qC hk4 (.lst [.ref k1,.ref k2,.ref k3])
   have q3:=n4
   have q2:=n3.trans q3
   have q1:=n2.trans q2
   have i_k1:=q1 _ _ qB
   have i_k2:=q2 _ _ qB
   have i_k3:=q3 _ _ qB
   have i_k4:=qB (H:=(upd (upd (upd H2 k1 (.lst [])) k2 (.lst [])) k3 (.lst []))) (a:=k4) (o:=.lst [.ref k1,.ref k2,.ref k3])
   have s_H3:=n1.trans q1
   have l_k4:H2 k4=none:=(((n1.trans n2).trans n3)).free hk4
   clear n1 n2 n3 n4 q1 q2 q3
   generalize (upd (upd (upd (upd H2 k1 _) k2 _) k3 _) k4 _)=H3 at i_k1 i_k2 i_k3 i_k4 s_H3 ⊢
   clear hk1 hk2 hk3 hk4
   refine⟨sL2,fun m1 hm1=>⟨sL2,fun m2 hm2=>⟨sL2,fun m3 hm3=>⟨_,rfl,z1,fun m4 hm4=>⟨z1,fun m5 hm5=>⟨z4,fun m6 hm6=>⟨z6,fun ml hml=>?_⟩⟩⟩⟩⟩⟩⟩
   have n1:=qC hm1 (.lst [.int 1,.int 0])
   have n2:=qC hm2 (.lst [.int 0,.int 3])
   have n3:=qC hm3 (.lst [.int 1,.int 1])
   have n4:=qC hm4 (.lst [.int (-1)])
   have n5:=qC hm5 (.lst [.bl true])
   have n6:=qC hm6 (.lst [.int 0,.int 1,.int 2,.int 3])
   have n7:=qC hml (.lst [.ref m1,.ref m2,.ref m3,.ref m4,.ref m5,.ref m6])
   have q6:=n7
   have q5:=n6.trans q6
   have q4:=n5.trans q5
   have q3:=n4.trans q4
   have q2:=n3.trans q3
   have q1:=n2.trans q2
   have i_m1:=q1 _ _ qB
   have i_m2:=q2 _ _ qB
   have i_m3:=q3 _ _ qB
   have i_m4:=q4 _ _ qB
   have i_m5:=q5 _ _ qB
   have i_m6:=q6 _ _ qB
   have i_ml:=qB (H:=(upd (upd (upd (upd (upd (upd H3 m1 (.lst [.int 1,.int 0])) m2 (.lst [.int 0,.int 3])) m3 (.lst [.int 1,.int 1])) m4 (.lst [.int (-1)])) m5 (.lst [.bl true])) m6 (.lst [.int 0,.int 1,.int 2,.int 3]))) (a:=ml) (o:=.lst [.ref m1,.ref m2,.ref m3,.ref m4,.ref m5,.ref m6])
   have s_H4:=n1.trans q1
   have l_ml:H3 ml=none:=((((((n1.trans n2).trans n3).trans n4).trans n5).trans n6)).free hml
   clear n1 n2 n3 n4 n5 n6 n7 q1 q2 q3 q4 q5 q6
   generalize (upd (upd (upd (upd (upd (upd (upd H3 m1 _) m2 _) m3 _) m4 _) m5 _) m6 _) ml _)=H4 at i_m1 i_m2 i_m3 i_m4 i_m5 i_m6 i_ml s_H4 ⊢
   clear hm1 hm2 hm3 hm4 hm5 hm6 hml
   have f4:=fm (c.fdiv 12) (show (0:Int) < 6 by decide)
   refine qM fun _ Y=>?_
   obtain⟨v,hv,hor⟩:=atN (xs:=[V.ref m1,.ref m2,.ref m3,.ref m4,.ref m5,.ref m6]) (n:=6) rfl f4.1 f4.2
   apply Y
   refine⟨_,rfl,_,_,rfl,rfl,cdB (by decide) (by decide),_,_,rfl,rfl,nz,ml,_,_,v,rfl,rfl,SqL.of i_ml,hv,?_⟩
   refine qM fun _ Y=>?_
   obtain⟨q,ws,os,rfl,hq,hw,ht⟩:∃ (q:Addr) (ws:List V) (os:List (Option Int)),v= .ref q∧H4 q=some (.lst ws)∧(∀ H',NusAt H' os ws)∧qC4 0 3 os=false:=by
    simp only [List.mem_cons,List.not_mem_nil,or_false] at hor
    rcases hor with rfl | rfl | rfl | rfl | rfl | rfl
    · exact⟨m1,_,[some 1,some 0],rfl,i_m1,fun _=>kB [1,0],by decide⟩
    · exact⟨m2,_,[some 0,some 3],rfl,i_m2,fun _=>kB [0,3],by decide⟩
    · exact⟨m3,_,[some 1,some 1],rfl,i_m3,fun _=>kB [1,1],by decide⟩
    · exact⟨m4,_,[some (-1)],rfl,i_m4,fun _=>kB [-1],by decide⟩
    · refine⟨m5,_,[none],rfl,i_m5,fun _=>⟨rfl,fun i u o h1 h2=>?_⟩,by decide⟩
      cases i with
      | zero=>cases h1;cases h2;exact .no (.bl true)
      | succ i=>simp at h1
    · exact⟨m6,_,[some 0,some 1,some 2,some 3],rfl,i_m6,fun _=>kB [0,1,2,3],by decide⟩
   apply Y
   refine⟨sL2,fun tt htt=>?_⟩
   have w5:=qC htt (.tup [.ref k4,.ref q])
   have i_tt:=qB (H:=H4) (a:=tt) (o:=.tup [.ref k4,.ref q])
   have e5:=(s_H3.trans s_H4).trans w5
   have e45:=s_H4.trans w5
   have i_q:=w5 _ _ hq
   have i_k1:=e45 _ _ i_k1
   have i_k2:=e45 _ _ i_k2
   have i_k3:=e45 _ _ i_k3
   have i_k4:=e45 _ _ i_k4
   generalize upd H4 tt _=H5 at e5 i_tt i_q i_k1 i_k2 i_k3 i_k4 ⊢
   have i_tnq:=e5 _ _ i_tn
   refine⟨_,rfl,tn,_,rfl,.inl ⟨_,Sum.inr "x",i_tnq,rfl,by show 6 < sizeLine;decide,rfl⟩,?_⟩
   rw [qL1]
   have sb:=jT (z:=tn) (H:=H5) (o:=.dK (kv6 t1 t2 t3 t4 t5 (.ref tt)))
   have i_rnx:=sb _ _ nrt (e5 _ _ i_rn)
   have hTx:=(hT2.same e5).sbD sb i_tnq
   have ex:Same H (upd H5 tn (.dK (kv6 t1 t2 t3 t4 t5 (.ref tt)))):=jD (e2.trans e5) sb h0tn
   have i_tnx:=qB (H:=H5) (a:=tn) (o:=.dK (kv6 t1 t2 t3 t4 t5 (.ref tt)))
   have sl:∀ {b:Addr} {xs:List V},H5 b=some (.lst xs)→upd H5 tn (.dK (kv6 t1 t2 t3 t4 t5 (.ref tt))) b=some (.lst xs):=fun h=>sb _ _ (zG h i_tnq (by intro q;cases q)) h
   have i_tt:=kO sb i_tnq _ _ i_tt
   have i_q:=sl i_q
   have i_k1:=sl i_k1
   have i_k2:=sl i_k2
   have i_k3:=sl i_k3
   have i_k4:=sl i_k4
   generalize upd H5 tn _=H6 at i_rnx hTx ex i_tnx i_tt i_q i_k1 i_k2 i_k3 i_k4 ⊢
   refine⟨_,rfl,rfl,_,rfl,qd ⟨_,rfl,rfl,_,rfl,qd ⟨_,rfl,_,_,rfl,rfl,_,rfl,qd ?_⟩⟩⟩
   refine⟨_,rfl,_,rfl,sL2,fun r hr=>kk r _ (ex.trans (qC hr _)) ?_⟩
   have w9:=qC hr (.tup [.ref rn,.ref tn])
   refine qFk O qB (w9 _ _ i_rnx) (w9 _ _ i_tnx) (hTx.same w9) fun H' f R=>?_
   refine qM9 R (ts:=[[],[],[]]) (f.ts _ _ (w9 _ _ i_tt)) (f.lst (w9 _ _ i_k4)) ⟨⟨k1,rfl,_,f.lst (w9 _ _ i_k1),trivial⟩,⟨k2,rfl,_,f.lst (w9 _ _ i_k2),trivial⟩,⟨k3,rfl,_,f.lst (w9 _ _ i_k3),trivial⟩,trivial⟩ (by show 1≤3;decide) (by show 3≤8;decide) (fun ms hm=>?_) (f.lst (w9 _ _ i_q)) (hw H') ht.symm
   simp only [List.mem_cons,List.not_mem_nil,or_false] at hm
   rcases hm with rfl | rfl | rfl <;> exact tk_nil
 · refine⟨_,rfl,rfl,_,rfl,qd ⟨_,rfl,rfl,_,rfl,qd ⟨_,rfl,rfl,_,rfl,qd ⟨_,rfl,rfl,_,rfl,qd ⟨_,rfl,rfl,_,rfl,qd ?_⟩⟩⟩⟩⟩
   refine⟨_,rfl,rfl,_,rfl,qz ?_⟩
   have f3:=fm (c.fdiv 12) (show (0:Int) < 3 by decide)
   refine qM fun _ Y=>?_
   obtain⟨v,hv,hor⟩:=atN (xs:=[V.str "top",.str "low",.str "deep"]) (n:=3) rfl f3.1 f3.2
   obtain⟨X,rfl,hX⟩:∃ X:Str,v= .str X∧(X="top"∨X="low"∨X="deep"):=by
    simp only [List.mem_cons,List.not_mem_nil,or_false] at hor
    rcases hor with rfl | rfl | rfl
    · exact⟨_,rfl,.inl rfl⟩
    · exact⟨_,rfl,.inr (.inl rfl)⟩
    · exact⟨_,rfl,.inr (.inr rfl)⟩
   apply Y
   have ec:=e2
   have i_rnc:=i_rn
   have i_tnc:=i_tn
   refine⟨z3,fun ld hld=>⟨_,rfl,_,_,rfl,rfl,cdB (by decide) (by decide),_,_,rfl,rfl,nz,ld,_,_,_,rfl,rfl,SqL.of qB,hv,z4,fun b1 hb1=>⟨z1,fun m1 hm1=>⟨z1,fun m2 hm2=>⟨sL0,fun m3 hm3=>⟨sL2,fun u3 hu3=>?_⟩⟩⟩⟩⟩⟩
   have n1:=qC hld (.lst [.str "top",.str "low",.str "deep"])
   have n2:=qC hb1 (.tup [.str "nest",.str X,.int 0,.int 3])
   have n3:=qC hm1 (.lst [.ref b1])
   have n4:=qC hm2 (.lst [.ref m1])
   have n5:=qC hm3 (.lst [])
   have n6:=qC hu3 (.tup [.ref m2,.ref m3])
   have q5:=n6
   have q4:=n5.trans q5
   have q3:=n4.trans q4
   have q2:=n3.trans q3
   have q1:=n2.trans q2
   have i_ld:=q1 _ _ qB
   have i_b1:=q2 _ _ qB
   have i_m1:=q3 _ _ qB
   have i_m2:=q4 _ _ qB
   have i_m3:=q5 _ _ qB
   have i_u3:=qB (H:=(upd (upd (upd (upd (upd H2 ld (.lst [.str "top",.str "low",.str "deep"])) b1 (.tup [.str "nest",.str X,.int 0,.int 3])) m1 (.lst [.ref b1])) m2 (.lst [.ref m1])) m3 (.lst []))) (a:=u3) (o:=.tup [.ref m2,.ref m3])
   have s_G0:=n1.trans q1
   have l_u3:H2 u3=none:=(((((n1.trans n2).trans n3).trans n4).trans n5)).free hu3
   clear n1 n2 n3 n4 n5 n6 q1 q2 q3 q4 q5
   generalize (upd (upd (upd (upd (upd (upd H2 ld _) b1 _) m1 _) m2 _) m3 _) u3 _)=G0 at i_ld i_b1 i_m1 i_m2 i_m3 i_u3 s_G0 ⊢
   clear hld hb1 hm1 hm2 hm3 hu3
   have T_u3:TabF G0 (.ref u3) [[.nest X 0 3]] []:=⟨u3,m2,m3,_,rfl,i_u3,i_m2,⟨⟨m1,rfl,_,i_m1,⟨b1,rfl,i_b1⟩,trivial⟩,trivial⟩,i_m3⟩
   have i_tnc:=s_G0 _ _ i_tnc
   refine⟨_,rfl,tn,_,rfl,.inl ⟨_,Sum.inr "deep",i_tnc,rfl,by show 6 < sizeLine;decide,rfl⟩,?_⟩
   rw [qKr]
   have sb:=jT (z:=tn) (H:=G0) (o:=.dK (kv6 t1 t2 (.ref u3) t4 t5 t6))
   have i_rnc:=sb _ _ nrt (s_G0 _ _ i_rnc)
   have hT2:=(hT2.same s_G0).sbD sb i_tnc
   have T_u3:=T_u3.sbD sb i_tnc
   have ec:Same H (upd G0 tn (.dK (kv6 t1 t2 (.ref u3) t4 t5 t6))):=jD (ec.trans s_G0) sb h0tn
   have i_tnc:=qB (H:=G0) (a:=tn) (o:=.dK (kv6 t1 t2 (.ref u3) t4 t5 t6))
   generalize upd G0 tn _=F0 at i_rnc hT2 ec i_tnc T_u3 ⊢
   refine⟨z4,fun b4 hb4=>⟨z1,fun m4 hm4=>⟨z1,fun m5 hm5=>⟨sL0,fun m6 hm6=>⟨sL2,fun u1 hu1=>?_⟩⟩⟩⟩⟩
   have n1:=qC hb4 (.tup [.str "nest",.str "low",.int 0,.int 2])
   have n2:=qC hm4 (.lst [.ref b4])
   have n3:=qC hm5 (.lst [.ref m4])
   have n4:=qC hm6 (.lst [])
   have n5:=qC hu1 (.tup [.ref m5,.ref m6])
   have q4:=n5
   have q3:=n4.trans q4
   have q2:=n3.trans q3
   have q1:=n2.trans q2
   have i_b4:=q1 _ _ qB
   have i_m4:=q2 _ _ qB
   have i_m5:=q3 _ _ qB
   have i_m6:=q4 _ _ qB
   have i_u1:=qB (H:=(upd (upd (upd (upd F0 b4 (.tup [.str "nest",.str "low",.int 0,.int 2])) m4 (.lst [.ref b4])) m5 (.lst [.ref m4])) m6 (.lst []))) (a:=u1) (o:=.tup [.ref m5,.ref m6])
   have s_G1:=n1.trans q1
   have l_u1:F0 u1=none:=((((n1.trans n2).trans n3).trans n4)).free hu1
   clear n1 n2 n3 n4 n5 q1 q2 q3 q4
   generalize (upd (upd (upd (upd (upd F0 b4 _) m4 _) m5 _) m6 _) u1 _)=G1 at i_b4 i_m4 i_m5 i_m6 i_u1 s_G1 ⊢
   clear hb4 hm4 hm5 hm6 hu1
   have T_u1:TabF G1 (.ref u1) [[.nest "low" 0 2]] []:=⟨u1,m5,m6,_,rfl,i_u1,i_m5,⟨⟨m4,rfl,_,i_m4,⟨b4,rfl,i_b4⟩,trivial⟩,trivial⟩,i_m6⟩
   have i_tnc:=s_G1 _ _ i_tnc
   refine⟨_,rfl,tn,_,rfl,.inl ⟨_,Sum.inr "top",i_tnc,rfl,by show 6 < sizeLine;decide,rfl⟩,?_⟩
   rw [qIt]
   have sb:=jT (z:=tn) (H:=G1) (o:=.dK (kv6 (.ref u1) t2 (.ref u3) t4 t5 t6))
   have i_rnc:=sb _ _ nrt (s_G1 _ _ i_rnc)
   have hT2:=(hT2.same s_G1).sbD sb i_tnc
   have T_u3:=(T_u3.same s_G1).sbD sb i_tnc
   have T_u1:=T_u1.sbD sb i_tnc
   have ec:Same H (upd G1 tn (.dK (kv6 (.ref u1) t2 (.ref u3) t4 t5 t6))):=jD (ec.trans s_G1) sb h0tn
   have i_tnc:=qB (H:=G1) (a:=tn) (o:=.dK (kv6 (.ref u1) t2 (.ref u3) t4 t5 t6))
   generalize upd G1 tn _=F1 at i_rnc hT2 ec i_tnc T_u3 T_u1 ⊢
   refine⟨sL0,fun m7 hm7=>⟨z4,fun b8 hb8=>⟨z1,fun m8 hm8=>⟨sL2,fun m9 hm9=>⟨sL0,fun m10 hm10=>⟨sL2,fun u2 hu2=>?_⟩⟩⟩⟩⟩⟩
   have n1:=qC hm7 (.lst [])
   have n2:=qC hb8 (.tup [.str "nest",.str "deep",.int 0,.int 2])
   have n3:=qC hm8 (.lst [.ref b8])
   have n4:=qC hm9 (.lst [.ref m7,.ref m8])
   have n5:=qC hm10 (.lst [])
   have n6:=qC hu2 (.tup [.ref m9,.ref m10])
   have q5:=n6
   have q4:=n5.trans q5
   have q3:=n4.trans q4
   have q2:=n3.trans q3
   have q1:=n2.trans q2
   have i_m7:=q1 _ _ qB
   have i_b8:=q2 _ _ qB
   have i_m8:=q3 _ _ qB
   have i_m9:=q4 _ _ qB
   have i_m10:=q5 _ _ qB
   have i_u2:=qB (H:=(upd (upd (upd (upd (upd F1 m7 (.lst [])) b8 (.tup [.str "nest",.str "deep",.int 0,.int 2])) m8 (.lst [.ref b8])) m9 (.lst [.ref m7,.ref m8])) m10 (.lst []))) (a:=u2) (o:=.tup [.ref m9,.ref m10])
   have s_G2:=n1.trans q1
   have l_u2:F1 u2=none:=(((((n1.trans n2).trans n3).trans n4).trans n5)).free hu2
   clear n1 n2 n3 n4 n5 n6 q1 q2 q3 q4 q5
   generalize (upd (upd (upd (upd (upd (upd F1 m7 _) b8 _) m8 _) m9 _) m10 _) u2 _)=G2 at i_m7 i_b8 i_m8 i_m9 i_m10 i_u2 s_G2 ⊢
   clear hm7 hb8 hm8 hm9 hm10 hu2
   have T_u2:TabF G2 (.ref u2) [[],[.nest "deep" 0 2]] []:=⟨u2,m9,m10,_,rfl,i_u2,i_m9,⟨⟨m7,rfl,_,i_m7,trivial⟩,⟨m8,rfl,_,i_m8,⟨b8,rfl,i_b8⟩,trivial⟩,trivial⟩,i_m10⟩
   have i_tnc:=s_G2 _ _ i_tnc
   refine⟨_,rfl,tn,_,rfl,.inl ⟨_,Sum.inr "low",i_tnc,rfl,by show 6 < sizeLine;decide,rfl⟩,?_⟩
   rw [qL7]
   have sb:=jT (z:=tn) (H:=G2) (o:=.dK (kv6 (.ref u1) (.ref u2) (.ref u3) t4 t5 t6))
   have i_rnc:=sb _ _ nrt (s_G2 _ _ i_rnc)
   have hT2:=(hT2.same s_G2).sbD sb i_tnc
   have T_u3:=(T_u3.same s_G2).sbD sb i_tnc
   have T_u1:=(T_u1.same s_G2).sbD sb i_tnc
   have T_u2:=T_u2.sbD sb i_tnc
   have ec:Same H (upd G2 tn (.dK (kv6 (.ref u1) (.ref u2) (.ref u3) t4 t5 t6))):=jD (ec.trans s_G2) sb h0tn
   have i_tnc:=qB (H:=G2) (a:=tn) (o:=.dK (kv6 (.ref u1) (.ref u2) (.ref u3) t4 t5 t6))
   generalize upd G2 tn _=F2 at i_rnc hT2 ec i_tnc T_u3 T_u1 T_u2 ⊢
   refine⟨_,rfl,rfl,_,rfl,qd ⟨_,rfl,_,_,rfl,rfl,_,rfl,qd ?_⟩⟩
   refine⟨_,rfl,_,rfl,sL2,fun r hr=>kk r _ (ec.trans (qC hr _)) ?_⟩
   have w9:=qC hr (.tup [.ref rn,.ref tn])
   refine qM fun _ Y=>?_
   obtain⟨_,_,_,e4,h4,e5,h5,e6,h6,_⟩:True∧True∧True∧True∧TabF F2 t4 [six] []∧True∧TabF F2 t5 [fiv 4] []∧True∧TabF F2 t6 [[],stl,[],[],[],stl,[],[]] [0,2,7]∧True:=by
    obtain⟨_,_,_,_,_,_,_,h4,_,h5,_,h6,_⟩:=hT2
    exact⟨trivial,trivial,trivial,trivial,h4,trivial,h5,trivial,h6,trivial⟩
   apply Y
   have g:=O.tb5 hX
   have hR:=qBq (K:=K) (rz:=r) (re:=rn) (td:=tn) (tb:=tb5 X) O.a0 O.a1 qB (.inl (w9 _ _ i_rnc)) (.inl (w9 _ _ i_tnc)) ⟨rfl,T_u1.same w9,rfl,T_u2.same w9,rfl,T_u3.same w9,rfl,h4.same w9,rfl,h5.same w9,rfl,h6.same w9,trivial⟩ g.1
   rw [g.2] at hR
   exact hR
 · refine⟨_,rfl,rfl,_,rfl,qd ⟨_,rfl,rfl,_,rfl,qd ⟨_,rfl,rfl,_,rfl,qd ⟨_,rfl,rfl,_,rfl,qd ⟨_,rfl,rfl,_,rfl,qd ⟨_,rfl,rfl,_,rfl,qd ?_⟩⟩⟩⟩⟩⟩
   refine⟨_,rfl,rfl,_,rfl,qz ?_⟩
   refine⟨7,rfl,.inr rfl,fun tc kvc H3 e3 h3 i3 hT3=>?_⟩
   refine⟨_,rfl,_,_,rfl,rfl,_,rfl,qd ?_⟩
   refine⟨_,rfl,_,rfl,sL2,fun r hr=>kk r _ ((e2.trans e3).trans (qC hr _)) ?_⟩
   have w9:=qC hr (.tup [.ref rn,.ref tc])
   have hR:=qBq (K:=K) (rz:=r) (re:=rn) (td:=tc) (tb:=chT 7) O.a0 O.a1 qB (.inl (w9 _ _ (e3 _ _ i_rn))) (.inl (w9 _ _ i3)) (hT3.same w9) (qH0 O.a0 O.a1 (.inr rfl))
   rw [ch_deep.2] at hR
   exact hR
 · have nw:∀ k:Int,k≤6→decide (V.int way=V.int k)=false:=fun k hk=>decide_eq_false fun q=>by injection q with q;omega
   refine⟨_,rfl,rfl,_,rfl,qCl (nw 0 (by decide)) ⟨_,rfl,rfl,_,rfl,qCl (nw 1 (by decide)) ⟨_,rfl,rfl,_,rfl,qCl (nw 2 (by decide)) ⟨_,rfl,rfl,_,rfl,qCl (nw 3 (by decide)) ⟨_,rfl,rfl,_,rfl,qCl (nw 4 (by decide)) ⟨_,rfl,rfl,_,rfl,qCl (nw 5 (by decide)) ⟨_,rfl,rfl,_,rfl,qCl (nw 6 (by decide)) ?_⟩⟩⟩⟩⟩⟩⟩
   refine⟨_,rfl,_,_,rfl,rfl,_,rfl,qNy (decide_eq_true h6) ?_⟩
   refine⟨_,rfl,_,_,rfl,rfl,cdB (by decide) (by decide),ixO i_rz at0 ⟨re,_,rfl,.inl ⟨_,Sum.inr "a",i_re,rfl,rfl⟩,c.fdiv 12,A',rfl,fun sm z w H3 e3 w1' w9' hB=>?_⟩⟩
   obtain⟨xs,hzx⟩:=hB.lst
   refine⟨sL0,fun k1 hk1=>⟨_,rfl,z,_,rfl,.inl (SqL.of ((qC hk1 _) _ _ hzx)),fun k2 hk2=>⟨sL2,fun k3 hk3=>⟨sL2,fun k4 hk4=>⟨sL2,fun k5 hk5=>?_⟩⟩⟩⟩⟩
   have n1:=qC hk1 (.lst [])
   have n2:=qC hk2 (.lst xs)
   have n3:=qC hk3 (.lst [.ref k1,.ref k2])
   have n4:=qC hk4 (.lst [.int 0,.int 1])
   have n5:=qC hk5 (.tup [.ref k3,.ref k4])
   have q4:=n5
   have q3:=n4.trans q4
   have q2:=n3.trans q3
   have q1:=n2.trans q2
   have i_k1:=q1 _ _ qB
   have i_k2:=q2 _ _ qB
   have i_k3:=q3 _ _ qB
   have i_k4:=q4 _ _ qB
   have i_k5:=qB (H:=(upd (upd (upd (upd H3 k1 (.lst [])) k2 (.lst xs)) k3 (.lst [.ref k1,.ref k2])) k4 (.lst [.int 0,.int 1]))) (a:=k5) (o:=.tup [.ref k3,.ref k4])
   have s_H4:=n1.trans q1
   have l_k5:H3 k5=none:=((((n1.trans n2).trans n3).trans n4)).free hk5
   clear n1 n2 n3 n4 n5 q1 q2 q3 q4
   generalize (upd (upd (upd (upd (upd H3 k1 _) k2 _) k3 _) k4 _) k5 _)=H4 at i_k1 i_k2 i_k3 i_k4 i_k5 s_H4 ⊢
   clear hk1 hk2 hk3 hk4 hk5
   have e4:=e3.trans s_H4
   have i_tnq:=e4 _ _ i_tn
   refine⟨_,rfl,tn,_,rfl,.inl ⟨_,Sum.inr "x",i_tnq,rfl,by show 6 < sizeLine;decide,rfl⟩,?_⟩
   rw [qL1]
   have sb:=jT (z:=tn) (H:=H4) (o:=.dK (kv6 t1 t2 t3 t4 t5 (.ref k5)))
   have i_rnx:=sb _ _ nrt (e4 _ _ i_rn)
   have hTx:=(hT2.same e4).sbD sb i_tnq
   have ex:Same H (upd H4 tn (.dK (kv6 t1 t2 t3 t4 t5 (.ref k5)))):=jD (e2.trans e4) sb h0tn
   have i_tnx:=qB (H:=H4) (a:=tn) (o:=.dK (kv6 t1 t2 t3 t4 t5 (.ref k5)))
   have sl:∀ {b:Addr} {xs:List V},H4 b=some (.lst xs)→upd H4 tn (.dK (kv6 t1 t2 t3 t4 t5 (.ref k5))) b=some (.lst xs):=fun h=>sb _ _ (zG h i_tnq (by intro q;cases q)) h
   have i_k5:=kO sb i_tnq _ _ i_k5
   have i_k1:=sl i_k1
   have i_k2:=sl i_k2
   have i_k3:=sl i_k3
   have i_k4:=sl i_k4
   have hzx4:=sl (s_H4 _ _ hzx)
   have fl4:FL H3 (upd H4 tn (.dK (kv6 t1 t2 t3 t4 t5 (.ref k5))))∨True:=.inr trivial
   have ts4:TS H3 (upd H4 tn (.dK (kv6 t1 t2 t3 t4 t5 (.ref k5)))):=(qi s_H4).trans (kO sb i_tnq)
   have sb4:SB tn H3 (upd H4 tn (.dK (kv6 t1 t2 t3 t4 t5 (.ref k5)))):=(jW s_H4).trans sb
   clear fl4
   generalize upd H4 tn _=H5 at i_rnx hTx ex i_tnx i_k1 i_k2 i_k3 i_k4 i_k5 hzx4 ts4 sb4 ⊢
   have f20:=fm (c.fdiv 12) (show (0:Int) < 20 by decide)
   have hB5:BdT sm A' w H5 k2 ((c.fdiv 12).fmod 20).toNat:=by
    unfold BdT at hB ⊢
    split at hB
    · rename_i hk
      rw [if_pos hk]
      obtain⟨q,x,y,q1,q2,q3,q4⟩:=hB
      rw [hzx] at q1
      cases q1
      exact⟨q,x,y,i_k2,ts4 _ _ q2,ts4 _ _ q3,ts4 _ _ q4⟩
    · rename_i hk
      rw [if_neg hk]
      split at hB
      · rename_i hk
        rw [if_pos hk]
        obtain⟨q,ys,q1,q2,q3⟩:=hB
        rw [hzx] at q1
        cases q1
        exact⟨q,ys,i_k2,q2,sb4 _ _ (zG q3 (e3 _ _ i_tn) (by intro q;cases q)) q3⟩
      · rename_i hk
        rw [if_neg hk]
        obtain⟨vs,q1,q2⟩:=hB
        rw [hzx] at q1
        cases q1
        exact⟨_,i_k2,q2.ts ts4⟩
   refine⟨_,rfl,_,_,rfl,rfl,cdB (by decide) (by decide),_,_,rfl,rfl,nz,rfl,_,rfl,kD (fun c8=>?_) (fun c8=>?_)⟩
   · have h8:(c.fdiv 12).fmod 20=8:=by simpa using c8
     rw [h8] at hB5
     have tr8:Tr H5 k2 [.nest "top" 0 1]:=by
      unfold BdT at hB5
      rw [if_neg (by decide),if_neg (by decide)] at hB5
      exact hB5
     have i_z:=hzx4
     refine⟨_,rfl,z,_,rfl,.inl (SqL.of i_z),fun j1 hj1=>⟨sL1,fun j2 hj2=>⟨sL0,fun j3 hj3=>⟨sL2,fun j4 hj4=>?_⟩⟩⟩⟩
     have n1:=qC hj1 (.lst xs)
     have n2:=qC hj2 (.lst [.ref j1])
     have n3:=qC hj3 (.lst [])
     have n4:=qC hj4 (.tup [.ref j2,.ref j3])
     have q3:=n4
     have q2:=n3.trans q3
     have q1:=n2.trans q2
     have i_j1:=q1 _ _ qB
     have i_j2:=q2 _ _ qB
     have i_j3:=q3 _ _ qB
     have i_j4:=qB (H:=(upd (upd (upd H5 j1 (.lst xs)) j2 (.lst [.ref j1])) j3 (.lst []))) (a:=j4) (o:=.tup [.ref j2,.ref j3])
     have s_H6:=n1.trans q1
     have l_j4:H5 j4=none:=(((n1.trans n2).trans n3)).free hj4
     clear n1 n2 n3 n4 q1 q2 q3
     generalize (upd (upd (upd (upd H5 j1 _) j2 _) j3 _) j4 _)=H6 at i_j1 i_j2 i_j3 i_j4 s_H6 ⊢
     clear hj1 hj2 hj3 hj4
     have i_tn6:=s_H6 _ _ i_tnx
     have tj:Tr H6 j1 [.nest "top" 0 1]:=by
      obtain⟨vs,q1,q2⟩:=tr8
      rw [i_k2] at q1
      cases q1
      exact⟨_,i_j1,q2.ts (qi s_H6)⟩
     have T1:TabF H6 (.ref j4) [[.nest "top" 0 1]] []:=⟨j4,j2,j3,_,rfl,i_j4,i_j2,⟨⟨j1,rfl,tj⟩,trivial⟩,i_j3⟩
     have Tx:TabF H6 (.ref k5) [[],[.nest "top" 0 1]] [0,1]:=⟨k5,k3,k4,_,rfl,s_H6 _ _ i_k5,s_H6 _ _ i_k3,⟨⟨k1,rfl,_,s_H6 _ _ i_k1,trivial⟩,⟨k2,rfl,tr8.same s_H6⟩,trivial⟩,s_H6 _ _ i_k4⟩
     refine⟨_,rfl,tn,_,rfl,.inl ⟨_,Sum.inr "top",i_tn6,rfl,by show 6 < sizeLine;decide,rfl⟩,?_⟩
     rw [qIt]
     have sb6:=jT (z:=tn) (H:=H6) (o:=.dK (kv6 (.ref j4) t2 t3 t4 t5 (.ref k5)))
     have i_rn7:=sb6 _ _ nrt (s_H6 _ _ i_rnx)
     have T1:=T1.sbD sb6 i_tn6
     have Tx:=Tx.sbD sb6 i_tn6
     have hT7:=(hTx.same s_H6).sbD sb6 i_tn6
     have e7:Same H (upd H6 tn (.dK (kv6 (.ref j4) t2 t3 t4 t5 (.ref k5)))):=jD (ex.trans s_H6) sb6 h0tn
     have i_tn7:=qB (H:=H6) (a:=tn) (o:=.dK (kv6 (.ref j4) t2 t3 t4 t5 (.ref k5)))
     generalize upd H6 tn _=H7 at i_rn7 T1 Tx hT7 e7 i_tn7 ⊢
     refine⟨_,rfl,_,rfl,sL2,fun r hr=>kk r _ (e7.trans (qC hr _)) ?_⟩
     have w9:=qC hr (.tup [.ref rn,.ref tn])
     refine qM fun _ Y=>?_
     obtain⟨_,_,_,h2,_,h3,_,h4,_,h5,_⟩:=hT7
     apply Y
     have g:=O.tb8
     have hR:=qBq (K:=K) (rz:=r) (re:=rn) (td:=tn) (tb:=tb8 l1 l2 c1 c2) O.a0 O.a1 qB (.inl (w9 _ _ i_rn7)) (.inl (w9 _ _ i_tn7)) ⟨rfl,T1.same w9,rfl,h2.same w9,rfl,h3.same w9,rfl,h4.same w9,rfl,h5.same w9,rfl,Tx.same w9,trivial⟩ g.1
     rw [g.2] at hR
     exact hR
   · have h8:(c.fdiv 12).fmod 20≠8:=by simpa using c8
     refine⟨_,rfl,_,rfl,sL2,fun r hr=>kk r _ (ex.trans (qC hr _)) ?_⟩
     have w9:=qC hr (.tup [.ref rn,.ref tn])
     refine qFk O qB (w9 _ _ i_rnx) (w9 _ _ i_tnx) (hTx.same w9) fun H' f R=>?_
     have ff:=(jn w9).trans f
     refine .bad (i:=1) (ff.ts _ _ i_k5) (ff.lst i_k3) (by show 1≤2;decide) (by show 2≤8;decide) (fun j u hj hu=>?_) rfl ?_
     · obtain rfl:j=0:=by omega
       cases hu
       exact tk_nil.tk R ⟨_,ff.lst i_k1,trivial⟩
     · exact qNd ⟨O.a0,O.a1,R,tn_all.2.1,rfl,ff.rd (.inl i_rnx),rfl⟩ w1' w9' (k:=((c.fdiv 12).fmod 20).toNat) (by omega) (by omega) (hB5.copy ff i_k2 (ff.lst i_k2))
theorem FL.seq {H H':Hp}{z:Addr}{xs:List V}(e:FL H H')(h:SqL K H z xs):SqL K H' z xs:=by
 rcases h with (h | ⟨o,h⟩) | h
 · exact .inl (.inl (e.lst h))
 · rcases e _ _ h with q | ⟨_,_,q,_⟩
   · exact .inl (.inr ⟨o,q⟩)
   · cases q
 · exact .inr h
theorem qPr {P:Program}{w:World}{K:W.Frag}{mg:Str→Option Value}{base:Heap}{k:Nat}{f:Addr}{fd:FuncData}{ps:List Str}{sp:Sp}(F:FnOk P w K mg base (CXR P w) k f fd ps sp):FnOk P w K mg base CX0 k f fd ps (fun vs H Q _=>sp vs H Q fun _ _ _=>False):=by
 refine⟨fun vs H Q E h=>F.len _ _ _ _ h,fun A outer s H args us vs Q E hr he hb hv hs=>codeAny_mono (F.run A outer s H args us vs Q (fun _ _ _=>False) hr he hb hv hs) fun r s' hq=>?_⟩
 cases r with
 | error e=>
  refine qM fun _ Y=>?_
  obtain⟨_,_,_,_,_,_,_,_,_,q⟩:=hq
  apply Y
  exact q.elim
 | ok fl=>cases fl <;> exact hq
inductive qB5 (K:W.Frag)(vs:List V)(H:Hp)(Q:VK)(_:XK):Prop
| mk (rz:Addr) (_:vs=[.ref rz]) (_:RoomV K H rz true) (_:∀ H',FL H H'→Q .non H')
theorem xF (T:Tx K mg a):FnOk P w K mg base CX0 11 a.A47 a.B47 ["room"] (qB5 K):=
 (qPr (kU T)).imp fun vs H Q E h=>by
   refine qM fun _ Y=>?_
   obtain⟨rz,rfl,⟨re,td,ar,kvs,b1,b2,h1,h2,h3,h4,h5,h6⟩,kk⟩:=h
   apply Y
   exact⟨rz,re,td,ar,kvs,b1,b2,rfl,h1,h2,h3,h4,h5,fun _=>kk,fun q=>by rw [← h6] at q;cases q⟩
inductive qAc (K:W.Frag)(vs:List V)(H:Hp)(Q:VK)(_:XK):Prop
| mk (rz:Addr) (_:vs=[.ref rz]) (_:RoomV K H rz false) (_:∀ H',FL H H'→Q (.bl true) H')
theorem qAj (T:Tx K mg a):FnOk P w K mg base CX0 12 a.A58 a.B58 ["_law_room_here"] (qAc K):=by
 refine T.D58.F.ok zj (fun vs H Q E h=>?_) (fun cdv A outer s H vs Q E hr h=>?_)
 · obtain⟨rz,rfl,_⟩:=h
   rfl
 refine qM fun _ Y=>?_
 obtain⟨rz,rfl,⟨re,td,ar,kvs,b1,b2,h1,h2,h3,h4,h5,h6⟩,kk⟩:=h
 apply Y
 refine⟨_,(qF (qN1 (fun C od H'=>C= .ref a.k_NoRoom∧od=none∧FL H H') (.some (i:=1) rfl rfl) zj.nd rfl T.c_NoRoom (fun _=>(qG (qf (kn T.D47 (kU T) hr rfl (qA (pv 0) qD))))) (fun _ _=>(qG (qU (xU (qV (vH (K:=K) rfl) rfl T.b_isinstance rfl (qA (pv 1) (qA (ju (v:=.ref a.k_CutError) rfl T.c_CutError rfl) qD))) (zQ (qIf (qV (vH (K:=K) rfl) rfl T.b_isinstance rfl (qA (pv 1) (qA (ju (v:=.ref a.k_NoClip) rfl T.c_NoClip rfl) qD))))))))))
  (qG (qU xq))),?_⟩
 try dsimp only [jc,qk]
 refine⟨⟨_,rfl,rz,re,td,ar,kvs,b1,b2,rfl,h1,h2,h3,h4,h5,fun q=>(by rw [← h6] at q;cases q),fun _ H' f=>⟨rfl,rfl,f⟩⟩,?_⟩
 rintro ea ⟨B1,B2⟩ σ' H' ⟨hB,hB2,f⟩ hea hlen
 have hB':B1= .ref a.k_NoRoom:=hB
 have hB2':B2=none:=hB2
 subst hB' hB2'
 have w1:=qC hea (qFt ea (.ref a.k_NoRoom,none))
 refine⟨T.yRR,?_⟩
 match σ',hlen with
 | [x,y],_=>
  refine⟨_,rfl,ea,_,_,_,true,rfl,qB,.inl rfl,T.e_NoRoom,.inr ⟨_,rfl,T.rE⟩,true,rfl,qz ?_⟩
  exact⟨_,rfl,ea,_,_,_,false,rfl,qB,.inl rfl,T.e_NoRoom,.inr ⟨_,rfl,T.rC⟩,false,rfl,kk _ (f.trans (jn w1))⟩
theorem z8:(8:Nat)≤sizeLine:=by decide
theorem qNk (T:Tx K mg a):FnOk P w K mg base CX0 16 a.A60 a.B60 ["_law_script"] (qKc K):=by
 refine T.D60.F.ok qBm (fun vs H Q E h=>?_) (fun cdv A outer s H vs Q E hr h=>?_)
 · obtain⟨a,ns,rfl,_⟩:=h
   rfl
 refine qM fun _ Y=>?_
 obtain⟨z,ns,rfl,hS,hlen,k⟩:=h
 apply Y
 have hu:=hr.units
 have hu1:=qBg hr
 refine⟨_,(qF (qg 1 qBm.nd (qL T.D54 (qEq T) hr rfl (qA (qL T.D48 (jh T) hr rfl (qA (pv 0) (qA qE qD))) (qA (qN jE qE (qN qm (qL T.D48 (jh T) hr rfl (qA (pv 0) (qA qE qD))) qE)) (qA qE qD)))))
  (qF (jX hu1 (qX (pv 1)) qI (qK (qA (qO (qA (qO (qA (qK (qA qI (qA qI (qA (qK (qA qE (qA qE qD))) (qA (qK (qA qE (qA qE qD))) (qA qE qD)))))) (qA (qK (qA qI (qA qE qD))) (qA (qK (qA qI (qA qI (qA (qK (qA qE (qA qE qD))) (qA (qK (qA (wP zO qE) (qA qE qD))) (qA qE qD)))))) qD)))) qD)) (qA (qO qD) qD))) rfl)
  (qF (qg 2 qBm.nd (qK (qA qI (qA qI (qA (qK (qA qE (qA qE qD))) (qA (qK (qA qE (qA qE qD))) (qA qE qD)))))))
  (qF (qg 3 qBm.nd (qO (qA (qK (qA qI (qA (qN qC5 qE qE) qD))) (qA (qK (qA qI (qA qI (qA (qK (qA qE (qA qE qD))) (qA (qK (qA qE (qA qE qD))) (qA (qN qC5 qE qE) qD)))))) qD))))
  (qF (jX hu1 (qX (pv 1)) qI (qK (qA (qO (qA (qO (qA (pv 2) (qA (qK (qA qI (qA qE qD))) (qA (qK (qA qI (qA qI (qA (qK (qA qE (qA qE qD))) (qA (qK (qA qE (qA qE qD))) (qA qE qD)))))) (qA (qK (qA qI (qA qE qD))) (qA (pv 2) qD)))))) qD)) (qA (qO qD) qD))) rfl)
  (qF (jX hu1 (qX (pv 1)) qI (qK (qA (qO (qA (qO qD) (qA (jN jb rfl T.b_list rfl (qA (pv 3) qD)) (qA (qO qD) (qA (qO qD) (qA (qO qD) (qA (jN jb rfl T.b_list rfl (qA (pv 3) qD)) (qA (qO qD) (qA (qO qD) qD))))))))) (qA (qO (qA qE (qA qE (qA qE qD)))) qD))) rfl)
  (qF (qg 4 qBm.nd (qL T.D59 (qA5 T) hr rfl (qA (pv 1) qD)))
  (qF (qh (PW.pt (jw (qAs (qIq (qL T.D47 (xF T) hr rfl (qA (pv 1) qD)))) (jw (qAs (qIq (qL T.D47 (xF T) hr rfl (qA (qK (qA (jN kK rfl T.b_dict rfl (qA (qX (pv 1)) qD)) (qA (qL T.D55 (vO T) hr rfl (qA qE qD)) qD))) qD)))) (jU (qQ (qI2 hu) (pv 1) (pv 4) (qW _)))))) (qG (qU xq)) qR)
  (qF (qh (qQ xA (qN qm (qL T.D48 (jh T) hr rfl (qA (pv 0) (qA qE qD))) qE) qE (qW _)) (qG (qU (qH8 (qEb (qL T.D47 (xF T) hr rfl (qA (qK (qA (jN kK rfl T.b_dict rfl (qA (qX (pv 1)) qD)) (qA qCu qD))) qD)))))) qR)
  (qF (qg 5 qBm.nd (qL T.D57 (qAl T) hr rfl (qA (pv 4) (qA (qN qY (qL T.D48 (jh T) hr rfl (qA (pv 0) (qA qE qD))) qE) qD))))
  (qG (qU (xU (qL T.D58 (qAj T) hr rfl (qA (pv 5) qD)) (zQ (qH8 (qEb (qL T.D47 (xF T) hr rfl (qA (pv 1) qD)))))))))))))))))),?_⟩
 try dsimp only [jc,qk]
 refine⟨_,rfl,z,ns,0,rfl,hS,hlen,by decide,fun c0=>?_⟩
 refine⟨_,rfl,z,ns,1,rfl,hS,hlen,by decide,fun c1=>?_⟩
 have f1:=fm c1 (show (0:Int) < 3 by decide)
 refine⟨_,_,rfl,rfl,nz,_,_,rfl,rfl,?_⟩
 refine⟨c0,1+c1.fmod 3,rfl,by omega,by omega,fun rz re td t1 t2 t3 A' tops l1 l2 cc1 cc2 H1 e1 hrz hre a0 a1 htd nrt re0 td0 hT hL hD htl htp tp1 tp2 cf1 cf2=>?_⟩
 have O:TOk A' tops l1 l2 cc1 cc2:=⟨a0,a1,by omega,by omega,htp,tp1,tp2,cf1,cf2⟩
 have hS1:=e1.seq hS
 have hTb:TbsAt H1 [("top",tops,[]),("low",[l1.map ren,l2.map ren],[]),("deep",[[cc1,.gap 3,cc2]],[])] [(Sum.inr "top",t1),(Sum.inr "low",t2),(Sum.inr "deep",t3)]:=⟨rfl,hT,rfl,hL,rfl,hD,trivial⟩
 clear hT hL hD htl f1
 have hre:H1 re=some (.dK (arE A')):=hre
 refine⟨sL2,fun x1 hx1=>⟨sL2,fun y1 hy1=>⟨sL5,fun c1 hc1=>⟨sL2,fun g1 hg1=>⟨sL2,fun x2 hx2=>⟨_,rfl,sL2,fun y2 hy2=>⟨sL5,fun c2 hc2=>⟨z3,fun m1 hm1=>⟨z1,fun m2 hm2=>⟨sL0,fun m3 hm3=>⟨sL2,fun u4 hu4=>?_⟩⟩⟩⟩⟩⟩⟩⟩⟩⟩⟩
 have n1:=qC hx1 (.tup [.int 7,.int 2])
 have n2:=qC hy1 (.tup [.int 1,.int 2])
 have n3:=qC hc1 (.tup [.str "clip",.str "a",.ref x1,.ref y1,.int 4])
 have n4:=qC hg1 (.tup [.str "mix",.int 1])
 have n5:=qC hx2 (.tup [.int 9,.int 1])
 have n6:=qC hy2 (.tup [.int (-1),.int 3])
 have n7:=qC hc2 (.tup [.str "clip",.str "a",.ref x2,.ref y2,.int 2])
 have n8:=qC hm1 (.lst [.ref c1,.ref g1,.ref c2])
 have n9:=qC hm2 (.lst [.ref m1])
 have n10:=qC hm3 (.lst [])
 have n11:=qC hu4 (.tup [.ref m2,.ref m3])
 have q10:=n11
 have q9:=n10.trans q10
 have q8:=n9.trans q9
 have q7:=n8.trans q8
 have q6:=n7.trans q7
 have q5:=n6.trans q6
 have q4:=n5.trans q5
 have q3:=n4.trans q4
 have q2:=n3.trans q3
 have q1:=n2.trans q2
 have i_x1:=q1 _ _ qB
 have i_y1:=q2 _ _ qB
 have i_c1:=q3 _ _ qB
 have i_g1:=q4 _ _ qB
 have i_x2:=q5 _ _ qB
 have i_y2:=q6 _ _ qB
 have i_c2:=q7 _ _ qB
 have i_m1:=q8 _ _ qB
 have i_m2:=q9 _ _ qB
 have i_m3:=q10 _ _ qB
 have i_u4:=qB (H:=(upd (upd (upd (upd (upd (upd (upd (upd (upd (upd H1 x1 (.tup [.int 7,.int 2])) y1 (.tup [.int 1,.int 2])) c1 (.tup [.str "clip",.str "a",.ref x1,.ref y1,.int 4])) g1 (.tup [.str "mix",.int 1])) x2 (.tup [.int 9,.int 1])) y2 (.tup [.int (-1),.int 3])) c2 (.tup [.str "clip",.str "a",.ref x2,.ref y2,.int 2])) m1 (.lst [.ref c1,.ref g1,.ref c2])) m2 (.lst [.ref m1])) m3 (.lst []))) (a:=u4) (o:=.tup [.ref m2,.ref m3])
 have s_H2:=n1.trans q1
 have l_u4:H1 u4=none:=((((((((((n1.trans n2).trans n3).trans n4).trans n5).trans n6).trans n7).trans n8).trans n9).trans n10)).free hu4
 clear n1 n2 n3 n4 n5 n6 n7 n8 n9 n10 n11 q1 q2 q3 q4 q5 q6 q7 q8 q9 q10
 generalize (upd (upd (upd (upd (upd (upd (upd (upd (upd (upd (upd H1 x1 _) y1 _) c1 _) g1 _) x2 _) y2 _) c2 _) m1 _) m2 _) m3 _) u4 _)=H2 at i_x1 i_y1 i_c1 i_g1 i_x2 i_y2 i_c2 i_m1 i_m2 i_m3 i_u4 s_H2 ⊢
 clear hx1 hy1 hc1 hg1 hx2 hy2 hc2 hm1 hm2 hm3 hu4
 have e1:=e1.trans s_H2
 have hrz:=s_H2 _ _ hrz
 have hre:=s_H2 _ _ hre
 have htd:=s_H2 _ _ htd
 have hTb:=hTb.same s_H2
 have hS1:=s_H2.seq hS1
 have T4:TabF H2 (.ref u4) [six] []:=⟨u4,m2,m3,_,rfl,i_u4,i_m2,⟨⟨m1,rfl,_,i_m1,⟨c1,x1,y1,rfl,i_c1,i_x1,i_y1⟩,⟨g1,rfl,i_g1⟩,⟨c2,x2,y2,rfl,i_c2,i_x2,i_y2⟩,trivial⟩,trivial⟩,i_m3⟩
 have hno:xv ([(Sum.inr ("top":Str),t1),(Sum.inr ("low":Str),t2),(Sum.inr ("deep":Str),t3)]:List (Key × V)) (Sum.inr "six")=none:=rfl
 refine(ixO hrz at1 ⟨td,_,rfl,.inl ⟨_,Sum.inr "six",htd,rfl,by show 3 < sizeLine;decide,rfl⟩,?_⟩)
 rw [xJ _ hno]
 have sb:=jT (z:=td) (H:=H2) (o:=.dK (([(Sum.inr ("top":Str),t1),(Sum.inr ("low":Str),t2),(Sum.inr ("deep":Str),t3)]:List (Key × V))++[(Sum.inr ("six":Str),.ref u4)]))
 have ts:=kO sb htd
 have hTb:=(hTb.app (nm:="six") T4).sbD sb htd
 have hre:=sb _ _ nrt hre
 have hrz:=ts _ _ hrz
 have e1:Same H (upd H2 td (.dK (([(Sum.inr ("top":Str),t1),(Sum.inr ("low":Str),t2),(Sum.inr ("deep":Str),t3)]:List (Key × V))++[(Sum.inr ("six":Str),.ref u4)]))):=jD e1 sb td0
 have hS1:=e1.seq hS
 have htd:=qB (H:=H2) (a:=td) (o:=.dK (([(Sum.inr ("top":Str),t1),(Sum.inr ("low":Str),t2),(Sum.inr ("deep":Str),t3)]:List (Key × V))++[(Sum.inr ("six":Str),.ref u4)]))
 generalize upd H2 td _=H3 at hTb hre hrz e1 hS1 htd ⊢
 have htd:H3 td=some (.dK [(Sum.inr "top",t1),(Sum.inr "low",t2),(Sum.inr "deep",t3),(Sum.inr "six",.ref u4)]):=htd
 refine⟨sL2,fun x5 hx5=>⟨sL2,fun y5 hy5=>⟨sL5,fun c5 hc5=>?_⟩⟩⟩
 have n1:=qC hx5 (.tup [.int 20,.int 1])
 have n2:=qC hy5 (.tup [.int 1,.int 1])
 have n3:=qC hc5 (.tup [.str "clip",.str "a",.ref x5,.ref y5,.int 9])
 have q2:=n3
 have q1:=n2.trans q2
 have i_x5:=q1 _ _ qB
 have i_y5:=q2 _ _ qB
 have i_c5:=qB (H:=(upd (upd H3 x5 (.tup [.int 20,.int 1])) y5 (.tup [.int 1,.int 1]))) (a:=c5) (o:=.tup [.str "clip",.str "a",.ref x5,.ref y5,.int 9])
 have s_H4:=n1.trans q1
 have l_c5:H3 c5=none:=((n1.trans n2)).free hc5
 clear n1 n2 n3 q1 q2
 generalize (upd (upd (upd H3 x5 _) y5 _) c5 _)=H4 at i_x5 i_y5 i_c5 s_H4 ⊢
 clear hx5 hy5 hc5
 have e1:=e1.trans s_H4
 have hrz:=s_H4 _ _ hrz
 have hre:=s_H4 _ _ hre
 have htd:=s_H4 _ _ htd
 have hTb:=hTb.same s_H4
 have hS1:=s_H4.seq hS1
 refine⟨_,_,rfl,rfl,cpw (n:=20) (by decide),sL2,fun g6 hg6=>⟨sL2,fun x6 hx6=>⟨sL2,fun y6 hy6=>⟨_,_,rfl,rfl,cpw (n:=30) (by decide),sL5,fun c6 hc6=>⟨sL2,fun st hst=>?_⟩⟩⟩⟩⟩
 have n1:=qC hg6 (.tup [.str "gap",.int (10 ^ (20:Int).toNat)])
 have n2:=qC hx6 (.tup [.int 0,.int 1])
 have n3:=qC hy6 (.tup [.int 0,.int 1])
 have n4:=qC hc6 (.tup [.str "clip",.str "a",.ref x6,.ref y6,.int (10 ^ (30:Int).toNat)])
 have n5:=qC hst (.lst [.ref g6,.ref c6])
 have q4:=n5
 have q3:=n4.trans q4
 have q2:=n3.trans q3
 have q1:=n2.trans q2
 have i_g6:=q1 _ _ qB
 have i_x6:=q2 _ _ qB
 have i_y6:=q3 _ _ qB
 have i_c6:=q4 _ _ qB
 have i_st:=qB (H:=(upd (upd (upd (upd H4 g6 (.tup [.str "gap",.int (10 ^ (20:Int).toNat)])) x6 (.tup [.int 0,.int 1])) y6 (.tup [.int 0,.int 1])) c6 (.tup [.str "clip",.str "a",.ref x6,.ref y6,.int (10 ^ (30:Int).toNat)]))) (a:=st) (o:=.lst [.ref g6,.ref c6])
 have s_H5:=n1.trans q1
 have l_st:H4 st=none:=((((n1.trans n2).trans n3).trans n4)).free hst
 clear n1 n2 n3 n4 n5 q1 q2 q3 q4
 generalize (upd (upd (upd (upd (upd H4 g6 _) x6 _) y6 _) c6 _) st _)=H5 at i_g6 i_x6 i_y6 i_c6 i_st s_H5 ⊢
 clear hg6 hx6 hy6 hc6 hst
 have e1:=e1.trans s_H5
 have hrz:=s_H5 _ _ hrz
 have hre:=s_H5 _ _ hre
 have htd:=s_H5 _ _ htd
 have hTb:=hTb.same s_H5
 have hS1:=s_H5.seq hS1
 have i_c5:=s_H5 _ _ i_c5
 have i_x5:=s_H5 _ _ i_x5
 have i_y5:=s_H5 _ _ i_y5
 have e20:(10:Int) ^ (20:Int).toNat=10 ^ 20:=by decide
 have e30:(10:Int) ^ (30:Int).toNat=10 ^ 30:=by decide
 rw [e20] at i_g6
 rw [e30] at i_c6
 refine⟨_,rfl,sL2,fun g7 hg7=>⟨sL2,fun x7 hx7=>⟨sL2,fun y7 hy7=>⟨sL5,fun c7 hc7=>⟨sL2,fun g8 hg8=>⟨_,rfl,sL5,fun m4 hm4=>⟨z1,fun m5 hm5=>⟨sL0,fun m6 hm6=>⟨sL2,fun u5 hu5=>?_⟩⟩⟩⟩⟩⟩⟩⟩⟩
 have n1:=qC hg7 (.tup [.str "mix",.int 4])
 have n2:=qC hx7 (.tup [.int 20,.int 1])
 have n3:=qC hy7 (.tup [.int 1,.int 1])
 have n4:=qC hc7 (.tup [.str "clip",.str "a",.ref x7,.ref y7,.int 4])
 have n5:=qC hg8 (.tup [.str "mix",.int 4])
 have n6:=qC hm4 (.lst [.ref c5,.ref g7,.ref c7,.ref g8,.ref c5])
 have n7:=qC hm5 (.lst [.ref m4])
 have n8:=qC hm6 (.lst [])
 have n9:=qC hu5 (.tup [.ref m5,.ref m6])
 have q8:=n9
 have q7:=n8.trans q8
 have q6:=n7.trans q7
 have q5:=n6.trans q6
 have q4:=n5.trans q5
 have q3:=n4.trans q4
 have q2:=n3.trans q3
 have q1:=n2.trans q2
 have i_g7:=q1 _ _ qB
 have i_x7:=q2 _ _ qB
 have i_y7:=q3 _ _ qB
 have i_c7:=q4 _ _ qB
 have i_g8:=q5 _ _ qB
 have i_m4:=q6 _ _ qB
 have i_m5:=q7 _ _ qB
 have i_m6:=q8 _ _ qB
 have i_u5:=qB (H:=(upd (upd (upd (upd (upd (upd (upd (upd H5 g7 (.tup [.str "mix",.int 4])) x7 (.tup [.int 20,.int 1])) y7 (.tup [.int 1,.int 1])) c7 (.tup [.str "clip",.str "a",.ref x7,.ref y7,.int 4])) g8 (.tup [.str "mix",.int 4])) m4 (.lst [.ref c5,.ref g7,.ref c7,.ref g8,.ref c5])) m5 (.lst [.ref m4])) m6 (.lst []))) (a:=u5) (o:=.tup [.ref m5,.ref m6])
 have s_H6:=n1.trans q1
 have l_u5:H5 u5=none:=((((((((n1.trans n2).trans n3).trans n4).trans n5).trans n6).trans n7).trans n8)).free hu5
 clear n1 n2 n3 n4 n5 n6 n7 n8 n9 q1 q2 q3 q4 q5 q6 q7 q8
 generalize (upd (upd (upd (upd (upd (upd (upd (upd (upd H5 g7 _) x7 _) y7 _) c7 _) g8 _) m4 _) m5 _) m6 _) u5 _)=H6 at i_g7 i_x7 i_y7 i_c7 i_g8 i_m4 i_m5 i_m6 i_u5 s_H6 ⊢
 clear hg7 hx7 hy7 hc7 hg8 hm4 hm5 hm6 hu5
 have e1:=e1.trans s_H6
 have hrz:=s_H6 _ _ hrz
 have hre:=s_H6 _ _ hre
 have htd:=s_H6 _ _ htd
 have hTb:=hTb.same s_H6
 have hS1:=s_H6.seq hS1
 have i_c5:=s_H6 _ _ i_c5
 have i_x5:=s_H6 _ _ i_x5
 have i_y5:=s_H6 _ _ i_y5
 have i_g6:=s_H6 _ _ i_g6
 have i_c6:=s_H6 _ _ i_c6
 have i_x6:=s_H6 _ _ i_x6
 have i_y6:=s_H6 _ _ i_y6
 have i_st:=s_H6 _ _ i_st
 have T5:TabF H6 (.ref u5) [fiv 4] []:=⟨u5,m5,m6,_,rfl,i_u5,i_m5,⟨⟨m4,rfl,_,i_m4,⟨c5,x5,y5,rfl,i_c5,i_x5,i_y5⟩,⟨g7,rfl,i_g7⟩,⟨c7,x7,y7,rfl,i_c7,i_x7,i_y7⟩,⟨g8,rfl,i_g8⟩,⟨c5,x5,y5,rfl,i_c5,i_x5,i_y5⟩,trivial⟩,trivial⟩,i_m6⟩
 have hno:xv ([(Sum.inr ("top":Str),t1),(Sum.inr ("low":Str),t2),(Sum.inr ("deep":Str),t3),(Sum.inr ("six":Str),.ref u4)]:List (Key × V)) (Sum.inr "a")=none:=rfl
 refine(ixO hrz at1 ⟨td,_,rfl,.inl ⟨_,Sum.inr "a",htd,rfl,by show 4 < sizeLine;decide,rfl⟩,?_⟩)
 rw [xJ _ hno]
 have sb:=jT (z:=td) (H:=H6) (o:=.dK (([(Sum.inr ("top":Str),t1),(Sum.inr ("low":Str),t2),(Sum.inr ("deep":Str),t3),(Sum.inr ("six":Str),.ref u4)]:List (Key × V))++[(Sum.inr ("a":Str),.ref u5)]))
 have ts:=kO sb htd
 have hTb:=(hTb.app (nm:="a") T5).sbD sb htd
 have hre:=sb _ _ nrt hre
 have hrz:=ts _ _ hrz
 have e1:Same H (upd H6 td (.dK (([(Sum.inr ("top":Str),t1),(Sum.inr ("low":Str),t2),(Sum.inr ("deep":Str),t3),(Sum.inr ("six":Str),.ref u4)]:List (Key × V))++[(Sum.inr ("a":Str),.ref u5)]))):=jD e1 sb td0
 have hS1:=e1.seq hS
 have i_g6:=ts _ _ i_g6
 have i_c6:=ts _ _ i_c6
 have i_x6:=ts _ _ i_x6
 have i_y6:=ts _ _ i_y6
 have i_st:=sb _ _ (zG i_st htd (by intro q;cases q)) i_st
 have htd:=qB (H:=H6) (a:=td) (o:=.dK (([(Sum.inr ("top":Str),t1),(Sum.inr ("low":Str),t2),(Sum.inr ("deep":Str),t3),(Sum.inr ("six":Str),.ref u4)]:List (Key × V))++[(Sum.inr ("a":Str),.ref u5)]))
 generalize upd H6 td _=H7 at hTb hre hrz e1 hS1 htd i_g6 i_c6 i_x6 i_y6 i_st ⊢
 have htd:H7 td=some (.dK [(Sum.inr "top",t1),(Sum.inr "low",t2),(Sum.inr "deep",t3),(Sum.inr "six",.ref u4),(Sum.inr "a",.ref u5)]):=htd
 refine⟨sL0,fun q11 hq11=>⟨_,rfl,st,_,rfl,.inl (SqL.of ((qC hq11 _) _ _ i_st)),fun q12 hq12=>⟨sL0,fun q13 hq13=>⟨sL0,fun q14 hq14=>⟨sL0,fun q15 hq15=>⟨_,rfl,st,_,rfl,.inl (SqL.of ((((((qC hq11 _).trans (qC hq12 _)).trans (qC hq13 _)).trans (qC hq14 _)).trans (qC hq15 _)) _ _ i_st)),fun q16 hq16=>⟨sL0,fun q17 hq17=>⟨sL0,fun q18 hq18=>⟨z8,fun m7 hm7=>⟨z3,fun m8 hm8=>⟨sL2,fun u6 hu6=>?_⟩⟩⟩⟩⟩⟩⟩⟩⟩⟩⟩
 have n1:=qC hq11 (.lst [])
 have n2:=qC hq12 (.lst [.ref g6,.ref c6])
 have n3:=qC hq13 (.lst [])
 have n4:=qC hq14 (.lst [])
 have n5:=qC hq15 (.lst [])
 have n6:=qC hq16 (.lst [.ref g6,.ref c6])
 have n7:=qC hq17 (.lst [])
 have n8:=qC hq18 (.lst [])
 have n9:=qC hm7 (.lst [.ref q11,.ref q12,.ref q13,.ref q14,.ref q15,.ref q16,.ref q17,.ref q18])
 have n10:=qC hm8 (.lst [.int 0,.int 2,.int 7])
 have n11:=qC hu6 (.tup [.ref m7,.ref m8])
 have q10:=n11
 have q9:=n10.trans q10
 have q8:=n9.trans q9
 have q7:=n8.trans q8
 have q6:=n7.trans q7
 have q5:=n6.trans q6
 have q4:=n5.trans q5
 have q3:=n4.trans q4
 have q2:=n3.trans q3
 have q1:=n2.trans q2
 have i_q11:=q1 _ _ qB
 have i_q12:=q2 _ _ qB
 have i_q13:=q3 _ _ qB
 have i_q14:=q4 _ _ qB
 have i_q15:=q5 _ _ qB
 have i_q16:=q6 _ _ qB
 have i_q17:=q7 _ _ qB
 have i_q18:=q8 _ _ qB
 have i_m7:=q9 _ _ qB
 have i_m8:=q10 _ _ qB
 have i_u6:=qB (H:=(upd (upd (upd (upd (upd (upd (upd (upd (upd (upd H7 q11 (.lst [])) q12 (.lst [.ref g6,.ref c6])) q13 (.lst [])) q14 (.lst [])) q15 (.lst [])) q16 (.lst [.ref g6,.ref c6])) q17 (.lst [])) q18 (.lst [])) m7 (.lst [.ref q11,.ref q12,.ref q13,.ref q14,.ref q15,.ref q16,.ref q17,.ref q18])) m8 (.lst [.int 0,.int 2,.int 7]))) (a:=u6) (o:=.tup [.ref m7,.ref m8])
 have s_H8:=n1.trans q1
 have l_u6:H7 u6=none:=((((((((((n1.trans n2).trans n3).trans n4).trans n5).trans n6).trans n7).trans n8).trans n9).trans n10)).free hu6
 clear n1 n2 n3 n4 n5 n6 n7 n8 n9 n10 n11 q1 q2 q3 q4 q5 q6 q7 q8 q9 q10
 generalize (upd (upd (upd (upd (upd (upd (upd (upd (upd (upd (upd H7 q11 _) q12 _) q13 _) q14 _) q15 _) q16 _) q17 _) q18 _) m7 _) m8 _) u6 _)=H8 at i_q11 i_q12 i_q13 i_q14 i_q15 i_q16 i_q17 i_q18 i_m7 i_m8 i_u6 s_H8 ⊢
 clear hq11 hq12 hq13 hq14 hq15 hq16 hq17 hq18 hm7 hm8 hu6
 have e1:=e1.trans s_H8
 have hrz:=s_H8 _ _ hrz
 have hre:=s_H8 _ _ hre
 have htd:=s_H8 _ _ htd
 have hTb:=hTb.same s_H8
 have hS1:=s_H8.seq hS1
 have i_g6:=s_H8 _ _ i_g6
 have i_c6:=s_H8 _ _ i_c6
 have i_x6:=s_H8 _ _ i_x6
 have i_y6:=s_H8 _ _ i_y6
 have T6:TabF H8 (.ref u6) [[],stl,[],[],[],stl,[],[]] [0,2,7]:=⟨u6,m7,m8,_,rfl,i_u6,i_m7,⟨⟨q11,rfl,_,i_q11,trivial⟩,⟨q12,rfl,_,i_q12,⟨g6,rfl,i_g6⟩,⟨c6,x6,y6,rfl,i_c6,i_x6,i_y6⟩,trivial⟩,⟨q13,rfl,_,i_q13,trivial⟩,⟨q14,rfl,_,i_q14,trivial⟩,⟨q15,rfl,_,i_q15,trivial⟩,⟨q16,rfl,_,i_q16,⟨g6,rfl,i_g6⟩,⟨c6,x6,y6,rfl,i_c6,i_x6,i_y6⟩,trivial⟩,⟨q17,rfl,_,i_q17,trivial⟩,⟨q18,rfl,_,i_q18,trivial⟩,trivial⟩,i_m8⟩
 have hno:xv ([(Sum.inr ("top":Str),t1),(Sum.inr ("low":Str),t2),(Sum.inr ("deep":Str),t3),(Sum.inr ("six":Str),.ref u4),(Sum.inr ("a":Str),.ref u5)]:List (Key × V)) (Sum.inr "x")=none:=rfl
 refine(ixO hrz at1 ⟨td,_,rfl,.inl ⟨_,Sum.inr "x",htd,rfl,by show 5 < sizeLine;decide,rfl⟩,?_⟩)
 rw [xJ _ hno]
 have sb:=jT (z:=td) (H:=H8) (o:=.dK (([(Sum.inr ("top":Str),t1),(Sum.inr ("low":Str),t2),(Sum.inr ("deep":Str),t3),(Sum.inr ("six":Str),.ref u4),(Sum.inr ("a":Str),.ref u5)]:List (Key × V))++[(Sum.inr ("x":Str),.ref u6)]))
 have ts:=kO sb htd
 have hTb:=(hTb.app (nm:="x") T6).sbD sb htd
 have hre:=sb _ _ nrt hre
 have hrz:=ts _ _ hrz
 have e1:Same H (upd H8 td (.dK (([(Sum.inr ("top":Str),t1),(Sum.inr ("low":Str),t2),(Sum.inr ("deep":Str),t3),(Sum.inr ("six":Str),.ref u4),(Sum.inr ("a":Str),.ref u5)]:List (Key × V))++[(Sum.inr ("x":Str),.ref u6)]))):=jD e1 sb td0
 have hS1:=e1.seq hS
 have htd:=qB (H:=H8) (a:=td) (o:=.dK (([(Sum.inr ("top":Str),t1),(Sum.inr ("low":Str),t2),(Sum.inr ("deep":Str),t3),(Sum.inr ("six":Str),.ref u4),(Sum.inr ("a":Str),.ref u5)]:List (Key × V))++[(Sum.inr ("x":Str),.ref u6)]))
 generalize upd H8 td _=H9 at hTb hre hrz e1 hS1 htd ⊢
 have htd:H9 td=some (.dK [(Sum.inr "top",t1),(Sum.inr "low",t2),(Sum.inr "deep",t3),(Sum.inr "six",.ref u4),(Sum.inr "a",.ref u5),(Sum.inr "x",.ref u6)]):=htd
 have hTb:TbsAt H9 (tb6 tops l1 l2 cc1 cc2) (kv6 t1 t2 t3 (.ref u4) (.ref u5) (.ref u6)):=hTb
 have htd:H9 td=some (.dK (kv6 t1 t2 t3 (.ref u4) (.ref u5) (.ref u6))):=htd
 have nd:((tb6 tops l1 l2 cc1 cc2).map (·.1)).Nodup:=by rw [qBt];exact qEr
 have g:=O.good
 generalize kv6 t1 t2 t3 (.ref u4) (.ref u5) (.ref u6)=kvs at hTb htd ⊢
 refine⟨_,rfl,rz,re,td,_,kvs,_,rfl,hrz,hre,htd,nrt,hTb,nd,(by show 6≤20;decide),fun t ht=>?_,fun rz' re' td' kvs' o Ha s2 ftd hrz' hre' htd' htb' _ _ _=>?_⟩
 · have:=(g.1.gt t ht).l8
   omega
 have hrzA:Ha rz=some (.tup [.ref re,.ref td]):=s2 _ _ (zG hrz htd (by intro q;cases q)) hrz
 have hreA:=s2 _ _ nrt hre
 have hTbA:=hTb.sbD s2 htd
 have fA:FL H9 Ha:=fun b u hb=>by
  by_cases q:b=td
  · subst q
    rw [htd] at hb
    cases hb
    exact .inr ⟨_,o,rfl,ftd⟩
  · exact .inl (s2 _ _ q hb)
 have hSA:=fA.seq hS1
 have RV:RoomV K Ha rz true:=by
  have h:=qBq (K:=K) a0 a1 hrzA (.inl hreA) (.inr ⟨o,ftd⟩) hTbA g.1
  rwa [g.2] at h
 refine⟨_,rfl,rz,rfl,RV,fun Hb fb=>?_⟩
 refine⟨false,rfl,qd ?_⟩
 refine(ixO (fb.ts _ _ hrzA) at0 ⟨re,_,rfl,fb.rd (.inl hreA),fun rc hrc=>?_⟩)
 have w1:=qC hrc (.dK (arE A'))
 refine⟨6,rfl,.inl rfl,fun tc kvc Hc ec _ ic hTc=>⟨sL2,fun rq hrq=>?_⟩⟩
 have w2:=qC hrq (.tup [.ref rc,.ref tc])
 have RV2:RoomV K (upd Hc rq (.tup [.ref rc,.ref tc])) rq true:=by
  have h:=qBq (K:=K) (tb:=chT 6) a0 a1 qB (.inl (w2 _ _ (ec _ _ qB))) (.inl (w2 _ _ ic)) (hTc.same w2) (qH0 a0 a1 (.inl rfl))
  rwa [ch_deep.1] at h
 have fq:=fb.trans (jn ((w1.trans ec).trans w2))
 refine⟨rq,rfl,RV2,fun Hd fd=>⟨false,rfl,qd ?_⟩⟩
 have f:=fq.trans fd
 clear fq fd RV2 w2 hrq hTc ic ec w1 hrc fb
 refine⟨_,rfl,_,rfl,rz,rz',re,re',td,td',rfl,rfl,SqT.of (f.ts _ _ hrzA),SqT.of (f.ts _ _ hrz'),qPh (f.rd (.inl hreA)) (f.rd (.inl hre')),qNn (f.rd (.inr ⟨o,ftd⟩)) (f.rd (.inl htd')) (f.tbs hTbA) (f.tbs htb') nd,⟨_,rfl,qd ?_⟩⟩
 refine⟨_,rfl,z,ns,2,rfl,f.seq hSA,hlen,by decide,fun c2=>⟨_,_,rfl,rfl,nz,rfl,_,rfl,kD (fun _=>?_) (fun _=>?_)⟩⟩
 · refine(ixO (f.ts _ _ hrzA) at0 ⟨re,_,rfl,f.rd (.inl hreA),fun rc hrc=>fun te hte=>⟨sL2,fun rq hrq=>?_⟩⟩)
   have w1:=qC hrc (.dK (arE A'))
   have w2:=qC hte (.dK [])
   have w3:=qC hrq (.tup [.ref rc,.ref te])
   refine⟨rq,rfl,?_,fun He _=>k He⟩
   have h:=qBq (K:=K) (tb:=[]) (kvs:=[]) a0 a1 qB (.inl (w3 _ _ (w2 _ _ qB))) (.inl (w3 _ _ qB)) trivial ⟨by simp,by simp,fun t h=>by simp at h,fun t h=>by simp at h⟩
   rwa [show kM []=true by decide+kernel] at h
 · refine⟨_,rfl,_,rfl,z,ns,2,rfl,f.seq hSA,hlen,by decide,fun c3=>⟨_,_,rfl,rfl,cdB (by decide) (by decide),rz',re',td',c3.fdiv 5,A',tops,l1,l2,cc1,cc2,kvs',rfl,f.ts _ _ hrz',f.rd (.inl hre'),f.rd (.inl htd'),O,f.tbs htb',fun r He ee RVf=>?_⟩⟩
   refine⟨_,rfl,r,rfl,RVf,fun Hf ff=>⟨true,rfl,qz ?_⟩⟩
   exact⟨_,rfl,rz,rfl,RV.fl ((f.trans (jn ee)).trans ff),fun Hg _=>k Hg⟩
end
structure DF (K:W.Frag)(x:Str)(st:Stmt)(f:Addr)(fd:FuncData):Prop where
 n:W.nsIn K mainGlobals x=some (some (.ref f))
 F:Fun K x x st f fd
theorem df_mk {K:W.Frag}{x:Str}{st:Stmt}{f:Addr}{oc:Value}{od an:Option Addr}{osl:Array (Option Value)}{kV doc pm cdv ct:Value}(n:W.nsIn K mainGlobals x=some (some (.ref f)))(l:K.lookup f=some ⟨oc,od,.func (W.fnOf x x (kf st) (xf st) (qJ st) .none kV doc pm an cdv ct),osl⟩)(c:W.codeIn K cdv x=true)(k:W.keepIn K (.ref f)=true):DF K x st f (W.fnOf x x (kf st) (xf st) (qJ st) .none kV doc pm an cdv ct):=⟨n,qN7 l c k⟩
def GL (K:W.Frag)(x:Str)(v:Option Value):Prop:=W.nsIn K mainGlobals x=some v
theorem gl_mk {K:W.Frag}{x:Str}{v:Option Value}(h:W.nsIn K mainGlobals x=some v):GL K x v:=h
theorem dG {K:W.Frag}{x:Str}{st:Stmt}{f:Addr}{fd:FuncData}{h:Heap}{mg:Str→Option Value}{ps:List Str}(X:K.In h)(G:h.Ns mainGlobals mg)(d:DF K x st f fd)
 (b:∀ (kV doc pm:Value) (an:Option Addr) (cdv ct:Value) (us:List Value),us.length=ps.length→bindArgs (W.fnOf x x (kf st) (xf st) (qJ st) .none kV doc pm an cdv ct) ⟨us,[]⟩=pure (ps.zip us):=by
   first | exact(fun _ _ _ _ _ _ us hl=>match us,hl with | [_],_=>rfl) | exact(fun _ _ _ _ _ _ us hl=>match us,hl with | [_,_],_=>rfl) | exact(fun _ _ _ _ _ _ us hl=>match us,hl with | [_,_,_],_=>rfl)):L3.Def K mg x st ps f fd:=⟨d.F,d.F.binds b,W.mg_of X G d.n⟩
theorem all_mk {l:W.OpenLaw}{w:World}{K:W.Frag}{h:Heap}{mg:Str→Option Value}{fa f0 f1 f2 f3 f4 f5 f6 f7 f8 f9 f10 f11 f12 f13 f14 f15 f16 f17 f18 f19 f20 f21 f22 f23 f24 f25 f26 f27 f28 f29 f30 f31 f32 f33 f34 f35 f36 f37 f38 f39 f40 f41 f42 f43 f44 f45 f46 f47 f48 f49 f50 f51 f52 f53 f54 f55 f56 f57 f58 f59 f60 C0 C1 C2 C3 C4 nNOUGHT:Addr}{g0 g1 g2 g3 g4 g5 g6 g7 g8 g9 g10 g11 g12 g13 g14 g15 g16 g17 g18 g19 g20 g21 g22 g23 g24 g25 g26 g27 g28 g29 g30 g31 g32 g33 g34 g35 g36 g37 g38 g39 g40 g41 g42 g43 g44 g45 g46 g47 g48 g49 g50 g51 g52 g53 g54 g55 g56 g57 g58 g59 g60:FuncData}(X:K.In h)(G:h.Ns mainGlobals mg)(hfa:mg "law"=some (.ref fa))
 {odNOUGHT:Option Addr} {slNOUGHT:Array (Option Value)} {tLETTERS tLONGEST_NAME tMOST_ROOM tNOUGHT_0 tNOUGHT_1 tMOST_PICTURES tMOST_TRACKS tMOST_DEEP:Tok} {nnNOUGHT:Nat}
 (h0:DF K "is_whole" v9 f0 g0)
 (h1:DF K "common_divisor" j9 f1 g1)
 (h2:DF K "is_fraction" xy f2 g2)
 (h3:DF K "fraction" vv f3 g3)
 (h4:DF K "sum_of" qB1 f4 g4)
 (h5:DF K "less_by" wx f5 g5)
 (h6:DF K "times_of" vo f6 g6)
 (h7:DF K "quotient" vj f7 g7)
 (h8:DF K "is_before" kr f8 g8)
 (h9:DF K "floor_of" vm f9 g9)
 (h10:DF K "is_name" qAa f10 g10)
 (h11:DF K "has_clip_form" xN f11 g11)
 (h12:DF K "place_at" wB f12 g12)
 (h13:DF K "picture_at" zu f13 g13)
 (h14:DF K "is_there" v4 f14 g14)
 (h15:DF K "check_clip" zd f15 g15)
 (h16:DF K "moments_there" xP f16 g16)
 (h17:DF K "head_room" kd f17 g17)
 (h18:DF K "tail_room" ku f18 g18)
 (h19:DF K "is_length" kx f19 g19)
 (h20:DF K "has_nest_form" xL f20 g20)
 (h21:DF K "has_gap_or_mix_form" jM f21 g21)
 (h22:DF K "moments_of" zf f22 g22)
 (h23:DF K "one_form" v6 f23 g23)
 (h24:DF K "item_at" wZ f24 g24)
 (h25:DF K "kind_at" ww f25 g25)
 (h26:DF K "is_in_one_form" xE f26 g26)
 (h27:DF K "place_ahead" zI f27 g27)
 (h28:DF K "neighbours_at" xO f28 g28)
 (h29:DF K "clips_at_border" jx f29 g29)
 (h30:DF K "part_ahead" zm f30 g30)
 (h31:DF K "part_behind" zE f31 g31)
 (h32:DF K "mix_spans" ke f32 g32)
 (h33:DF K "taken_at_begin" xD f33 g33)
 (h34:DF K "taken_at_end" xh f34 g34)
 (h35:DF K "most_mix" vi f35 g35)
 (h36:DF K "mixes_fit" vA f36 g36)
 (h37:DF K "is_number_of_pictures" jJ f37 g37)
 (h38:DF K "check_reels" xz f38 g38)
 (h39:DF K "check_clip_of_room" jV f39 g39)
 (h40:DF K "check_item" ze f40 g40)
 (h41:DF K "check_track" x8 f41 g41)
 (h42:DF K "is_tied" qAp f42 g42)
 (h43:DF K "check_table" zD f43 g43)
 (h44:DF K "nested_in" km f44 g44)
 (h45:DF K "rests_upon" z9 f45 g45)
 (h46:DF K "check_depth" zL f46 g46)
 (h47:DF K "check_room" zZ f47 g47)
 (h48:DF K "_law_cell_at" xY f48 g48)
 (h49:DF K "_law_stream" zK f49 g49)
 (h50:DF K "_law_lowest" zJ f50 g50)
 (h51:DF K "_law_clip" zB f51 g51)
 (h52:DF K "_law_track" zk f52 g52)
 (h53:DF K "_law_reels" zr f53 g53)
 (h54:DF K "_law_room" vC f54 g54)
 (h55:DF K "_law_chain" zh f55 g55)
 (h56:DF K "_law_bad_items" xC f56 g56)
 (h57:DF K "_law_spoiled" xc f57 g57)
 (h58:DF K "_law_refused" xW f58 g58)
 (h59:DF K "_law_copied" xI f59 g59)
 (h60:DF K "law" qLq f60 g60)
 (xg0:GL K "CutError" (some (.ref C0)))
 (xg1:GL K "NoNumber" (some (.ref C1)))
 (xg2:GL K "NoClip" (some (.ref C2)))
 (xg3:GL K "NoPlace" (some (.ref C3)))
 (xg4:GL K "NoRoom" (some (.ref C4)))
 (x_NoClip:L3.OwnX K C2)
 (x_NoRoom:L3.OwnX K C4)
 (yCC:W.exmOne K (.ref C2) (.ref C2)=some true)
 (e_NoRoom:L3.ExcK K C4)
 (yRR:W.exmOne K (.ref C4) (.ref C4)=some true)
 (rE:W.kitOne K (.ref C4) (.ref C0)=some true)
 (rC:W.kitOne K (.ref C4) (.ref C2)=some false)
 (xz0:GL K "isinstance" none)
 (xz1:GL K "int" none)
 (xz2:GL K "bool" none)
 (xz3:GL K "abs" none)
 (xz4:GL K "tuple" none)
 (xz5:GL K "len" none)
 (xz6:GL K "all" none)
 (xz7:GL K "str" none)
 (xz8:GL K "min" none)
 (xz9:GL K "enumerate" none)
 (xz10:GL K "max" none)
 (xz11:GL K "list" none)
 (xz12:GL K "range" none)
 (xz13:GL K "dict" none)
 (xcLETTERS:GL K "LETTERS" (some (.str "abcdefghijklmnopqrstuvwxyz" tLETTERS)))
 (xcLONGEST_NAME:GL K "LONGEST_NAME" (some (.int 8 tLONGEST_NAME)))
 (xcMOST_ROOM:GL K "MOST_ROOM" (some (.int 1000000 tMOST_ROOM)))
 (xcNOUGHT:GL K "NOUGHT" (some (.ref nNOUGHT))) (xlNOUGHT:K.lookup nNOUGHT=some ⟨.type "tuple",odNOUGHT,.seq #[.int 0 tNOUGHT_0,.int 1 tNOUGHT_1] nnNOUGHT,slNOUGHT⟩)
 (xcMOST_PICTURES:GL K "MOST_PICTURES" (some (.int 1000000000 tMOST_PICTURES)))
 (xcMOST_TRACKS:GL K "MOST_TRACKS" (some (.int 8 tMOST_TRACKS)))
 (xcMOST_DEEP:GL K "MOST_DEEP" (some (.int 6 tMOST_DEEP)))
 :∃ fd:FuncData,(∀ (s:Shared) (v:Value),BindsTo s fd ⟨[v],[]⟩ [("_law_script",v)])∧∀ base:Heap,K.In base→base.Ns mainGlobals mg→FnOk l.prog w K mg base CX0 16 fa fd ["_law_script"] (qKc K):=by
 have e:=hfa.symm.trans (W.mg_of X G h60.n)
 obtain rfl:f60=fa:=by cases e;rfl
 obtain⟨_,_,_,_,_,_,_,_,_,rfl,_,_⟩:=h60.F.ex
 have T:Tx K mg ⟨f0,_,f1,_,f2,_,f3,_,f4,_,f5,_,f6,_,f7,_,f8,_,f9,_,f10,_,f11,_,f12,_,f13,_,f14,_,f15,_,f16,_,f17,_,f18,_,f19,_,f20,_,f21,_,f22,_,f23,_,f24,_,f25,_,f26,_,f27,_,f28,_,f29,_,f30,_,f31,_,f32,_,f33,_,f34,_,f35,_,f36,_,f37,_,f38,_,f39,_,f40,_,f41,_,f42,_,f43,_,f44,_,f45,_,f46,_,f47,_,f48,_,f49,_,f50,_,f51,_,f52,_,f53,_,f54,_,f55,_,f56,_,f57,_,f58,_,f59,_,f60,_,C0,C1,C2,C3,C4,tLETTERS,tLONGEST_NAME,tMOST_ROOM,nNOUGHT,tMOST_PICTURES,tMOST_TRACKS,tMOST_DEEP⟩:=⟨dG X G h0,dG X G h1,dG X G h2,dG X G h3,dG X G h4,dG X G h5,dG X G h6,dG X G h7,dG X G h8,dG X G h9,dG X G h10,dG X G h11,dG X G h12,dG X G h13,dG X G h14,dG X G h15,dG X G h16,dG X G h17,dG X G h18,dG X G h19,dG X G h20,dG X G h21,dG X G h22,dG X G h23,dG X G h24,dG X G h25,dG X G h26,dG X G h27,dG X G h28,dG X G h29,dG X G h30,dG X G h31,dG X G h32,dG X G h33,dG X G h34,dG X G h35,dG X G h36,dG X G h37,dG X G h38,dG X G h39,dG X G h40,dG X G h41,dG X G h42,dG X G h43,dG X G h44,dG X G h45,dG X G h46,dG X G h47,dG X G h48,dG X G h49,dG X G h50,dG X G h51,dG X G h52,dG X G h53,dG X G h54,dG X G h55,dG X G h56,dG X G h57,dG X G h58,dG X G h59,dG X G h60,W.mg_of X G xg0,W.mg_of X G xg1,W.mg_of X G xg2,W.mg_of X G xg3,W.mg_of X G xg4,W.mg_none_of X G xz0,W.mg_none_of X G xz1,W.mg_none_of X G xz2,W.mg_none_of X G xz3,W.mg_none_of X G xz4,W.mg_none_of X G xz5,W.mg_none_of X G xz6,W.mg_none_of X G xz7,W.mg_none_of X G xz8,W.mg_none_of X G xz9,W.mg_none_of X G xz10,W.mg_none_of X G xz11,W.mg_none_of X G xz12,W.mg_none_of X G xz13,W.mg_of X G xcLETTERS,W.mg_of X G xcLONGEST_NAME,W.mg_of X G xcMOST_ROOM,W.mg_of X G xcNOUGHT,fun H=>.inr ⟨_,_,_,xlNOUGHT,rfl,rfl,by show 2≤sizeLine;decide,.cons ⟨_,rfl⟩ (.cons ⟨_,rfl⟩ (.nil))⟩,W.mg_of X G xcMOST_PICTURES,W.mg_of X G xcMOST_TRACKS,W.mg_of X G xcMOST_DEEP,x_NoClip,x_NoRoom,yCC,e_NoRoom,yRR,rE,rC⟩
 exact⟨_,fun s v=>.of_eq rfl,fun base _ _=>qNk T⟩
theorem walk {l:W.OpenLaw}{q:Program}{loose:List Str}{XP:(Str→Option Value)→Heap→Prop}{YP:World→Heap→Prop}{d:DefRec}{K:Params→W.Frag}(hn:l.most=some 63)(hdf:d.params.defaults=[])
 (hY:∀ (w:World) (h:Heap),YP w h→(K w.params).In h)
 (F:∀ (w:World) (mg:Str→Option Value) (fa:Addr) (h:Heap),(K w.params).In h→h.Ns mainGlobals mg→mg d.name=some (.ref fa)→
   ∃ fd:FuncData,(∀ (s:Shared) (u:Value),BindsTo s fd ⟨[u],[]⟩ [("_law_script",u)])∧∀ base:Heap,(K w.params).In base→base.Ns mainGlobals mg→FnOk l.prog w (K w.params) mg base CX0 16 fa fd ["_law_script"] (qKc (K w.params))):
 W.WalkO q loose XP YP l.row.toRowW d [] (fun f vs=>PySem.call f vs):=
 L2.walk_of (n:=63) (k:=16) (x:="_law_script") (CX:=fun _=>CX0) (sp:=fun w=>qKc (K w.params)) hn (by decide) hdf ⟨rfl,by decide,by decide⟩ hY F (fun _ _ a ns hl _ hS=>⟨a,ns,rfl,hS,hl,fun _=>rfl⟩) fun _ _ _ _ _ z=>z
end Lw
namespace PySem.W.Fast
def tw7727028470879617953 := ()
def tw476714953382842466 := ()
def tw15251468306325453379 := ()
def tw7641143036794372132 := ()
def tw18382102881960555240 := ()
def tw4210856601306417865 := ()
def tw13843740094735619914 := ()
def tw3663183369548141514 := ()
def tw10977699765037175211 := ()
def tw15426163333705694701 := ()
def tw6864004957952653838 := ()
def tw11798085985898085648 := ()
def tw17481535219086976720 := ()
def tw13144792142360824752 := ()
def tw4673668537076011089 := ()
def tw17173298610546517137 := ()
def tw5223713977596547666 := ()
def tw3180640983816914036 := ()
def tw18314047216155600852 := ()
def tw16966007912932051159 := ()
def tw11920927699249834327 := ()
def tw8890665348263474617 := ()
def tw6025948523317652473 := ()
def tw1266060591693102268 := ()
def tw9747909678348153308 := ()
def tw834093998705707809 := ()
def tw703266427849896358 := ()
def tw11639311868391201533 := ()
def tw12376991532279689591 := ()
def tw16723091158099319850 := ()
def tw8054499420543998847 := ()
def tw8567561277009868179 := ()
def tw5691788138614671107 := ()
def tw5455885053539898419 := ()
def tw3851708402704116782 := ()
def tw3380546540781250078 := ()
def tw16493461352526563037 := ()
def tw6506959621366086784 := ()
def tw3656647310827017163 := ()
def tw3844479718028338636 := ()
def tw10583349500094894127 := ()
def tw5583398450222217487 := ()
def tw13581923786921124244 := ()
def tw11652263748301843429 := ()
def tw8177111634273950441 := ()
def tw7244372958938331666 := ()
def tw9354206005255726489 := ()
def tw3550849570994760483 := ()
def tw14616999062151175036 := ()
def tw14129314907561488527 := ()
def tw15817042931336504341 := ()
def tw5253374332983512952 := ()
def tw4007250189789473015 := ()
def tw10418725958733996765 := ()
def tw37088211247803098 := ()
def tw10822924687340738018 := ()
def tw17960313978848733724 := ()
def tw8034016343552447265 := ()
def tw4830278540874345305 := ()
def tw10392559876747431573 := ()
def tw5568485301147666797 := ()
def tw2895537667924914130 := ()
def tw3371798747369484754 := ()
def tw13712798317701173575 := ()
def tw17678102012612241785 := ()
def tw1910514188055461258 := ()
def tw8688831058601430041 := ()
def tw7157372842489279210 := ()
def tw13604808096979613447 := ()
def tw10613606149937917343 := ()
def tw2607923545315836230 := ()
def tw5891594581558416348 := ()
def tw17469558179839598511 := ()
def tw9929089754392119505 := ()
def tw6776634994472591806 := ()
def tw8350531370343334863 := ()
def tw1469080653301968437 := ()
def tw5350322153487765804 := ()
def tw16826010845448245867 := ()
def tw14423362327660836459 := ()
def tw13387249300434281971 := ()
def tw3907888713438064336 := ()
def tw17249404240062180045 := ()
def tw430833610240449205 := ()
def tw1506106778067923518 := ()
def tw17540622307404818653 := ()
def tw5839614724088923580 := ()
def tw13125375001869135992 := ()
def tw17785499578994841204 := ()
def tw1487802097293998707 := ()
def tw13859362406432728609 := ()
def tw9616250222004198285 := ()
def tw942052231770342735 := ()
def tw7506367423064259623 := ()
def tw13770415509107265356 := ()
def tw16396804300241724329 := ()
def tw12849697958390781319 := ()
def tw4846941295488043142 := ()
def tw12126018790017689452 := ()
def tw12656441299123489764 := ()
def tw2622234938105208414 := ()
def tw2255641734749870326 := ()
def tw813138021215491578 := ()
def tw7879354812596079454 := ()
def tw6299179924237461171 := ()
def tw17009097865212781341 := ()
def tw14446318681559586437 := ()
def tw2705474385077265572 := ()
def tw12715940032047087945 := ()
def tw1640248203357092292 := ()
def tw5137448462119745451 := ()
def tw8013160963897091677 := ()
def tw2456358268789285339 := ()
def tw12576160038014324877 := ()
def tw13649528318898022615 := ()
def tw9092165089783867078 := ()
def tw8740168027521397799 := ()
def tw4834095100410574479 := ()
def tw13461479398604876005 := ()
def tw10674479492614075993 := ()
def tw16399695885070363169 := ()
def tw1220036015824625890 := ()
def tw13826292982686080880 := ()
def tw10667142984382429014 := ()
def tw7242578419537422814 := ()
def tw6470047845626832875 := ()
def tw4819812629741807711 := ()
def tw10134627354078713305 := ()
def tw4588414421632654208 := ()
def tw16815624779558923882 := ()
def tw414963561858754052 := ()
def tw15921968926512854203 := ()
def tw18071571141140284399 := ()
def tw18321532450706327004 := ()
def tw17287699399492372432 := ()
def tw14102361025125955061 := ()
def tw9998343821490401483 := ()
def tw9941177968244368158 := ()
def tw13664138705479638492 := ()
def tw3862898372441544554 := ()
def tw14409800216320462903 := ()
def tw11043542859519388095 := ()
def tw917452962094989482 := ()
def tw9521775186472483029 := ()
def tw6566293820490958638 := ()
def tw6935969546885403701 := ()
def tw12170223461132262010 := ()
def tw2908070152287211788 := ()
def tw10454877481890589584 := ()
def tw2436531782324051931 := ()
def tw7408998082048582861 := ()
def tw1618950325396284804 := ()
def tw14598258019807521420 := ()
def tw8605593924275090424 := ()
def tw4632280411875369190 := ()
def tw5863269928434082329 := ()
def tw15756290316109443245 := ()
def tw13451186259228643917 := ()
def tw15682079287649705450 := ()
def tw114278292241719515 := ()
def tw149442566750214043 := ()
def tw10956346671220769143 := ()
def tw308707417204262528 := ()
def tw7018190162086866273 := ()
def tw17833872106631935897 := ()
def tw13051753876418897301 := ()
def tw5996321708087760068 := ()
def tw15090644043803258033 := ()
def tw11783805380175022255 := ()
def tw8044631895307551996 := ()
def tw1500991097280399280 := ()
def tw427372610765281960 := ()
def tw5679693356924565518 := ()
def tw14708979302371802305 := ()
def tw10881765003048936463 := ()
def tw15731160578056331380 := ()
def tw15090784109470006894 := ()
def tw13726037538428359536 := ()
def tw11182170975871526235 := ()
def tw12606066968339203558 := ()
def tw10609111714022924404 := ()
def tw15615467976348317953 := ()
def tw3896345006500383772 := ()
def tw14067290972828057193 := ()
def tw7576788579918467569 := ()
def tw5732219110620898839 := ()
def tw14975663815791254060 := ()
def tw11001229040737784129 := ()
def tw17018341586942110064 := ()
def tw10431437066822245355 := ()
def tw15940759230418961112 := ()
def tw11287175139530120282 := ()
def tw6065999930369195495 := ()
def tw10204447656208248634 := ()
def tw3217317443783271830 := ()
def tw5463439061799009794 := ()
def tw8747937102175085268 := ()
def tw9700856880912773503 := ()
def tw1014789351192178321 := ()
def tw12534476390239776910 := ()
def tw9169923069110168669 := ()
def tw6792122046648835386 := ()
def tw3300491371867547499 := ()
def tw12663363919469607314 := ()
def tw17546509663368854450 := ()
def tw6728639947711502499 := ()
def tw1713496772297339913 := ()
def tw7062373334296315029 := ()
def tw7367503985954596282 := ()
def tw7551790204591283923 := ()
def tw9498326918482848164 := ()
def tw13503464700214815080 := ()
def tw5554652967870362558 := ()
def tw870305583779755596 := ()
def tw10915395432695649910 := ()
end PySem.W.Fast
open PySem PySem.W PyProof.Rows
set_option maxRecDepth 100000 in
set_option maxHeartbeats 0 in
theorem PySem.Challenge.cw_reelcut_k24_rooms_refused_holds : PySem.Challenge.rw_reelcut_k24_rooms_refused.Holds := by
 w_on;o_law;k_head;(case hw=>w_witness2)
 k_fill
 refine Lw.walk (l:=PySem.Challenge.rw_reelcut_k24_rooms_refused) rfl rfl (fun w h Y=>PySem.W.kIn_of Y) ?F
 case F=>
  intro w mg fa h KX G hmg
  refine' Lw.all_mk KX G hmg (Lw.df_mk ?a0 ?l0 ?c0 ?k0) (Lw.df_mk ?a1 ?l1 ?c1 ?k1) (Lw.df_mk ?a2 ?l2 ?c2 ?k2) (Lw.df_mk ?a3 ?l3 ?c3 ?k3) (Lw.df_mk ?a4 ?l4 ?c4 ?k4) (Lw.df_mk ?a5 ?l5 ?c5 ?k5) (Lw.df_mk ?a6 ?l6 ?c6 ?k6) (Lw.df_mk ?a7 ?l7 ?c7 ?k7) (Lw.df_mk ?a8 ?l8 ?c8 ?k8) (Lw.df_mk ?a9 ?l9 ?c9 ?k9) (Lw.df_mk ?a10 ?l10 ?c10 ?k10) (Lw.df_mk ?a11 ?l11 ?c11 ?k11) (Lw.df_mk ?a12 ?l12 ?c12 ?k12) (Lw.df_mk ?a13 ?l13 ?c13 ?k13) (Lw.df_mk ?a14 ?l14 ?c14 ?k14) (Lw.df_mk ?a15 ?l15 ?c15 ?k15) (Lw.df_mk ?a16 ?l16 ?c16 ?k16) (Lw.df_mk ?a17 ?l17 ?c17 ?k17) (Lw.df_mk ?a18 ?l18 ?c18 ?k18) (Lw.df_mk ?a19 ?l19 ?c19 ?k19) (Lw.df_mk ?a20 ?l20 ?c20 ?k20) (Lw.df_mk ?a21 ?l21 ?c21 ?k21) (Lw.df_mk ?a22 ?l22 ?c22 ?k22) (Lw.df_mk ?a23 ?l23 ?c23 ?k23) (Lw.df_mk ?a24 ?l24 ?c24 ?k24) (Lw.df_mk ?a25 ?l25 ?c25 ?k25) (Lw.df_mk ?a26 ?l26 ?c26 ?k26) (Lw.df_mk ?a27 ?l27 ?c27 ?k27) (Lw.df_mk ?a28 ?l28 ?c28 ?k28) (Lw.df_mk ?a29 ?l29 ?c29 ?k29) (Lw.df_mk ?a30 ?l30 ?c30 ?k30) (Lw.df_mk ?a31 ?l31 ?c31 ?k31) (Lw.df_mk ?a32 ?l32 ?c32 ?k32) (Lw.df_mk ?a33 ?l33 ?c33 ?k33) (Lw.df_mk ?a34 ?l34 ?c34 ?k34) (Lw.df_mk ?a35 ?l35 ?c35 ?k35) (Lw.df_mk ?a36 ?l36 ?c36 ?k36) (Lw.df_mk ?a37 ?l37 ?c37 ?k37) (Lw.df_mk ?a38 ?l38 ?c38 ?k38) (Lw.df_mk ?a39 ?l39 ?c39 ?k39) (Lw.df_mk ?a40 ?l40 ?c40 ?k40) (Lw.df_mk ?a41 ?l41 ?c41 ?k41) (Lw.df_mk ?a42 ?l42 ?c42 ?k42) (Lw.df_mk ?a43 ?l43 ?c43 ?k43) (Lw.df_mk ?a44 ?l44 ?c44 ?k44) (Lw.df_mk ?a45 ?l45 ?c45 ?k45) (Lw.df_mk ?a46 ?l46 ?c46 ?k46) (Lw.df_mk ?a47 ?l47 ?c47 ?k47) (Lw.df_mk ?a48 ?l48 ?c48 ?k48) (Lw.df_mk ?a49 ?l49 ?c49 ?k49) (Lw.df_mk ?a50 ?l50 ?c50 ?k50) (Lw.df_mk ?a51 ?l51 ?c51 ?k51) (Lw.df_mk ?a52 ?l52 ?c52 ?k52) (Lw.df_mk ?a53 ?l53 ?c53 ?k53) (Lw.df_mk ?a54 ?l54 ?c54 ?k54) (Lw.df_mk ?a55 ?l55 ?c55 ?k55) (Lw.df_mk ?a56 ?l56 ?c56 ?k56) (Lw.df_mk ?a57 ?l57 ?c57 ?k57) (Lw.df_mk ?a58 ?l58 ?c58 ?k58) (Lw.df_mk ?a59 ?l59 ?c59 ?k59) (Lw.df_mk ?a60 ?l60 ?c60 ?k60) (Lw.gl_mk ?xg0) (Lw.gl_mk ?xg1) (Lw.gl_mk ?xg2) (Lw.gl_mk ?xg3) (Lw.gl_mk ?xg4) ?x_NoClip ?x_NoRoom ?yCC ?e_NoRoom ?yRR ?rE ?rC (Lw.gl_mk ?xz0) (Lw.gl_mk ?xz1) (Lw.gl_mk ?xz2) (Lw.gl_mk ?xz3) (Lw.gl_mk ?xz4) (Lw.gl_mk ?xz5) (Lw.gl_mk ?xz6) (Lw.gl_mk ?xz7) (Lw.gl_mk ?xz8) (Lw.gl_mk ?xz9) (Lw.gl_mk ?xz10) (Lw.gl_mk ?xz11) (Lw.gl_mk ?xz12) (Lw.gl_mk ?xz13) (Lw.gl_mk ?xcLETTERS) (Lw.gl_mk ?xcLONGEST_NAME) (Lw.gl_mk ?xcMOST_ROOM) (Lw.gl_mk ?xcNOUGHT) ?xlNOUGHT (Lw.gl_mk ?xcMOST_PICTURES) (Lw.gl_mk ?xcMOST_TRACKS) (Lw.gl_mk ?xcMOST_DEEP)
  (case a0 | l0 | c0 | k0 | a1 | l1 | c1 | k1 | a2 | l2 | c2 | k2 | a3 | l3 | c3 | k3 | a4 | l4 | c4 | k4 | a5 | l5 | c5 | k5 | a6 | l6 | c6 | k6 | a7 | l7 | c7 | k7 | a8 | l8 | c8 | k8 | a9 | l9 | c9 | k9 | a10 | l10 | c10 | k10 | a11 | l11 | c11 | k11 | a12 | l12 | c12 | k12 | a13 | l13 | c13 | k13 | a14 | l14 | c14 | k14 | a15 | l15 | c15 | k15 | a16 | l16 | c16 | k16 | a17 | l17 | c17 | k17 | a18 | l18 | c18 | k18 | a19 | l19 | c19 | k19 | a20 | l20 | c20 | k20 | a21 | l21 | c21 | k21 | a22 | l22 | c22 | k22 | a23 | l23 | c23 | k23 | a24 | l24 | c24 | k24 | a25 | l25 | c25 | k25 | a26 | l26 | c26 | k26 | a27 | l27 | c27 | k27 | a28 | l28 | c28 | k28 | a29 | l29 | c29 | k29 | a30 | l30 | c30 | k30 | a31 | l31 | c31 | k31 | a32 | l32 | c32 | k32 | a33 | l33 | c33 | k33 | a34 | l34 | c34 | k34 | a35 | l35 | c35 | k35 | a36 | l36 | c36 | k36 | a37 | l37 | c37 | k37 | a38 | l38 | c38 | k38 | a39 | l39 | c39 | k39 | a40 | l40 | c40 | k40 | a41 | l41 | c41 | k41 | a42 | l42 | c42 | k42 | a43 | l43 | c43 | k43 | a44 | l44 | c44 | k44 | a45 | l45 | c45 | k45 | a46 | l46 | c46 | k46 | a47 | l47 | c47 | k47 | a48 | l48 | c48 | k48 | a49 | l49 | c49 | k49 | a50 | l50 | c50 | k50 | a51 | l51 | c51 | k51 | a52 | l52 | c52 | k52 | a53 | l53 | c53 | k53 | a54 | l54 | c54 | k54 | a55 | l55 | c55 | k55 | a56 | l56 | c56 | k56 | a57 | l57 | c57 | k57 | a58 | l58 | c58 | k58 | a59 | l59 | c59 | k59 | a60 | l60 | c60 | k60 | xg0 | xg1 | xg2 | xg3 | xg4=>k_is)
  (case x_NoClip=>(unfold L3.OwnX;kernel_rfl))
  (case x_NoRoom=>(unfold L3.OwnX;kernel_rfl))
  (case yCC=>kernel_rfl)
  (case e_NoRoom=>exact⟨by k_is,by k_is,by k_is,by k_is,by k_is,by k_is,by k_is⟩)
  (case yRR=>kernel_rfl)
  (case rE=>kernel_rfl)
  (case rC=>kernel_rfl)
  (case xz0 | xz1 | xz2 | xz3 | xz4 | xz5 | xz6 | xz7 | xz8 | xz9 | xz10 | xz11 | xz12 | xz13 | xcLETTERS | xcLONGEST_NAME | xcMOST_ROOM | xcNOUGHT | xlNOUGHT | xcMOST_PICTURES | xcMOST_TRACKS | xcMOST_DEEP=>k_is)

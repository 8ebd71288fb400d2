import PyProof.Rows.All
import Wide.All
import OpenK.AllK
import Wide.FinOn
import Lean
import PyProof.EqAt
import PyProof.EqKinds
import PyProof.TupleCall
import PyProof.StrLawsTight
import KE.KIntText
import KE.KxPart
import KE.KDictLaws
import KE.KMinKey
import PySem.Challenge.RW_reelcut_k61_flat_one_table
set_option maxHeartbeats 4000000
set_option Elab.async false
set_option linter.all false
set_option maxRecDepth 100000
namespace L2
open PySem PySem.Spec PyProof.Rows
abbrev Key:=Sum Int Str
def qFg:Key→Value→Bool
 | .inl k,v=>Value.isInt k v
 | .inr x,v=>Value.isStrOf x v
def qSg (w:World):Key→Int
 | .inl k=>hashInt k
 | .inr x=>hashStr w x
theorem jJ:∀ {k:Key} {v:Value},qFg k v=true→(∃ i t,k=Sum.inl i∧v=Value.int i t)∨(∃ x t,k=Sum.inr x∧v=Value.str x t)
 | .inl i,v,h=>by
  obtain⟨t,e⟩:=Value.isInt_shape (k:=i) (v:=v) h
  exact .inl ⟨i,t,rfl,e⟩
 | .inr x,v,h=>by
  obtain⟨t,e⟩:=Value.isStrOf_shape (x:=x) (v:=v) h
  exact .inr ⟨x,t,rfl,e⟩
theorem qIu (i:Int)(t:Tok):qFg (.inl i) (.int i t)=true:=by simp [qFg,Value.isInt]
theorem qJz (x:Str)(t:Tok):qFg (.inr x) (.str x t)=true:=by simp [qFg,Value.isStrOf]
theorem qP1 (a b:Int):decide ((Sum.inl a:Key)=Sum.inl b)=(a == b):=by
 by_cases e:a=b
 · subst e;simp
 · have h:¬ (Sum.inl a:Key)=Sum.inl b:=fun q=>e (Sum.inl.inj q)
   rw [decide_eq_false h]
   exact(beq_eq_false_iff_ne.mpr e).symm
theorem qQb (a b:Str):decide ((Sum.inr a:Key)=Sum.inr b)=decide (a=b):=by
 by_cases e:a=b
 · subst e;simp
 · have h:¬ (Sum.inr a:Key)=Sum.inr b:=fun q=>e (Sum.inr.inj q)
   rw [decide_eq_false h,decide_eq_false e]
theorem qQd (a:Int)(b:Str):decide ((Sum.inl a:Key)=Sum.inr b)=false:=decide_eq_false (fun q=>nomatch q)
theorem qO2 (a:Str)(b:Int):decide ((Sum.inr a:Key)=Sum.inl b)=false:=decide_eq_false (fun q=>nomatch q)
def jZ (prog:Program)(w:World):PySem.KeyKind prog w Key where
 is:=qFg
 hash:=qSg w
 inj:=fun v a b ha hb=>by
  rcases jJ ha with ⟨i,t,rfl,rfl⟩ | ⟨x,t,rfl,rfl⟩
  · rcases jJ hb with ⟨j,u,rfl,e⟩ | ⟨y,u,rfl,e⟩
    · injection e with e1 _;rw [e1]
    · exact nomatch e
  · rcases jJ hb with ⟨j,u,rfl,e⟩ | ⟨y,u,rfl,e⟩
    · exact nomatch e
    · injection e with e1 _;rw [e1]
 byValue:=fun k v h=>by
  rcases jJ h with ⟨i,t,rfl,rfl⟩ | ⟨x,t,rfl,rfl⟩ <;> rfl
 pyHash:=fun hv h=>by
  rcases jJ hv with ⟨i,t,rfl,rfl⟩ | ⟨x,t,rfl,rfl⟩
  · exact wpAny_pyHash_int h
  · exact wpAny_pyHash_str h
 eqBool:=fun hu hv h=>by
  rcases jJ hu with ⟨i,t,rfl,rfl⟩ | ⟨x,t,rfl,rfl⟩
  · rcases jJ hv with ⟨j,u,rfl,rfl⟩ | ⟨y,u,rfl,rfl⟩
    · rw [qP1] at h;exact wpAny_eqBool_int h
    · rw [qQd] at h;exact SeqAt.EqAt.int_str i t y u _ _ _ _ h
  · rcases jJ hv with ⟨j,u,rfl,rfl⟩ | ⟨y,u,rfl,rfl⟩
    · rw [qO2] at h;exact SeqAt.EqAt.str_int x t j u _ _ _ _ h
    · rw [qQb] at h;exact wpAny_eqBool_str h
 «strs»:=fun k x t v h=>by
  rcases jJ h with ⟨i,u,rfl,e⟩ | ⟨y,u,rfl,e⟩
  · exact nomatch e
  · injection e with e1 _
    subst e1
    cases v <;> rfl
theorem qEv (prog:Program)(w:World)(i:Int)(t:Tok):(jZ prog w).is (.inl i) (.int i t)=true:=qIu i t
theorem qE3 (prog:Program)(w:World)(x:Str)(t:Tok):(jZ prog w).is (.inr x) (.str x t)=true:=qJz x t
end L2
namespace L2
open PySem PySem.Spec PyProof.Rows
inductive V where
 | non | bl (b:Bool) | int (i:Int) | str (x:Str) | byt (b:Array UInt8) | flt (b:UInt64) | ref (a:Addr) | ty (n:String)
 deriving DecidableEq
def RelV:V→Value→Prop
 | .non,u=>u=Value.none
 | .bl b,u=>u=Value.bool b
 | .int i,u=>∃ t,u=Value.int i t
 | .str x,u=>∃ t,u=Value.str x t
 | .byt b,u=>∃ t,u=Value.bytes b t
 | .flt b,u=>∃ t,u=Value.float b t
 | .ref a,u=>u=Value.ref a
 | .ty n,u=>u=Value.type n
abbrev Vals:List V→List Value→Prop:=Paired RelV
theorem Vals.length {xs:List V}{us:List Value}(r:Vals xs us):xs.length=us.length:=Paired.length r
theorem Vals.get:∀ {xs:List V} {us:List Value} {i:Nat} {x:V},Vals xs us→xs[i]? =some x→∃ u,us[i]? =some u∧RelV x u
 | _,_,_,_,.nil,e=>by simp at e
 | _,_,0,_,.cons r _,e=>by simp at e;subst e;exact⟨_,rfl,r⟩
 | _,_,i+1,x,.cons _ t,e=>by
  obtain⟨u,h1,h2⟩:=Vals.get (i:=i) (x:=x) t (by simpa using e)
  exact⟨u,by simpa using h1,h2⟩
theorem Vals.set {x:V}{u:Value}(r:RelV x u):∀ {xs:List V} {us:List Value} (i:Nat),Vals xs us→Vals (xs.set i x) (us.set i u)
 | _,_,_,.nil=>.nil
 | _,_,0,.cons _ t=>.cons r t
 | _,_,i+1,.cons q t=>.cons q (Vals.set r i t)
theorem Vals.append:∀ {xs ys:List V} {us ws:List Value},Vals xs us→Vals ys ws→Vals (xs++ys) (us++ws)
 | _,_,_,_,.nil,s=>s
 | _,_,_,_,.cons r t,s=>.cons r (Vals.append t s)
theorem Vals.take:∀ {xs:List V} {us:List Value} (n:Nat),Vals xs us→Vals (xs.take n) (us.take n)
 | _,_,0,_=>.nil
 | _,_,_+1,.nil=>.nil
 | _,_,n+1,.cons r t=>.cons r (Vals.take n t)
theorem Vals.drop:∀ {xs:List V} {us:List Value} (n:Nat),Vals xs us→Vals (xs.drop n) (us.drop n)
 | _,_,0,r=>r
 | _,_,_+1,.nil=>.nil
 | _,_,n+1,.cons _ t=>Vals.drop n t
def RelO:Option V→Option Value→Prop
 | some v,some u=>RelV v u
 | none,none=>True
 | _,_=>False
def KV {κ:Type}:List (κ × V)→List (κ × Value)→Prop:=Paired fun(p:κ × V) (q:κ × Value)=>p.1=q.1∧RelV p.2 q.2
def kV:Key→V
 | .inl i=>.int i
 | .inr x=>.str x
inductive HO where
 | lst (xs:List V)
 | tup (xs:List V)
 | dK (kvs:List (Key × V)) | dT (kvs:List (List Key × V))
 | set (S:Int→Bool) (n:Nat)
 | ins (C dx:Addr) (fs:List (Str × V))
 | own (x:Addr)
 | xd (fs:List (Str × V))
 | met (f x:Addr)
 | rng (lo hi:Int)
 | frz (o:Obj) (u:HO)
 | tbl (ps:Array Value)
 | ext (φ:Heap→Prop)
abbrev Hp:=Addr→Option HO
def upd (H:Hp)(a:Addr)(o:HO):Hp:=fun b=>if b=a then some o else H b
theorem qD {H:Hp}{a:Addr}{o:HO}:upd H a o a=some o:=by unfold upd;rw [if_pos rfl]
theorem qX {H:Hp}{a b:Addr}{o:HO}(h:b≠a):upd H a o b=H b:=by unfold upd;rw [if_neg h]
theorem qNf {H:Hp}{a:Addr}{o u:HO}:upd (upd H a o) a u=upd H a u:=by
 funext b;unfold upd;split <;> rfl
theorem qQ2 {H:Hp}{a b:Addr}{o u:HO}(h:H a=some o)(h':H b=some u)(d:o≠u):a≠b:=by
 intro e;subst e;rw [h] at h';exact d (Option.some.inj h')
theorem qg {H:Hp}{a b:Addr}{o:HO}(h:H a=some o)(h':H b=none):a≠b:=by
 intro e;subst e;rw [h] at h';cases h'
section
variable (P : Program) (w : World)
def ObjOk (H:Hp)(h:Heap)(a:Addr):HO→Prop
 | .lst xs=>xs.length≤sizeLine∧∃ (its:List Value) (n:Nat),Vals xs its∧h.get? a=some {cls:=.type "list",data:=.seq its.toArray n}
 | .tup xs=>xs.length≤sizeLine∧∃ its:List Value,Vals xs its∧IsTup h a its.toArray
 | .dK kvs=>kvs.length≤sizeLine∧(a == sysModules)=false∧∃ vs,KV kvs vs∧h.DictOf (jZ P w) a vs
 | .dT kvs=>kvs.length≤sizeLine∧(a == sysModules)=false∧∃ xs:List (List Key × Addr × Value),
  Paired (fun(p:List Key × V) (q:List Key × Addr × Value)=>p.1=q.1∧H q.2.1=some (.tup (p.1.map kV))∧RelV p.2 q.2.2) kvs xs∧
  ∃ o es ep,h.get? a=some o∧o.ExactDict∧o.data= .dict es ep∧es.toList=xs.map (entryOfKey (tupleKind (jZ P w)))∧(xs.map (·.1)).Nodup
 | .set S n=>h.SetOf (intKind P w) a S n
 | .ins C dx fs=>H dx=some (.own a)∧fs.length≤1000∧dx≠a∧h.get? a=some (PySem.W.instObj C dx)∧
  ∃ mA,h.Ns1 dx mA∧(∀ f,RelO (fs.lookup f) (mA f))∧PySem.Within mA (fs.map (·.1))
 | .own _=>∃ o,h.get? a=some o
 | .xd fs=>∃ mA,h.Ns1 a mA∧∀ f,RelO (fs.lookup f) (mA f)
 | .rng lo hi=>∃ t u v,h.get? a=some {cls:=.type "range",data:=.fields #[.int lo t,.int hi u,.int 1 v]}
 | .frz o u=>h.get? a=some o∧ObjOk H h a u
 | .tbl ps=>h.get? a=some {cls:=.none,data:=.fields ps}
 | .met f x=>h.get? a=some (PySem.W.methodObj (.ref f) (.ref x))
 | .ext φ=>φ h∧(∃ o,h.get? a=some o)∧∀ h1 h2:Heap,φ h1→(∀ o,h1.get? a=some o→h2.get? a=some o)→φ h2
def HOk (H:Hp)(h:Heap):Prop:=∀ a o,H a=some o→ObjOk P w H h a o
end
section
variable {P : Program} {w : World} {H H' : Hp} {h h' : Heap} {a : Addr} {o : HO}
theorem ObjOk.lt (x:ObjOk P w H h a o):a < h.objs.size:=by
 cases o with
 | lst xs=>obtain⟨_,_,_,_,e⟩:=x;exact Heap.lt_size e
 | tup xs=>obtain⟨_,_,_,p⟩:=x;exact p.lt
 | dK kvs=>obtain⟨_,_,_,_,o,_,_,e,_⟩:=x;exact Heap.lt_size e
 | dT kvs=>obtain⟨_,_,_,_,o,_,_,e,_⟩:=x;exact Heap.lt_size e
 | set S n=>obtain⟨o,_,_,_,e,_⟩:=x;exact Heap.lt_size e
 | ins C dx fs=>obtain⟨_,_,_,e,_⟩:=x;exact Heap.lt_size e
 | own y=>obtain⟨_,e⟩:=x;exact Heap.lt_size e
 | xd fs=>obtain⟨_,⟨_,_,_,e,_⟩,_⟩:=x;exact Heap.lt_size e
 | rng lo hi=>obtain⟨_,_,_,e⟩:=x;exact Heap.lt_size e
 | frz ob u=>obtain⟨e,_⟩:=x;exact Heap.lt_size e
 | tbl ps=>exact Heap.lt_size (show h.get? a=some _ from x)
 | met f y=>exact Heap.lt_size (show h.get? a=some _ from x)
 | ext φ=>obtain⟨_,⟨_,e⟩,_⟩:=x;exact Heap.lt_size e
theorem Paired.mapP {α β:Type}{F G:α→β→Prop}:∀ {l₁:List α} {l₂:List β},Paired F l₁ l₂→(∀ a b,F a b→G a b)→Paired G l₁ l₂
 | _,_,.nil,_=>.nil
 | _,_,.cons r t,f=>.cons (f _ _ r) (Paired.mapP t f)
theorem ObjOk.stay (x:ObjOk P w H h a o)(k:∀ b u,(b=a∨H b=some (.own a))→h.get? b=some u→h'.get? b=some u)
 (ho:∀ b,H b=some (.own a)→H' b=some (.own a)) (ht:∀ b xs,H b=some (.tup xs)→H' b=some (.tup xs)):ObjOk P w H' h' a o:=by
 induction o with
 | lst xs=>obtain⟨z,its,n,r,e⟩:=x;exact⟨z,its,n,r,k _ _ (.inl rfl) e⟩
 | tup xs=>obtain⟨z,its,r,ob,e,c⟩:=x;exact⟨z,its,r,ob,k _ _ (.inl rfl) e,c⟩
 | dK kvs=>obtain⟨z,y,vs,r,ob,es,ep,e,c⟩:=x;exact⟨z,y,vs,r,ob,es,ep,k _ _ (.inl rfl) e,c⟩
 | dT kvs=>
  obtain⟨z,y,xs,r,ob,es,ep,e,c⟩:=x
  exact⟨z,y,xs,Paired.mapP r fun p q z=>⟨z.1,ht _ _ z.2.1,z.2.2⟩,ob,es,ep,k _ _ (.inl rfl) e,c⟩
 | set S n=>obtain⟨ob,es,ep,t,e,c⟩:=x;exact⟨ob,es,ep,t,k _ _ (.inl rfl) e,c⟩
 | ins C dx fs=>
  obtain⟨d,z,ne,e,mA,⟨od,es,ep,e2,c⟩,r⟩:=x
  exact⟨ho _ d,z,ne,k _ _ (.inl rfl) e,mA,⟨od,es,ep,k _ _ (.inr d) e2,c⟩,r⟩
 | own y=>obtain⟨ob,e⟩:=x;exact⟨ob,k _ _ (.inl rfl) e⟩
 | xd fs=>obtain⟨mA,⟨od,es,ep,e,c⟩,r⟩:=x;exact⟨mA,⟨od,es,ep,k _ _ (.inl rfl) e,c⟩,r⟩
 | rng lo hi=>obtain⟨t,u,v,e⟩:=x;exact⟨t,u,v,k _ _ (.inl rfl) e⟩
 | frz ob u ih=>obtain⟨e,q⟩:=x;exact⟨k _ _ (.inl rfl) e,ih q⟩
 | tbl ps=>
  have e:h.get? a=some {cls:=.none,data:=.fields ps}:=x
  show h'.get? a=some {cls:=.none,data:=.fields ps}
  exact k a _ (.inl rfl) e
 | met f y=>
  have e:h.get? a=some (PySem.W.methodObj (.ref f) (.ref y)):=x
  show h'.get? a=some (PySem.W.methodObj (.ref f) (.ref y))
  exact k a _ (.inl rfl) e
 | ext φ=>obtain⟨p,⟨o,e⟩,st⟩:=x;exact⟨st _ _ p fun o q=>k _ _ (.inl rfl) q,⟨o,k _ _ (.inl rfl) e⟩,st⟩
theorem HOk.lt (x:HOk P w H h)(e:H a=some o):a < h.objs.size:=(x a o e).lt
theorem HOk.fresh (x:HOk P w H h)(e:h.objs.size≤a):H a=none:=by
 cases q:H a with
 | none=>rfl
 | some u=>exact absurd (Nat.lt_of_lt_of_le (x.lt q) e) (Nat.lt_irrefl _)
theorem HOk.kept (x:HOk P w H h)(k:∀ b u,h.get? b=some u→h'.get? b=some u):HOk P w H h':=fun a o e=>
 (x a o e).stay (fun b u _ q=>k b u q) (fun _ q=>q) fun _ _ q=>q
theorem HOk.laid (x:HOk P w H h)(k:∀ b u,h.get? b=some u→h'.get? b=some u)(hp:h.objs.size≤a)(new:ObjOk P w (upd H a o) h' a o):HOk P w (upd H a o) h':=fun b u e=>by
 have hn:=x.fresh hp
 by_cases hb:b=a
 · subst hb;rw [qD] at e;cases e;exact new
 · rw [qX hb] at e
   exact(x b u e).stay (fun c v _ q=>k c v q) (fun c q=>by rw [qX (qg q hn)];exact q) fun c xs q=>by rw [qX (qg q hn)];exact q
end
def Rd (H:Hp)(a:Addr)(u:HO):Prop:=H a=some u∨∃ o,H a=some (.frz o u)
theorem Rd.ok {P:Program}{w:World}{H:Hp}{h:Heap}{a:Addr}{u:HO}(r:Rd H a u)(x:HOk P w H h):ObjOk P w H h a u:=by
 rcases r with r | ⟨o,r⟩
 · exact x a u r
 · obtain⟨_,q⟩:=x a _ r
   exact q
def Mut:Option HO→Prop
 | some (.lst _)=>True
 | some (.dK _)=>True
 | some (.dT _)=>True
 | some (.set _ _)=>True
 | some (.ins _ _ _)=>True
 | some (.ext _)=>True
 | _=>False
section
variable {P : Program} {w : World} {H : Hp} {h h' : Heap} {x e : Addr} {o' : HO}
theorem HOk.write (ok:HOk P w H h)(mu:Mut (H x))(he:e=x∨H e=some (.own x))(k:∀ b u,b≠e→h.get? b=some u→h'.get? b=some u)(heo:∃ u,h'.get? e=some u)
 (new:ObjOk P w (upd H x o') h' x o'):HOk P w (upd H x o') h':=fun b u q=>by
 have nown:∀ c y,H c=some (.own y)→c≠x:=fun c y r z=>by subst z;rw [r] at mu;exact mu
 have ntup:∀ c xs,H c=some (.tup xs)→c≠x:=fun c xs r z=>by subst z;rw [r] at mu;exact mu
 by_cases hb:b=x
 · subst hb;rw [qD] at q;cases q;exact new
 · rw [qX hb] at q
   by_cases hbe:b=e
   · have q':H b=some (.own x):=by
      rcases he with z | z
      · exact absurd (hbe.trans z) hb
      · rw [hbe];exact z
     rw [q] at q';cases q'
     obtain⟨v,hv⟩:=heo
     exact⟨v,by rw [hbe];exact hv⟩
   · refine(ok b u q).stay (fun c v hc r=>k c v ?_ r) (fun c r=>by rw [qX (nown c b r)];exact r) fun c xs r=>by rw [qX (ntup c xs r)];exact r
     rcases hc with rfl | hc
     · exact hbe
     · rintro rfl
       rcases he with z | z
       · exact nown c b hc z
       · rw [hc] at z;cases z;exact hb rfl
end
structure Un (fs ex:List Addr)(H H':Hp)(h h':Heap):Prop where
 keep:∀ b o,h.get? b=some o→H b=none→b ∉ fs→b ∉ ex→h'.get? b=some o
 slot:∀ b o,h.get? b=some o→H b=none→b∈fs→b ∉ ex→∃ sl,h'.get? b=some {o with slots:=sl}
 free:∀ b o,h.get? b=some o→H b=none→b ∉ ex→H' b=none
 there:∀ b o,h.get? b=some o→b ∉ ex→∃ o',h'.get? b=some o'
 tups:∀ b xs,H b=some (.tup xs)→H' b=some (.tup xs)
 frzs:∀ b o u,H b=some (.frz o u)→H' b=some (.frz o u)
 tbls:∀ b ps,H b=some (.tbl ps)→∃ more,H' b=some (.tbl (ps++more))
section
variable {fs fs' ex ex' : List Addr} {H H1 H2 : Hp} {h h1 h2 h' : Heap} {a x e : Addr} {o : HO}
theorem Un.any (u:Un fs ex H H1 h h1){b:Addr}{ob:Obj}(q:h.get? b=some ob)(n:H b=none)(hx:b ∉ ex):∃ sl,h1.get? b=some {ob with slots:=sl}:=by
 by_cases hb:b∈fs
 · exact u.slot b ob q n hb hx
 · exact⟨ob.slots,u.keep b ob q n hb hx⟩
theorem Un.trans (a:Un fs ex H H1 h h1)(b:Un fs ex H1 H2 h1 h2):Un fs ex H H2 h h2 where
 keep:=fun c ob q n hc hx=>b.keep c ob (a.keep c ob q n hc hx) (a.free c ob q n hx) hc hx
 slot:=fun c ob q n hc hx=>by
  obtain⟨sl,e1⟩:=a.slot c ob q n hc hx
  obtain⟨sl',e2⟩:=b.slot c _ e1 (a.free c ob q n hx) hc hx
  exact⟨sl',e2⟩
 free:=fun c ob q n hx=>by
  obtain⟨o',e1⟩:=a.there c ob q hx
  exact b.free c o' e1 (a.free c ob q n hx) hx
 there:=fun c ob q hx=>by
  obtain⟨o',e1⟩:=a.there c ob q hx
  exact b.there c o' e1 hx
 tups:=fun c xs q=>b.tups c xs (a.tups c xs q)
 frzs:=fun c ob xs q=>b.frzs c ob xs (a.frzs c ob xs q)
 tbls:=fun c ps q=>by
  obtain⟨m1,e1⟩:=a.tbls c ps q
  obtain⟨m2,e2⟩:=b.tbls c _ e1
  exact⟨m1++m2,by rw [e2,Array.append_assoc]⟩
theorem Un.kept (k:∀ b u,h.get? b=some u→h'.get? b=some u):Un fs ex H H h h':=
 ⟨fun b ob q _ _ _=>k b ob q,fun b ob q _ _ _=>⟨ob.slots,k b ob q⟩,fun _ _ _ n _=>n,fun b ob q _=>⟨ob,k b ob q⟩,fun _ _ q=>q,fun _ _ _ q=>q,fun _ ps q=>⟨#[],by rw [q];simp⟩⟩
theorem Un.refl:Un fs ex H H h h:=Un.kept fun _ _ q=>q
theorem Un.laid (k:∀ b u,h.get? b=some u→h'.get? b=some u)(hp:h.objs.size≤a)(hn:H a=none):Un fs ex H (upd H a o) h h' where
 keep:=fun b u q _ _ _=>k b u q
 slot:=fun b u q _ _ _=>⟨u.slots,k b u q⟩
 free:=fun b u q n _=>by rw [qX (Nat.ne_of_lt (Nat.lt_of_lt_of_le (Heap.lt_size q) hp))];exact n
 there:=fun b u q _=>⟨u,k b u q⟩
 tups:=fun b xs q=>by rw [qX (qg q hn)];exact q
 frzs:=fun b u xs q=>by rw [qX (qg q hn)];exact q
 tbls:=fun b ps q=>⟨#[],by rw [qX (qg q hn),q];simp⟩
theorem Un.write (mu:Mut (H x))(he:e=x∨H e=some (.own x))(k:∀ b u,b≠e→h.get? b=some u→h'.get? b=some u)(heo:∃ u,h'.get? e=some u):Un fs ex H (upd H x o) h h':=by
 have hx:∀ b,H b=none→b≠x:=fun b n z=>by subst z;rw [n] at mu;exact mu
 have hb:∀ b,H b=none→b≠e:=fun b n z=>by
  subst z
  rcases he with r | r
  · exact hx b n r
  · rw [n] at r;cases r
 have hm:∀ b u,H b=some u→¬ Mut (some u)→b≠x:=fun b u q nm z=>by subst z;rw [q] at mu;exact nm mu
 refine⟨fun b u q n _ _=>k b u (hb b n) q,fun b u q n _ _=>⟨u.slots,k b u (hb b n) q⟩,fun b u q n _=>by rw [qX (hx b n)];exact n,fun b u q _=>?_,
  fun b xs q=>by rw [qX (hm b _ q fun z=>z)];exact q,fun b u xs q=>by rw [qX (hm b _ q fun z=>z)];exact q,fun b ps q=>⟨#[],by rw [qX (hm b _ q fun z=>z),q];simp⟩⟩
 by_cases hbe:b=e
 · subst hbe;exact heo
 · exact⟨u,k b u hbe q⟩
end
def trk (h:Heap)(H:Hp):List Addr:=(List.range h.objs.size).filter fun a=>(H a).isSome
def qK2 (h:Heap)(H:Hp):Heap:=PySem.W.hideAll h (trk h H)
theorem qI7 (h:Heap)(H:Hp):(qK2 h H).objs.size=h.objs.size:=PySem.W.hideAll_size _ _
theorem qLq {h:Heap}{H:Hp}{b:Addr}{o:Obj}(e:h.get? b=some o)(n:H b=none):(qK2 h H).get? b=some o:=
 PySem.W.hideAll_get _ e fun hm=>by
  have q:(H b).isSome=true:=(List.mem_filter.mp hm).2
  rw [n] at q;simp at q
theorem qN3 {h:Heap}{H:Hp}{b:Addr}{o:Obj}(e:(qK2 h H).get? b=some o):h.get? b=some o∧H b=none:=by
 have e':h.get? b=some o:=PySem.W.of_hideAll (trk h H) e
 refine⟨e',?_⟩
 cases q:H b with
 | none=>rfl
 | some x=>
  have hm:b∈trk h H:=List.mem_filter.mpr ⟨List.mem_range.mpr (Heap.lt_size e'),by simp [q]⟩
  have z:(qK2 h H).get? b=none:=PySem.W.hideAll_none (trk h H) hm
  rw [z] at e;cases e
def qNn (g h:Heap)(L:Addr):List (Addr × Obj):=(List.range h.objs.size).filterMap fun a=>if a=L∨(g.get? a).isSome=true then none else (h.get? a).map fun o=>(a,o)
def rest (g h:Heap)(L d:Addr):List (Addr × Obj):=(qNn g h L).filter fun p=>decide (p.1≠d)
end L2
namespace L2
open PySem PySem.Spec PyProof.Rows
structure Mod (K:PySem.W.Frag)(mg:Str→Option Value)(base:Heap):Prop where
 kin:K.In base
 glob:base.Ns mainGlobals mg
 blt:∃ mb,base.Ns builtinsNs mb∧∀ x:Str,x≠"__name__"→mb x=bootBuiltins x
 nolimit:base.NoLimit
structure Cx where
 prog:Program
 w:World
 K:PySem.W.Frag
 mg:Str→Option Value
 base:Heap
 A:Around
 N:List Str
 s₀:Shared
 H₀:Hp
 env:Env
 outer:List Env
 stack:List Env
 ex:List Addr
 fn:Str→Bool
 calm:Bool
 pn:List (Addr × Obj)
 xe:Value→Shared→Prop
def frs (l:List Env):List Addr:=l.filterMap (·.frame)
abbrev Cx.fs (X:Cx):List Addr:=frs X.outer
def Vis (sc:Scope)(x:Str):Prop:=sc.names.lookup x=some .local∨sc.names.lookup x=some .cell∨sc.names.lookup x=some .free
def Loc (sc:Scope)(x:Str):Prop:=sc.names.lookup x=some .local∨sc.names.lookup x=some .cell
def qR8 (env:Env)(h:Heap)(m:Str→Option Value)(x:Str)(u:Value):Prop:=
 (env.kindOf x=some .local∧m x=some u)∨((env.kindOf x=some .cell∨env.kindOf x=some .free)∧∃ c,env.cells.lookup x=some c∧h.IsCell c (some u))
structure Cx.Ok (X:Cx):Prop where
 mod:Mod X.K X.mg X.base
 kind:X.env.scope.kind= .function
 glob:X.env.globals=mainGlobals
 blt:X.env.builtins=builtinsNs
 above:X.s₀.heap.objs.size≤X.env.locals
 inj:∀ x y c,X.env.cells.lookup x=some c→X.env.cells.lookup y=some c→x=y
 has:∀ x,(X.env.kindOf x=some .cell∨X.env.kindOf x=some .free)→∃ c,X.env.cells.lookup x=some c
 cab:∀ x c,X.fn x=true→X.env.cells.lookup x=some c→X.s₀.heap.objs.size≤c
 hd:X.calm=true→X.A.handled=none
 frames:X.A.frames=some X.stack
 stk:X.stack=X.outer∨(X.stack=X.env::X.outer∧X.env.frame=some X.env.locals)
 exf:∀ b∈X.ex,b≠X.env.locals∧∀ x c,X.env.cells.lookup x=some c→c≠b
 bs:∀ b o,X.base.get? b=some o→X.s₀.heap.get? b=some o∧X.H₀ b=none
 bsz:X.base.objs.size≤X.s₀.heap.objs.size
 noex:∀ b o,X.base.get? b=some o→b ∉ X.ex
 exfs:∀ b∈X.ex,b ∉ X.fs
 funs:X.s₀.heap.FunFrames X.base X.outer
 frf:∀ b∈X.fs,X.H₀ b=none
structure Inv (X:Cx)(pins:List (Addr × Obj))(σ:List (Option V))(H:Hp)(s:Shared):Prop where
 ok:X.Ok
 os:s.os=X.s₀.os
 bare:AllBare s.gens
 base:Un X.fs X.ex X.H₀ H X.s₀.heap s.heap
 loc:∃ m,s.heap.Ns X.env.locals m∧∀ (i:Nat) (x:Str) (v:V),X.N[i]? =some x→σ[i]? =some (some v)→Vis X.env.scope x→∃ u,RelV v u∧qR8 X.env s.heap m x u
 cell:∀ x c,X.env.cells.lookup x=some c→∃ v,s.heap.IsCell c v
 free:H X.env.locals=none
 freeC:∀ x c,X.env.cells.lookup x=some c→H c=none
 pin:∀ p∈X.pn++pins,s.heap.get? p.1=some p.2∧H p.1=none∧p.1≠X.env.locals∧p.1 ∉ X.fs∧∀ v,p.2.data≠ .cell v
 hok:HOk X.prog X.w H s.heap
 len:σ.length=X.N.length
section
variable {X : Cx} {pins : List (Addr × Obj)} {σ : List (Option V)} {H H' : Hp} {s : Shared} {h' : Heap}
theorem Cx.Ok.nofr (ok:X.Ok){b:Addr}{o:Obj}(e:X.base.get? b=some o):b ∉ X.fs:=fun hb=>by
 have:=(ok.funs.mem hb).1
 rw [e] at this;cases this
theorem Inv.bs (I:Inv X pins σ H s):∀ b o,X.base.get? b=some o→s.heap.get? b=some o∧H b=none:=fun b o e=>
 ⟨I.base.keep b o (I.ok.bs b o e).1 (I.ok.bs b o e).2 (I.ok.nofr e) (I.ok.noex b o e),I.base.free b o (I.ok.bs b o e).1 (I.ok.bs b o e).2 (I.ok.noex b o e)⟩
theorem Inv.bk (I:Inv X pins σ H s):∀ b o,X.base.get? b=some o→s.heap.get? b=some o:=fun b o e=>(I.bs b o e).1
theorem Inv.mod (I:Inv X pins σ H s):Mod X.K X.mg X.base:=I.ok.mod
theorem Inv.kIn (I:Inv X pins σ H s):X.K.In s.heap:=I.ok.mod.kin.keeps I.bk
theorem Inv.nolimit (I:Inv X pins σ H s):s.heap.NoLimit:=I.ok.mod.nolimit.keeps I.bk
theorem Inv.fr (I:Inv X pins σ H s):∃ m,Fr X.base X.env.locals s.heap m:=
 let ⟨m,hn,_⟩:=I.loc
 ⟨m,hn,I.bk,Nat.le_trans I.ok.bsz I.ok.above⟩
theorem Inv.lt (I:Inv X pins σ H s):X.env.locals < s.heap.objs.size:=let ⟨_,hn,_⟩:=I.loc;hn.lt
theorem Inv.sz (I:Inv X pins σ H s):X.s₀.heap.objs.size≤s.heap.objs.size:=Nat.le_trans I.ok.above (Nat.le_of_lt I.lt)
theorem Inv.nofs (I:Inv X pins σ H s){a:Addr}(h:s.heap.objs.size≤a):a ∉ X.fs:=fun hb=>by
 obtain⟨_,o,ho,_⟩:=I.ok.funs.mem hb
 exact absurd (Nat.lt_of_lt_of_le (Heap.lt_size ho) (Nat.le_trans I.sz h)) (Nat.lt_irrefl _)
theorem Inv.cne (I:Inv X pins σ H s):∀ x c,X.env.cells.lookup x=some c→c≠X.env.locals:=fun x c e z=>by
 obtain⟨v,o,ho,hd⟩:=I.cell x c e
 obtain⟨m,⟨o',es,ep,ho',hd',_⟩,_⟩:=I.loc
 rw [z,ho'] at ho;cases ho;rw [hd'] at hd;cases hd
theorem Inv.funs (I:Inv X pins σ H s):s.heap.FunFrames X.base X.outer:=by
 have all:∀ (l:List Env),(∀ b∈frs l,b∈X.fs)→X.s₀.heap.FunFrames X.base l→s.heap.FunFrames X.base l:=by
  intro l
  induction l with
  | nil=>intro _ _;trivial
  | cons env r ih=>
   intro hs hl
   obtain⟨hk,⟨L,o,hf,hn,ho,hd⟩,hr⟩:=hl
   have hL:L∈X.fs:=hs L (by unfold frs;rw [List.filterMap_cons,hf];exact List.mem_cons_self)
   obtain⟨sl,e⟩:=I.base.slot L o ho (I.ok.frf L hL) hL fun z=>I.ok.exfs L z hL
   exact⟨hk,⟨L,_,hf,hn,e,hd⟩,ih (fun b hb=>hs b (by unfold frs;rw [List.filterMap_cons,hf];exact List.mem_cons_of_mem _ hb)) hr⟩
 exact all X.outer (fun _ hb=>hb) I.ok.funs
theorem Inv.stack (I:Inv X pins σ H s):s.heap.FunFrames X.base X.stack:=by
 rcases I.ok.stk with e | ⟨e,hf⟩
 · rw [e];exact I.funs
 · rw [e]
   obtain⟨m,hn,_⟩:=I.loc
   refine .cons (by rw [I.ok.kind];decide) hf hn ?_ I.funs
   exact Heap.get?_none_of_le (Nat.le_trans I.ok.bsz I.ok.above)
theorem Inv.stkSub (I:Inv X pins σ H s):∀ b∈frs X.stack,b∈X.env.locals::X.fs:=fun b hb=>by
 rcases I.ok.stk with e | ⟨e,hf⟩
 · rw [e] at hb;exact List.mem_cons_of_mem _ hb
 · rw [e] at hb
   unfold frs at hb
   rw [List.filterMap_cons,hf] at hb
   exact hb
theorem Inv.stkFree (I:Inv X pins σ H s):∀ b∈frs X.stack,H b=none:=fun b hb=>by
 rcases List.mem_cons.mp (I.stkSub b hb) with e | hb
 · rw [e];exact I.free
 · obtain⟨_,o,ho,_⟩:=I.ok.funs.mem hb
   exact I.base.free b o ho (I.ok.frf b hb) fun z=>I.ok.exfs b z hb
theorem Inv.step {g':Array GenState}{t':Nat}{d':Drawn}{ch:List Addr}(I:Inv X pins σ H s)
 (hch:∀ b∈ch,(b∈X.ex∨X.s₀.heap.objs.size≤b)∧b≠X.env.locals∧(∀ x c,X.env.cells.lookup x=some c→c≠b)∧∀ p∈X.pn++pins,p.1≠b)
 (keep:∀ b o,b≠X.env.locals→b ∉ X.fs→b ∉ ch→s.heap.get? b=some o→H b=none→h'.get? b=some o)
 (slot:∀ b o,b≠X.env.locals→b∈X.fs→b ∉ ch→s.heap.get? b=some o→H b=none→∃ sl,h'.get? b=some {o with slots:=sl}) (free:∀ b o,b ∉ ch→s.heap.get? b=some o→H b=none→H' b=none)
 (there:∀ b o,b ∉ ch→s.heap.get? b=some o→∃ o',h'.get? b=some o')
 (tups:∀ b xs,H b=some (.tup xs)→H' b=some (.tup xs)) (frzs:∀ b o u,H b=some (.frz o u)→H' b=some (.frz o u)) (tbls:∀ b ps,H b=some (.tbl ps)→∃ more,H' b=some (.tbl (ps++more)))
 (ns:∀ m,s.heap.Ns X.env.locals m→h'.Ns X.env.locals m) (hok:HOk X.prog X.w H' h') (hg:AllBare g'):
 Inv X pins σ H' {s with heap:=h',gens:=g',drawn:=d',toks:=t'}:=by
 have neL:∀ b o,X.s₀.heap.get? b=some o→b≠X.env.locals:=fun b o e=>Nat.ne_of_lt (Nat.lt_of_lt_of_le (Heap.lt_size e) I.ok.above)
 have neC:∀ b o,X.s₀.heap.get? b=some o→b ∉ X.ex→b ∉ ch:=fun b o e hx hb=>by
  rcases (hch b hb).1 with z | z
  · exact hx z
  · exact absurd (Nat.lt_of_lt_of_le (Heap.lt_size e) z) (Nat.lt_irrefl _)
 have cellK:∀ x c,X.env.cells.lookup x=some c→∀ v,s.heap.IsCell c v→h'.IsCell c v:=fun x c e v ⟨o,ho,hd⟩=>by
  have nch:c ∉ ch:=fun z=>(hch c z).2.2.1 x c e rfl
  by_cases hc:c∈X.fs
  · obtain⟨sl,q⟩:=slot c o (I.cne x c e) hc nch ho (I.freeC x c e)
    exact⟨_,q,hd⟩
  · exact⟨o,keep c o (I.cne x c e) hc nch ho (I.freeC x c e),hd⟩
 refine⟨I.ok,I.os,hg,⟨fun b o e n hb hx=>?_,fun b o e n hb hx=>?_,fun b o e n hx=>?_,fun b o e hx=>?_,fun b xs e=>tups b xs (I.base.tups b xs e),fun b o xs e=>frzs b o xs (I.base.frzs b o xs e),fun b ps e=>?_⟩,?_,fun x c e=>?_,?_,fun x c e=>?_,fun p hp=>?_,hok,I.len⟩
 · exact keep b o (neL b o e) hb (neC b o e hx) (I.base.keep b o e n hb hx) (I.base.free b o e n hx)
 · obtain⟨sl,e1⟩:=I.base.slot b o e n hb hx
   obtain⟨sl',e2⟩:=slot b _ (neL b o e) hb (neC b o e hx) e1 (I.base.free b o e n hx)
   exact⟨sl',e2⟩
 · obtain⟨o',e1⟩:=I.base.there b o e hx
   exact free b o' (neC b o e hx) e1 (I.base.free b o e n hx)
 · obtain⟨o',e1⟩:=I.base.there b o e hx
   exact there b o' (neC b o e hx) e1
 · obtain⟨m1,e1⟩:=I.base.tbls b ps e
   obtain⟨m2,e2⟩:=tbls b _ e1
   exact⟨m1++m2,by rw [e2,Array.append_assoc]⟩
 · obtain⟨m,hn,hl⟩:=I.loc
   refine⟨m,ns m hn,fun i x v e1 e2 e3=>?_⟩
   obtain⟨u,r,l⟩:=hl i x v e1 e2 e3
   refine⟨u,r,?_⟩
   rcases l with l | ⟨k,c,e,z⟩
   · exact .inl l
   · exact .inr ⟨k,c,e,cellK x c e _ z⟩
 · obtain⟨v,z⟩:=I.cell x c e
   exact⟨v,cellK x c e v z⟩
 · obtain⟨m,⟨o,_,_,ho,_⟩,_⟩:=I.loc
   exact free _ o (fun z=>(hch _ z).2.1 rfl) ho I.free
 · obtain⟨v,o,ho,hd⟩:=I.cell x c e
   exact free c o (fun z=>(hch c z).2.2.1 x c e rfl) ho (I.freeC x c e)
 · obtain⟨e,n,ne,nf,d⟩:=I.pin p hp
   have nch:p.1 ∉ ch:=fun z=>(hch p.1 z).2.2.2 p hp rfl
   exact⟨keep p.1 p.2 ne nf nch e n,free p.1 p.2 nch e n,ne,nf,d⟩
theorem Inv.un {t':Nat}(I:Inv X pins σ H s)(u:Un X.fs [] H H' s.heap h')(hok:HOk X.prog X.w H' h'):Inv X pins σ H' {s with heap:=h',toks:=t'}:=by
 obtain⟨m,⟨o,es,ep,ho,r⟩,_⟩:=id I.loc
 obtain⟨sl,hL⟩:=u.any ho I.free (by simp)
 exact I.step (g':=s.gens) (d':=s.drawn) (ch:=[]) (fun _ z=>nomatch z) (fun b o _ hb _ e n=>u.keep b o e n hb (by simp)) (fun b o _ hb _ e n=>u.slot b o e n hb (by simp)) (fun b o _ e n=>u.free b o e n (by simp)) (fun b o _ e=>u.there b o e (by simp)) u.tups u.frzs u.tbls (fun m' hm=>by
  obtain⟨o',es',ep',ho',r'⟩:=hm
  rw [ho] at ho';cases ho'
  exact⟨_,es',ep',hL,r'⟩) hok I.bare
theorem Inv.call {g':Array GenState}{t':Nat}{d':Drawn}{ch:List Addr}(I:Inv X pins σ H s)(u:Un (frs X.stack) ch H H' s.heap h')(hok:HOk X.prog X.w H' h')(hg:AllBare g')
 (hch:∀ b∈ch,(b∈X.ex∨X.s₀.heap.objs.size≤b)∧b≠X.env.locals∧(∀ x c,X.env.cells.lookup x=some c→c≠b)∧∀ p∈X.pn++pins,p.1≠b):
 Inv X pins σ H' {s with heap:=h',gens:=g',drawn:=d',toks:=t'}:=by
 obtain⟨m,⟨o,es,ep,ho,r⟩,_⟩:=id I.loc
 obtain⟨sl,hL⟩:=u.any ho I.free fun z=>(hch _ z).2.1 rfl
 exact I.step (ch:=ch) hch (fun b o hL hb hc e n=>u.keep b o e n (fun z=>(List.mem_cons.mp (I.stkSub b z)).elim hL hb) hc) (fun b o _ _ hc e n=>u.any e n hc) (fun b o hc e n=>u.free b o e n hc) (fun b o hc e=>u.there b o e hc) u.tups u.frzs u.tbls (fun m' hm=>by
  obtain⟨o',es',ep',ho',r'⟩:=hm
  rw [ho] at ho';cases ho'
  exact⟨_,es',ep',hL,r'⟩) hok hg
theorem Inv.turned {t':Nat}{it:Addr}(I:Inv X pins σ H s)(k:∀ b o,b≠it→s.heap.get? b=some o→h'.get? b=some o)(hn:H it=none)(hL:it≠X.env.locals)
 (h1:it∈X.ex∨X.s₀.heap.objs.size≤it) (h2:∀ x c,X.env.cells.lookup x=some c→c≠it) (h3:∀ p∈X.pn++pins,p.1≠it):Inv X pins σ H {s with heap:=h',toks:=t'}:=by
 have nit:∀ b u,H b=some u→b≠it:=fun b u e z=>by rw [z,hn] at e;cases e
 refine I.step (g':=s.gens) (d':=s.drawn) (ch:=[it]) (fun b hb=>?_) (fun b o _ _ hc e _=>k b o (fun z=>hc (by simp [z])) e) (fun b o _ _ hc e _=>⟨o.slots,k b o (fun z=>hc (by simp [z])) e⟩) (fun _ _ _ _ n=>n)
  (fun b o hc e=>⟨o,k b o (fun z=>hc (by simp [z])) e⟩) (fun _ _ e=>e) (fun _ _ _ e=>e) (fun b ps e=>⟨#[],by rw [e];simp⟩) (fun m hm=>?_) (fun b u e=>?_) I.bare
 · have e:b=it:=by simpa using hb
   subst e
   exact⟨h1,hL,h2,h3⟩
 · obtain⟨o,es,ep,ho,r⟩:=hm
   exact⟨o,es,ep,k _ o (Ne.symm hL) ho,r⟩
 · refine(I.hok b u e).stay (fun c v hc q=>k c v ?_ q) (fun _ q=>q) fun _ _ q=>q
   rcases hc with z | z
   · rw [z];exact nit b u e
   · exact nit c _ z
theorem Inv.tok (I:Inv X pins σ H s)(t:Nat):Inv X pins σ H {s with toks:=t}:=I.un (h':=s.heap) (t':=t) Un.refl I.hok
theorem Inv.kept {t':Nat}(I:Inv X pins σ H s)(k:∀ b u,s.heap.get? b=some u→h'.get? b=some u):Inv X pins σ H {s with heap:=h',toks:=t'}:=I.un (Un.kept k) (I.hok.kept k)
theorem Inv.laid {a:Addr}{o:HO}{t':Nat}(I:Inv X pins σ H s)(k:∀ b u,s.heap.get? b=some u→h'.get? b=some u)(hp:s.heap.objs.size≤a)(new:ObjOk X.prog X.w (upd H a o) h' a o):
 Inv X pins σ (upd H a o) {s with heap:=h',toks:=t'}:=I.un (Un.laid k hp (I.hok.fresh hp)) (I.hok.laid k hp new)
theorem Inv.write {x e:Addr}{o:HO}{t':Nat}(I:Inv X pins σ H s)(mu:Mut (H x))(he:e=x∨H e=some (.own x))(k:∀ b u,b≠e→s.heap.get? b=some u→h'.get? b=some u)(heo:∃ u,h'.get? e=some u)
 (new:ObjOk X.prog X.w (upd H x o) h' x o):Inv X pins σ (upd H x o) {s with heap:=h',toks:=t'}:=I.un (Un.write mu he k heo) (I.hok.write mu he k heo new)
theorem Inv.weak {σ':List (Option V)}(I:Inv X pins σ H s)(hl:σ'.length=σ.length)(w:∀ (i:Nat) v,σ'[i]? =some (some v)→σ[i]? =some (some v)):Inv X pins σ' H s:=
 ⟨I.ok,I.os,I.bare,I.base,let ⟨m,hn,hl'⟩:=I.loc;⟨m,hn,fun i x v e1 e2 e3=>hl' i x v e1 (w i v e2) e3⟩,I.cell,I.free,I.freeC,I.pin,I.hok,hl.trans I.len⟩
theorem Inv.pins_of {pins':List (Addr × Obj)}(I:Inv X pins σ H s)(h:∀ p∈pins',s.heap.get? p.1=some p.2∧H p.1=none∧p.1≠X.env.locals∧p.1 ∉ X.fs∧∀ v,p.2.data≠ .cell v):Inv X pins' σ H s:=
 ⟨I.ok,I.os,I.bare,I.base,I.loc,I.cell,I.free,I.freeC,fun p hp=>(List.mem_append.mp hp).elim (fun z=>I.pin p (List.mem_append_left _ z)) (h p),I.hok,I.len⟩
theorem qGf {N:List Str}(hN:N.Nodup){i j:Nat}{x:Str}(a:N[i]? =some x)(b:N[j]? =some x):i=j:=by
 obtain⟨h1,e1⟩:=List.getElem?_eq_some_iff.mp a
 obtain⟨h2,e2⟩:=List.getElem?_eq_some_iff.mp b
 exact(List.getElem_inj hN).mp (e1.trans e2.symm)
theorem qDi {M:Model}{A:Around}{E:Value→Shared→Prop}{i:Nat}{x:Str}{v:V}{u:Value}{Q:Unit→Shared→Prop}(I:Inv X pins σ H s)(hN:X.N.Nodup)(hi:X.N[i]? =some x)(hx:Loc X.env.scope x)(r:RelV v u)
 (h:∀ s',Inv X pins (σ.set i (some v)) H s'→(∃ a,Heap.SameBut a s.heap s'.heap∧(a=X.env.locals∨X.env.cells.lookup x=some a))→Q () s') (hf:X.fn x=true∨X.env.scope.names.lookup x=some .local:=by first | exact .inl rfl | exact .inr rfl | assumption):wpAny M A (storeName X.env x u) Q E s:=by
 obtain⟨m,hn,hl⟩:=id I.loc
 have hcls:(X.env.scope.kind == .class || (X.env.scope.kind == .module && X.env.locals != X.env.globals))=false:=by rw [I.ok.kind];rfl
 have hiσ:i < σ.length:=by rw [I.len];exact(List.getElem?_eq_some_iff.mp hi).1
 have cne:=I.cne
 have tracked:∀ {a:Addr} {h':Heap},(∃ o,s.heap.get? a=some o∧H a=none)→Heap.SameBut a s.heap h'→HOk X.prog X.w H h':=fun {a h'} ha hs b ob e=>by
  obtain⟨_,_,hfree⟩:=ha
  refine(I.hok b ob e).stay (fun c w' hc q=>(hs.2 c ?_).trans q) (fun _ q=>q) fun _ _ q=>q
  rintro rfl
  rcases hc with rfl | hc
  · rw [hfree] at e;cases e
  · rw [hfree] at hc;cases hc
 rcases hx with hk | hk
 · refine wpAny_storeName_local hk hn (fun h' hn' hs=>?_) hcls
   obtain⟨oL,_,_,hoL,_⟩:=id hn
   refine h _ ⟨I.ok,I.os,I.bare,⟨fun b o e n hb hx=>?_,fun b o e n hb hx=>?_,I.base.free,fun b o e hx=>?_,I.base.tups,I.base.frzs,I.base.tbls⟩,⟨_,hn',fun j y v' e1 e2 e3=>?_⟩,fun y c e=>?_,I.free,I.freeC,fun p hp=>?_,tracked ⟨oL,hoL,I.free⟩ hs,by simpa using I.len⟩ ⟨_,hs,.inl rfl⟩
   · exact(hs.2 b (Nat.ne_of_lt (Nat.lt_of_lt_of_le (Heap.lt_size e) I.ok.above))).trans (I.base.keep b o e n hb hx)
   · obtain⟨sl,e1⟩:=I.base.slot b o e n hb hx
     exact⟨sl,(hs.2 b (Nat.ne_of_lt (Nat.lt_of_lt_of_le (Heap.lt_size e) I.ok.above))).trans e1⟩
   · obtain⟨o',e1⟩:=I.base.there b o e hx
     exact⟨o',(hs.2 b (Nat.ne_of_lt (Nat.lt_of_lt_of_le (Heap.lt_size e) I.ok.above))).trans e1⟩
   · by_cases hj:j=i
     · subst hj
       rw [hi] at e1;cases e1
       rw [List.getElem?_set_self hiσ] at e2
       cases e2
       exact⟨u,r,.inl ⟨hk,by simp⟩⟩
     · rw [List.getElem?_set_ne (Ne.symm hj)] at e2
       obtain⟨u',r',q⟩:=hl j y v' e1 e2 e3
       refine⟨u',r',?_⟩
       rcases q with ⟨k,e⟩ | ⟨k,c,e,z⟩
       · refine .inl ⟨k,?_⟩
         have:y≠x:=fun e=>hj (qGf hN e1 (e ▸ hi))
         simp [this,e]
       · exact .inr ⟨k,c,e,z.sameBut hs (cne y c e)⟩
   · obtain⟨w',z⟩:=I.cell y c e
     exact⟨w',z.sameBut hs (cne y c e)⟩
   · obtain⟨e,n,ne,nf,d⟩:=I.pin p hp
     exact⟨(hs.2 p.1 ne).trans e,n,ne,nf,d⟩
 · have hfn:X.fn x=true:=by
    rcases hf with z | z
    · exact z
    · rw [z] at hk;cases hk
   obtain⟨c,hc⟩:=I.ok.has x (.inl hk)
   obtain⟨w',z⟩:=I.cell x c hc
   refine wpAny_storeName_cell I.ok.kind hk hc z (fun h' hc' hs=>?_)
   obtain⟨oc,hoc,hocd⟩:=id z
   refine h {s with heap:=h'} ⟨I.ok,I.os,I.bare,⟨fun b o e n hb hx=>?_,fun b o e n hb hx=>?_,I.base.free,fun b o e hx=>?_,I.base.tups,I.base.frzs,I.base.tbls⟩,⟨m,hn.sameBut hs (Ne.symm (cne x c hc)),fun j y v' e1 e2 e3=>?_⟩,fun y c' e=>?_,I.free,I.freeC,fun p hp=>?_,tracked ⟨oc,hoc,I.freeC x c hc⟩ hs,by simpa using I.len⟩ ⟨c,hs,.inr hc⟩
   · exact(hs.2 b (Nat.ne_of_lt (Nat.lt_of_lt_of_le (Heap.lt_size e) (I.ok.cab x c hfn hc)))).trans (I.base.keep b o e n hb hx)
   · obtain⟨sl,e1⟩:=I.base.slot b o e n hb hx
     exact⟨sl,(hs.2 b (Nat.ne_of_lt (Nat.lt_of_lt_of_le (Heap.lt_size e) (I.ok.cab x c hfn hc)))).trans e1⟩
   · obtain⟨o',e1⟩:=I.base.there b o e hx
     exact⟨o',(hs.2 b (Nat.ne_of_lt (Nat.lt_of_lt_of_le (Heap.lt_size e) (I.ok.cab x c hfn hc)))).trans e1⟩
   · by_cases hj:j=i
     · subst hj
       rw [hi] at e1;cases e1
       rw [List.getElem?_set_self hiσ] at e2
       cases e2
       exact⟨u,r,.inr ⟨.inl hk,c,hc,hc'⟩⟩
     · rw [List.getElem?_set_ne (Ne.symm hj)] at e2
       obtain⟨u',r',q⟩:=hl j y v' e1 e2 e3
       refine⟨u',r',?_⟩
       rcases q with q | ⟨k,c',e,z'⟩
       · exact .inl q
       · refine .inr ⟨k,c',e,z'.sameBut hs ?_⟩
         rintro rfl
         exact hj (qGf hN e1 (I.ok.inj _ _ _ e hc ▸ hi))
   · by_cases hcc:c'=c
     · subst hcc;exact⟨_,hc'⟩
     · obtain⟨w2,z2⟩:=I.cell y c' e
       exact⟨w2,z2.sameBut hs hcc⟩
   · obtain⟨e,n,ne,nf,d⟩:=I.pin p hp
     refine⟨(hs.2 p.1 ?_).trans e,n,ne,nf,d⟩
     intro q
     rw [q,hoc] at e
     have q':oc=p.2:=Option.some.inj e
     exact d w' (by rw [← q'];exact hocd)
theorem wT {M:Model}{A:Around}{E:Value→Shared→Prop}{i:Nat}{x:Str}{v:V}{u:Value}{Q:Unit→Shared→Prop}(I:Inv X pins σ H s)(hN:X.N.Nodup)(hi:X.N[i]? =some x)(hx:Loc X.env.scope x)(r:RelV v u)
 (h:∀ s',Inv X pins (σ.set i (some v)) H s'→Q () s') (hf:X.fn x=true∨X.env.scope.names.lookup x=some .local:=by first | exact .inl rfl | exact .inr rfl | assumption):wpAny M A (storeName X.env x u) Q E s:=
 qDi I hN hi hx r (fun s' I' _=>h s' I') hf
theorem Inv.call' {s':Shared}{ch:List Addr}(I:Inv X pins σ H s)(ho:s'.os=s.os)(u:Un (frs X.stack) ch H H' s.heap s'.heap)(hok:HOk X.prog X.w H' s'.heap)(hg:AllBare s'.gens)
 (hch:∀ b∈ch,(b∈X.ex∨X.s₀.heap.objs.size≤b)∧b≠X.env.locals∧(∀ x c,X.env.cells.lookup x=some c→c≠b)∧∀ p∈X.pn++pins,p.1≠b):Inv X pins σ H' s':=by
 obtain⟨h',g',d',t',o'⟩:=s'
 have e:o'=s.os:=ho
 subst e
 exact I.call (g':=g') (t':=t') (d':=d') u hok hg hch
end
abbrev XK:=Value→Option Addr→Hp→Prop
abbrev St:=List (Option V)
abbrev VK:=V→Hp→Prop
abbrev TE:=St→Hp→VK→Prop
abbrev TT:=St→Hp→(Bool→Hp→Prop)→Prop
abbrev TA:=St→Hp→(List V→Hp→Prop)→Prop
structure qHq where
 nx:St→Hp→Prop
 rt:VK
 bk:St→Hp→Prop:=fun _ _=>False
 ct:St→Hp→Prop:=fun _ _=>False
abbrev TS:=qHq→St→Hp→Prop
def EP (X:Cx)(pins:List (Addr × Obj))(σ:St)(Q:VK)(u:Value)(s':Shared):Prop:=∃ v H',Inv X pins σ H' s'∧RelV v u∧Q v H'
def TP (X:Cx)(pins:List (Addr × Obj))(σ:St)(Q:Bool→Hp→Prop)(b:Bool)(s':Shared):Prop:=∃ H',Inv X pins σ H' s'∧Q b H'
def AP (X:Cx)(pins:List (Addr × Obj))(σ:St)(Q:List V→Hp→Prop)(us:List Value)(s':Shared):Prop:=∃ vs H',Inv X pins σ H' s'∧Vals vs us∧Q vs H'
def SP (X:Cx)(pins:List (Addr × Obj))(D:qHq)(f:Flow)(s':Shared):Prop:=
 match f with
 | .next=>∃ σ' H',Inv X pins σ' H' s'∧D.nx σ' H'
 | .brk=>∃ σ' H',Inv X pins σ' H' s'∧D.bk σ' H'
 | .cont=>∃ σ' H',Inv X pins σ' H' s'∧D.ct σ' H'
 | .ret u=>∃ v σ' H',Inv X pins σ' H' s'∧RelV v u∧D.rt v H'
def PE (X:Cx)(e:Expr)(t:TE):Prop:=
 ∀ (pins:List (Addr × Obj)) (s:Shared) (σ:St) (H:Hp) (Q:VK),Inv X pins σ H s→t σ H Q→wpAny (model X.prog X.w) X.A (eval e X.env) (EP X pins σ Q) X.xe s
def PT (X:Cx)(e:Expr)(t:TT):Prop:=
 ∀ (pins:List (Addr × Obj)) (s:Shared) (σ:St) (H:Hp) (Q:Bool→Hp→Prop),Inv X pins σ H s→t σ H Q→wpAny (model X.prog X.w) X.A (isTrue e X.env (eval e X.env)) (TP X pins σ Q) X.xe s
def PW (X:Cx)(e:Expr)(t:TT):Prop:=
 ∀ (whole:Sem Value) (pins:List (Addr × Obj)) (s:Shared) (σ:St) (H:Hp) (Q:Bool→Hp→Prop),Inv X pins σ H s→t σ H Q→wpAny (model X.prog X.w) X.A (isTrue e X.env whole) (TP X pins σ Q) X.xe s
theorem PW.pt {X:Cx}{e:Expr}{t:TT}(h:PW X e t):PT X e t:=h _
def PA (X:Cx)(es:List Expr)(t:TA):Prop:=
 ∀ (pos:Pos) (pins:List (Addr × Obj)) (s:Shared) (σ:St) (H:Hp) (Q:List V→Hp→Prop),Inv X pins σ H s→t σ H Q→wpAny (model X.prog X.w) X.A (spliced (backTo pos (starEach es X.env))) (AP X pins σ Q) X.xe s
def PS (X:Cx)(st:Stmt)(t:TS):Prop:=
 ∀ (pins:List (Addr × Obj)) (s:Shared) (σ:St) (H:Hp) (D:qHq),Inv X pins σ H s→t D σ H→wpAny (model X.prog X.w) X.A (exec st X.env) (SP X pins D) X.xe s
def PSs (X:Cx)(st:List Stmt)(t:TS):Prop:=
 ∀ (pins:List (Addr × Obj)) (s:Shared) (σ:St) (H:Hp) (D:qHq),Inv X pins σ H s→t D σ H→wpAny (model X.prog X.w) X.A (execs st X.env) (SP X pins D) X.xe s
theorem thn {α:Type}{t:Sem α}{Q Q':α→Shared→Prop}{M:Model}{A:Around}{E:Value→Shared→Prop}{s:Shared}(h:wpAny M A t Q E s)(hQ:∀ a s,Q a s→Q' a s):wpAny M A t Q' E s:=wpAny_mono h hQ fun _ _ x=>x
end L2
namespace L2
open PySem PySem.Spec PyProof.Rows
section
variable {X : Cx}
theorem bin {a b:Expr}{ta tb:TE}(ha:PE X a ta)(hb:PE X b tb){pins:List (Addr × Obj)}{s:Shared}{σ:St}{H:Hp}{R:V→V→Hp→Prop}(I:Inv X pins σ H s)(h:ta σ H fun x H1=>tb σ H1 fun y H2=>R x y H2)
 {α:Type} {Q:α→Shared→Prop} {f:Value→Value→Sem α}
 (hf:∀ v u s2 x y H2,Inv X pins σ H2 s2→RelV x v→RelV y u→R x y H2→wpAny (model X.prog X.w) X.A (f v u) Q X.xe s2):
 wpAny (model X.prog X.w) X.A (eval a X.env) (fun v s₁=>wpAny (model X.prog X.w) X.A (eval b X.env) (fun u s₂=>wpAny (model X.prog X.w) X.A (f v u) Q X.xe s₂) X.xe s₁) X.xe s:=by
 refine thn (ha pins s σ H _ I h) fun v s1 ⟨x,H1,I1,r1,q1⟩=>?_
 refine thn (hb pins s1 σ H1 _ I1 q1) fun u s2 ⟨y,H2,I2,r2,q2⟩=>?_
 exact hf v u s2 x y H2 I2 r1 r2 q2
inductive qQl (i:Nat)(σ:L2.St)(H:Hp)(Q:VK):Prop
| mk v (_:σ[i]? =some (some v)) (_:Q v H)
def tC (v:V):TE:=fun _ H Q=>Q v H
theorem qPi {i:Nat}{x:Str}{pos:Pos}(hN:X.N[i]? =some x)(hv:Vis X.env.scope x)(hd:(x == ("__debug__":Str))=false:=by decide)(hcd:(x == ("__classdict__":Str))=false:=by decide):PE X (.Name x pos) (qQl i):=by
 intro pins s σ H Q I h
 obtain⟨v,e,h⟩:=h
 obtain⟨m,hn,hl⟩:=I.loc
 obtain⟨u,r,l⟩:=hl i x v hN e hv
 have fin:EP X pins σ Q u s:=⟨v,H,I,r,h⟩
 rcases l with ⟨hk,hm⟩ | ⟨hk,c,hc,hcell⟩
 · exact wpAny_Name (wpAny_loadName_local I.ok.kind hk hn hm fin) hd
 · rcases hk with hk | hk
   · exact wpAny_Name (wpAny_loadName_cell I.ok.kind hk hc hcell fin) hd
   · exact wpAny_Name (wpAny_loadName_free I.ok.kind hk hc hcell fin hcd) hd
theorem qF {i j pos}:PE X (.Constant (.int i) j pos) (tC (.int i)):=fun _ _ _ H _ I h=>wpAny_Constant_int ⟨.int i,H,I.tok _,⟨_,rfl⟩,h⟩
theorem qAe {b j pos}:PE X (.Constant (.bool b) j pos) (tC (.bl b)):=fun _ _ _ H _ I h=>Constant_bool ⟨.bl b,H,I,rfl,h⟩
theorem vz {j pos}:PE X (.Constant .none j pos) (tC .non):=fun _ _ _ H _ I h=>Constant_none ⟨.non,H,I,rfl,h⟩
theorem qx {x j pos}:PE X (.Constant (.str x) j pos) (tC (.str x)):=fun _ _ _ H _ I h=>Calls.Constant_str ⟨.str x,H,I.tok _,⟨_,rfl⟩,h⟩
def Gl (X:Cx)(x:Str):Prop:=X.env.kindOf x=some .globalImplicit
theorem qIz {E:Value→Shared→Prop}{pins:List (Addr × Obj)}{s:Shared}{σ:St}{H:Hp}{x:Str}{u:Value}{pos:Pos}{Q:Value→Shared→Prop}(I:Inv X pins σ H s)(hg:Gl X x)(hm:X.mg x=some u)(h:Q u s)
 (hd:(x == ("__debug__":Str))=false:=by decide):wpAny (model X.prog X.w) X.A (eval (.Name x pos) X.env) Q E s:=
 Calls.Name_function_global I.ok.kind hg (Calls.loadGlobal_global (by rw [I.ok.glob];exact I.mod.glob.keeps I.bk) hm h) hd
theorem wC {E:Value→Shared→Prop}{pins:List (Addr × Obj)}{s:Shared}{σ:St}{H:Hp}{x:Str}{u:Value}{pos:Pos}{Q:Value→Shared→Prop}(I:Inv X pins σ H s)(hg:Gl X x)(hm:X.mg x=none)(hv:bootBuiltins x=some u)(h:Q u s)
 (hn:x≠"__name__":=by decide) (hd:(x == ("__debug__":Str))=false:=by decide):wpAny (model X.prog X.w) X.A (eval (.Name x pos) X.env) Q E s:=by
 obtain⟨mb,h1,h2⟩:=I.mod.blt
 exact Calls.Name_function_global I.ok.kind hg (Calls.loadGlobal_builtin (by rw [I.ok.glob];exact I.mod.glob.keeps I.bk) hm (by rw [I.ok.blt];exact h1.keeps I.bk) ((h2 x hn).trans hv) h) hd
theorem xR {x:Str}{v:V}{u:Value}{pos:Pos}(hg:Gl X x)(hm:X.mg x=some u)(r:RelV v u)(hd:(x == ("__debug__":Str))=false:=by decide):PE X (.Name x pos) (tC v):=
 fun _ _ _ H _ I h=>qIz I hg hm ⟨v,H,I,r,h⟩ hd
theorem qNh {x:Str}{v:V}{u:Value}{pos:Pos}(hg:Gl X x)(hm:X.mg x=none)(hv:bootBuiltins x=some u)(r:RelV v u)(hn:x≠"__name__":=by decide)(hd:(x == ("__debug__":Str))=false:=by decide):PE X (.Name x pos) (tC v):=
 fun _ _ _ H _ I h=>wC I hg hm hv ⟨v,H,I,r,h⟩ hn hd
variable {a b : Expr} {ta tb : TE} {pos : Pos}
def PC (X:Cx)(op:CmpOp)(a b:Expr)(t:TE):Prop:=
 ∀ (pins:List (Addr × Obj)) (s:Shared) (σ:St) (H:Hp) (Q:VK),Inv X pins σ H s→t σ H Q→
  wpAny (model X.prog X.w) X.A (eval a X.env) (fun v s₁=>wpAny (model X.prog X.w) X.A (eval b X.env) (fun u s₂=>wpAny (model X.prog X.w) X.A (compareOp op v u) (EP X pins σ Q) X.xe s₂) X.xe s₁) X.xe s
theorem qLe (b:Expr){op:CmpOp}(h:op≠ .In)(h2:op≠ .NotIn):behindInMarks op b=false:=by
 have e1:(op == CmpOp.In)=false:=by cases op <;> first | rfl | exact absurd rfl h
 have e2:(op == CmpOp.NotIn)=false:=by cases op <;> first | rfl | exact absurd rfl h2
 cases b <;> simp [behindInMarks,e1,e2]
def qR6 (ta:TE):TE:=fun σ H Q=>ta σ H fun x H1=>Q (.bl (decide (x= .non))) H1
def qQ6 (ta:TE):TE:=fun σ H Q=>ta σ H fun x H1=>Q (.bl (!decide (x= .non))) H1
theorem RelV.none_iff {x:V}{v:Value}(r:RelV x v):(v == Value.none)=decide (x= .non):=by
 cases x with
 | non=>cases r;rfl
 | bl _=>cases r;rfl
 | int _=>obtain⟨t,rfl⟩:=r;rfl
 | str _=>obtain⟨t,rfl⟩:=r;rfl
 | byt _=>obtain⟨t,rfl⟩:=r;rfl
 | flt _=>obtain⟨t,rfl⟩:=r;rfl
 | ref _=>cases r;rfl
 | ty _=>cases r;rfl
theorem qA6 {j pos'}(ha:PE X a ta):PC X .Is a (.Constant .none j pos') (qR6 ta):=by
 intro pins s σ H Q I h
 refine thn (ha pins s σ H _ I h) fun v s1 ⟨x,H1,I1,r1,q1⟩=>?_
 exact Constant_none (is_none_gen ⟨.bl _,H1,I1,by rw [r1.none_iff];rfl,q1⟩)
theorem qCc {j pos'}(ha:PE X a ta):PC X .IsNot a (.Constant .none j pos') (qQ6 ta):=by
 intro pins s σ H Q I h
 refine thn (ha pins s σ H _ I h) fun v s1 ⟨x,H1,I1,r1,q1⟩=>?_
 exact Constant_none (isnot_none_gen ⟨.bl _,H1,I1,by rw [r1.none_iff];rfl,q1⟩)
inductive tBI (Q:Bool→Hp→Prop)(x:V)(H1:Hp):Prop
| mk c (_:x= .bl c) (_:Q c H1)
def tB (t:TE):TT:=fun σ H Q=>t σ H fun x H1=>tBI Q x H1
theorem zz {op:CmpOp}{t:TE}(h:PC X op a b t)(h1:behindInMarks op b=false:=by first | exact qLe _ (by decide) (by decide) | rfl):PT X (.Compare a [op] [b] pos) (tB t):=by
 intro pins s σ H Q I hw
 refine wpAny_isTrue_Compare1 (thn (h pins s σ H _ I hw) fun v s1 h1=>thn h1 fun u s2 h2=>thn h2 fun c s3 ⟨x,H1,I1,r1,q1⟩=>?_) h1
 obtain⟨d,rfl,q⟩:=q1
 cases r1
 exact wpAny_truthy_bool ⟨H1,I1,q⟩
theorem jk {e:Expr}{t:TE}(h:PE X e t)(he:∀ whole,isTrue e X.env whole=(do let v ← whole;standAt e.pos;holding [v] (truthy v)):=by intro _;rfl):PT X e (tB t):=by
 intro pins s σ H Q I hw
 refine isTrue_plain (thn (h pins s σ H _ I hw) fun v s1 ⟨x,H1,I1,r1,q1⟩=>?_) (he _)
 obtain⟨d,rfl,q⟩:=q1
 cases r1
 exact wpAny_truthy_bool ⟨H1,I1,q⟩
variable {tA tB' : TT} {rest : List Expr}
def qR7 (t u:TT):TT:=fun σ H Q=>t σ H fun c H1=>if c=true then u σ H1 Q else Q false H1
def tOr (t u:TT):TT:=fun σ H Q=>t σ H fun c H1=>if c=true then Q true H1 else u σ H1 Q
def qSo (t:TT):TT:=fun σ H Q=>t σ H fun c H1=>Q (!c) H1
theorem zf (ha:PT X a tA):PW X (.BoolOp .And [a] pos) tA:=by
 intro wh pins s σ H Q I h
 refine isTrue_and (thn (ha pins s σ H Q I h) fun c s1 e=>?_)
 cases c with
 | true=>exact isTrue_and_nil e
 | false=>exact e
theorem xn (ha:PT X a tA):PW X (.BoolOp .Or [a] pos) tA:=by
 intro wh pins s σ H Q I h
 refine isTrue_or (thn (ha pins s σ H Q I h) fun c s1 e=>?_)
 cases c with
 | false=>exact isTrue_or_nil e
 | true=>exact e
theorem zy (ha:PT X a tA)(hb:PW X (.BoolOp .And (b::rest) pos) tB'):PW X (.BoolOp .And (a::b::rest) pos) (qR7 tA tB'):=by
 intro wh pins s σ H Q I h
 refine isTrue_and (thn (ha pins s σ H _ I h) fun c s1 ⟨H1,I1,q1⟩=>?_)
 cases c with
 | true=>exact hb wh pins s1 σ H1 Q I1 q1
 | false=>exact⟨H1,I1,q1⟩
theorem zJ (ha:PT X a tA)(hb:PW X (.BoolOp .Or (b::rest) pos) tB'):PW X (.BoolOp .Or (a::b::rest) pos) (tOr tA tB'):=by
 intro wh pins s σ H Q I h
 refine isTrue_or (thn (ha pins s σ H _ I h) fun c s1 ⟨H1,I1,q1⟩=>?_)
 cases c with
 | true=>exact⟨H1,I1,q1⟩
 | false=>exact hb wh pins s1 σ H1 Q I1 q1
theorem xH (ha:PT X a tA):PT X (.UnaryOp .Not a pos) (qSo tA):=by
 intro pins s σ H Q I h
 exact isTrue_not (ha pins s σ H (fun c H1=>Q (!c) H1) I h)
inductive qOp (tb:TE)(σ:L2.St)(Q:VK)(x:V)(H1:Hp):Prop
| mk c (_:x= .bl c) (_:if c=true then tb σ H1 Q else Q (.bl false) H1)
def qQv (ta tb:TE):TE:=fun σ H Q=>ta σ H fun x H1=>qOp tb σ Q x H1
inductive qP6 (Q:VK)(x:V)(H1:Hp):Prop
| mk c (_:x= .bl c) (_:Q (.bl (!c)) H1)
def qRn (ta:TE):TE:=fun σ H Q=>ta σ H fun x H1=>qP6 Q x H1
theorem qI4 {op}{t:TE}(h:PE X a t):PE X (.BoolOp op [a] pos) t:=fun pins s σ H Q I hw=>BoolOp_one (h pins s σ H Q I hw)
theorem qIw (ha:PE X a ta)(hb:PE X (.BoolOp .And (b::rest) pos) tb):PE X (.BoolOp .And (a::b::rest) pos) (qQv ta tb):=by
 intro pins s σ H Q I h
 refine BoolOp_and (thn (ha pins s σ H _ I h) fun v s1 ⟨x,H1,I1,r1,q1⟩=>?_)
 obtain⟨c,rfl,q1⟩:=q1
 cases r1
 refine wpAny_truthy_bool ?_
 cases c with
 | true=>exact hb pins s1 σ H1 Q I1 q1
 | false=>exact⟨.bl false,H1,I1,rfl,q1⟩
theorem qPy (ha:PE X a ta):PE X (.UnaryOp .Not a pos) (qRn ta):=by
 intro pins s σ H Q I h
 refine UnaryOp_ (thn (ha pins s σ H _ I h) fun v s1 ⟨x,H1,I1,r1,q1⟩=>?_)
 obtain⟨c,rfl,q1⟩:=q1
 cases r1
 exact not_of (wpAny_truthy_bool ⟨.bl (!c),H1,I1,rfl,q1⟩)
def tIf (t:TT)(ta tb:TE):TE:=fun σ H Q=>t σ H fun c H1=>if c=true then ta σ H1 Q else tb σ H1 Q
theorem wQ {c:Expr}(hc:PT X c tA)(ha:PE X a ta)(hb:PE X b tb):PE X (.IfExp c a b pos) (tIf tA ta tb):=by
 intro pins s σ H Q I h
 refine wpAny_IfExp (thn (hc pins s σ H _ I h) fun d s1 ⟨H1,I1,q1⟩=>?_)
 cases d with
 | true=>exact ha pins s1 σ H1 Q I1 q1
 | false=>exact hb pins s1 σ H1 Q I1 q1
end
end L2
namespace L2
open PySem PySem.Spec PyProof.Rows
def SqL (K:PySem.W.Frag)(H:Hp)(a:Addr)(xs:List V):Prop:=
 Rd H a (.lst xs)∨
  ∃ (o:Obj) (its:Array Value) (n:Nat),K.lookup a=some o∧o.cls= .type "list"∧o.dict=none∧o.data= .seq its n∧its.size≤sizeLine∧Vals xs its.toList
def SqT (K:PySem.W.Frag)(H:Hp)(a:Addr)(xs:List V):Prop:=
 Rd H a (.tup xs)∨
  ∃ (o:Obj) (its:Array Value) (n:Nat),K.lookup a=some o∧o.cls= .type "tuple"∧o.data= .seq its n∧its.size≤sizeLine∧Vals xs its.toList
def qSa:Value→Option V
 | .none=>some .non
 | .bool b=>some (.bl b)
 | .int i _=>some (.int i)
 | .str x _=>some (.str x)
 | .bytes b _=>some (.byt b)
 | .float b _=>some (.flt b)
 | .ref a=>some (.ref a)
 | .type n=>some (.ty n)
 | _=>none
theorem RelV.abs {x:V}{u:Value}(r:RelV x u):qSa u=some x:=by
 cases x with
 | non=>cases r;rfl
 | bl _=>cases r;rfl
 | int _=>obtain⟨t,rfl⟩:=r;rfl
 | str _=>obtain⟨t,rfl⟩:=r;rfl
 | byt _=>obtain⟨t,rfl⟩:=r;rfl
 | flt _=>obtain⟨t,rfl⟩:=r;rfl
 | ref _=>cases r;rfl
 | ty _=>cases r;rfl
theorem RelV.inj {x y:V}{u:Value}(r:RelV x u)(q:RelV y u):x=y:=Option.some.inj (r.abs.symm.trans q.abs)
theorem Vals.inj:∀ {xs ys:List V} {us:List Value},Vals xs us→Vals ys us→xs=ys
 | _,_,_,.nil,.nil=>rfl
 | _,_,_,.cons r t,.cons r' t'=>by rw [r.inj r',Vals.inj t t']
section
variable {X : Cx} {pins : List (Addr × Obj)} {σ : St} {H : Hp} {s : Shared} {a : Addr} {xs ys : List V}
theorem SqL.of {K:PySem.W.Frag}(h:H a=some (.lst xs)):SqL K H a xs:=.inl (.inl h)
theorem SqT.of {K:PySem.W.Frag}(h:H a=some (.tup xs)):SqT K H a xs:=.inl (.inl h)
theorem Inv.list (I:Inv X pins σ H s)(h:SqL X.K H a xs):∃ its:List Value,Vals xs its∧PlainL s.heap a its.toArray∧xs.length≤sizeLine:=by
 rcases h with h | ⟨o,its,n,hk,hc,hd,hs,hz,r⟩
 · obtain⟨z,its,n,r,e⟩:=h.ok I.hok
   exact⟨its,r,⟨_,n,e,rfl,rfl,rfl⟩,z⟩
 · refine⟨its.toList,r,⟨o,n,I.kIn a o hk,hc,hd,by simpa using hs⟩,?_⟩
   have e:=r.length
   simp only [Array.length_toList] at e
   omega
theorem Inv.tuple (I:Inv X pins σ H s)(h:SqT X.K H a xs):∃ its:List Value,Vals xs its∧IsTup s.heap a its.toArray∧xs.length≤sizeLine:=by
 rcases h with h | ⟨o,its,n,hk,hc,hs,hz,r⟩
 · obtain⟨z,its,r,p⟩:=h.ok I.hok
   exact⟨its,r,p,z⟩
 · refine⟨its.toList,r,⟨o,I.kIn a o hk,hc,n,by simpa using hs⟩,?_⟩
   have e:=r.length
   simp only [Array.length_toList] at e
   omega
theorem Inv.list_inj (I:Inv X pins σ H s)(h:SqL X.K H a xs)(h':SqL X.K H a ys):xs=ys:=by
 obtain⟨its,r,⟨o,n,e,_,_,d⟩,_⟩:=I.list h
 obtain⟨its',r',⟨o',n',e',_,_,d'⟩,_⟩:=I.list h'
 rw [e] at e';cases e'
 rw [d] at d'
 injection d' with d1 _
 have:its=its':=by simpa using congrArg Array.toList d1
 subst this
 exact r.inj r'
theorem Inv.tuple_inj (I:Inv X pins σ H s)(h:SqT X.K H a xs)(h':SqT X.K H a ys):xs=ys:=by
 obtain⟨its,r,⟨o,e,_,n,d⟩,_⟩:=I.tuple h
 obtain⟨its',r',⟨o',e',_,n',d'⟩,_⟩:=I.tuple h'
 rw [e] at e';cases e'
 rw [d] at d'
 injection d' with d1 _
 have:its=its':=by simpa using congrArg Array.toList d1
 subst this
 exact r.inj r'
end
abbrev Cx.wish (X:Cx)(E:Value→Shared→Prop):Cx:={X with xe:=E}
abbrev Cx.nox (X:Cx):Cx:=X.wish fun _ _=>False
theorem Cx.Ok.wish {X:Cx}(ok:X.Ok)(E:Value→Shared→Prop):(X.wish E).Ok:=
 ⟨ok.mod,ok.kind,ok.glob,ok.blt,ok.above,ok.inj,ok.has,ok.cab,ok.hd,ok.frames,ok.stk,ok.exf,ok.bs,ok.bsz,ok.noex,ok.exfs,ok.funs,ok.frf⟩
theorem Cx.Ok.unwish {X:Cx}{E:Value→Shared→Prop}(ok:(X.wish E).Ok):X.Ok:=
 ⟨ok.mod,ok.kind,ok.glob,ok.blt,ok.above,ok.inj,ok.has,ok.cab,ok.hd,ok.frames,ok.stk,ok.exf,ok.bs,ok.bsz,ok.noex,ok.exfs,ok.funs,ok.frf⟩
section
variable {X : Cx} {pins : List (Addr × Obj)} {σ : St} {H : Hp} {s : Shared} {E : Value → Shared → Prop}
theorem Inv.wish (I:Inv X pins σ H s)(E:Value→Shared→Prop):Inv (X.wish E) pins σ H s:=⟨I.ok.wish E,I.os,I.bare,I.base,I.loc,I.cell,I.free,I.freeC,I.pin,I.hok,I.len⟩
theorem Inv.unwish (I:Inv (X.wish E) pins σ H s):Inv X pins σ H s:=⟨I.ok.unwish,I.os,I.bare,I.base,I.loc,I.cell,I.free,I.freeC,I.pin,I.hok,I.len⟩
theorem SP.unwish {D:qHq}{f:Flow}{s':Shared}(h:SP (X.wish E) pins D f s'):SP X pins D f s':=by
 cases f with
 | next=>obtain⟨σ',H',I,q⟩:=h;exact⟨σ',H',I.unwish,q⟩
 | brk=>obtain⟨σ',H',I,q⟩:=h;exact⟨σ',H',I.unwish,q⟩
 | cont=>obtain⟨σ',H',I,q⟩:=h;exact⟨σ',H',I.unwish,q⟩
 | ret u=>obtain⟨v,σ',H',I,r,q⟩:=h;exact⟨v,σ',H',I.unwish,r,q⟩
theorem PSs.nox {st:List Stmt}{t:TS}(h:PSs X.nox st t):PSs X st t:=fun pins s σ H D I hw=>
 wpAny_mono (h pins s σ H D (I.wish _) hw) (fun _ _ q=>q.unwish) fun _ _ z=>False.elim z
end
section
variable {X : Cx} {st : Stmt} {rest : List Stmt} {t u : TS} {e : Expr} {te : TE} {pos : Pos}
def qRc:TS:=fun D σ H=>D.nx σ H
def qSj (t u:TS):TS:=fun D σ H=>t {D with nx:=u D} σ H
theorem qU:PSs X [] qRc:=fun _ _ σ H _ I h=>wpAny_execs_nil ⟨σ,H,I,h⟩
theorem qC (h1:PS X st t)(h2:PSs X rest u):PSs X (st::rest) (qSj t u):=by
 intro pins s σ H D I h
 refine wpAny_execs_cons (thn (h1 pins s σ H {D with nx:=u D} I h) fun f s1 q=>?_)
 cases f with
 | next=>
  obtain⟨σ',H',I',q⟩:=q
  exact h2 pins s1 σ' H' D I' q
 | ret v=>exact q
 | brk=>exact q
 | cont=>exact q
theorem qG (h1:PS X st t):PSs X [st] t:=by
 intro pins s σ H D I h
 refine wpAny_execs_cons (thn (h1 pins s σ H D I h) fun f s1 q=>?_)
 cases f with
 | next=>exact wpAny_execs_nil q
 | ret v=>exact q
 | brk=>exact q
 | cont=>exact q
def qPp:TS:=fun D σ H=>D.bk σ H
theorem qLy:PS X (.Break pos) qPp:=fun _ _ σ H _ I h=>wpAny_Break ⟨σ,H,I,h⟩
theorem Inv.quiet {pins:List (Addr × Obj)}{σ:St}{H:Hp}{s:Shared}(I:Inv X pins σ H s):interactive X.env=false:=by simp [interactive,I.ok.kind]
def qQt (te:TE):TS:=fun D σ H=>te σ H fun _ H1=>D.nx σ H1
theorem xQ (he:PE X e te)(hs:swapsWith e none pos.line X.env=pure false:=by rfl):PS X (.Expr e pos) (qQt te):=by
 intro pins s σ H D I h
 exact wpAny_Expr_any (thn (he pins s σ H _ I h) fun v s1 ⟨x,H1,I1,r1,q1⟩=>⟨σ,H1,I1,q1⟩) I.quiet hs
def qSr (te:TE):TS:=fun D σ H=>te σ H D.rt
theorem qN (he:PE X e te):PS X (.Return (some e) pos) (qSr te):=by
 intro pins s σ H D I h
 exact wpAny_Return_some (thn (he pins s σ H _ I h) fun v s1 ⟨x,H1,I1,r1,q1⟩=>⟨x,σ,H1,I1,r1,q1⟩)
def qSn (c:TT)(t u:TS):TS:=fun D σ H=>c σ H fun b H1=>if b=true then t D σ H1 else u D σ H1
theorem qv {c:Expr}{a b:List Stmt}{tc:TT}(hc:PT X c tc)(ha:PSs X a t)(hb:PSs X b u):PS X (.If c a b pos) (qSn tc t u):=by
 intro pins s σ H D I h
 refine wpAny_If (thn (hc pins s σ H _ I h) fun d s1 ⟨H1,I1,q1⟩=>?_)
 cases d with
 | true=>exact ha pins s1 σ H1 D I1 q1
 | false=>exact hb pins s1 σ H1 D I1 q1
def qOq:TS:=fun _ _ _=>False
theorem vM {sts:List Stmt}:PSs X sts qOq:=fun _ _ _ _ _ _ h=>h.elim
end
abbrev TG:=V→St→Hp→(St→Hp→Prop)→Prop
abbrev TGs:=List V→St→Hp→(St→Hp→Prop)→Prop
def PG (X:Cx)(target:Expr)(t:TG):Prop:=
 ∀ (pins:List (Addr × Obj)) (s:Shared) (σ:St) (H:Hp) (v:V) (u:Value) (Q:St→Hp→Prop),Inv X pins σ H s→RelV v u→t v σ H Q→
  wpAny (model X.prog X.w) X.A (assign target X.env u) (fun _ s'=>∃ σ' H',Inv X pins σ' H' s'∧Q σ' H') X.xe s
def PGs (X:Cx)(ts:List Expr)(t:TGs):Prop:=
 ∀ (pins:List (Addr × Obj)) (s:Shared) (σ:St) (H:Hp) (vs:List V) (us:List Value) (Q:St→Hp→Prop),Inv X pins σ H s→Vals vs us→t vs σ H Q→
  wpAny (model X.prog X.w) X.A (assignInOrder ((assignEach ts X.env).map (·.2)) us) (fun _ s'=>∃ σ' H',Inv X pins σ' H' s'∧Q σ' H') X.xe s
abbrev qRi:=V→V→V→Hp→(Hp→Prop)→Prop
def qRy (X:Cx)(t:qRi):Prop:=
 ∀ (pins:List (Addr × Obj)) (s:Shared) (σ:St) (H:Hp) (o i v:V) (ov iv u:Value) (Q:Hp→Prop),Inv X pins σ H s→RelV o ov→RelV i iv→RelV v u→t o i v H Q→
  wpAny (model X.prog X.w) X.A (setItem ov iv u) (fun _ s'=>∃ H',Inv X pins σ H' s'∧Q H') X.xe s
section
variable {X : Cx} {pos : Pos}
def zH (i:Nat):TG:=fun v σ H Q=>Q (σ.set i (some v)) H
theorem ql {i:Nat}{x:Str}(hN:X.N.Nodup)(hi:X.N[i]? =some x)(hx:Loc X.env.scope x)(hf:X.fn x=true∨X.env.scope.names.lookup x=some .local:=by first | exact .inl rfl | exact .inr rfl | assumption):PG X (.Name x pos) (zH i):=by
 intro pins s σ H v u Q I r h
 exact wpAny_assign_Name (wT I hN hi hx r (fun s' I'=>⟨_,H,I',h⟩) hf)
def qQm:TGs:=fun vs σ H Q=>vs=[]∧Q σ H
inductive qAf (t:TG)(u:TGs)(vs:List V)(σ:L2.St)(H:Hp)(Q:L2.St→Hp→Prop):Prop
| mk v r (_:vs=v::r) (_:t v σ H fun σ' H'=>u r σ' H' Q)
theorem qAa:PGs X [] qQm:=by
 intro pins s σ H vs us Q I r h
 obtain⟨e,h⟩:=h
 subst e
 cases r
 exact assignInOrder_nil ⟨σ,H,I,h⟩
theorem jV {e:Expr}{es:List Expr}{t:TG}{u:TGs}(h1:PG X e t)(h2:PGs X es u)
 (hs:(assignEach (e::es) X.env).map (·.2)=assign e X.env::(assignEach es X.env).map (·.2):=by rfl):PGs X (e::es) (qAf t u):=by
 intro pins s σ H vs us Q I r h
 obtain⟨v,vr,e1,h⟩:=h
 subst e1
 cases r with
 | cons r rr=>
  rw [hs]
  refine assignInOrder_cons (thn (h1 pins s σ H _ _ _ I r h) fun _ s1 ⟨σ1,H1,I1,q1⟩=>?_)
  exact h2 pins s1 σ1 H1 _ _ Q I1 rr q1
inductive qQj (K:PySem.W.Frag)(n:Nat)(t:TGs)(v:V)(σ:L2.St)(H:Hp)(Q:L2.St→Hp→Prop):Prop
| mk a xs (_:v= .ref a) (_:SqT K H a xs) (_:xs.length=n) (_:t xs σ H Q)
theorem qDv {es:List Expr}{k:Nat}{t:TGs}{n:Nat}(hc:X.calm=true)(h:PGs X es t)
 (hn:(assignEach es X.env).length=n:=by rfl) (hst:(assignEach es X.env).findIdx? (·.1)=none:=by rfl):PG X (.Tuple es k pos) (qQj X.K n t):=by
 intro pins s σ H v u Q I r hw
 obtain⟨a,xs,e1,hq,hl,hw⟩:=hw
 subst e1
 cases r
 obtain⟨its,rv,ht,hz⟩:=I.tuple hq
 refine assign_Tuple_tuple (I.ok.hd hc) ht (by simp [hn,← hl,rv.length]) hst fun h' hx=>?_
 have I1:Inv X pins σ H {s with heap:=h'}:=I.kept (t':=s.toks) fun b o e=>hx b o (Nat.ne_of_lt (Heap.lt_size e)) e
 exact h pins _ σ H xs _ Q I1 (by simpa using rv) hw
def qSl (to ti:TE)(t:qRi):TG:=fun v σ H Q=>to σ H fun o H1=>ti σ H1 fun i H2=>t o i v H2 fun H3=>Q σ H3
theorem qPc {o i:Expr}{to ti:TE}{t:qRi}(ho:PE X o to)(hi:PE X i ti)(hs:qRy X t)
 (ha:∀ v,assign (.Subscript o i pos) X.env v=(do
   let ov ← holding [v] (eval o X.env)
   let iv ← holding [v,ov] (eval i X.env)
   standAt pos
   holding [v,ov,iv] (setItem ov iv v)
   release [v,ov,iv] []):=by intro _;rfl):PG X (.Subscript o i pos) (qSl to ti t):=by
 intro pins s σ H v u Q I r h
 rw [ha]
 refine wpAny_bind (wpAny_holding (thn (ho pins s σ H _ I h) fun ov s1 ⟨x,H1,I1,r1,q1⟩=>?_))
 refine wpAny_bind (wpAny_holding (thn (hi pins s1 σ H1 _ I1 q1) fun iv s2 ⟨y,H2,I2,r2,q2⟩=>?_))
 refine wpAny_bind (wpAny_standAt (wpAny_bind (wpAny_holding (thn (hs pins s2 σ H2 x y v ov iv u _ I2 r1 r2 r q2) fun _ s3 ⟨H3,I3,q3⟩=>?_))))
 exact wpAny_release ⟨σ,H3,I3,q3⟩
def qNx (te:TE)(g:TG):TS:=fun D σ H=>te σ H fun x H1=>g x σ H1 D.nx
theorem qOr {tg e:Expr}{te:TE}{g:TG}(he:PE X e te)(hg:PG X tg g)(hs:swapsWithSole [tg] e pos.line X.env=pure false:=by rfl)(hw:swappedStores [tg] e X.env=pure none:=by rfl)
 (h1:(assignEach [tg] X.env).map (·.2)=[assign tg X.env]:=by rfl):PS X (.Assign [tg] e pos) (qNx te g):=by
 intro pins s σ H D I h
 refine wpAny_Assign_stores (thn (he pins s σ H _ I h) fun v s1 ⟨x,H1,I1,r1,q1⟩=>?_) hs hw
 rw [h1]
 exact thn (hg pins s1 σ H1 x v _ I1 r1 q1) fun _ s2 q=>q
theorem qMn {i:Nat}{x:Str}{e:Expr}{te:TE}{pos':Pos}(hN:X.N.Nodup)(hi:X.N[i]? =some x)(hx:Loc X.env.scope x)(he:PE X e te)(hs:swapsWith e (some (.Name x pos')) pos.line X.env=pure false:=by rfl)(hf:X.fn x=true∨X.env.scope.names.lookup x=some .local:=by first | exact .inl rfl | exact .inr rfl | assumption):
 PS X (.Assign [.Name x pos'] e pos) (qNx te (zH i)):=by
 intro pins s σ H D I h
 refine wpAny_Assign_Name (thn (he pins s σ H _ I h) fun v s1 ⟨y,H1,I1,r1,q1⟩=>?_) hs
 exact wT I1 hN hi hx r1 (fun s2 I2=>⟨_,H1,I2,q1⟩) hf
inductive qRb (i:Nat)(j:Nat)(D:qHq)(σ:L2.St)(vs:List V)(H1:Hp):Prop
| mk v w (_:vs=[v,w]) (_:D.nx ((σ.set i (some v)).set j (some w)) H1)
def qR9 (i j:Nat)(ta:TA):TS:=fun D σ H=>ta σ H fun vs H1=>qRb i j D σ vs H1
theorem qPm {i j:Nat}{x y:Str}{a b:Expr}{ta:TA}{px py pt:Pos}{kt k2 pt2}(hc:X.calm=true)(hN:X.N.Nodup)(hi:X.N[i]? =some x)(hj:X.N[j]? =some y)(hij:i≠j)
 (hx:X.env.scope.names.lookup x=some .local) (hy:X.env.scope.names.lookup y=some .local) (ha:PA X [a,b] ta)
 (hw:swappedStores [.Tuple [.Name x px,.Name y py] kt pt] (.Tuple [a,b] k2 pt2) X.env=pure (some [x,y]))
 (hs:swapsWithSole [.Tuple [.Name x px,.Name y py] kt pt] (.Tuple [a,b] k2 pt2) pos.line X.env=pure false:=by rfl):
 PS X (.Assign [.Tuple [.Name x px,.Name y py] kt pt] (.Tuple [a,b] k2 pt2) pos) (qR9 i j ta):=by
 intro pins s σ H D I h
 rw [exec_Assign_arm]
 refine wpAny_bind (wpAny_standAt ?_)
 rw [hs]
 refine wpAny_bind (wpAny_pure ?_)
 rw [if_neg (by decide)]
 refine wpAny_bind (Tuple_ (thn (ha _ pins s σ H _ I h) fun us s1 ⟨vs,H1,I1,r1,q1⟩=>?_))
 obtain⟨v,w,e1,q1⟩:=q1
 subst e1
 obtain⟨u1,u2,rfl,rv,rw'⟩:∃ u1 u2,us=[u1,u2]∧RelV v u1∧RelV w u2:=by
  cases r1 with
  | cons p q=>
   cases q with
   | cons p' q'=>
    cases q'
    exact⟨_,_,rfl,p,p'⟩
 refine wpAny_newObj_type ?_ (by show 2≤sizeLine;decide)
 have I2:Inv X pins σ H1 {s1 with heap:=s1.heap.push {cls:=.type "tuple",data:=.seq [u1,u2].toArray}}:=I1.kept (t':=s1.toks) fun b o e=>Heap.get?_push_of_some _ e
 rw [hw]
 refine wpAny_bind (wpAny_pure ?_)
 show wpAny (model X.prog X.w) X.A (do rule "assign.swapped-stores";let items ← unpackItems (.ref s1.heap.objs.size) 2 none;assignInOrder [fun v=>bindName X.env y v,fun v=>bindName X.env x v] items.reverse;pure Flow.next) _ _ _
 refine wpAny_bind (wpAny_rule (wpAny_bind (unpackItems_tuple (items:=#[u1,u2]) (I.ok.hd hc) (IsTup.new s1.heap _) fun h' hx'=>?_)))
 have I3:=I2.kept (h':=h') (t':=s1.toks) fun b o e=>hx' b o (Nat.ne_of_lt (Heap.lt_size e)) e
 show wpAny _ _ (assignInOrder [fun v=>bindName X.env y v,fun v=>bindName X.env x v] [u2,u1] >>=fun _=>pure Flow.next) _ _ _
 refine wpAny_bind (assignInOrder_cons (wpAny_bindName (wT I3 hN hj (.inl hy) rw' (fun s2 I4=>?_) (.inr hy))))
 refine assignInOrder_cons (wpAny_bindName (wT I4 hN hi (.inl hx) rv (fun s3 I5=>assignInOrder_nil (wpAny_pure ?_)) (.inr hx)))
 rw [List.set_comm _ _ (Ne.symm hij)] at I5
 exact⟨_,H1,I5,q1⟩
end
section
variable {X : Cx} {pos : Pos}
def qMq (c:TT)(tb:TS):TS:=fun D σ H=>∃ W:Nat→St→Hp→Prop,(∃ m,W m σ H)∧∀ m σ H,W m σ H→
 c σ H fun b H1=>if b=true then ∃ N:St→Hp→Prop,(∀ σ' H',N σ' H'→∃ m',m' < m∧W m' σ' H')∧tb {D with nx:=N,ct:=N,bk:=D.nx} σ H1 else D.nx σ H1
theorem vO {c:Expr}{body:List Stmt}{tc:TT}{tb:TS}(hp:PassesOwn (model X.prog X.w) X.A X.env X.xe)(hc:PT X c tc)(hb:PSs X body tb):PS X (.While c body [] pos) (qMq tc tb):=by
 intro pins s σ H D I h
 obtain⟨W,⟨m0,w0⟩,turn⟩:=h
 refine wpAny_While (codeAny_whileLoop (fun n s'=>∃ σ' H',Inv X pins σ' H' s'∧W n σ' H') ?_ m0 ⟨σ,H,I,w0⟩)
 rintro n s1 ⟨σ1,H1,I1,w1⟩
 refine wpAny_passesOwn hp (thn (hc pins s1 σ1 H1 _ I1 (turn n σ1 H1 w1)) fun b s2 ⟨H2,I2,q2⟩=>?_)
 cases b with
 | true=>
  obtain⟨N,hN,q2⟩:=q2
  rw [if_pos rfl]
  refine wpAny_passesOwn hp (thn (hb pins s2 σ1 H2 _ I2 q2) fun f s3 q3=>?_)
  cases f with
  | next=>
   obtain⟨σ3,H3,I3,n3⟩:=q3
   obtain⟨m',hm,w3⟩:=hN σ3 H3 n3
   exact⟨m',hm,σ3,H3,I3,w3⟩
  | cont=>
   obtain⟨σ3,H3,I3,n3⟩:=q3
   obtain⟨m',hm,w3⟩:=hN σ3 H3 n3
   exact⟨m',hm,σ3,H3,I3,w3⟩
  | brk=>exact q3
  | ret v=>exact q3
 | false=>
  rw [if_neg Bool.false_ne_true]
  exact wpAny_execs_nil ⟨σ1,H2,I2,q2⟩
end
structure It where
 go:Nat→Hp→Prop
 yld:Nat→Hp→V→Hp→Prop
 stop:Nat→Hp→Prop
def qLc (X:Cx)(pins:List (Addr × Obj))(H:Hp)(b:Addr):Prop:=
 H b=none∧b≠X.env.locals∧b ∉ X.fs∧(b∈X.ex∨X.s₀.heap.objs.size≤b)∧(∀ x c,X.env.cells.lookup x=some c→c≠b)∧∀ p∈X.pn++pins,p.1≠b
theorem Inv.fpOk {X:Cx}{pins:List (Addr × Obj)}{σ:St}{H H':Hp}{s:Shared}{b:Addr}(I:Inv X pins σ H s)(hb:s.heap.objs.size≤b)(hn:H' b=none):qLc X pins H' b:=by
 refine⟨hn,Nat.ne_of_gt (Nat.lt_of_lt_of_le I.lt hb),I.nofs hb,.inr (Nat.le_trans I.sz hb),fun x c e z=>?_,fun p hp z=>?_⟩
 · obtain⟨v,q⟩:=I.cell x c e
   exact absurd (Nat.lt_of_lt_of_le q.lt (by rw [z];exact hb)) (Nat.lt_irrefl _)
 · exact absurd (Nat.lt_of_lt_of_le (Heap.lt_size (I.pin p hp).1) (by rw [z];exact hb)) (Nat.lt_irrefl _)
structure qOj (P:Program)(w:World)(K:PySem.W.Frag)(tg:Expr)(J:It)(fp:List Addr)(it:Addr)(tn:Nat→Heap→Prop):Prop where
 mem:it∈fp
 obj:∀ i h,tn i h→∀ b∈fp,∃ o,h.get? b=some o∧∀ v,o.data≠ .cell v
 keep:∀ i h h',tn i h→(∀ b∈fp,∀ o,h.get? b=some o→h'.get? b=some o)→tn i h'
 item:∀ (X:Cx),X.prog=P→X.w=w→X.K=K→X.calm=true→∀ (i:Nat) (pins:List (Addr × Obj)) (s:Shared) (σ:St) (H:Hp) (E:Value→Shared→Prop),Inv X pins σ H s→(∀ b∈fp,qLc X pins H b)→tn i s.heap→J.go i H→
  wpAny (model P w) X.A (pyNext (.ref it)) (fun r s1=>∃ u,r=some u∧
   wpAny (model P w) X.A (letOwnedTupleGo tg (.ref it) u) (fun _ s2=>∃ x H',Inv X pins σ H' s2∧RelV x u∧J.yld i H x H'∧tn (i+1) s2.heap∧∀ b∈fp,H' b=none) E s1) E s
 done:∀ (X:Cx),X.prog=P→X.w=w→X.K=K→X.calm=true→∀ (i:Nat) (pins:List (Addr × Obj)) (s:Shared) (σ:St) (H:Hp) (E:Value→Shared→Prop),Inv X pins σ H s→(∀ b∈fp,qLc X pins H b)→tn i s.heap→J.stop i H→
  wpAny (model P w) X.A (pyNext (.ref it)) (fun r s1=>r=none∧Inv X pins σ H s1) E s
 self:∀ (A:Around) (i:Nat) (s:Shared) (Q:Value→Shared→Prop) (E:Value→Shared→Prop),tn i s.heap→Q (.ref it) s→wpAny (model P w) A (pyIter (.ref it)) Q E s
abbrev TI:=St→Hp→(It→Hp→Prop)→Prop
def PIE (X:Cx)(pins:List (Addr × Obj))(σ:St)(tg:Expr)(R:It→Hp→Prop)(itv:Value)(s2:Shared):Prop:=
 ∃ (it:Addr) (fp:List Addr) (tn:Nat→Heap→Prop) (J:It) (H':Hp),itv= .ref it∧Inv X pins σ H' s2∧qOj X.prog X.w X.K tg J fp it tn∧tn 0 s2.heap∧(∀ b∈fp,qLc X pins H' b)∧R J H'
def PI (X:Cx)(tg iter:Expr)(wi:TI):Prop:=
 ∀ (pins:List (Addr × Obj)) (s:Shared) (σ:St) (H:Hp) (R:It→Hp→Prop),Inv X pins σ H s→wi σ H R→
  wpAny (model X.prog X.w) X.A (eval iter X.env) (fun v s1=>wpAny (model X.prog X.w) X.A (pyIter v) (PIE X pins σ tg R) X.xe s1) X.xe s
theorem qNu {M:Model}{A:Around}{E:Value→Shared→Prop}{s:Shared}{tg:Expr}{it:Addr}{u:Value}{o:Obj}{n:String}{vs:Array Value}{Q:Unit→Shared→Prop}(ho:s.heap.get? it=some o)(hc:o.cls= .type n)(hd:o.data= .fields vs)
 (hn:["enumerate","zip","dict_itemiterator","dict_reverseitemiterator","odict_iterator","itertools.zip_longest","itertools.pairwise"].contains n=false) (hQ:Q () s):wpAny M A (letOwnedTupleGo tg (.ref it) u) Q E s:=by
 unfold letOwnedTupleGo
 cases tg <;> first
  | exact wpAny_pure hQ
  | (cases u <;> first
      | exact wpAny_pure hQ
      | (refine wpAny_bind (wpAny_load ho ?_)
         rw [hc,hd]
         show wpAny M A (if (["enumerate","zip","dict_itemiterator","dict_reverseitemiterator","odict_iterator","itertools.zip_longest","itertools.pairwise"].contains n && vs[0]? == some (rawInt _))=true then _ else _) Q E s
         rw [if_neg (by intro h;rw [hn,Bool.false_and] at h;cases h)]
         exact wpAny_pure hQ))
def Itl (K:PySem.W.Frag)(a:Addr):It:=
 ⟨fun i H=>∃ xs x,SqL K H a xs∧xs[i]? =some x,fun i H x H'=>H'=H∧∀ xs,SqL K H a xs→xs[i]? =some x,fun i H=>∃ xs,SqL K H a xs∧xs.length≤i⟩
def Itt (K:PySem.W.Frag)(a:Addr):It:=
 ⟨fun i H=>∃ xs x,SqT K H a xs∧xs[i]? =some x,fun i H x H'=>H'=H∧∀ xs,SqT K H a xs→xs[i]? =some x,fun i H=>∃ xs,SqT K H a xs∧xs.length≤i⟩
def Itr (lo:Int)(n:Nat):It:=⟨fun i _=>i < n,fun i H x H'=>H'=H∧x= .int (lo+i),fun i _=>n≤i⟩
theorem qH1 {P:Program}{w:World}{K:PySem.W.Frag}{tg:Expr}(a it:Addr):qOj P w K tg (Itl K a) [it] it (fun i h=>h.IsListIter it a i) where
 mem:=by simp
 obj:=fun i h st b hb=>by
  have e:b=it:=by simpa using hb
  subst e
  obtain⟨o,e,c,d⟩:=st
  exact⟨o,e,fun v z=>by rw [d] at z;cases z⟩
 keep:=fun i h h' st k=>st.at fun o e=>k it (by simp) o e
 item:=by
  intro X hP hw hK hc i pins s σ H E I hf st hg
  subst hP hw hK
  obtain⟨xs,x,hq,hx⟩:=hg
  obtain⟨its,rv,p,hz⟩:=I.list hq
  obtain⟨u,hu,ru⟩:=rv.get hx
  obtain⟨f0,f1,f2,f3,f4,f5⟩:=hf it (by simp)
  refine wpAny_pyNext_list_item st p.isList (x:=u) (by simpa using hu) fun h' st' sb=>?_
  have I1:Inv X pins σ H {s with heap:=h'}:=I.turned (t':=s.toks) (fun b o hb e=>(sb.2 b hb).trans e) f0 f1 f3 f4 f5
  obtain⟨o,e,c,d⟩:=id st'
  exact⟨u,rfl,qNu (s:={s with heap:=h'}) e c d (by decide) ⟨x,H,I1,ru,⟨rfl,fun ys hy=>by rw [I.list_inj hy hq];exact hx⟩,st',fun b hb=>(hf b hb).1⟩⟩
 done:=by
  intro X hP hw hK hc i pins s σ H E I hf st hg
  subst hP hw hK
  obtain⟨xs,hq,hx⟩:=hg
  obtain⟨its,rv,p,hz⟩:=I.list hq
  obtain⟨f0,f1,f2,f3,f4,f5⟩:=hf it (by simp)
  have hl:=rv.length
  exact wpAny_pyNext_list_end (I.ok.hd hc) st p.isList (by simp;omega) fun h' eb=>⟨rfl,I.turned (t':=s.toks) (fun b o hb e=>eb b o hb e) f0 f1 f3 f4 f5⟩
 self:=fun _ _ _ _ _ st h=>wpAny_pyIter_listiter st h
theorem qGv {P:Program}{w:World}{K:PySem.W.Frag}{tg:Expr}(a it:Addr):qOj P w K tg (Itt K a) [it] it (fun i h=>h.IsTupleIter it a i) where
 mem:=by simp
 obj:=fun i h st b hb=>by
  have e:b=it:=by simpa using hb
  subst e
  obtain⟨o,e,c,d⟩:=st
  exact⟨o,e,fun v z=>by rw [d] at z;cases z⟩
 keep:=fun i h h' st k=>st.at fun o e=>k it (by simp) o e
 item:=by
  intro X hP hw hK hc i pins s σ H E I hf st hg
  subst hP hw hK
  obtain⟨xs,x,hq,hx⟩:=hg
  obtain⟨its,rv,p,hz⟩:=I.tuple hq
  obtain⟨u,hu,ru⟩:=rv.get hx
  obtain⟨f0,f1,f2,f3,f4,f5⟩:=hf it (by simp)
  refine wpAny_pyNext_tuple_item st (show s.heap.IsTuple a its.toArray from p) (x:=u) (by simpa using hu) fun h' st' sb=>?_
  have I1:Inv X pins σ H {s with heap:=h'}:=I.turned (t':=s.toks) (fun b o hb e=>(sb.2 b hb).trans e) f0 f1 f3 f4 f5
  obtain⟨o,e,c,d⟩:=id st'
  exact⟨u,rfl,qNu (s:={s with heap:=h'}) e c d (by decide) ⟨x,H,I1,ru,⟨rfl,fun ys hy=>by rw [I.tuple_inj hy hq];exact hx⟩,st',fun b hb=>(hf b hb).1⟩⟩
 done:=by
  intro X hP hw hK hc i pins s σ H E I hf st hg
  subst hP hw hK
  obtain⟨xs,hq,hx⟩:=hg
  obtain⟨its,rv,p,hz⟩:=I.tuple hq
  obtain⟨f0,f1,f2,f3,f4,f5⟩:=hf it (by simp)
  have hl:=rv.length
  exact wpAny_pyNext_tuple_end (I.ok.hd hc) st (show s.heap.IsTuple a its.toArray from p) (by simp;omega) fun h' eb=>⟨rfl,I.turned (t':=s.toks) (fun b o hb e=>eb b o hb e) f0 f1 f3 f4 f5⟩
 self:=fun _ _ _ _ _ st h=>wpAny_pyIter_tupleiter st h
theorem qG3 {P:Program}{w:World}{K:PySem.W.Frag}{tg:Expr}(it:Addr)(lo:Int)(n:Nat):qOj P w K tg (Itr lo n) [it] it (fun i h=>IsRangeIter h it (lo+(i:Nat)*1) ((n:Int) - (i:Nat)) 1) where
 mem:=by simp
 obj:=fun i h st b hb=>by
  have e:b=it:=by simpa using hb
  subst e
  exact⟨_,st,fun v z=>by
   have z':Data.fields _=Data.cell v:=z
   cases z'⟩
 keep:=fun i h h' st k=>k it (by simp) _ st
 item:=by
  intro X hP hw hK hc i pins s σ H E I hf st hg
  subst hP hw hK
  obtain⟨f0,f1,f2,f3,f4,f5⟩:=hf it (by simp)
  have W:=Walks.range (prog:=X.prog) (w:=X.w) (I.ok.hd hc) it lo 1 n
  refine W.item i s _ _ hg st fun v h' tk hv st' kk=>?_
  obtain⟨t,rfl⟩:=hv
  have I1:Inv X pins σ H {s with heap:=h',toks:=tk}:=I.turned (fun b o hb e=>kk b o (by simpa using hb) e) f0 f1 f3 f4 f5
  refine⟨_,rfl,qNu (s:={s with heap:=h',toks:=tk}) (n:="range_iterator") st' rfl rfl (by decide) ⟨.int (lo+i),H,I1,⟨t,?_⟩,⟨rfl,rfl⟩,st',fun b hb=>(hf b hb).1⟩⟩
  rw [Int.mul_one]
 done:=by
  intro X hP hw hK hc i pins s σ H E I hf st hg
  subst hP hw hK
  obtain⟨f0,f1,f2,f3,f4,f5⟩:=hf it (by simp)
  exact wpAny_pyNext_range_end (I.ok.hd hc) st (by have:n≤i:=hg;omega) fun h' eb=>⟨rfl,I.turned (t':=s.toks) (fun b o hb e=>eb b o hb e) f0 f1 f3 f4 f5⟩
 self:=fun _ _ _ _ _ st h=>wpAny_pyIter_rangeiter st h
end L2
namespace L2
open PySem PySem.Spec PyProof.Rows
section
variable {X : Cx} {tg : Expr}
inductive qO8 (K:PySem.W.Frag)(R:It→Hp→Prop)(x:V)(H1:Hp):Prop
| mk a (_:x= .ref a) (_:(∃ xs,SqL K H1 a xs)) (_:R (Itl K a) H1)
def qPf (K:PySem.W.Frag)(tl:TE):TI:=fun σ H R=>tl σ H fun x H1=>qO8 K R x H1
inductive qRe (K:PySem.W.Frag)(R:It→Hp→Prop)(x:V)(H1:Hp):Prop
| mk a (_:x= .ref a) (_:(∃ xs,SqT K H1 a xs)) (_:R (Itt K a) H1)
def qR3 (K:PySem.W.Frag)(tl:TE):TI:=fun σ H R=>tl σ H fun x H1=>qRe K R x H1
theorem jf {l:Expr}{tl:TE}(hl:PE X l tl):PI X tg l (qPf X.K tl):=by
 intro pins s σ H R I h
 refine thn (hl pins s σ H _ I h) fun v s1 ⟨x,H1,I1,r1,q1⟩=>?_
 obtain⟨a,e,⟨xs,hq⟩,q⟩:=q1
 subst e
 cases r1
 obtain⟨its,rv,p,hz⟩:=I1.list hq
 refine wpAny_pyIter_list p.isList ?_
 refine⟨s1.heap.objs.size,[s1.heap.objs.size],_,_,H1,rfl,I1.kept (t':=s1.toks) fun b o e=>Heap.get?_push_of_some _ e,qH1 a _,⟨_,Heap.get?_push_size _ rfl,rfl,rfl⟩,fun b hb=>?_,q⟩
 have e:b=s1.heap.objs.size:=by simpa using hb
 subst e
 exact I1.fpOk (Nat.le_refl _) (I1.hok.fresh (Nat.le_refl _))
theorem qA4 {l:Expr}{tl:TE}(hl:PE X l tl):PI X tg l (qR3 X.K tl):=by
 intro pins s σ H R I h
 refine thn (hl pins s σ H _ I h) fun v s1 ⟨x,H1,I1,r1,q1⟩=>?_
 obtain⟨a,e,⟨xs,hq⟩,q⟩:=q1
 subst e
 cases r1
 obtain⟨its,rv,p,hz⟩:=I1.tuple hq
 refine wpAny_pyIter_tuple (show s1.heap.IsTuple a its.toArray from p) ?_
 refine⟨s1.heap.objs.size,[s1.heap.objs.size],_,_,H1,rfl,I1.kept (t':=s1.toks) fun b o e=>Heap.get?_push_of_some _ e,qGv a _,⟨_,Heap.get?_push_size _ rfl,rfl,rfl⟩,fun b hb=>?_,q⟩
 have e:b=s1.heap.objs.size:=by simpa using hb
 subst e
 exact I1.fpOk (Nat.le_refl _) (I1.hok.fresh (Nat.le_refl _))
theorem qF6 {pins:List (Addr × Obj)}{σ:St}{H:Hp}{s:Shared}{R:It→Hp→Prop}{E:Value→Shared→Prop}{lo hi:Int}{t u v:Tok}{tk:Nat}(I:Inv X pins σ H s)(h1:-(2 ^ 62)≤lo)(h2:lo < 2 ^ 62)(h3:-(2 ^ 62)≤hi)(h4:hi < 2 ^ 62)
 (q:R (Itr lo (hi - lo).toNat) H):wpAny (model X.prog X.w) X.A (pyIter (.ref s.heap.objs.size)) (PIE X pins σ tg R) E {s with heap:=s.heap.push {cls:=.type "range",data:=.fields #[.int lo t,.int hi u,.int 1 v]},toks:=tk}:=by
 refine wpAny_pyIter_range (IsRange.new ..) (small_one h1 h2 h3 h4) ?_
 have I1:Inv X pins σ H {s with heap:=s.heap.push {cls:=.type "range",data:=.fields #[.int lo t,.int hi u,.int 1 v]},toks:=tk}:=I.kept fun b o e=>Heap.get?_push_of_some _ e
 refine⟨(s.heap.push {cls:=.type "range",data:=.fields #[.int lo t,.int hi u,.int 1 v]}).objs.size,[(s.heap.push {cls:=.type "range",data:=.fields #[.int lo t,.int hi u,.int 1 v]}).objs.size],_,_,H,rfl,
  I1.kept (t':=tk) fun b o e=>Heap.get?_push_of_some _ e,qG3 _ lo (hi - lo).toNat,?_,fun b hb=>?_,q⟩
 · have e1:lo+((0:Nat):Int)*1=lo:=by simp
   have e2:(((hi - lo).toNat:Nat):Int) - ((0:Nat):Int)=Builtin.Range.rangeSize lo hi 1:=by rw [rangeSize_one];split <;> omega
   show IsRangeIter _ _ (lo+((0:Nat):Int)*1) ((((hi - lo).toNat:Nat):Int) - ((0:Nat):Int)) 1
   rw [e1,e2]
   exact Heap.get?_push_size _ rfl
 · have e:b=(s.heap.push {cls:=.type "range",data:=.fields #[.int lo t,.int hi u,.int 1 v]}).objs.size:=by simpa using hb
   subst e
   exact I1.fpOk (Nat.le_refl _) (I1.hok.fresh (Nat.le_refl _))
def qQu (ta:TA):TI:=fun σ H R=>ta σ H fun vs H1=>∃ j:Int,vs=[.int j]∧-(2 ^ 62)≤j∧j < 2 ^ 62∧R (Itr 0 j.toNat) H1
def qRg (ta:TA):TI:=fun σ H R=>ta σ H fun vs H1=>∃ i j:Int,vs=[.int i,.int j]∧(-(2 ^ 62)≤i∧i < 2 ^ 62∧-(2 ^ 62)≤j∧j < 2 ^ 62)∧R (Itr i (j - i).toNat) H1
theorem qD5 {a:Expr}{ta:TA}{p pos:Pos}(hg:Gl X "range")(hm:X.mg "range"=none)(ha:PA X [a] ta)(hs:starEach [a] X.env=[(false,eval a X.env)]:=by rfl):PI X tg (.Call (.Name "range" p) [a] [] pos) (qQu ta):=by
 intro pins s σ H R I h
 refine Call_ (wC I hg hm boot_range (PyProof.Rows.callWith_type1 (thn (ha pos pins s σ H _ I h) fun us s1 ⟨vs,H1,I1,r1,q1⟩=>?_) hs rfl))
 obtain⟨j,e,q1,q2,q⟩:=q1
 subst e
 cases r1 with
 | cons r rr=>
  cases rr
  obtain⟨t,rfl⟩:=r
  exact call_range_1 (qF6 I1 (by omega) (by omega) q1 q2 (by simpa using q))
theorem qJl {a b:Expr}{ta:TA}{p pos:Pos}(hg:Gl X "range")(hm:X.mg "range"=none)(ha:PA X [a,b] ta)(hs:starEach [a,b] X.env=[(false,eval a X.env),(false,eval b X.env)]:=by rfl)(hs2:starEach [b] X.env=[(false,eval b X.env)]:=by rfl):
 PI X tg (.Call (.Name "range" p) [a,b] [] pos) (qRg ta):=by
 intro pins s σ H R I h
 refine Call_ (wC I hg hm boot_range (PyProof.Rows.callWith_type1 (thn (ha pos pins s σ H _ I h) fun us s1 ⟨vs,H1,I1,r1,q1⟩=>?_) (by rw [hs,hs2]) (by rw [hs2];rfl)))
 obtain⟨i,j,e,⟨q1,q2,q3,q4⟩,q⟩:=q1
 subst e
 cases r1 with
 | cons r rr=>
  cases rr with
  | cons r' rr=>
   cases rr
   obtain⟨t,rfl⟩:=r
   obtain⟨t',rfl⟩:=r'
   exact call_range_2 (qF6 I1 q1 q2 q3 q4 q)
def qSu (wi:TI)(g:TG)(tb:TS):TS:=fun D σ H=>wi σ H fun J H1=>∃ W:Nat→Nat→St→Hp→Prop,(∃ m,W 0 m σ H1)∧∀ i m σ H,W i m σ H→
 (J.stop i H∧D.nx σ H)∨(J.go i H∧∃ N:St→Hp→Prop,(∀ σ' H',N σ' H'→∃ m',m' < m∧W (i+1) m' σ' H')∧∀ x H',J.yld i H x H'→g x σ H' fun σ2 H2=>tb {D with nx:=N,ct:=N,bk:=D.nx} σ2 H2)
def qD6 (fp:List Addr)(h:Heap):List (Addr × Obj):=fp.filterMap fun b=>(h.get? b).map fun o=>(b,o)
theorem vU {fp:List Addr}{h:Heap}{b:Addr}{o:Obj}(hb:b∈fp)(e:h.get? b=some o):(b,o)∈qD6 fp h:=List.mem_filterMap.mpr ⟨b,hb,by rw [e];rfl⟩
theorem qJ0 {fp:List Addr}{h:Heap}{p:Addr × Obj}(hp:p∈qD6 fp h):p.1∈fp∧h.get? p.1=some p.2:=by
 obtain⟨b,hb,e⟩:=List.mem_filterMap.mp hp
 cases q:h.get? b with
 | none=>rw [q] at e;cases e
 | some o=>
  rw [q] at e
  have e':(b,o)=p:=Option.some.inj e
  subst e'
  exact⟨hb,q⟩
theorem Inv.pinned {pins:List (Addr × Obj)}{σ:St}{H:Hp}{s:Shared}{fp:List Addr}(I:Inv X pins σ H s)(hf:∀ b∈fp,qLc X pins H b)(ho:∀ b∈fp,∃ o,s.heap.get? b=some o∧∀ v,o.data≠ .cell v):Inv X (pins++qD6 fp s.heap) σ H s:=
 I.pins_of fun p hp=>(List.mem_append.mp hp).elim (fun z=>I.pin p (List.mem_append_right _ z)) fun z=>by
  obtain⟨hb,e⟩:=qJ0 z
  obtain⟨f0,f1,f2,_⟩:=hf p.1 hb
  obtain⟨o,e',d⟩:=ho p.1 hb
  rw [e] at e';cases e'
  exact⟨e,f0,f1,f2,d⟩
theorem Inv.unpinned {pins pl:List (Addr × Obj)}{σ:St}{H:Hp}{s:Shared}(I:Inv X (pins++pl) σ H s):Inv X pins σ H s:=I.pins_of fun p hp=>I.pin p (List.mem_append_right _ (List.mem_append_left _ hp))
theorem xV {iter:Expr}{body:List Stmt}{wi:TI}{g:TG}{tb:TS}{pos:Pos}(hp:PassesOwn (model X.prog X.w) X.A X.env X.xe)(hc:X.calm=true)(hi:PI X tg iter wi)(hg:PG X tg g)(hb:PSs X body tb)
 (hs:∀ x,foldedSetIterable iter X.env x=pure x:=by intro _;rfl):PS X (.For tg iter body [] pos) (qSu wi g tb):=by
 intro pins s σ H D I h
 refine wpAny_For (thn (hi pins s σ H _ I h) fun v s1 h1=>thn h1 fun itv s2 h2=>?_) hs
 obtain⟨it,fp,tn,J,H2,e,I2,T,st2,f2,W,⟨m0,w0⟩,turn⟩:=h2
 subst e
 have stat:∀ {H':Hp},(∀ b∈fp,H' b=none)→∀ b∈fp,qLc X pins H' b:=fun hn b hb=>⟨hn b hb,(f2 b hb).2⟩
 refine codeAny_forLoop_any (fun n s'=>∃ i σ' H',Inv X pins σ' H' s'∧tn i s'.heap∧(∀ b∈fp,H' b=none)∧W i n σ' H') ?_ m0 ⟨0,σ,H2,I2,st2,fun b hb=>(f2 b hb).1,w0⟩
 rintro n s3 ⟨i,σ3,H3,I3,st3,fr3,w3⟩
 rcases turn i n σ3 H3 w3 with ⟨stop,qn⟩ | ⟨go,N,hN,step⟩
 · refine wpAny_passesOwn hp (thn (T.done X rfl rfl rfl hc i pins s3 σ3 H3 X.xe I3 (stat fr3) st3 stop) fun r s4 ⟨hr,I4⟩=>?_)
   subst hr
   exact wpAny_execs_nil ⟨σ3,H3,I4,qn⟩
 · refine wpAny_passesOwn hp (thn (T.item X rfl rfl rfl hc i pins s3 σ3 H3 X.xe I3 (stat fr3) st3 go) fun r s4 ⟨u,hr,h4⟩=>?_)
   subst hr
   refine wpAny_passesOwn hp (thn h4 fun _ s5 ⟨x,H5,I5,r5,y5,st5,fr5⟩=>?_)
   have I5':=I5.pinned (stat fr5) (T.obj _ _ st5)
   refine wpAny_passesOwn hp (thn (hg _ s5 σ3 H5 x u _ I5' r5 (step x H5 y5)) fun _ s6 ⟨σ6,H6,I6,q6⟩=>?_)
   refine wpAny_passesOwn hp (thn (hb _ s6 σ6 H6 _ I6 q6) fun f s7 q7=>?_)
   have again:∀ {σ7:St} {H7:Hp},Inv X (pins++qD6 fp s5.heap) σ7 H7 s7→N σ7 H7→∃ m,m < n∧∃ i σ' H',Inv X pins σ' H' s7∧tn i s7.heap∧(∀ b∈fp,H' b=none)∧W i m σ' H':=fun {σ7 H7} I7 n7=>by
    obtain⟨m',hm,w7⟩:=hN σ7 H7 n7
    refine⟨m',hm,i+1,σ7,H7,I7.unpinned,T.keep _ _ _ st5 fun b hb o e=>(I7.pin (b,o) (List.mem_append_right _ (List.mem_append_right _ (vU hb e)))).1,fun b hb=>?_,w7⟩
    obtain⟨o,e,d⟩:=T.obj _ _ st5 b hb
    exact(I7.pin (b,o) (List.mem_append_right _ (List.mem_append_right _ (vU hb e)))).2.1
   cases f with
   | next=>obtain⟨σ7,H7,I7,n7⟩:=q7;exact again I7 n7
   | cont=>obtain⟨σ7,H7,I7,n7⟩:=q7;exact again I7 n7
   | brk=>obtain⟨σ7,H7,I7,q7⟩:=q7;exact⟨σ7,H7,I7.unpinned,q7⟩
   | ret v=>obtain⟨x7,σ7,H7,I7,r7,q7⟩:=q7;exact⟨x7,σ7,H7,I7.unpinned,r7,q7⟩
end
theorem xu {K:PySem.W.Frag}{a:Addr}{xs:List V}{g:TG}{tb:TS}{D:qHq}{σ:St}{H:Hp}(Pv:Nat→St→Hp→Prop)(h0:Pv 0 σ H)(hl:∀ i σ H,i≤xs.length→Pv i σ H→SqL K H a xs)
 (hs:∀ i x σ H,xs[i]? =some x→Pv i σ H→g x σ H fun σ2 H2=>tb {D with nx:=Pv (i+1),ct:=Pv (i+1),bk:=D.nx} σ2 H2) (hd:∀ σ H,Pv xs.length σ H→D.nx σ H):
 ∃ W:Nat→Nat→St→Hp→Prop,(∃ m,W 0 m σ H)∧∀ i m σ H,W i m σ H→
  ((Itl K a).stop i H∧D.nx σ H)∨((Itl K a).go i H∧∃ N:St→Hp→Prop,(∀ σ' H',N σ' H'→∃ m',m' < m∧W (i+1) m' σ' H')∧∀ x H',(Itl K a).yld i H x H'→g x σ H' fun σ2 H2=>tb {D with nx:=N,ct:=N,bk:=D.nx} σ2 H2):=by
 refine⟨fun i m σ H=>m=xs.length - i∧i≤xs.length∧Pv i σ H,⟨xs.length,by simp,Nat.zero_le _,h0⟩,?_⟩
 rintro i m σ H ⟨rfl,hi,p⟩
 have q:=hl i σ H hi p
 by_cases hlt:i < xs.length
 · refine .inr ⟨⟨xs,xs[i],q,by simp [hlt]⟩,Pv (i+1),fun σ' H' p'=>⟨xs.length - (i+1),by omega,rfl,hlt,p'⟩,fun x H' y=>?_⟩
   obtain⟨e,y⟩:=y
   subst e
   exact hs i x σ _ (y xs q) p
 · have e:i=xs.length:=by omega
   subst e
   exact .inl ⟨⟨xs,q,Nat.le_refl _⟩,hd σ H p⟩
theorem qI5 {K:PySem.W.Frag}{a:Addr}{xs:List V}{g:TG}{tb:TS}{D:qHq}{σ:St}{H:Hp}(Pv:Nat→St→Hp→Prop)(h0:Pv 0 σ H)(hl:∀ i σ H,i≤xs.length→Pv i σ H→SqT K H a xs)
 (hs:∀ i x σ H,xs[i]? =some x→Pv i σ H→g x σ H fun σ2 H2=>tb {D with nx:=Pv (i+1),ct:=Pv (i+1),bk:=D.nx} σ2 H2) (hd:∀ σ H,Pv xs.length σ H→D.nx σ H):
 ∃ W:Nat→Nat→St→Hp→Prop,(∃ m,W 0 m σ H)∧∀ i m σ H,W i m σ H→
  ((Itt K a).stop i H∧D.nx σ H)∨((Itt K a).go i H∧∃ N:St→Hp→Prop,(∀ σ' H',N σ' H'→∃ m',m' < m∧W (i+1) m' σ' H')∧∀ x H',(Itt K a).yld i H x H'→g x σ H' fun σ2 H2=>tb {D with nx:=N,ct:=N,bk:=D.nx} σ2 H2):=by
 refine⟨fun i m σ H=>m=xs.length - i∧i≤xs.length∧Pv i σ H,⟨xs.length,by simp,Nat.zero_le _,h0⟩,?_⟩
 rintro i m σ H ⟨rfl,hi,p⟩
 have q:=hl i σ H hi p
 by_cases hlt:i < xs.length
 · refine .inr ⟨⟨xs,xs[i],q,by simp [hlt]⟩,Pv (i+1),fun σ' H' p'=>⟨xs.length - (i+1),by omega,rfl,hlt,p'⟩,fun x H' y=>?_⟩
   obtain⟨e,y⟩:=y
   subst e
   exact hs i x σ _ (y xs q) p
 · have e:i=xs.length:=by omega
   subst e
   exact .inl ⟨⟨xs,q,Nat.le_refl _⟩,hd σ H p⟩
theorem ww {lo:Int}{n:Nat}{g:TG}{tb:TS}{D:qHq}{σ:St}{H:Hp}(Pv:Nat→St→Hp→Prop)(h0:Pv 0 σ H)
 (hs:∀ i σ H,i < n→Pv i σ H→g (.int (lo+i)) σ H fun σ2 H2=>tb {D with nx:=Pv (i+1),ct:=Pv (i+1),bk:=D.nx} σ2 H2) (hd:∀ σ H,Pv n σ H→D.nx σ H):
 ∃ W:Nat→Nat→St→Hp→Prop,(∃ m,W 0 m σ H)∧∀ i m σ H,W i m σ H→
  ((Itr lo n).stop i H∧D.nx σ H)∨((Itr lo n).go i H∧∃ N:St→Hp→Prop,(∀ σ' H',N σ' H'→∃ m',m' < m∧W (i+1) m' σ' H')∧∀ x H',(Itr lo n).yld i H x H'→g x σ H' fun σ2 H2=>tb {D with nx:=N,ct:=N,bk:=D.nx} σ2 H2):=by
 refine⟨fun i m σ H=>m=n - i∧i≤n∧Pv i σ H,⟨n,by simp,Nat.zero_le _,h0⟩,?_⟩
 rintro i m σ H ⟨rfl,hi,p⟩
 by_cases hlt:i < n
 · refine .inr ⟨hlt,Pv (i+1),fun σ' H' p'=>⟨n - (i+1),by omega,rfl,hlt,p'⟩,fun x H' y=>?_⟩
   obtain⟨e,y⟩:=y
   subst e y
   exact hs i σ _ hlt p
 · have e:i=n:=by omega
   subst e
   exact .inl ⟨Nat.le_refl _,hd σ H p⟩
theorem vJ {c:TT}{tb:TS}{D:qHq}{σ:St}{H:Hp}(Pv:St→Hp→Prop)(μ:St→Hp→Nat)(h0:Pv σ H)
 (hs:∀ σ H,Pv σ H→c σ H fun b H1=>if b=true then tb {D with nx:=fun σ' H'=>Pv σ' H'∧μ σ' H' < μ σ H,ct:=fun σ' H'=>Pv σ' H'∧μ σ' H' < μ σ H,bk:=D.nx} σ H1 else D.nx σ H1)
 (mono:∀ σ H Q Q',(∀ b H1,Q b H1→Q' b H1)→c σ H Q→c σ H Q'):qMq c tb D σ H:=by
 refine⟨fun m σ H=>m=μ σ H∧Pv σ H,⟨_,rfl,h0⟩,?_⟩
 rintro m σ H ⟨rfl,p⟩
 refine mono σ H _ _ (fun b H1 q=>?_) (hs σ H p)
 cases b with
 | true=>exact⟨_,fun σ' H' ⟨p',l⟩=>⟨_,l,rfl,p'⟩,q⟩
 | false=>exact q
end L2
namespace L2
open PySem PySem.Spec PyProof.Rows
abbrev R2:=V→V→Hp→VK→Prop
def OpR (X:Cx)(f:Value→Value→Sem Value)(r:R2):Prop:=
 ∀ (pins:List (Addr × Obj)) (s:Shared) (σ:St) (H:Hp) (x y:V) (v u:Value) (Q:VK),Inv X pins σ H s→RelV x v→RelV y u→r x y H Q→
  wpAny (model X.prog X.w) X.A (f v u) (EP X pins σ Q) X.xe s
def UnR (X:Cx)(f:Value→Sem Value)(r:V→Hp→VK→Prop):Prop:=
 ∀ (pins:List (Addr × Obj)) (s:Shared) (σ:St) (H:Hp) (x:V) (v:Value) (Q:VK),Inv X pins σ H s→RelV x v→r x H Q→
  wpAny (model X.prog X.w) X.A (f v) (EP X pins σ Q) X.xe s
def xX (X:Cx)(f:Value)(r:List V→Hp→VK→Prop):Prop:=
 ∀ (pins:List (Addr × Obj)) (s:Shared) (σ:St) (H:Hp) (xs:List V) (us:List Value) (Q:VK),Inv X pins σ H s→Vals xs us→r xs H Q→
  wpAny (model X.prog X.w) X.A (call f us) (EP X pins σ Q) X.xe s
def tOp (r:R2)(ta tb:TE):TE:=fun σ H Q=>ta σ H fun x H1=>tb σ H1 fun y H2=>r x y H2 Q
def tUn (r:V→Hp→VK→Prop)(ta:TE):TE:=fun σ H Q=>ta σ H fun x H1=>r x H1 Q
inductive rI (C:Int→Int→Prop)(g:Int→Int→V)(x:V)(y:V)(H:Hp)(Q:VK):Prop
| mk i j (_:x= .int i) (_:y= .int j) (_:C i j) (_:Q (g i j) H)
inductive rI0 (g:Int→Int→V)(x:V)(y:V)(H:Hp)(Q:VK):Prop
| mk i j (_:x= .int i) (_:y= .int j) (_:Q (g i j) H)
inductive rU (g:Int→V)(x:V)(H:Hp)(Q:VK):Prop
| mk i (_:x= .int i) (_:Q (g i) H)
section
variable {X : Cx} {a b c : Expr} {ta tb tc : TE} {pos : Pos}
theorem qRh (ha:PE X a ta)(hb:PE X b tb){pins:List (Addr × Obj)}{s:Shared}{σ:St}{H:Hp}{R:V→V→Hp→Prop}(I:Inv X pins σ H s)
 (h:ta σ H fun x H1=>tb σ H1 fun y H2=>R x y H2) {Q:Value→Shared→Prop} {f:Value→Value→Sem Value}
 (hf:∀ v u s2 x y H2,Inv X pins σ H2 s2→RelV x v→RelV y u→R x y H2→wpAny (model X.prog X.w) X.A (f v u) Q X.xe s2):
 wpAny (model X.prog X.w) X.A (eval a X.env) (fun v s₁=>wpAny (model X.prog X.w) X.A (eval b X.env) (fun u s₂=>wpAny (model X.prog X.w) X.A (f v u) Q X.xe s₂) X.xe s₁) X.xe s:=by
 refine thn (ha pins s σ H _ I h) fun v s1 ⟨x,H1,I1,r1,q1⟩=>?_
 refine thn (hb pins s1 σ H1 _ I1 q1) fun u s2 ⟨y,H2,I2,r2,q2⟩=>?_
 exact hf v u s2 x y H2 I2 r1 r2 q2
theorem qL {op:Operator}{r:R2}(ho:OpR X (binaryOp op) r)(ha:PE X a ta)(hb:PE X b tb):PE X (.BinOp a op b pos) (tOp r ta tb):=by
 intro pins s σ H Q I h
 exact wpAny_BinOp (qRh ha hb I h fun v u s2 x y H2 I2 rx ry q=>ho pins s2 σ H2 x y v u Q I2 rx ry q)
theorem kU {op:UnaryOp}{r:V→Hp→VK→Prop}(ho:UnR X (unaryOp op) r)(ha:PE X a ta):PE X (.UnaryOp op a pos) (tUn r ta):=by
 intro pins s σ H Q I h
 exact UnaryOp_ (thn (ha pins s σ H _ I h) fun v s1 ⟨x,H1,I1,r1,q1⟩=>ho pins s1 σ H1 x v Q I1 r1 q1)
theorem opI {f:Value→Value→Sem Value}{C:Int→Int→Prop}{g:Int→Int→Int}
 (rule:∀ (i j:Int) (t u:Tok) (s:Shared) (Q:Value→Shared→Prop) (E:Value→Shared→Prop),C i j→Q (.int (g i j) s.toks) {s with toks:=s.toks+1}→wpAny (model X.prog X.w) X.A (f (.int i t) (.int j u)) Q E s):
 OpR X f (rI C fun i j=>.int (g i j)):=by
 intro pins s σ H x y v u Q I rx ry h
 obtain⟨i,j,rfl,rfl,hc,q⟩:=h
 obtain⟨t,rfl⟩:=rx
 obtain⟨t',rfl⟩:=ry
 exact rule i j t t' s _ _ hc ⟨.int (g i j),H,I.tok _,⟨_,rfl⟩,q⟩
theorem qRx {f:Value→Value→Sem Value}{g:Int→Int→Int}
 (rule:∀ (i j:Int) (t u:Tok) (s:Shared) (Q:Value→Shared→Prop) (E:Value→Shared→Prop),Q (.int (g i j) s.toks) {s with toks:=s.toks+1}→wpAny (model X.prog X.w) X.A (f (.int i t) (.int j u)) Q E s):
 OpR X f (rI0 fun i j=>.int (g i j)):=by
 intro pins s σ H x y v u Q I rx ry h
 obtain⟨i,j,rfl,rfl,q⟩:=h
 obtain⟨t,rfl⟩:=rx
 obtain⟨t',rfl⟩:=ry
 exact rule i j t t' s _ _ ⟨.int (g i j),H,I.tok _,⟨_,rfl⟩,q⟩
theorem qQk {f:Value→Value→Sem Value}{g:Int→Int→Bool}
 (rule:∀ (i j:Int) (t u:Tok) (s:Shared) (Q:Value→Shared→Prop) (E:Value→Shared→Prop),Q (.bool (g i j)) s→wpAny (model X.prog X.w) X.A (f (.int i t) (.int j u)) Q E s):
 OpR X f (rI0 fun i j=>.bl (g i j)):=by
 intro pins s σ H x y v u Q I rx ry h
 obtain⟨i,j,rfl,rfl,q⟩:=h
 obtain⟨t,rfl⟩:=rx
 obtain⟨t',rfl⟩:=ry
 exact rule i j t t' s _ _ ⟨.bl (g i j),H,I,rfl,q⟩
def qR2 (i j:Int):Prop:=0≤j∧j≤1000000∧i.natAbs < 2 ^ 64
def CMul (i j:Int):Prop:=(-(2 ^ 64) < i∧i < 2 ^ 64)∨(-(2 ^ 64) < j∧j < 2 ^ 64)
theorem CMul.ok {i j:Int}(h:CMul i j):IntMulOk i j:=by
 rcases h with ⟨h1,h2⟩ | ⟨h1,h2⟩
 · exact .of_left (intBits_le_64 h1 h2)
 · exact .of_right (intBits_le_64 h1 h2)
theorem qc:OpR X (binaryOp .Add) (rI0 fun i j=>.int (i+j)):=qRx fun _ _ _ _ _ _ _ q=>add_int q
theorem jL:OpR X (binaryOp .Sub) (rI0 fun i j=>.int (i - j)):=qRx fun _ _ _ _ _ _ _ q=>sub_int q
theorem jH:OpR X (binaryOp .Mod) (rI (fun _ j=>j≠0) fun i j=>.int (i.fmod j)):=opI fun _ _ _ _ _ _ _ hc q=>mod_int' hc q
theorem qOx:OpR X (binaryOp .Pow) (rI qR2 fun i j=>.int (i ^ j.toNat)):=opI fun _ _ _ _ _ _ _ hc q=>pow_int_small hc.1 hc.2.1 hc.2.2 q
theorem unI {f:Value→Sem Value}{g:Int→Int}
 (rule:∀ (i:Int) (t:Tok) (s:Shared) (Q:Value→Shared→Prop) (E:Value→Shared→Prop),Q (.int (g i) s.toks) {s with toks:=s.toks+1}→wpAny (model X.prog X.w) X.A (f (.int i t)) Q E s):
 UnR X f (rU fun i=>.int (g i)):=by
 intro pins s σ H x v Q I rx h
 obtain⟨i,rfl,q⟩:=h
 obtain⟨t,rfl⟩:=rx
 exact rule i t s _ _ ⟨.int (g i),H,I.tok _,⟨_,rfl⟩,q⟩
theorem xJ:UnR X (unaryOp .USub) (rU fun i=>.int (-i)):=unI fun _ _ _ _ _ q=>neg_int q
end
def qRu:V→V→Bool
 | .non,.non=>true | .non,.int _=>true | .int _,.non=>true | .non,.bl _=>true | .bl _,.non=>true | .non,.str _=>true | .str _,.non=>true
 | .int _,.int _=>true | .bl _,.bl _=>true | .str _,.str _=>true | .byt _,.byt _=>true
 | .int _,.str _=>true | .str _,.int _=>true | .bl _,.str _=>true | .str _,.bl _=>true
 | _,_=>false
inductive rEq (x:V)(y:V)(H:Hp)(Q:VK):Prop
| mk (_:qRu x y=true) (_:Q (.bl (decide (x=y))) H)
inductive rNe (x:V)(y:V)(H:Hp)(Q:VK):Prop
| mk (_:qRu x y=true) (_:Q (.bl (!decide (x=y))) H)
theorem qIs {i j:Int}:decide (V.int i=V.int j)=(i == j):=by
 rw [Bool.eq_iff_iff]
 simp
theorem qMg {i j:Bool}:decide (V.bl i=V.bl j)=(i == j):=by
 rw [Bool.eq_iff_iff]
 simp
theorem qJ7 {i j:Str}:decide (V.str i=V.str j)=(i == j):=by
 rw [Bool.eq_iff_iff]
 simp
theorem qH7 {i j:Array UInt8}:decide (V.byt i=V.byt j)=(i.toList == j.toList):=by
 rw [Bool.eq_iff_iff]
 cases i
 cases j
 simp
section
variable {X : Cx} {a b c : Expr} {ta tb tc : TE} {pos : Pos}
theorem jF {pins:List (Addr × Obj)}{σ:St}{H:Hp}{s:Shared}{Q:VK}{k k':Bool}(I:Inv X pins σ H s)(q:Q (.bl k) H)(e:k=k'):EP X pins σ Q (.bool k') s:=by
 subst e
 exact⟨.bl k,H,I,rfl,q⟩
theorem zG:OpR X (compareOp .Eq) rEq:=by
 intro pins s σ H x y v u Q I rx ry h
 obtain⟨hs,q⟩:=h
 cases x with
 | non=>
  cases rx
  cases y with
  | non=>cases ry;exact PySem.EqNone.eq_none_none (jF I q (by simp))
  | bl j=>cases ry;exact PySem.EqNone.eq_none_bool (jF I q (by simp))
  | int j=>obtain⟨t',rfl⟩:=ry;exact PySem.EqNone.eq_none_int (jF I q (by simp))
  | str j=>obtain⟨t',rfl⟩:=ry;exact PySem.EqNone.eq_none_str (jF I q (by simp))
  | _=>exact absurd (show false=true from hs) Bool.false_ne_true
 | bl i=>
  cases rx
  cases y with
  | non=>cases ry;exact PySem.EqNone.eq_bool_none (jF I q (by simp))
  | bl j=>cases ry;exact eq_bool (jF I q qMg)
  | str j=>obtain⟨t',rfl⟩:=ry;exact PySem.EqMixed.eq_bool_str (jF I q (by simp))
  | _=>exact absurd (show false=true from hs) Bool.false_ne_true
 | int i=>
  obtain⟨t,rfl⟩:=rx
  cases y with
  | non=>cases ry;exact PySem.EqNone.eq_int_none (jF I q (by simp))
  | int j=>obtain⟨t',rfl⟩:=ry;exact eq_int (jF I q qIs)
  | str j=>obtain⟨t',rfl⟩:=ry;exact PySem.EqMixed.eq_int_str (jF I q (by simp))
  | _=>exact absurd (show false=true from hs) Bool.false_ne_true
 | str i=>
  obtain⟨t,rfl⟩:=rx
  cases y with
  | non=>cases ry;exact PySem.EqNone.eq_str_none (jF I q (by simp))
  | bl j=>cases ry;exact PySem.EqMixed.eq_str_bool (jF I q (by simp))
  | int j=>obtain⟨t',rfl⟩:=ry;exact PySem.EqMixed.eq_str_int (jF I q (by simp))
  | str j=>obtain⟨t',rfl⟩:=ry;exact eq_str (jF I q qJ7)
  | _=>exact absurd (show false=true from hs) Bool.false_ne_true
 | byt i=>
  obtain⟨t,rfl⟩:=rx
  cases y with
  | byt j=>obtain⟨t',rfl⟩:=ry;exact PySem.W.eq_bytes (jF I q qH7)
  | _=>exact absurd (show false=true from hs) Bool.false_ne_true
 | _=>cases y <;> exact absurd (show false=true from hs) Bool.false_ne_true
theorem km:OpR X (compareOp .NotEq) rNe:=by
 intro pins s σ H x y v u Q I rx ry h
 obtain⟨hs,q⟩:=h
 cases x with
 | non=>
  cases rx
  cases y with
  | non=>cases ry;exact PySem.EqNone.ne_none_none (jF I q (by simp))
  | bl j=>cases ry;exact PySem.EqNone.ne_none_bool (jF I q (by simp))
  | int j=>obtain⟨t',rfl⟩:=ry;exact PySem.EqNone.ne_none_int (jF I q (by simp))
  | str j=>obtain⟨t',rfl⟩:=ry;exact PySem.EqNone.ne_none_str (jF I q (by simp))
  | _=>exact absurd (show false=true from hs) Bool.false_ne_true
 | bl i=>
  cases rx
  cases y with
  | non=>cases ry;exact PySem.EqNone.ne_bool_none (jF I q (by simp))
  | bl j=>cases ry;exact ne_bool (jF I q (congrArg not qMg))
  | str j=>obtain⟨t',rfl⟩:=ry;exact PySem.EqMixed.ne_bool_str (jF I q (by simp))
  | _=>exact absurd (show false=true from hs) Bool.false_ne_true
 | int i=>
  obtain⟨t,rfl⟩:=rx
  cases y with
  | non=>cases ry;exact PySem.EqNone.ne_int_none (jF I q (by simp))
  | int j=>obtain⟨t',rfl⟩:=ry;exact ne_int (jF I q (congrArg not qIs))
  | str j=>obtain⟨t',rfl⟩:=ry;exact PySem.EqMixed.ne_int_str (jF I q (by simp))
  | _=>exact absurd (show false=true from hs) Bool.false_ne_true
 | str i=>
  obtain⟨t,rfl⟩:=rx
  cases y with
  | non=>cases ry;exact PySem.EqNone.ne_str_none (jF I q (by simp))
  | bl j=>cases ry;exact PySem.EqMixed.ne_str_bool (jF I q (by simp))
  | int j=>obtain⟨t',rfl⟩:=ry;exact PySem.EqMixed.ne_str_int (jF I q (by simp))
  | str j=>obtain⟨t',rfl⟩:=ry;exact ne_str (jF I q (congrArg not qJ7))
  | _=>exact absurd (show false=true from hs) Bool.false_ne_true
 | byt i=>
  obtain⟨t,rfl⟩:=rx
  cases y with
  | byt j=>obtain⟨t',rfl⟩:=ry;exact PySem.W.ne_bytes (jF I q (congrArg not qH7))
  | _=>exact absurd (show false=true from hs) Bool.false_ne_true
 | _=>cases y <;> exact absurd (show false=true from hs) Bool.false_ne_true
theorem kX:OpR X (compareOp .Lt) (rI0 fun i j=>.bl (decide (i < j))):=qQk fun _ _ _ _ _ _ _ q=>lt_int q
theorem qHp:OpR X (compareOp .LtE) (rI0 fun i j=>.bl (decide (i≤j))):=qQk fun _ _ _ _ _ _ _ q=>le_int q
theorem qKt:OpR X (compareOp .Gt) (rI0 fun i j=>.bl (decide (j < i))):=qQk fun _ _ _ _ _ _ _ q=>gt_int q
theorem qRf:OpR X (compareOp .GtE) (rI0 fun i j=>.bl (decide (j≤i))):=qQk fun _ _ _ _ _ _ _ q=>ge_int q
theorem OpR.or {f:Value→Value→Sem Value}{r r':R2}(h:OpR X f r)(h':OpR X f r'):OpR X f (fun x y H Q=>r x y H Q∨r' x y H Q):=by
 intro pins s σ H x y v u Q I rx ry q
 rcases q with q | q
 · exact h pins s σ H x y v u Q I rx ry q
 · exact h' pins s σ H x y v u Q I rx ry q
theorem qR (b:Expr){op:CmpOp}(h:op≠ .In:=by decide)(h2:op≠ .NotIn:=by decide):behindInMarks op b=false:=by
 have e1:(op == CmpOp.In)=false:=by cases op <;> first | rfl | exact absurd rfl h
 have e2:(op == CmpOp.NotIn)=false:=by cases op <;> first | rfl | exact absurd rfl h2
 cases b <;> simp [behindInMarks,e1,e2]
theorem vo {op:CmpOp}{r:R2}(ho:OpR X (compareOp op) r)(ha:PE X a ta)(hb:PE X b tb)(hm:behindInMarks op b=false):PE X (.Compare a [op] [b] pos) (tOp r ta tb):=by
 intro pins s σ H Q I h
 exact wpAny_Compare1 (qRh ha hb I h fun v u s2 x y H2 I2 rx ry q=>ho pins s2 σ H2 x y v u Q I2 rx ry q) hm
inductive qPq (Q:Bool→Hp→Prop)(x:V)(H':Hp):Prop
| mk k (_:x= .bl k) (_:Q k H')
def qRs (t:TE):TT:=fun σ H Q=>t σ H fun x H'=>qPq Q x H'
theorem qP {op:CmpOp}{r:R2}(ho:OpR X (compareOp op) r)(ha:PE X a ta)(hb:PE X b tb)(hm:behindInMarks op b=false):PT X (.Compare a [op] [b] pos) (qRs (tOp r ta tb)):=by
 intro pins s σ H Q I h
 refine wpAny_isTrue_Compare1 (thn (ha pins s σ H _ I h) fun v s1 ⟨x,H1,I1,r1,q1⟩=>thn (hb pins s1 σ H1 _ I1 q1) fun u s2 ⟨y,H2,I2,r2,q2⟩=>
  thn (ho pins s2 σ H2 x y v u _ I2 r1 r2 q2) fun c s3 ⟨z,H3,I3,r3,k,e,q3⟩=>?_) hm
 subst e
 cases r3
 exact wpAny_truthy_bool ⟨H3,I3,q3⟩
def qOt (r r':R2)(ta tb tc:TE):TE:=fun σ H Q=>ta σ H fun x H1=>tb σ H1 fun y H2=>r x y H2 fun z H3=>∃ k,z= .bl k∧
 (if k=true then tc σ H3 fun w' H4=>r' y w' H4 Q else Q (.bl false) H3)
theorem qKr {op op':CmpOp}{r r':R2}(ho:OpR X (compareOp op) r)(ho':OpR X (compareOp op') r')(ha:PE X a ta)(hb:PE X b tb)(hc:PE X c tc)
 (hm:lastMarks [op,op'] [b,c]=false:=by with_unfolding_all rfl):PE X (.Compare a [op,op'] [b,c] pos) (qOt r r' ta tb tc):=by
 intro pins s σ H Q I h
 refine Compare_chain (thn (ha pins s σ H _ I h) fun v s1 ⟨x,H1,I1,r1,q1⟩=>chain_link (thn (hb pins s1 σ H1 _ I1 q1) fun u s2 ⟨y,H2,I2,r2,q2⟩=>
  thn (ho pins s2 σ H2 x y v u _ I2 r1 r2 q2) fun d s3 ⟨z,H3,I3,r3,k,e,q3⟩=>?_)) hm
 subst e
 cases r3
 refine wpAny_truthy_bool ?_
 cases k with
 | false=>exact ite_ff ⟨.bl false,H3,I3,rfl,q3⟩
 | true=>exact ite_tt (chain_last (thn (hc pins s3 σ H3 _ I3 q3) fun w' s4 ⟨z',H4,I4,r4,q4⟩=>ho' pins s4 σ H4 y z' u w' Q I4 r2 r4 q4))
theorem qGi:(sizeLine:Nat) < 2 ^ 63:=by rw [sizeLine_eq];decide
theorem kj {x:V}{us:List Value}(r:Vals [x] us):∃ u,us=[u]∧RelV x u:=by
 cases r with
 | cons r1 r2=>cases r2;exact⟨_,rfl,r1⟩
theorem qLp {x y:V}{us:List Value}(r:Vals [x,y] us):∃ u w',us=[u,w']∧RelV x u∧RelV y w':=by
 cases r with
 | cons r1 r2=>
  cases r2 with
  | cons r3 r4=>cases r4;exact⟨_,_,rfl,r1,r3⟩
theorem qF7:xX X (.builtin "abs") (fun xs H Q=>∃ i,xs=[.int i]∧Q (.int (if i < 0 then -i else i)) H):=by
 intro pins s σ H xs us Q I r h
 obtain⟨i,rfl,q⟩:=h
 obtain⟨u,rfl,t,rfl⟩:=kj r
 exact call_abs_int fun u tk=>⟨.int (if i < 0 then -i else i),H,I.tok _,⟨_,rfl⟩,q⟩
theorem zZ (hc:X.calm=true):xX X (.builtin "max") (fun xs H Q=>∃ i j,xs=[.int i,.int j]∧Q (.int (if j > i then j else i)) H):=by
 intro pins s σ H xs us Q I r h
 obtain⟨i,j,rfl,q⟩:=h
 obtain⟨u,w',rfl,⟨t,rfl⟩,⟨t',rfl⟩⟩:=qLp r
 refine max_two_ints (I.ok.hd hc) fun h' tk k=>⟨_,H,I.kept k,?_,q⟩
 by_cases hj:j > i
 · rw [if_pos hj,if_pos hj];exact⟨_,rfl⟩
 · rw [if_neg hj,if_neg hj];exact⟨_,rfl⟩
theorem kz (hc:X.calm=true):xX X (.builtin "min") (fun xs H Q=>∃ i j,xs=[.int i,.int j]∧Q (.int (if j < i then j else i)) H):=by
 intro pins s σ H xs us Q I r h
 obtain⟨i,j,rfl,q⟩:=h
 obtain⟨u,w',rfl,⟨t,rfl⟩,⟨t',rfl⟩⟩:=qLp r
 refine min_two_ints (I.ok.hd hc) fun h' tk k=>⟨_,H,I.kept k,?_,q⟩
 by_cases hj:j < i
 · rw [if_pos hj,if_pos hj];exact⟨_,rfl⟩
 · rw [if_neg hj,if_neg hj];exact⟨_,rfl⟩
end
end L2
namespace L2
open PySem PySem.Spec PyProof.Rows
structure ObjM (h:Heap)(x dx C:Addr)(mA:Str→Option Value):Prop where
 obj:h.get? x=some (PySem.W.instObj C dx)
 ns:h.Ns1 dx mA
 ne:dx≠x
theorem qIg {h:Heap}{dx:Addr}{mA:Str→Option Value}(n:h.Ns1 dx mA):∃ od,h.get? dx=some od∧∀ name,PySem.W.lookIn name od=some (mA name):=by
 obtain⟨o,es,ep,ho,hd,hk,_,hm⟩:=n
 refine⟨o,ho,fun name=>?_⟩
 have e:=hm name
 unfold nsFind findBy at e
 rw [← Array.find?_toList] at e
 unfold PySem.W.lookIn
 rw [hd]
 dsimp only
 split
 · rename_i y q
   rw [q] at e
   exact congrArg some e
 · rename_i q
   rw [q] at e
   have a:es.toList.any (·.refKey)=false:=by
    rw [List.any_eq_false]
    intro y hy
    obtain⟨z,t,hkey⟩:=hk y (Array.mem_toList_iff.mp hy)
    simp [DictEntry.refKey,hkey]
   have a':¬ es.toList.any (·.refKey)=true:=by rw [a];exact Bool.false_ne_true
   rw [if_neg a']
   exact congrArg some e
theorem ObjM.look {h:Heap}{x dx C:Addr}{mA:Str→Option Value}(I:ObjM h x dx C mA):∃ od,PySem.W.InstAt h x (PySem.W.instObj C dx) C (some od)∧∀ name,PySem.W.lookIn name od=some (mA name):=
 let ⟨od,ho,hl⟩:=qIg I.ns
 ⟨od,⟨I.obj,rfl,rfl,ho⟩,hl⟩
section
variable {prog : Program} {w : World} {A : Around} {E : Value → Shared → Prop} {s : Shared} {K : PySem.W.Frag} {x dx C f : Addr} {mA : Str → Option Value} {name : Str} {v : Value}
end
theorem RelO.some_of {v:V}{o:Option Value}(r:RelO (some v) o):∃ u,o=some u∧RelV v u:=by
 cases o with
 | none=>exact(show False from r).elim
 | some u=>exact⟨u,rfl,r⟩
theorem RelO.none_of {o:Option Value}(r:RelO none o):o=none:=by
 cases o with
 | none=>rfl
 | some u=>exact(show False from r).elim
section
variable {P : Program} {w : World} {H H' : Hp} {h h' : Heap} {a C dx : Addr} {fs fs' : List (Str × V)}
theorem qOc (hok:HOk P w H h)(e:H a=some (.ins C dx fs)):∃ mA,ObjM h a dx C mA∧(∀ f,RelO (fs.lookup f) (mA f))∧PySem.Within mA (fs.map (·.1))∧fs.length≤1000∧H dx=some (.own a):=by
 obtain⟨d,z,ne,ob,mA,n,r,q⟩:=(show ObjOk P w H h a (.ins C dx fs) from hok a _ e)
 exact⟨mA,⟨ob,n,ne⟩,r,q,z,d⟩
end
structure Cls (K:PySem.W.Frag)(C:Addr):Prop where
 pg:PySem.W.plainGet K C Str.empty=true
 hd:PySem.W.hasDictIn K C=true
 po:PySem.W.plainOver K C=true
 sa:PySem.W.findIn K (.ref C) "__setattr__"=some (some (.builtin "object.__setattr__"))
theorem Cls.get {K:PySem.W.Frag}{C:Addr}(c:Cls K C)(f:Str):PySem.W.plainGet K C f=true:=c.pg
section
variable {X : Cx} {pins : List (Addr × Obj)} {σ : St} {H : Hp} {s : Shared} {a C dx : Addr} {fs : List (Str × V)} {f : Str} {v : V} {A : Around} {E : Value → Shared → Prop}
theorem Inv.made (I:Inv X pins σ H s):Inv X pins σ (upd (upd H s.heap.objs.size (.own (s.heap.objs.size+1))) (s.heap.objs.size+1) (.ins C s.heap.objs.size []))
 {s with heap:=(s.heap.push PySem.W.emptyDict).push (PySem.W.instObj C s.heap.objs.size)}:=by
 have e1:(s.heap.push PySem.W.emptyDict).get? s.heap.objs.size=some PySem.W.emptyDict:=Heap.get?_push_size s.heap rfl
 have e2:((s.heap.push PySem.W.emptyDict).push (PySem.W.instObj C s.heap.objs.size)).get? (s.heap.objs.size+1)=some (PySem.W.instObj C s.heap.objs.size):=by
  have:=Heap.get?_push_size (s.heap.push PySem.W.emptyDict) (o:=PySem.W.instObj C s.heap.objs.size) rfl
  rwa [Heap.size_push] at this
 have e3:(s.heap.push PySem.W.emptyDict).Ns s.heap.objs.size (fun _=>none):=⟨PySem.W.emptyDict,#[],_,e1,rfl,(fun e he=>absurd he (by simp)),fun _=>rfl⟩
 have I1:=I.laid (a:=s.heap.objs.size) (o:=.own (s.heap.objs.size+1)) (h':=s.heap.push PySem.W.emptyDict) (t':=s.toks) (fun b u q=>Heap.get?_push_of_some _ q) (Nat.le_refl _) ⟨_,e1⟩
 refine I1.laid (a:=s.heap.objs.size+1) (o:=.ins C s.heap.objs.size []) (t':=s.toks) (fun b u q=>Heap.get?_push_of_some _ q) (Nat.le_of_eq (Heap.size_push _ _)) ?_
 have ne:s.heap.objs.size≠s.heap.objs.size+1:=Nat.ne_of_lt (Nat.lt_succ_self _)
 refine⟨by rw [qX ne,qD],Nat.zero_le _,ne,e2,fun _=>none,(Heap.Ns1.of_empty e3).at fun o q=>Heap.get?_push_of_some _ q,fun _=>True.intro,fun y hy=>absurd rfl hy⟩
end
section
variable {X : Cx} {o e value : Expr} {f : Str} {pos pos' tpos : Pos} {ta tv : TE}
end
section
variable {X : Cx} {pins : List (Addr × Obj)} {σ : St} {H : Hp} {s : Shared} {A : Around} {E : Value → Shared → Prop} {Q : Value → Shared → Prop} {c : Value} {b : Bool}
inductive qFr (K:PySem.W.Frag)(H:Hp):V→Value→Prop where
 | non:qFr K H .non (.type "NoneType")
 | bl (x:Bool):qFr K H (.bl x) (.type "bool")
 | int (i:Int):qFr K H (.int i) (.type "int")
 | str (x:Str):qFr K H (.str x) (.type "str")
 | flt (x:UInt64):qFr K H (.flt x) (.type "float")
 | lst {a:Addr} {xs:List V} (e:H a=some (.lst xs)):qFr K H (.ref a) (.type "list")
 | frz {a:Addr} {o:Obj} {xs:List V} (e:H a=some (.frz o (.lst xs))):qFr K H (.ref a) (.type "list")
 | tup {a:Addr} {xs:List V} (e:H a=some (.tup xs)):qFr K H (.ref a) (.type "tuple")
 | dK {a:Addr} {kvs:List (Key × V)} (e:H a=some (.dK kvs)):qFr K H (.ref a) (.type "dict")
 | dT {a:Addr} {kvs:List (List Key × V)} (e:H a=some (.dT kvs)):qFr K H (.ref a) (.type "dict")
 | ins {a C dx:Addr} {fs:List (Str × V)} (e:H a=some (.ins C dx fs)) (cl:Cls K C) (ha:PySem.W.findIn K (.ref C) "__class__"=some (some (.builtin "object.__class__")))
  (hn:PySem.W.specialIn K (.builtin "object.__class__") "__get__"=some (some (.builtin "getset_descriptor.__get__"))) (htk:PySem.W.takesIn K (.builtin "object.__class__")=some true)
  (hm:PySem.W.mroIn K C (.type "object")=some true):qFr K H (.ref a) (.ref C)
theorem qD2 {x:V}{u t:Value}(I:Inv X pins σ H s)(rx:RelV x u)(ty:qFr X.K H x t)(e:PySem.W.kitOne X.K t c=some b)(h:∀ tk,Q (.bool b) {s with toks:=tk}):
 wpAny (model X.prog X.w) A (call (.builtin "isinstance") [u,c]) Q E s:=by
 cases ty with
 | non=>cases (show u=Value.none from rx);exact PySem.W.kia_one PySem.W.kitx_none I.kIn True.intro e (fun z=>nomatch z) h
 | bl y=>cases (show u=Value.bool y from rx);exact PySem.W.kia_one PySem.W.kitx_bool I.kIn True.intro e (fun z=>nomatch z) h
 | int i=>obtain⟨t,q⟩:=(show ∃ t,u=Value.int i t from rx);cases q;exact PySem.W.kia_one PySem.W.kitx_int I.kIn True.intro e (fun z=>nomatch z) h
 | str y=>obtain⟨t,q⟩:=(show ∃ t,u=Value.str y t from rx);cases q;exact PySem.W.kia_one PySem.W.kitx_str I.kIn True.intro e (fun z=>nomatch z) h
 | flt y=>obtain⟨t,q⟩:=(show ∃ t,u=Value.float y t from rx);cases q;exact PySem.W.kia_one PySem.W.kitx_float I.kIn True.intro e (fun z=>nomatch z) h
 | @lst a xs ea=>
  cases (show u=Value.ref a from rx)
  obtain⟨_,_,n,_,h1⟩:=(show ObjOk X.prog X.w H s.heap a (.lst xs) from I.hok a _ ea)
  exact PySem.W.kia_one PySem.W.kitx_list I.kIn ⟨_,h1,rfl⟩ e (fun z=>nomatch z) h
 | @frz a ob xs ea=>
  cases (show u=Value.ref a from rx)
  obtain⟨_,_,_,n,_,h1⟩:=(show ObjOk X.prog X.w H s.heap a (.frz ob (.lst xs)) from I.hok a _ ea)
  exact PySem.W.kia_one PySem.W.kitx_list I.kIn ⟨_,h1,rfl⟩ e (fun z=>nomatch z) h
 | @tup a xs ea=>
  cases (show u=Value.ref a from rx)
  obtain⟨_,_,_,p⟩:=(show ObjOk X.prog X.w H s.heap a (.tup xs) from I.hok a _ ea)
  obtain⟨o,h1,h2,_⟩:=p
  exact PySem.W.kia_one PySem.W.kitx_tuple I.kIn ⟨o,h1,h2⟩ e (fun z=>nomatch z) h
 | @dK a kvs ea=>
  cases (show u=Value.ref a from rx)
  obtain⟨_,_,vs,_,p⟩:=(show ObjOk X.prog X.w H s.heap a (.dK kvs) from I.hok a _ ea)
  obtain⟨o,es,ep,h1,h2,_⟩:=p
  exact PySem.W.kia_one PySem.W.kitx_dict I.kIn ⟨o,h1,h2.1⟩ e (fun z=>nomatch z) h
 | @dT a kvs ea=>
  cases (show u=Value.ref a from rx)
  obtain⟨_,_,xs,_,o,es,ep,h1,h2,_⟩:=(show ObjOk X.prog X.w H s.heap a (.dT kvs) from I.hok a _ ea)
  exact PySem.W.kia_one PySem.W.kitx_dict I.kIn ⟨o,h1,h2.1⟩ e (fun z=>nomatch z) h
 | @ins a C dx fs ea cl ha hn htk hm=>
  cases (show u=Value.ref a from rx)
  obtain⟨mA,O,_⟩:=qOc I.hok ea
  obtain⟨od,J,_⟩:=O.look
  exact PySem.W.kia_one (PySem.W.kitx_own (cl.get _) cl.hd ha hn htk hm) I.kIn J e (fun z=>nomatch z) h
end
end L2
namespace L2
open PySem PySem.Spec PyProof.Rows
structure Room (k:Nat)(A:Around):Prop where
 hd:A.handled=none
 dp:A.depth+3*k+5 < recursionLimit
 un:A.units+16*k+200 < cLine
theorem Room.mono {j k:Nat}{A:Around}(r:Room k A)(h:j≤k):Room j A:=⟨r.hd,by have:=r.dp;omega,by have:=r.un;omega⟩
theorem Room.deeper {k:Nat}{A:Around}(r:Room (k+1) A)(env:Env):Room k (A.deeper env):=
 ⟨r.hd,by have:=r.dp;show A.depth+1+3*k+5 < _;omega,by have:=r.un;show A.units+3+16*k+200 < _;omega⟩
theorem Room.in1 {k:Nat}{A:Around}(r:Room (k+1) A):Room k A.in1:=
 ⟨r.hd,by have:=r.dp;show A.depth+3*k+5 < _;omega,by have:=r.un;show A.units+1+16*k+200 < _;omega⟩
theorem Room.depth {k:Nat}{A:Around}(r:Room k A):A.depth < recursionLimit:=by have:=r.dp;omega
theorem Room.units {k:Nat}{A:Around}(r:Room k A):A.units+64 < cLine:=by have:=r.un;omega
theorem Room.units0 {k:Nat}{A:Around}(r:Room k A):A.units < cLine:=by have:=r.un;omega
def qSs:TA:=fun _ H Q=>Q [] H
def qRp (ta:TE)(tr:TA):TA:=fun σ H Q=>ta σ H fun x H1=>tr σ H1 fun xs H2=>Q (x::xs) H2
section
variable {X : Cx} {e : Expr} {es : List Expr} {te : TE} {t : TA} {pos : Pos}
theorem qB:PA X [] qSs:=fun _ _ _ _ H Q I h=>Calls.spliced_nil ⟨[],H,I,.nil,h⟩
theorem qA (ha:PE X e te)(hr:PA X es t)(hs:starEach (e::es) X.env=(false,eval e X.env)::starEach es X.env:=by rfl):PA X (e::es) (qRp te t):=by
 intro pos pins s σ H Q I h
 rw [hs]
 show wpAny _ _ (spliced ((false,eval e X.env)::backTo pos (starEach es X.env))) _ _ s
 refine Calls.spliced_cons (thn (ha pins s σ H _ I h) fun u s1 ⟨x,H1,I1,r1,q1⟩=>?_)
 exact thn (hr pos pins s1 σ H1 _ I1 q1) fun us s2 ⟨xs,H2,I2,r2,q2⟩=>⟨x::xs,H2,I2,.cons r1 r2,q2⟩
inductive qRj (Q:VK)(xs:List V)(H1:Hp):Prop
| mk (_:xs.length≤sizeLine) (_:∀ p,H1 p=none→Q (.ref p) (upd H1 p (.tup xs)))
def qSt (t:TA):TE:=fun σ H Q=>t σ H fun xs H1=>qRj Q xs H1
inductive qQ3 (Q:VK)(xs:List V)(H1:Hp):Prop
| mk (_:xs.length≤sizeLine) (_:∀ p,H1 p=none→Q (.ref p) (upd H1 p (.lst xs)))
def qSq (t:TA):TE:=fun σ H Q=>t σ H fun xs H1=>qQ3 Q xs H1
theorem qZ {x1}(h:PA X es t):PE X (.Tuple es x1 pos) (qSt t):=by
 intro pins s σ H Q I hq
 refine wpAny_Tuple_spliced (thn (h pos pins s σ H _ I hq) fun us s1 ⟨xs,H1,I1,r,z,q⟩=>⟨by rw [← r.length];exact z,?_⟩)
 have hf:H1 s1.heap.objs.size=none:=I1.hok.fresh (Nat.le_refl _)
 refine⟨.ref s1.heap.objs.size,upd H1 s1.heap.objs.size (.tup xs),I1.laid (t':=s1.toks) (fun b u e=>Heap.get?_push_of_some _ e) (Nat.le_refl _) ?_,rfl,q _ hf⟩
 exact⟨z,us,r,⟨_,Heap.get?_push_size _ rfl,rfl,_,rfl⟩⟩
theorem jM (h:PA X es t):PE X (.List es pos) (qSq t):=by
 intro pins s σ H Q I hq
 refine wpAny_List_spliced (thn (h pos pins s σ H _ I hq) fun us s1 ⟨xs,H1,I1,r,z,q⟩=>⟨by rw [← r.length];exact z,?_⟩)
 have hf:H1 s1.heap.objs.size=none:=I1.hok.fresh (Nat.le_refl _)
 refine⟨.ref s1.heap.objs.size,upd H1 s1.heap.objs.size (.lst xs),I1.laid (t':=s1.toks) (fun b u e=>Heap.get?_push_of_some _ e) (Nat.le_refl _) ?_,rfl,q _ hf⟩
 exact⟨z,us,0,r,Heap.get?_push_size _ rfl⟩
end
abbrev Sp:=List V→Hp→VK→XK→Prop
abbrev CXT:=List Env→Hp→Shared→XK→Value→Shared→Prop
structure qQn (P:Program)(w:World)(K:PySem.W.Frag)(mg:Str→Option Value)(base:Heap)(A:Around)(outer:List Env)(s:Shared)(H:Hp):Prop where
 frames:A.frames=some outer
 mod:Mod K mg base
 bs:∀ b o,base.get? b=some o→s.heap.get? b=some o∧H b=none
 bsz:base.objs.size≤s.heap.objs.size
 funs:s.heap.FunFrames base outer
 frf:∀ b∈frs outer,H b=none
 hok:HOk P w H s.heap
 bare:AllBare s.gens
def CE (outer:List Env)(P:Program)(w:World)(H:Hp)(s:Shared)(Q:VK)(u:Value)(s':Shared):Prop:=
 ∃ v H',s'.os=s.os∧AllBare s'.gens∧Un (frs outer) [] H H' s.heap s'.heap∧HOk P w H' s'.heap∧RelV v u∧Q v H'
def CR (CX:CXT)(outer:List Env)(P:Program)(w:World)(H:Hp)(s:Shared)(Q:VK)(E:XK)(r:Result)(s':Shared):Prop:=
 match r with
 | .ok (.ret u)=>CE outer P w H s Q u s'
 | .ok _=>False
 | .error e=>CX outer H s E e s'
structure FnOk (P:Program)(w:World)(K:PySem.W.Frag)(mg:Str→Option Value)(base:Heap)(CX:CXT)(k:Nat)(f:Addr)(fd:FuncData)(ps:List Str)(sp:Sp):Prop where
 len:∀ vs H Q E,sp vs H Q E→vs.length=ps.length
 run:∀ (A:Around) (outer:List Env) (s:Shared) (H:Hp) (args:Args) (us:List Value) (vs:List V) (Q:VK) (E:XK),Room k A→qQn P w K mg base A outer s H→BindsTo s fd args (ps.zip us)→Vals vs us→sp vs H Q E→
  codeAny (model P w) A (.call (.ref f) args) (CR CX outer P w H s Q E) s
theorem FnOk.imp {P:Program}{w:World}{K:PySem.W.Frag}{mg:Str→Option Value}{base:Heap}{CX:CXT}{k:Nat}{f:Addr}{fd:FuncData}{ps:List Str}{sp sp':Sp}(F:FnOk P w K mg base CX k f fd ps sp)
 (h:∀ vs H Q E,sp' vs H Q E→sp vs H Q E):FnOk P w K mg base CX k f fd ps sp':=
 ⟨fun vs H Q E q=>F.len vs H Q E (h _ _ _ _ q),fun A outer s H args us vs Q E hr he hb hv hs=>F.run A outer s H args us vs Q E hr he hb hv (h _ _ _ _ hs)⟩
section
variable {X : Cx} {pins : List (Addr × Obj)} {σ : St} {H : Hp} {s s' : Shared}
theorem Inv.env0 (I:Inv X pins σ H s):qQn X.prog X.w X.K X.mg X.base X.A X.stack s H:=
 ⟨I.ok.frames,I.ok.mod,I.bs,Nat.le_trans I.ok.bsz I.sz,I.stack,I.stkFree,I.hok,I.bare⟩
theorem Inv.after {Q:VK}{u:Value}(I:Inv X pins σ H s)(h:CE X.stack X.prog X.w H s Q u s'):EP X pins σ Q u s':=by
 obtain⟨v,H',os,bare,un,hok,r,q⟩:=h
 obtain⟨hh,g,d,t,os'⟩:=s'
 obtain rfl:os'=s.os:=os
 exact⟨v,H',I.call (h':=hh) (g':=g) (d':=d) (t':=t) (ch:=[]) un hok bare (fun b z=>absurd z (by simp)),r,q⟩
end
def qP9 (sp:Sp)(dvs:List V)(E:XK)(t:TA):TE:=fun σ H Q=>t σ H fun vs H1=>sp (vs++dvs) H1 Q E
def Binds (K:PySem.W.Frag)(fd:FuncData)(ps:List Str)(ds:List Value):Prop:=
 ∀ (s:Shared) (us:List Value),K.In s.heap→(us++ds).length=ps.length→BindsTo s fd ⟨us,[]⟩ (ps.zip (us++ds))
theorem Binds.all {K:PySem.W.Frag}{fd:FuncData}{ps:List Str}(h:∀ us:List Value,us.length=ps.length→bindArgs fd ⟨us,[]⟩=pure (ps.zip us)):Binds K fd ps []:=fun s us _ hl=>by
 rw [List.append_nil] at hl ⊢
 exact .of_eq (h us hl)
def qKb (CX:CXT)(X:Cx)(E:XK):Prop:=∀ (pins:List (Addr × Obj)) (σ:St) (H:Hp) (s:Shared) (e:Value) (s':Shared),Inv X pins σ H s→CX X.stack H s E e s'→X.xe e s'
section
variable {X : Cx} {CX : CXT} {k : Nat} {f C : Addr} {fd : FuncData} {ps : List Str} {sp : Sp} {dvs : List V} {ds : List Value} {E : XK} {x m : Str} {p pos apos : Pos} {e o : Expr} {es : List Expr} {ta : TE} {t : TA}
theorem qOz {pins:List (Addr × Obj)}{σ:St}{H:Hp}{s:Shared}{Q:VK}{us:List Value}{vs:List V}(F:FnOk X.prog X.w X.K X.mg X.base CX k f fd ps sp)(hr:Room k X.A)(hb:Binds X.K fd ps ds)(hd:Vals dvs ds)(hx:qKb CX X E)
 (I:Inv X pins σ H s) (r:Vals vs us) (h:sp (vs++dvs) H Q E):wpAny (model X.prog X.w) X.A (call (.ref f) us) (EP X pins σ Q) X.xe s:=by
 have r2:Vals (vs++dvs) (us++ds):=r.append hd
 have hl:(us++ds).length=ps.length:=by rw [← r2.length];exact F.len _ _ _ _ h
 refine wpAny_call (codeAny_mono (F.run X.A X.stack s H ⟨us,[]⟩ (us++ds) (vs++dvs) Q E hr I.env0 (hb s us I.kIn hl) r2 h) fun r s' hq=>?_)
 cases r with
 | error e=>exact hx pins σ H s e s' I hq
 | ok fl=>
  cases fl with
  | ret u=>exact I.after hq
  | next=>exact False.elim hq
  | brk=>exact False.elim hq
  | cont=>exact False.elim hq
theorem qNv (F:FnOk X.prog X.w X.K X.mg X.base CX k f fd ps sp)(hr:Room k X.A)(hg:Gl X x)(hm:X.mg x=some (.ref f))(hk:PySem.W.keepIn X.K (.ref f)=true)(hb:Binds X.K fd ps ds)(hd:Vals dvs ds)(hx:qKb CX X E)
 (ha:PA X (e::es) t) (hdb:(x == ("__debug__":Str))=false:=by decide) (he:starEach (e::es) X.env=(false,eval e X.env)::starEach es X.env:=by rfl) (hpl:(backTo pos (starEach es X.env)).any (·.1)=false:=by rfl):
 PE X (.Call (.Name x p) (e::es) [] pos) (qP9 sp dvs E t):=by
 intro pins s σ H Q I h
 refine wpAny_Call_Name_kw (qIz I hg hm ?_ hdb)
 refine PySem.W.callWith_K (h₀:=X.base) I.ok.mod.kin hk (thn (ha pos pins s σ H _ I h) fun us s1 ⟨vs,H1,I1,r,q⟩=>⟨I1.kIn,?_⟩) he hpl
 exact qOz F hr hb hd hx I1 r q
end
section
variable {X : Cx} {CX : CXT} {k : Nat} {f C : Addr} {fd : FuncData} {ps ks : List Str} {sp : Sp} {E : XK} {x m : Str} {p pos apos kpos : Pos} {e o : Expr} {es : List Expr} {kws : List Keyword} {te ta : TE} {t tk : TA} {nm : Option Str}
variable {g : List Value → List Value → List Value} {gV : List V → List V → List V}
end
structure qO (N P:List Str)(sc:Scope):Prop where
 kind:sc.kind= .function
 co:sc.isCoroutine=false
 gen:sc.isGenerator=false
 nd:N.Nodup
 pre:N.take P.length=P
 par:∀ x∈P,sc.names.lookup x=some .local∨sc.names.lookup x=some .cell
 nofree:∀ y∈sc.names,y.2≠ .free
theorem qCr {kindOf:Str→Option NameKind}{x:Str}:∀ {binds:List (Str × Value)} {m:Str→Option Value},(∀ v,(x,v) ∉ binds)→bindL kindOf binds m x=m x
 | [],_,_=>rfl
 | (n,v)::r,m,h=>by
  unfold bindL
  rw [qCr fun w hw=>h w (List.mem_cons_of_mem _ hw)]
  split
  · have:x≠n:=by rintro rfl;exact h v List.mem_cons_self
    simp [this]
  · rfl
theorem qCq {kindOf:Str→Option NameKind}{x:Str}:∀ {binds:List (Str × Value)} {m:Str→Option Value},(∀ v,(x,v) ∉ binds)→bindC kindOf binds m x=m x
 | [],_,_=>rfl
 | (n,v)::r,m,h=>by
  unfold bindC
  rw [qCq fun w hw=>h w (List.mem_cons_of_mem _ hw)]
  split
  · rfl
  · have:x≠n:=by rintro rfl;exact h v List.mem_cons_self
    simp [this]
theorem qDr {kindOf:Str→Option NameKind}{x:Str}{v:Value}:∀ {P:List Str} {vs:List Value} {i:Nat} {m:Str→Option Value},P.Nodup→P[i]? =some x→vs[i]? =some v→kindOf x=some .local→
 bindL kindOf (P.zip vs) m x=some v
 | [],_,_,_,_,h,_,_=>by simp at h
 | _::_,[],_,_,_,_,h,_=>by simp at h
 | p::P,w::vs,0,m,nd,h1,h2,hk=>by
  simp at h1 h2;subst h1;subst h2
  show bindL kindOf ((p,w)::P.zip vs) m p=_
  unfold bindL
  rw [qCr fun v hv=>(List.nodup_cons.mp nd).1 (List.of_mem_zip hv).1,if_pos hk]
  simp
 | p::P,w::vs,i+1,m,nd,h1,h2,hk=>by
  show bindL kindOf ((p,w)::P.zip vs) m x=_
  unfold bindL
  exact qDr (i:=i) (List.nodup_cons.mp nd).2 (by simpa using h1) (by simpa using h2) hk
theorem qD9 {kindOf:Str→Option NameKind}{x:Str}{v:Value}:∀ {P:List Str} {vs:List Value} {i:Nat} {m:Str→Option Value},P.Nodup→P[i]? =some x→vs[i]? =some v→kindOf x≠some .local→
 bindC kindOf (P.zip vs) m x=some v
 | [],_,_,_,_,h,_,_=>by simp at h
 | _::_,[],_,_,_,_,h,_=>by simp at h
 | p::P,w::vs,0,m,nd,h1,h2,hk=>by
  simp at h1 h2;subst h1;subst h2
  show bindC kindOf ((p,w)::P.zip vs) m p=_
  unfold bindC
  rw [qCq fun v hv=>(List.nodup_cons.mp nd).1 (List.of_mem_zip hv).1,if_neg hk]
  simp
 | p::P,w::vs,i+1,m,nd,h1,h2,hk=>by
  show bindC kindOf ((p,w)::P.zip vs) m x=_
  unfold bindC
  exact qD9 (i:=i) (List.nodup_cons.mp nd).2 (by simpa using h1) (by simpa using h2) hk
def qBh (N:List Str)(vs:List V):St:=vs.map some++List.replicate (N.length - vs.length) none
def qKh (CX:CXT)(P:Program)(w:World)(K:PySem.W.Frag)(mg:Str→Option Value)(base:Heap)(N:List Str)(qual:Str)(scope:Scope)(f:Addr)(cd:Value)(A:Around)(outer:List Env)(s:Shared)(H:Hp)(E:XK):Cx where
 prog:=P
 w:=w
 K:=K
 mg:=mg
 base:=base
 A:=A.deeper (envOfC qual scope s.heap.objs.size f cd)
 N:=N
 s₀:=s
 H₀:=H
 env:=envOfC qual scope s.heap.objs.size f cd
 outer:=outer
 stack:=envOfC qual scope s.heap.objs.size f cd::outer
 ex:=[]
 calm:=true
 fn:=fun _=>true
 pn:=[]
 xe:=fun e s'=>wpAny (model P w) (A.deeper (envOfC qual scope s.heap.objs.size f cd)) (leaving (envOfC qual scope s.heap.objs.size f cd) e) (fun _ s''=>CX outer H s E e s'') (fun e' s''=>CX outer H s E e' s'') s'
theorem qFy {sc:Scope}{n:Nat}{x:Str}(h:sc.names.lookup x=some .cell):∃ c,(cellsFrom n sc.names []).lookup x=some c:=by
 have q:=PySem.W.cellsFrom_some sc.names n [] (.inl h)
 exact Option.isSome_iff_exists.mp q
theorem qJs {CX:CXT}{P:Program}{w:World}{K:PySem.W.Frag}{mg:Str→Option Value}{base:Heap}{N ps:List Str}{qual:Str}{scope:Scope}{f:Addr}{cd:Value}{A:Around}{outer:List Env}{s s1:Shared}{H:Hp}{E:XK}{us:List Value}{vs:List V}
 (S:qO N ps scope) (hd:A.handled=none) (e0:qQn P w K mg base A outer s H) (hl:vs.length=ps.length) (r:Vals vs us)
 (x:InCallC s s.heap.objs.size (bindL (envOfC qual scope s.heap.objs.size f cd).kindOf (ps.zip us) fun _=>none) (cellsFrom (s.heap.objs.size+1) scope.names []) (bindC (envOfC qual scope s.heap.objs.size f cd).kindOf (ps.zip us) fun _=>none) s1):
 Inv (qKh CX P w K mg base N qual scope f cd A outer s H E) [] (qBh N vs) H s1:=by
 have hpl:ps.length≤N.length:=by have:=congrArg List.length S.pre;rw [List.length_take] at this;omega
 obtain⟨h1,tk,rfl,hk⟩:=x.done
 have noA:∀ b:Addr,b ∉ (qKh CX P w K mg base N qual scope f cd A outer s H E).ex:=fun b z=>absurd (show b∈([]:List Addr) from z) (by simp)
 refine⟨⟨e0.mod,S.kind,rfl,rfl,Nat.le_refl _,fun y z c h1 h2=>?_,fun y hy=>?_,fun y c _ h=>?_,fun _=>hd,Around.frames_deeper e0.frames,.inr ⟨rfl,rfl⟩,fun b z=>absurd z (noA b),e0.bs,e0.bsz,fun b _ _=>noA b,fun b z=>absurd z (noA b),e0.funs,e0.frf⟩,
  rfl,e0.bare,Un.kept hk,⟨_,x.toInCall.ns,fun i y v h1 h2 h3=>?_⟩,fun y c h=>⟨_,x.cell y c h⟩,e0.hok.fresh (Nat.le_refl _),fun y c h=>?_,fun p hp=>absurd (show p∈([]:List (Addr × Obj)) from hp) (by simp),e0.hok.kept hk,?_⟩
 · exact name_of_addr x.apart (PySem.mem_of_lookup h1) (PySem.mem_of_lookup h2)
 · have hy:scope.names.lookup y=some .cell∨scope.names.lookup y=some .free:=hy
   rcases hy with hy | hy
   · exact qFy hy
   · exact absurd rfl (S.nofree _ (PySem.mem_of_lookup hy))
 · exact Nat.le_of_lt (x.above y c (PySem.mem_of_lookup h))
 · have hi:i < vs.length:=by
    unfold qBh at h2
    by_cases hi:i < vs.length
    · exact hi
    · rw [List.getElem?_append_right (by simpa using hi)] at h2
      rw [List.getElem?_replicate] at h2
      split at h2 <;> cases h2
   have ha:vs[i]? =some v:=by
    unfold qBh at h2
    rw [List.getElem?_append_left (by simpa using hi),List.getElem?_map] at h2
    cases e:vs[i]? with
    | none=>rw [e] at h2;cases h2
    | some a=>rw [e] at h2;cases h2;rfl
   obtain⟨u,hu,rv⟩:=r.get ha
   have hp:ps[i]? =some y:=by
    rw [← S.pre,List.getElem?_take_of_lt (by omega)];exact h1
   have ndP:ps.Nodup:=by rw [← S.pre];exact S.nd.sublist (List.take_sublist _ _)
   refine⟨u,rv,?_⟩
   rcases S.par y (List.mem_of_getElem? hp) with k | k
   · exact .inl ⟨k,qDr ndP hp hu k⟩
   · obtain⟨c,e⟩:=qFy (n:=s.heap.objs.size+1) k
     refine .inr ⟨.inl k,c,e,?_⟩
     have q:=x.cell y c e
     rw [qD9 ndP hp hu (by show scope.names.lookup y≠_;rw [k];decide)] at q
     exact q
 · exact e0.hok.fresh (Nat.le_of_lt (x.above y c (PySem.mem_of_lookup h)))
 · unfold qBh
   show _=N.length
   rw [List.length_append,List.length_map,List.length_replicate]
   omega
theorem qOn {CX:CXT}{P:Program}{w:World}{K:PySem.W.Frag}{mg:Str→Option Value}{base:Heap}{k:Nat}{f:Addr}{name qual:Str}{params:Arguments}{body:List Stmt}{scope:Scope}{dV kV doc pm cdv ct oc:Value}{an od:Option Addr}
 {osl:Array (Option Value)} {N ps:List Str} {sp:Sp} (lk:K.lookup f=some ⟨oc,od,.func (PySem.W.fnOf name qual params body scope dV kV doc pm an cdv ct),osl⟩) (hcd:PySem.W.codeIn K cdv qual=true) (S:qO N ps scope)
 (len:∀ vs H Q E,sp vs H Q E→vs.length=ps.length)
 (hbody:∀ (A:Around) (outer:List Env) (s:Shared) (H:Hp) (vs:List V) (Q:VK) (E:XK),Room k (A.deeper (envOfC qual scope s.heap.objs.size f cdv))→sp vs H Q E→
   ∃ t,PSs (qKh CX P w K mg base N qual scope f cdv A outer s H E) body t∧t {nx:=fun _ H'=>Q .non H',rt:=Q} (qBh N vs) H):
 FnOk P w K mg base CX (k+1) f (PySem.W.fnOf name qual params body scope dV kV doc pm an cdv ct) ps sp:=by
 refine⟨len,fun A outer s H args us vs Q E hr e0 hb r hsp=>?_⟩
 have hl:=len _ _ _ _ hsp
 have KX:K.In s.heap:=e0.mod.kin.keeps fun b o e=>(e0.bs b o e).1
 have lim:s.heap.NoLimit:=e0.mod.nolimit.keeps fun b o e=>(e0.bs b o e).1
 have hkind:∀ y∈ps.zip us,scope.names.lookup y.1=some .local∨(scope.names.lookup y.1=some .cell∧((cellsFrom (s.heap.objs.size+1) scope.names []).lookup y.1).isSome=true):=fun⟨n,v⟩ hy=>by
  rcases S.par n (List.of_mem_zip hy).1 with q | q
  · exact .inl q
  · exact .inr ⟨q,PySem.W.cellsFrom_some _ _ _ (.inl q)⟩
 refine codeAny_call_function hr.depth (KX _ _ lk) rfl S.co S.gen rfl (PySem.W.codeRec_of KX hcd) (hb _ _ _ _ ?_)
 refine wpAny_newFunctionEnv_cells S.kind hkind fun env he s1 x=>?_
 subst he
 refine⟨lim.keeps x.toInCall.keep,codeAny_func ?_⟩
 obtain⟨t,ht,hq⟩:=hbody A outer s H vs Q E (hr.deeper _) hsp
 have I:Inv (qKh CX P w K mg base N qual scope f cdv A outer s H E) [] (qBh N vs) H s1:=qJs S hr.hd e0 hl r x
 refine wpAny_mono (ht [] s1 (qBh N vs) H _ I hq) (fun fl s' hs=>?_) fun e s' hs=>hs
 have fin:∀ {σ':St} {H':Hp} {v:V} {u:Value},Inv (qKh CX P w K mg base N qual scope f cdv A outer s H E) [] σ' H' s'→RelV v u→Q v H'→CE outer P w H s Q u s':=
  fun {σ' H' v u} J rv q=>⟨v,H',J.os,J.bare,J.base,J.hok,rv,q⟩
 cases fl with
 | ret u=>
  obtain⟨v,σ',H',J,rv,q⟩:=hs
  exact fin J rv q
 | next=>
  obtain⟨σ',H',J,q⟩:=hs
  exact fin (v:=V.non) (u:=Value.none) J rfl q
 | brk=>
  obtain⟨_,_,_,q⟩:=hs
  exact False.elim q
 | cont=>
  obtain⟨_,_,_,q⟩:=hs
  exact False.elim q
end L2
namespace L2
open PySem PySem.Spec PyProof.Rows
section
variable {X : Cx} {x : Str} {p pos : Pos} {e : Expr} {es : List Expr} {t : TA} {id T : String} {r : List V → Hp → VK → Prop}
def tCB (r:List V→Hp→VK→Prop)(t:TA):TE:=fun σ H Q=>t σ H fun vs H1=>r vs H1 Q
theorem qQ (hc:xX X (.builtin id) r)(hg:Gl X x)(hm:X.mg x=none)(hv:bootBuiltins x=some (.builtin id))(ha:PA X (e::es) t)(hn:x≠"__name__":=by decide)(hdb:(x == ("__debug__":Str))=false:=by decide)
 (he:starEach (e::es) X.env=(false,eval e X.env)::starEach es X.env:=by rfl) (hpl:(backTo pos (starEach es X.env)).any (·.1)=false:=by rfl):PE X (.Call (.Name x p) (e::es) [] pos) (tCB r t):=by
 intro pins s σ H Q I h
 refine wpAny_Call_Name_kw (wC I hg hm hv ?_ hn hdb)
 exact PyProof.Rows.callWith_builtin1 (thn (ha pos pins s σ H _ I h) fun us s1 ⟨vs,H1,I1,r1,q1⟩=>hc pins s1 σ H1 vs us Q I1 r1 q1) he hpl
theorem jm (hc:xX X (.type T) r)(hg:Gl X x)(hm:X.mg x=none)(hv:bootBuiltins x=some (.type T))(ha:PA X (e::es) t)(hn:x≠"__name__":=by decide)(hdb:(x == ("__debug__":Str))=false:=by decide)
 (he:starEach (e::es) X.env=(false,eval e X.env)::starEach es X.env:=by rfl) (hpl:(backTo pos (starEach es X.env)).any (·.1)=false:=by rfl):PE X (.Call (.Name x p) (e::es) [] pos) (tCB r t):=by
 intro pins s σ H Q I h
 refine wpAny_Call_Name_kw (wC I hg hm hv ?_ hn hdb)
 exact PyProof.Rows.callWith_type1 (thn (ha pos pins s σ H _ I h) fun us s1 ⟨vs,H1,I1,r1,q1⟩=>hc pins s1 σ H1 vs us Q I1 r1 q1) he hpl
end
end L2
namespace HT
open PySem PyProof.Rows
section
open PySem.SeqAt
open PySem.AutoSeq1 (wpAny_loadPart')
open PySem.MeetsSeq PySem.MeetsSeq2 PySem.MeetsSeq3
end
section
variable {prog : Program} {w : World} {A : Around} {E : Value → Shared → Prop} {s : Shared}
def sIx (n d:Nat):Option Int→Nat
 | none=>d
 | some v=>if v < 0 then (v+(n:Int)).toNat else min v.toNat n
theorem sIx_none (n d:Nat):sIx n d none=d:=rfl
theorem sIx_nat (n d k:Nat):sIx n d (some (k:Int))=min k n:=by
 show (if (k:Int) < 0 then ((k:Int)+(n:Int)).toNat else min (k:Int).toNat n)=min k n
 rw [if_neg (by omega),Int.toNat_natCast]
theorem qO3 (n d:Nat)(hd:d≤n)(o:Option Int):sIx n d o≤n:=by
 cases o with
 | none=>exact hd
 | some v=>
  show (if v < 0 then (v+(n:Int)).toNat else min v.toNat n)≤n
  by_cases hv:v < 0
  · rw [if_pos hv];omega
  · rw [if_neg hv];exact Nat.min_le_right _ _
theorem qKc (v:Int)(n d:Nat):(if v < 0 then max (v+(n:Int)) 0 else min v (n:Int))=((sIx n d (some v):Nat):Int):=by
 show (if v < 0 then max (v+(n:Int)) 0 else min v (n:Int))=(((if v < 0 then (v+(n:Int)).toNat else min v.toNat n):Nat):Int)
 by_cases hv:v < 0
 · simp only [if_pos hv];omega
 · simp only [if_neg hv];omega
theorem qG0 (lo hi:Option Int)(n:Nat):Builtin.Slice.sliceAdjust lo hi 1 (n:Int)=(((sIx n 0 lo:Nat):Int),((sIx n n hi:Nat):Int)):=by
 have h1:¬ ((1:Int) < 0):=by omega
 unfold Builtin.Slice.sliceAdjust
 simp only [h1,if_false]
 refine Prod.ext ?_ ?_
 · cases lo with
   | none=>rfl
   | some v=>exact qKc v n 0
 · cases hi with
   | none=>rfl
   | some v=>exact qKc v n n
theorem qHj (i j:Nat):Builtin.Slice.slicePlaces (i:Int) (j:Int) 1=j - i:=by
 unfold Builtin.Slice.slicePlaces
 have h1:(1:Int) > 0:=by omega
 simp only [h1,if_true,Int.ediv_one]
 split <;> omega
theorem qA2 {v:Value}{o:Option Int}{Q:Option Int→Shared→Prop}(p:IsPart v o)(h:Q o s):wpAny (model prog w) A (Builtin.Slice.slicePartIndex v) Q E s:=by
 cases p with
 | none=>exact slicePart_none h
 | int i t=>exact slicePart_int h
theorem wJ {sl:Addr}{vl vu:Value}{lo hi:Option Int}{n:Nat}{Q:Int × Int × Nat→Shared→Prop}(hs:s.heap.IsSliceOf sl vl vu .none)(pl:IsPart vl lo)(pu:IsPart vu hi)
 (h:Q (((sIx n 0 lo:Nat):Int),1,sIx n n hi - sIx n 0 lo) s):wpAny (model prog w) A (Builtin.Slice.sliceApplied (.ref sl) (pure (n:Int))) Q E s:=by
 obtain⟨os,hos,hcs,hds⟩:=id hs
 unfold Builtin.Slice.sliceApplied Builtin.Slice.sliceFields
 refine wpAny_bind (wpAny_bind (wpAny_field hos hds (x:=vl) rfl (wpAny_bind (wpAny_field hos hds (x:=vu) rfl (wpAny_bind (wpAny_field hos hds (x:=.none) rfl (wpAny_pure ?_)))))))
 refine wpAny_bind (slicePart_none ?_)
 show wpAny _ _ (if ((1:Int) == 0)=true then _ else _) _ _ s
 rw [if_neg (by decide)]
 refine wpAny_bind (qA2 pl (wpAny_bind (qA2 pu (wpAny_bind (wpAny_pure ?_)))))
 show wpAny _ _ (match Builtin.Slice.sliceAdjust lo hi 1 (n:Int) with | (lo,hi)=>pure (lo,(1:Int),Builtin.Slice.slicePlaces lo hi 1)) _ _ s
 rw [qG0 lo hi n]
 show wpAny _ _ (pure (((sIx n 0 lo:Nat):Int),(1:Int),Builtin.Slice.slicePlaces ((sIx n 0 lo:Nat):Int) ((sIx n n hi:Nat):Int) 1)) _ _ s
 rw [qHj]
 exact wpAny_pure h
theorem qLv (xs:Array Value)(i k:Nat):((List.range k).filterMap fun(m:Nat)=>xs[((i:Int)+(m:Int)*1).toNat]?).toArray=((xs.toList.drop i).take k).toArray:=by
 have e:(fun(m:Nat)=>xs[((i:Int)+(m:Int)*1).toNat]?)=fun m=>xs[i+m]?:=by
  funext m
  have:((i:Int)+(m:Int)*1).toNat=i+m:=by omega
  rw [this]
 rw [e]
 have:=pick_run xs i k
 rw [List.filterMap_map] at this
 have e2:((fun x=>xs[x]?) ∘ fun x=>i+x)=fun m=>xs[i+m]?:=rfl
 rw [e2] at this
 rw [this]
theorem getItem_tuple_cut {t sl:Addr}{items:Array Value}{vl vu:Value}{lo hi:Option Int}{Q:Value→Shared→Prop}(ht:IsTup s.heap t items)(hs:s.heap.IsSliceOf sl vl vu .none)(pl:IsPart vl lo)(pu:IsPart vu hi)
 (hw:¬ (sIx items.size 0 lo=0∧sIx items.size items.size hi=items.size))
 (h:Q (.ref s.heap.objs.size) {s with heap:=s.heap.push {cls:=.type "tuple",data:=.seq ((items.toList.drop (sIx items.size 0 lo)).take (sIx items.size items.size hi - sIx items.size 0 lo)).toArray}})
 (hsz:items.size≤sizeLine):wpAny (model prog w) A (getItem (.ref t) (.ref sl)) Q E s:=by
 have htake:sizeOk (.seq ((items.toList.drop (sIx items.size 0 lo)).take (sIx items.size items.size hi - sIx items.size 0 lo)).toArray):=by
  show ((items.toList.drop (sIx items.size 0 lo)).take (sIx items.size items.size hi - sIx items.size 0 lo)).toArray.size≤sizeLine
  rw [List.size_toArray,List.length_take,List.length_drop,Array.length_toList]
  omega
 have hj:sIx items.size items.size hi≤items.size:=qO3 _ _ (Nat.le_refl _) hi
 obtain⟨os,hos,hcs,hds⟩:=id hs
 have hTs:s.TypeIs (.ref sl) "slice":=⟨os,hos,hcs⟩
 unfold getItem
 try with_reducible refine wpAny_holding ?_
 first | refine wpAny_bind (wpAny_pure ?_) | skip
 refine wpAny_bind (wpAny_sequenceKey ht.typeIs (by decide) ?_)
 refine wpAny_bind (wpAny_callSpecial?_slot (name:=Str.ofString "__getitem__") ht.typeIs PyProof.Rows.slot_tuple_getitem
  (wpAny_call_entry PyProof.Rows.slot_tuple_getitem ht.typeIs entry_tuple_getitem ?_ (args_tuple_getitem _ _)))
 show wpAny _ _ (Builtin.Tuple.tupleItemsOf (.ref t) >>=_) _ _ s
 refine wpAny_bind (tupleItemsOf_ ht ?_)
 refine wpAny_bind (wpAny_typeOf hTs ?_)
 rw [if_pos (by decide)]
 refine wpAny_bind (wJ hs pl pu ?_)
 have hno:¬ ((((sIx items.size 0 lo:Nat):Int) == 0 && (1:Int) == 1 && (sIx items.size items.size hi - sIx items.size 0 lo) == items.size)=true):=by
  intro q
  rw [Bool.and_eq_true,Bool.and_eq_true] at q
  have q1:((sIx items.size 0 lo:Nat):Int)=0:=eq_of_beq q.1.1
  have q2:sIx items.size items.size hi - sIx items.size 0 lo=items.size:=eq_of_beq q.2
  exact hw ⟨by omega,by omega⟩
 show wpAny _ _ (if (((sIx items.size 0 lo:Nat):Int) == 0 && (1:Int) == 1 && (sIx items.size items.size hi - sIx items.size 0 lo) == items.size)=true then _ else _) _ _ s
 rw [if_neg hno,qLv]
 first
  | exact wpAny_bind (m:=Builtin.Tuple.tupleExact _) (wpAny_newObj_type (wpAny_pure ⟨_,rfl,wpAny_pure h⟩) htake)
  | exact wpAny_bind (m:=Builtin.Tuple.tupleExact _) (wpAny_newObj_type (wpAny_bind (wpAny_pure (wpAny_pure ⟨_,rfl,wpAny_pure h⟩))) htake)
  | exact wpAny_bind (wpAny_bind (m:=Builtin.Tuple.tupleExact _) (wpAny_newObj_type (wpAny_pure (wpAny_pure ⟨_,rfl,wpAny_pure h⟩)) htake))
  | exact wpAny_bind (wpAny_bind (m:=Builtin.Tuple.tupleExact _) (wpAny_newObj_type (wpAny_pure ⟨_,rfl,wpAny_pure h⟩) htake))
end
end HT
namespace L2
open PySem PySem.Spec PyProof.Rows
abbrev TO:=St→Hp→(Option Int→Hp→Prop)→Prop
def PO (X:Cx)(e:Option Expr)(t:TO):Prop:=
 ∀ (pins:List (Addr × Obj)) (s:Shared) (σ:St) (H:Hp) (Q:Option Int→Hp→Prop),Inv X pins σ H s→t σ H Q→
  wpAny (model X.prog X.w) X.A (evalPart e X.env) (fun u s'=>∃ o H',Inv X pins σ H' s'∧IsPart u o∧Q o H') X.xe s
def qNc:TO:=fun _ H Q=>Q none H
inductive qOy (Q:Option Int→Hp→Prop)(x:V)(H1:Hp):Prop
| mk i (_:x= .int i) (_:Q (some i) H1)
def qQ4 (t:TE):TO:=fun σ H Q=>t σ H fun x H1=>qOy Q x H1
section
variable {X : Cx} {e : Expr} {te : TE} {lo hi : Option Expr} {tl th : TO} {pos p2 : Pos}
theorem qIe:PO X none qNc:=by
 intro pins s σ H Q I h
 rw [evalPart_none]
 exact wpAny_pure ⟨none,H,I,.none,h⟩
theorem qB8 (h:PE X e te):PO X (some e) (qQ4 te):=by
 intro pins s σ H Q I hw
 rw [evalPart_some]
 refine thn (h pins s σ H _ I hw) fun u s1 ⟨x,H1,I1,r1,q1⟩=>?_
 obtain⟨i,rfl,q⟩:=q1
 obtain⟨t,rfl⟩:=r1
 exact⟨some i,H1,I1,.int i t,q⟩
def SlR (X:Cx)(r:V→Option Int→Option Int→Hp→VK→Prop):Prop:=
 ∀ (pins:List (Addr × Obj)) (s:Shared) (σ:St) (H:Hp) (x:V) (v vl vu:Value) (lo hi:Option Int) (sl:Addr) (Q:VK),Inv X pins σ H s→RelV x v→s.heap.IsSliceOf sl vl vu .none→IsPart vl lo→IsPart vu hi→r x lo hi H Q→
  ∃ T id,typeLookup (.type T) "__getitem__"=pure (some (.builtin id))∧s.TypeIs v T∧wpAny (model X.prog X.w) X.A (getItem v (.ref sl)) (EP X pins σ Q) X.xe s
def tSl (r:V→Option Int→Option Int→Hp→VK→Prop)(te:TE)(tl th:TO):TE:=fun σ H Q=>te σ H fun x H1=>tl σ H1 fun l H2=>th σ H2 fun u H3=>r x l u H3 Q
theorem qB1 {r:V→Option Int→Option Int→Hp→VK→Prop}(hr:SlR X r)(he:PE X e te)(hl:PO X lo tl)(hu:PO X hi th):PE X (.Subscript e (.Slice lo hi none p2) pos) (tSl r te tl th):=by
 intro pins s σ H Q I h
 refine Subscript_ (thn (he pins s σ H _ I h) fun v s1 ⟨x,H1,I1,r1,q1⟩=>?_)
 refine wpAny_Slice (thn (hl pins s1 σ H1 _ I1 q1) fun vl s2 ⟨l,H2,I2,pl,q2⟩=>thn (hu pins s2 σ H2 _ I2 q2) fun vu s3 ⟨u,H3,I3,pu,q3⟩=>?_)
 rw [evalPart_none]
 refine wpAny_pure ?_
 have I4:Inv X pins σ H3 {s3 with heap:=s3.heap.push {cls:=.type "slice",data:=.fields #[vl,vu,.none]}}:=I3.kept (t':=s3.toks) fun b ob q=>Heap.get?_push_of_some _ q
 obtain⟨T,id,hT,ht,hg⟩:=hr pins {s3 with heap:=s3.heap.push {cls:=.type "slice",data:=.fields #[vl,vu,.none]}} σ H3 x v vl vu l u s3.heap.objs.size Q I4 r1 (Heap.IsSliceOf.new ..) pl pu q3
 show wpAny (model X.prog X.w) X.A (subscriptTail e (.Slice lo hi none p2) v (.ref s3.heap.objs.size)) (EP X pins σ Q) X.xe {s3 with heap:=s3.heap.push {cls:=.type "slice",data:=.fields #[vl,vu,.none]}}
 exact tail_any (ops:=[.ref s3.heap.objs.size,v]) ht hT hg (by with_unfolding_all rfl)
def qEc (xs:List V)(lo hi:Option Int):List V:=(xs.drop (HT.sIx xs.length 0 lo)).take (HT.sIx xs.length xs.length hi - HT.sIx xs.length 0 lo)
theorem wo (xs:List V)(lo hi:Option Int):(qEc xs lo hi).length≤xs.length:=by
 unfold qEc
 rw [List.length_take,List.length_drop]
 omega
inductive qR0 (K:PySem.W.Frag)(x:V)(lo:Option Int)(hi:Option Int)(H:Hp)(Q:VK):Prop
| mk a xs (_:x= .ref a) (_:SqT K H a xs) (_:¬ (HT.sIx xs.length 0 lo=0∧HT.sIx xs.length xs.length hi=xs.length)) (_:∀ p,H p=none→Q (.ref p) (upd H p (.tup (qEc xs lo hi))))
theorem qP2:SlR X (qR0 X.K):=by
 intro pins s σ H x v vl vu lo hi sl Q I rx hs pl pu h
 obtain⟨a,xs,rfl,hx,hw,q⟩:=h
 cases rx
 obtain⟨its,r,ht,hz⟩:=I.tuple hx
 have hlen:its.toArray.size=xs.length:=by rw [List.size_toArray];exact r.length.symm
 refine⟨"tuple",_,PyProof.Rows.slot_tuple_getitem.lookup,ht.typeIs,?_⟩
 refine HT.getItem_tuple_cut ht hs pl pu (by rw [hlen];exact hw) ?_ (by rw [hlen];exact hz)
 rw [hlen]
 refine⟨.ref s.heap.objs.size,_,I.laid (t':=s.toks) (o:=.tup (qEc xs lo hi)) (fun b ob q=>Heap.get?_push_of_some _ q) (Nat.le_refl _) ?_,rfl,q _ (I.hok.fresh (Nat.le_refl _))⟩
 exact⟨Nat.le_trans (wo xs lo hi) hz,_,(r.drop (HT.sIx xs.length 0 lo)).take (HT.sIx xs.length xs.length hi - HT.sIx xs.length 0 lo),IsTup.new _ _⟩
end
end L2
namespace L2
open PySem PySem.Spec PyProof.Rows
def ixN (n:Nat)(i:Int):Option Nat:=if 0≤i then (if i < n then some i.toNat else none) else if -(n:Int)≤i then some (i+n).toNat else none
def atI {α:Type}(xs:List α)(i:Int):Option α:=(ixN xs.length i).bind fun j=>xs[j]?
theorem qJi {n:Nat}{i:Int}{j:Nat}(h:ixN n i=some j):seqIndex? i n=some j∧j < n∧-(n:Int)≤i∧i < n:=by
 unfold ixN at h
 by_cases h0:0≤i
 · rw [if_pos h0] at h
   by_cases h1:i < n
   · rw [if_pos h1] at h
     have e:i.toNat=j:=Option.some.inj h
     exact⟨by rw [seqIndex_of h0 h1,e],by omega,by omega,h1⟩
   · rw [if_neg h1] at h;cases h
 · rw [if_neg h0] at h
   by_cases h1:-(n:Int)≤i
   · rw [if_pos h1] at h
     have e:(i+n).toNat=j:=Option.some.inj h
     exact⟨by rw [seqIndex_neg (by omega) h1,e],by omega,h1,by omega⟩
   · rw [if_neg h1] at h;cases h
theorem qIr {α:Type}{xs:List α}{i:Int}{v:α}(h:atI xs i=some v):∃ j,seqIndex? i xs.length=some j∧xs[j]? =some v∧j < xs.length∧-(xs.length:Int)≤i∧i < xs.length:=by
 unfold atI at h
 cases e:ixN xs.length i with
 | none=>rw [e] at h;cases h
 | some j=>
  rw [e] at h
  obtain⟨h1,h2,h3,h4⟩:=qJi e
  exact⟨j,h1,h,h2,h3,h4⟩
theorem jC {α:Type}{xs:List α}{j:Nat}{v:α}(h:xs[j]? =some v):atI xs (j:Int)=some v:=by
 have hj:j < xs.length:=(List.getElem?_eq_some_iff.mp h).1
 have e:ixN xs.length (j:Int)=some j:=by
  unfold ixN
  rw [if_pos (by omega),if_pos (by omega)];simp
 unfold atI;rw [e];exact h
def qM7 (b:Expr):Prop:=∀ o i,subscripted b false o i=operate [o,i] (getItem o i)
def IxR (X:Cx)(r:R2):Prop:=
 ∀ (value slice:Expr) (pins:List (Addr × Obj)) (s:Shared) (σ:St) (H:Hp) (x y:V) (v u:Value) (Q:VK),Inv X pins σ H s→RelV x v→RelV y u→r x y H Q→
  subscripted slice false v u=operate [v,u] (getItem v u)→wpAny (model X.prog X.w) X.A (subscriptTail value slice v u) (EP X pins σ Q) X.xe s
def MtR (X:Cx)(id:String)(r:V→List V→Hp→VK→Prop):Prop:=
 ∀ (pins:List (Addr × Obj)) (s:Shared) (σ:St) (H:Hp) (x:V) (xs:List V) (v:Value) (us:List Value) (Q:VK),Inv X pins σ H s→RelV x v→Vals xs us→r x xs H Q→
  wpAny (model X.prog X.w) X.A (call (.builtin id) (v::us)) (EP X pins σ Q) X.xe s
section
variable {X : Cx} {a b : Expr} {ta tb : TE} {pos : Pos}
theorem jK {r:R2}(hr:IxR X r)(ha:PE X a ta)(hb:PE X b tb)(hs:qM7 b):PE X (.Subscript a b pos) (tOp r ta tb):=by
 intro pins s σ H Q I h
 exact Subscript_ (qRh ha hb I h fun v u s2 x y H2 I2 rx ry q=>hr a b pins s2 σ H2 x y v u Q I2 rx ry q (hs _ _))
inductive qSc (K:PySem.W.Frag)(x:V)(y:V)(H:Hp)(Q:VK):Prop
| mk p xs i v (_:x= .ref p) (_:y= .int i) (_:SqL K H p xs) (_:atI xs i=some v) (_:Q v H)
inductive qOk (K:PySem.W.Frag)(x:V)(y:V)(H:Hp)(Q:VK):Prop
| mk p xs i v (_:x= .ref p) (_:y= .int i) (_:SqT K H p xs) (_:atI xs i=some v) (_:Q v H)
theorem qf:IxR X (qSc X.K):=by
 intro value slice pins s σ H x y v u Q I rx ry h hs
 obtain⟨p,xs,i,z,rfl,rfl,hq,he,q⟩:=h
 cases rx
 obtain⟨t,rfl⟩:=ry
 obtain⟨its,r,pl,hz⟩:=I.list hq
 obtain⟨j,h1,h2,h3,h4,h5⟩:=qIr he
 obtain⟨w,ew,rw'⟩:=r.get h2
 have hl:=r.length
 have hn:=qGi
 have fin:EP X pins σ Q w s:=⟨z,H,I,rw',q⟩
 by_cases h0:0≤i
 · have hj:i.toNat=j:=by
    rw [seqIndex_of h0 h5] at h1
    exact Option.some.inj h1
   exact item_listR pl.isList h0 (by omega) (by rw [hj];simpa using ew) fin hs
 · have hj:(i+(its.toArray.size:Int)).toNat=j:=by
    rw [seqIndex_neg (by omega) h4] at h1
    rw [List.size_toArray,← hl]
    exact Option.some.inj h1
   exact subscriptTail_builtinR (x:=w) pl.isList.typeIs slot_list_getitem.lookup
    (wpAny_getItem_list_neg (Q:=fun r s'=>r=w∧EP X pins σ Q r s') pl.isList (by omega) (by rw [List.size_toArray] <;> omega) (by omega) (by rw [hj];simpa using ew) ⟨rfl,fin⟩) hs
theorem qDc:IxR X (qOk X.K):=by
 intro value slice pins s σ H x y v u Q I rx ry h hs
 obtain⟨p,xs,i,z,rfl,rfl,hq,he,q⟩:=h
 cases rx
 obtain⟨t,rfl⟩:=ry
 obtain⟨its,r,pl,hz⟩:=I.tuple hq
 obtain⟨j,h1,h2,h3,h4,h5⟩:=qIr he
 obtain⟨w,ew,rw'⟩:=r.get h2
 have hl:=r.length
 have hn:=qGi
 have fin:EP X pins σ Q w s:=⟨z,H,I,rw',q⟩
 exact subscriptTail_builtinR (x:=w) pl.typeIs slot_tuple_getitem.lookup
  (getItem_tuple (j:=j) (Q:=fun r s'=>r=w∧EP X pins σ Q r s') pl (by omega) (by omega) (by rw [List.size_toArray,← hl];exact h1) (by simpa using ew) ⟨rfl,fin⟩) hs
theorem qG8 (its:List Value)(n j:Nat)(u:Value):Obj.mapSeq (·.setIfInBounds j u) {cls:=.type "list",data:=.seq its.toArray n}={cls:=.type "list",data:=.seq (its.set j u).toArray n}:=by
 simp [Obj.mapSeq]
theorem Inv.lst {pins:List (Addr × Obj)}{σ:St}{H:Hp}{s:Shared}{p:Addr}{xs:List V}(I:Inv X pins σ H s)(h:H p=some (.lst xs)):
 ∃ (its:List Value) (n:Nat),Vals xs its∧s.heap.get? p=some {cls:=.type "list",data:=.seq its.toArray n}∧xs.length≤sizeLine:=by
 obtain⟨z,its,n,r,e⟩:=I.hok p _ h
 exact⟨its,n,r,e,z⟩
theorem Inv.lstUpd {pins:List (Addr × Obj)}{σ:St}{H:Hp}{s:Shared}{p:Addr}{xs ys:List V}{its its':List Value}{n n':Nat}{f:Obj→Obj}(I:Inv X pins σ H s)(h:H p=some (.lst xs))
 (ho:s.heap.get? p=some {cls:=.type "list",data:=.seq its.toArray n}) (hf:f {cls:=.type "list",data:=.seq its.toArray n}={cls:=.type "list",data:=.seq its'.toArray n'}) (r:Vals ys its') (hz:ys.length≤sizeLine) (t:Nat):
 Inv X pins σ (upd H p (.lst ys)) {s with heap:=s.heap.update p f,toks:=t}:=by
 have e:(s.heap.update p f).get? p=some {cls:=.type "list",data:=.seq its'.toArray n'}:=by
  rw [Heap.get?_update_self f ho (by rw [hf] <;> rfl),hf]
 refine I.write (x:=p) (e:=p) (by rw [h];trivial) (.inl rfl) (fun b u hb q=>(Heap.get?_update_other _ _ (Ne.symm hb)).trans q) ⟨_,e⟩ ?_
 exact⟨hz,its',n',r,e⟩
def qRl:V→V→V→Hp→(Hp→Prop)→Prop:=fun o i v H Q=>∃ p xs k j,o= .ref p∧i= .int k∧H p=some (.lst xs)∧ixN xs.length k=some j∧Q (upd H p (.lst (xs.set j v)))
theorem qLa:qRy X qRl:=by
 intro pins s σ H o i v ov iv u Q I ro ri rv h
 obtain⟨p,xs,k,j,rfl,rfl,hp,hj,q⟩:=h
 cases ro
 obtain⟨t,rfl⟩:=ri
 obtain⟨its,n,r,ho,hz⟩:=I.lst hp
 obtain⟨h1,h2,h3,h4⟩:=qJi hj
 have hl:=r.length
 have hn:=qGi
 have I':Inv X pins σ (upd H p (.lst (xs.set j v))) {s with heap:=s.heap.update p (Obj.mapSeq (·.setIfInBounds j u))}:=
  I.lstUpd hp ho (qG8 its n j u) (r.set rv j) (by rw [List.length_set];exact hz) s.toks
 by_cases h0:0≤k
 · have hk:k.toNat=j:=by
    rw [seqIndex_of h0 h4] at h1
    exact Option.some.inj h1
   exact PySem.W.ki_setAt ho h0 (by omega) (by rw [List.size_toArray,← hl];exact h4) (by rw [hk];exact⟨_,I',q⟩)
 · have hk:(k+(its.toArray.size:Int)).toNat=j:=by
    rw [seqIndex_neg (by omega) h3] at h1
    rw [List.size_toArray,← hl]
    exact Option.some.inj h1
   exact PySem.W.ki_setBack ho (by omega) (by rw [List.size_toArray,← hl];exact h3) (by omega) (by rw [hk];exact⟨_,I',q⟩)
theorem qDq (lo hi:Option Int)(n:Nat):(sliceBounds lo hi none n).1=((HT.sIx n 0 lo:Nat):Int)∧(sliceBounds lo hi none n).2.1=((HT.sIx n n hi:Nat):Int)∧(sliceBounds lo hi none n).2.2=1:=by
 refine⟨?_,?_,rfl⟩
 · cases lo with
   | none=>simp [sliceBounds,HT.sIx]
   | some i=>
    simp only [sliceBounds,HT.sIx,Option.getD_none,show (1:Int) > 0 by decide,if_true]
    by_cases h:i < 0
    · simp only [h,if_true] <;> omega
    · simp only [h,if_false] <;> omega
 · cases hi with
   | none=>simp [sliceBounds,HT.sIx]
   | some i=>
    simp only [sliceBounds,HT.sIx,Option.getD_none,show (1:Int) > 0 by decide,if_true]
    by_cases h:i < 0
    · simp only [h,if_true] <;> omega
    · simp only [h,if_false] <;> omega
theorem qB3 (its:List Value)(lo hi:Option Int):slicePick its.toArray lo hi none=((its.drop (HT.sIx its.length 0 lo)).take (HT.sIx its.length its.length hi - HT.sIx its.length 0 lo)).toArray:=by
 obtain⟨h1,h2,h3⟩:=qDq lo hi its.toArray.size
 unfold slicePick
 rw [h1,h2,h3]
 simp only [sliceRange_one,pick_run,List.size_toArray] <;> rfl
inductive qSd (K:PySem.W.Frag)(x:V)(lo:Option Int)(hi:Option Int)(H:Hp)(Q:VK):Prop
| mk a xs (_:x= .ref a) (_:SqL K H a xs) (_:∀ p,H p=none→Q (.ref p) (upd H p (.lst (qEc xs lo hi))))
theorem qIv:SlR X (qSd X.K):=by
 intro pins s σ H x v vl vu lo hi sl Q I rx hs pl pu h
 obtain⟨a,xs,rfl,hx,q⟩:=h
 cases rx
 obtain⟨its,r,ht,hz⟩:=I.list hx
 have hlen:=r.length
 refine⟨"list",_,slot_list_getitem.lookup,ht.isList.typeIs,?_⟩
 refine wpAny_getItem_list_slice ht.isList hs pl pu .none (by simp) ?_ (by rw [List.size_toArray] <;> omega)
 rw [qB3,← hlen]
 refine⟨.ref s.heap.objs.size,_,I.laid (t':=s.toks) (o:=.lst (qEc xs lo hi)) (fun b ob q=>Heap.get?_push_of_some _ q) (Nat.le_refl _) ?_,rfl,q _ (I.hok.fresh (Nat.le_refl _))⟩
 exact⟨Nat.le_trans (wo xs lo hi) hz,_,0,(r.drop (HT.sIx xs.length 0 lo)).take (HT.sIx xs.length xs.length hi - HT.sIx xs.length 0 lo),Heap.get?_push_size _ rfl⟩
def vK:V→Bool
 | .non=>true
 | .bl _=>true
 | .int _=>true
 | .str _=>true
 | _=>false
def eqV:V→V→Bool
 | .non,.non=>true
 | .bl a,.bl b=>a == b
 | .bl a,.int b=>(if a then 1 else 0) == b
 | .int a,.bl b=>a == (if b then 1 else 0)
 | .int a,.int b=>a == b
 | .str a,.str b=>a == b
 | _,_=>false
theorem qIj {A:Around}{s:Shared}{y x:V}{u v:Value}(ry:RelV y u)(rx:RelV x v)(fy:vK y=true)(fx:vK x=true):SeqAt.EqAt A s u v (eqV y x):=by
 cases y with
 | non=>
  cases ry
  cases x with
  | non=>cases rx;exact SeqAt.EqAt.same _
  | bl b=>cases rx;exact SeqAt.EqAt.none_bool b
  | int b=>obtain⟨t,rfl⟩:=rx;exact SeqAt.EqAt.none_int b t
  | str b=>obtain⟨t,rfl⟩:=rx;exact SeqAt.EqAt.none_str b t
  | _=>exact absurd (show false=true from fx) Bool.false_ne_true
 | bl a=>
  cases ry
  cases x with
  | non=>cases rx;exact SeqAt.EqAt.bool_none a
  | bl b=>cases rx;exact SeqAt.EqAt.bool_bool a b
  | int b=>obtain⟨t,rfl⟩:=rx;exact SeqAt.EqAt.bool_int a b t
  | str b=>obtain⟨t,rfl⟩:=rx;exact SeqAt.EqAt.bool_str a b t
  | _=>exact absurd (show false=true from fx) Bool.false_ne_true
 | int a=>
  obtain⟨t',rfl⟩:=ry
  cases x with
  | non=>cases rx;exact SeqAt.EqAt.int_none a t'
  | bl b=>cases rx;exact SeqAt.EqAt.int_bool a t' b
  | int b=>obtain⟨t,rfl⟩:=rx;exact SeqAt.EqAt.int_int a t' b t
  | str b=>obtain⟨t,rfl⟩:=rx;exact SeqAt.EqAt.int_str a t' b t
  | _=>exact absurd (show false=true from fx) Bool.false_ne_true
 | str a=>
  obtain⟨t',rfl⟩:=ry
  cases x with
  | non=>cases rx;exact SeqAt.EqAt.str_none a t'
  | bl b=>cases rx;exact SeqAt.EqAt.str_bool a t' b
  | int b=>obtain⟨t,rfl⟩:=rx;exact SeqAt.EqAt.str_int a t' b t
  | str b=>obtain⟨t,rfl⟩:=rx;exact SeqAt.EqAt.str_str a t' b t
  | _=>exact absurd (show false=true from fx) Bool.false_ne_true
 | _=>exact absurd (show false=true from fy) Bool.false_ne_true
theorem qo:xX X (.builtin "len") (fun xs H Q=>∃ p ys,xs=[.ref p]∧(SqL X.K H p ys∨SqT X.K H p ys)∧Q (.int ys.length) H):=by
 intro pins s σ H xs us Q I r h
 obtain⟨p,ys,rfl,hq,q⟩:=h
 obtain⟨u,rfl,rx⟩:=kj r
 cases rx
 have hn:=qGi
 rcases hq with hq | hq
 · obtain⟨its,r',pl,hz⟩:=I.list hq
   have hlen:=r'.length
   exact Calls.call_len_list pl.isList (by simp only [List.size_toArray] <;> omega) ⟨.int ys.length,H,I.tok _,⟨s.toks+1,by rw [List.size_toArray,hlen]⟩,q⟩
 · obtain⟨its,r',pl,hz⟩:=I.tuple hq
   have hlen:=r'.length
   exact len_tuple pl (by simp only [List.size_toArray] <;> omega) ⟨.int ys.length,H,I.tok _,⟨s.toks+1,by rw [List.size_toArray,hlen]⟩,q⟩
theorem zd:xX X (.type "list") (fun xs H Q=>∃ p ys,xs=[.ref p]∧(SqL X.K H p ys∨SqT X.K H p ys)∧∀ l,H l=none→Q (.ref l) (upd H l (.lst ys))):=by
 intro pins s σ H xs us Q I r h
 obtain⟨p,ys,rfl,hq,q⟩:=h
 obtain⟨u,rfl,rx⟩:=kj r
 cases rx
 have fin:∀ (its:List Value),Vals ys its→ys.length≤sizeLine→∀ (h':Heap) (c':Nat),(∀ b o',s.heap.get? b=some o'→h'.get? b=some o')→
  h'.get? s.heap.objs.size=some {cls:=.type "list",dict:=none,data:=.seq its.toArray c',slots:=#[]}→EP X pins σ Q (.ref s.heap.objs.size) {s with heap:=h'}:=fun its r' hz h' c' kp e=>
  ⟨.ref s.heap.objs.size,_,I.laid (t':=s.toks) kp (Nat.le_refl _) (show ObjOk X.prog X.w _ h' _ (.lst ys) from ⟨hz,its,c',r',e⟩),rfl,q _ (I.hok.fresh (Nat.le_refl _))⟩
 rcases hq with hq | hq
 · obtain⟨its,r',pl,hz⟩:=I.list hq
   have hlen:=r'.length
   obtain⟨o,ho,hc,n,hd⟩:=pl.isList
   exact call_list_seq p (.inl rfl) ho hc hd (fun h' c' kp e=>fin its r' hz h' c' kp e) (by simp only [List.size_toArray] <;> omega)
 · obtain⟨its,r',pl,hz⟩:=I.tuple hq
   have hlen:=r'.length
   obtain⟨o,ho,hc,n,hd⟩:=pl
   exact call_list_seq p (.inr rfl) ho hc hd (fun h' c' kp e=>fin its r' hz h' c' kp e) (by simp only [List.size_toArray] <;> omega)
theorem qCk:xX X (.type "tuple") (fun xs H Q=>∃ p ys,xs=[.ref p]∧((SqL X.K H p ys∧∀ l,H l=none→Q (.ref l) (upd H l (.tup ys)))∨(SqT X.K H p ys∧Q (.ref p) H))):=by
 intro pins s σ H xs us Q I r h
 obtain⟨p,ys,rfl,h⟩:=h
 obtain⟨u,rfl,rx⟩:=kj r
 cases rx
 rcases h with ⟨hq,q⟩ | ⟨hq,q⟩
 · obtain⟨its,r',pl,hz⟩:=I.list hq
   have hlen:=r'.length
   refine call_tuple_list pl.isList (fun h' kp=>?_) (by simp only [List.size_toArray] <;> omega)
   have I1:Inv X pins σ H {s with heap:=h'}:=I.kept (t':=s.toks) kp
   have I2:Inv X pins σ (upd H h'.objs.size (.tup ys)) {s with heap:=h'.push {cls:=.type "tuple",data:=.seq its.toArray}}:=
    I1.laid (t':=s.toks) (fun b o e=>Heap.get?_push_of_some _ e) (Nat.le_refl _) (show ObjOk X.prog X.w _ _ _ (.tup ys) from ⟨hz,its,r',IsTup.new _ _⟩)
   exact⟨.ref h'.objs.size,_,I2,rfl,q _ (I1.hok.fresh (Nat.le_refl _))⟩
 · obtain⟨its,r',pl,hz⟩:=I.tuple hq
   exact call_tuple_same pl ⟨.ref p,H,I,rfl,q⟩
def tyV (K:PySem.W.Frag)(T:String)(x:V)(H:Hp):Prop:=match x with
 | .str _=>T="str"
 | .int _=>T="int"
 | .ref p=>(T="list"∧∃ xs,SqL K H p xs)∨(T="tuple"∧∃ o,K.lookup p=some o∧o.cls= .type "tuple"∧o.dict=none)∨
  (T="dict"∧((∃ kvs,H p=some (.dK kvs))∨∃ kvs,H p=some (.dT kvs)))∨(T="set"∧∃ S n,H p=some (.set S n))
 | _=>False
theorem qMo {pins:List (Addr × Obj)}{σ:St}{H:Hp}{s:Shared}{T:String}{x:V}{v:Value}(I:Inv X pins σ H s)(r:RelV x v)(ty:tyV X.K T x H):
 s.TypeIs v T∧∀ a,v= .ref a→∃ ob,s.heap.get? a=some ob∧ob.dict=none:=by
 cases x with
 | str z=>
  obtain⟨t,rfl⟩:=r
  cases (show T="str" from ty)
  exact⟨typeIs_str s z t,fun _ e=>nomatch e⟩
 | int i=>
  obtain⟨t,rfl⟩:=r
  cases (show T="int" from ty)
  exact⟨typeIs_int s i t,fun _ e=>nomatch e⟩
 | ref p=>
  cases r
  rcases ty with ⟨rfl,xs,hq⟩ | ⟨rfl,o,hk,hc,hd⟩ | ⟨rfl,hk⟩ | ⟨rfl,S,n,hk⟩
  · obtain⟨its,_,pl,_⟩:=I.list hq
    refine⟨pl.isList.typeIs,fun a e=>?_⟩
    cases e
    obtain⟨o,n,e,c,hd,_⟩:=pl
    exact⟨o,e,hd⟩
  · refine⟨⟨o,I.kIn p o hk,hc⟩,fun a e=>?_⟩
    cases e
    exact⟨o,I.kIn _ o hk,hd⟩
  · have z:∃ o,s.heap.get? p=some o∧o.ExactDict:=by
     rcases hk with ⟨kvs,hk⟩ | ⟨kvs,hk⟩
     · obtain⟨_,_,_,_,o,_,_,e,ex,_⟩:=I.hok p _ hk
       exact⟨o,e,ex⟩
     · obtain⟨_,_,_,_,o,_,_,e,ex,_⟩:=I.hok p _ hk
       exact⟨o,e,ex⟩
    obtain⟨o,e,ex⟩:=z
    refine⟨⟨o,e,ex.1⟩,fun a e2=>?_⟩
    cases e2
    exact⟨o,e,ex.2.1⟩
  · obtain⟨o,_,_,_,e,ex,_⟩:=I.hok p _ hk
    refine⟨⟨o,e,ex.1⟩,fun a e2=>?_⟩
    cases e2
    exact⟨o,e,ex.2.1⟩
 | _=>exact False.elim ty
def qR5 (K:PySem.W.Frag)(T:String)(r:V→List V→Hp→VK→Prop)(to:TE):TE:=fun σ H Q=>to σ H fun x H1=>tyV K T x H1∧r x [] H1 Q
def tBM (K:PySem.W.Frag)(T:String)(r:V→List V→Hp→VK→Prop)(to:TE)(t:TA):TE:=fun σ H Q=>to σ H fun x H1=>tyV K T x H1∧t σ H1 fun xs H2=>r x xs H2 Q
variable {o e : Expr} {es : List Expr} {to : TE} {t : TA} {name : Str} {apos cpos : Pos} {T id : String} {r : V → List V → Hp → VK → Prop}
theorem qQi (pa:PlainAttrs T)(slot:Slot T name id)(hty:typeOf (.builtin id)=pure (.type "method_descriptor"))(hm:MtR X id r)(ho:PE X o to)
 (hbase:attributeBase o name X.env (eval o X.env)=eval o X.env:=by rfl) (hline:(apos.endLine == cpos.line)=true:=by rfl):PE X (.Call (.Attribute o name apos) [] [] cpos) (qR5 X.K T r to):=by
 intro pins s σ H Q I h
 refine wpAny_Call_method0_late hbase hline (thn (ho pins s σ H _ I h) fun v s1 ⟨x,H1,I1,r1,ty,q1⟩=>?_)
 obtain⟨h1,h2⟩:=qMo I1 r1 ty
 exact⟨T,id,pa,slot,hty,h1,h2,Calls.callWith_builtin rfl (PySem.evalArgs_none (hm pins s1 σ H1 x [] v [] Q I1 r1 .nil q1))⟩
theorem qAj (pa:PlainAttrs T)(slot:Slot T name id)(hty:typeOf (.builtin id)=pure (.type "method_descriptor"))(hm:MtR X id r)(ho:PE X o to)(ha:PA X (e::es) t)
 (hbase:attributeBase o name X.env (eval o X.env)=eval o X.env:=by rfl)
 (hfew:((backTo cpos (starEach (e::es) X.env)).all (fun x=>!x.1) && (backToKw cpos (keywordEach [] X.env)).all (fun x=>x.1.isSome)
   && decide ((e::es).length+([]:List Keyword).length+(if ([]:List Keyword).isEmpty then 0 else 1) < 30))=true:=by rfl)
 (hline:(apos.endLine == cpos.line)=true:=by rfl) (hs:starEach (e::es) X.env=(false,eval e X.env)::starEach es X.env:=by rfl) (hplain:(backTo cpos (starEach es X.env)).any (·.1)=false:=by rfl):
 PE X (.Call (.Attribute o name apos) (e::es) [] cpos) (tBM X.K T r to t):=by
 intro pins s σ H Q I h
 refine wpAny_Call_method_late hbase hfew hline rfl (thn (ho pins s σ H _ I h) fun v s1 ⟨x,H1,I1,r1,ty,q1⟩=>?_)
 obtain⟨h1,h2⟩:=qMo I1 r1 ty
 refine⟨T,id,pa,slot,hty,h1,h2,?_⟩
 have hA:=ha cpos pins s1 σ H1 _ I1 q1
 rw [hs] at hA ⊢
 refine Calls.callWith_builtin (by show (false || (backTo cpos (starEach es X.env)).any (·.1))=false;rw [hplain] <;> rfl) (Calls.evalArgs_plain ?_)
 exact thn hA fun us s2 ⟨vs,H2,I2,r2,q2⟩=>hm pins s2 σ H2 x vs v us Q I2 r1 r2 q2
end
end L2
namespace L2
open PySem PySem.Spec PyProof.Rows
def MtM (X:Cx)(id:String)(r:V→List V→Hp→VK→Prop):Prop:=
 ∀ (pins:List (Addr × Obj)) (s:Shared) (σ:St) (H:Hp) (x:V) (xs:List V) (v:Value) (us:List Value) (Q:VK),Inv X pins σ H s→RelV x v→Vals xs us→r x xs H Q→
  wpAny (model X.prog X.w) X.A (call (.builtin id) (v::us)) (EP X pins σ Q) X.xe s
theorem Vals.one:∀ {x:V} {us:List Value},Vals [x] us→∃ u,us=[u]∧RelV x u
 | _,_,.cons r .nil=>⟨_,rfl,r⟩
theorem Vals.two:∀ {x y:V} {us:List Value},Vals [x,y] us→∃ u v,us=[u,v]∧RelV x u∧RelV y v
 | _,_,_,.cons r (.cons q .nil)=>⟨_,_,rfl,r,q⟩
theorem Vals.zero:∀ {us:List Value},Vals [] us→us=[]
 | _,.nil=>rfl
theorem Vals.dropLast {xs:List V}{us:List Value}(h:Vals xs us):Vals xs.dropLast us.dropLast:=by
 induction h with
 | nil=>exact .nil
 | cons r t ih=>
  cases t with
  | nil=>exact .nil
  | cons q t'=>exact .cons r ih
theorem Vals.eraseIdx:∀ {xs:List V} {us:List Value} (i:Nat),Vals xs us→Vals (xs.eraseIdx i) (us.eraseIdx i)
 | _,_,_,.nil=>.nil
 | _,_,0,.cons _ t=>t
 | _,_,i+1,.cons r t=>.cons r (Vals.eraseIdx i t)
theorem Vals.reverse {xs:List V}{us:List Value}(h:Vals xs us):Vals xs.reverse us.reverse:=by
 induction h with
 | nil=>exact .nil
 | cons r t ih=>rw [List.reverse_cons,List.reverse_cons];exact Vals.append ih (.cons r .nil)
theorem qHn {α:Type}(l:List α):l.eraseIdx (l.length - 1)=l.dropLast:=by
 induction l with
 | nil=>rfl
 | cons a r ih=>
  cases r with
  | nil=>rfl
  | cons b r=>
   have e:(a::b::r).length - 1=((b::r).length - 1)+1:=by
    have h1:(a::b::r).length=r.length+2:=rfl
    have h2:(b::r).length=r.length+1:=rfl
    omega
   rw [e,List.eraseIdx_cons_succ,ih]
   all_goals rfl
section
variable {X : Cx} {pins : List (Addr × Obj)} {σ : St} {H : Hp} {s : Shared} {l b : Addr} {xs ys zs : List V}
theorem Inv.lset {its its':List Value}{n:Nat}{f:Array Value→Array Value}{t':Nat}(I:Inv X pins σ H s)(hH:H l=some (.lst xs))
 (e:s.heap.get? l=some {cls:=.type "list",data:=.seq its.toArray n}) (hf:f its.toArray=its'.toArray) (hv:Vals ys its') (hz:ys.length≤sizeLine):
 Inv X pins σ (upd H l (.lst ys)) {s with heap:=s.heap.update l (Obj.mapSeq f),toks:=t'}:=by
 have q:=PySem.IsL.update e f
 rw [hf] at q
 refine I.write (x:=l) (e:=l) (by rw [hH];exact trivial) (.inl rfl) (fun b' u hb hu=>(Heap.get?_update_other s.heap (Obj.mapSeq f) (Ne.symm hb)).trans hu) ⟨_,q⟩ ?_
 exact⟨hz,its',_,hv,q⟩
theorem Inv.lnew {its:List Value}{t':Nat}(I:Inv X pins σ H s)(hv:Vals ys its)(hz:ys.length≤sizeLine):
 Inv X pins σ (upd H s.heap.objs.size (.lst ys)) {s with heap:=s.heap.push {cls:=.type "list",data:=.seq its.toArray},toks:=t'}:=
 I.laid (fun _ _ q=>Heap.get?_push_of_some _ q) (Nat.le_refl _) ⟨hz,its,0,hv,Heap.get?_push_size _ rfl⟩
theorem Inv.fresh (I:Inv X pins σ H s):H s.heap.objs.size=none:=I.hok.fresh (Nat.le_refl _)
theorem Inv.lstM (I:Inv X pins σ H s)(hH:H l=some (.lst xs)):xs.length≤sizeLine∧∃ (its:List Value) (n:Nat),Vals xs its∧xs.length=its.length∧s.heap.get? l=some {cls:=.type "list",data:=.seq its.toArray n}:=by
 obtain⟨z,its,n,r,e⟩:=I.hok l _ hH
 exact⟨z,its,n,r,r.length,e⟩
theorem qKj {n:Nat}(h:n≤sizeLine):Builtin.List.listTooLong n=false:=by
 unfold Builtin.List.listTooLong
 exact decide_eq_false (by omega)
end
section
variable {X : Cx}
inductive qOa (x:V)(vs:List V)(H:Hp)(Q:VK):Prop
| mk l xs y (_:x= .ref l) (_:vs=[y]) (_:H l=some (.lst xs)) (_:xs.length < sizeLine) (_:Q .non (upd H l (.lst (xs++[y]))))
theorem jn:MtM X "list.append" qOa:=by
 intro pins s σ H x vs v us Q I rx rv h
 obtain⟨l,xs,y,rfl,rfl,hH,hz,q⟩:=h
 cases rx
 obtain⟨u,rfl,ru⟩:=rv.one
 obtain⟨z,its,n,r,hl,e⟩:=I.lstM hH
 refine call_meets F.slot_list_append ⟨_,e,rfl⟩ F.entry_list_append (F.args_list_append_2 _ _) (PySem.list_append l its.toArray n u (by rw [List.size_toArray];omega)) ⟨e,?_⟩
 refine⟨.non,_,I.lset (its':=its++[u]) hH e (by simp) (r.append (.cons ru .nil)) ?_,rfl,q⟩
 rw [List.length_append,List.length_singleton]
 omega
inductive qOd (x:V)(vs:List V)(H:Hp)(Q:VK):Prop
| mk l b xs zs (_:x= .ref l) (_:vs=[.ref b]) (_:H l=some (.lst xs)) (_:H b=some (.lst zs)) (_:xs.length+zs.length≤sizeLine) (_:Q .non (upd H l (.lst (xs++zs))))
theorem mt_extend:MtM X "list.extend" qOd:=by
 intro pins s σ H x vs v us Q I rx rv h
 obtain⟨l,b,xs,zs,rfl,rfl,hH,hB,hz,q⟩:=h
 cases rx
 obtain⟨u,rfl,ru⟩:=rv.one
 cases ru
 obtain⟨z,its,n,r,hl,e⟩:=I.lstM hH
 obtain⟨z2,its2,n2,r2,hl2,e2⟩:=I.lstM hB
 have hsz:its.toArray.size+its2.toArray.size≤sizeLine:=by rw [List.size_toArray,List.size_toArray];omega
 have hlong:¬ (!its.toArray.isEmpty && Builtin.List.listTooLong (its.toArray.size+its2.toArray.size))=true:=by
  rw [qKj hsz,Bool.and_false]
  exact Bool.false_ne_true
 refine call_meets F.slot_list_extend ⟨_,e,rfl⟩ F.entry_list_extend (F.args_list_extend_2 _ _)
  (AutoSeq1.list_extend_list_list_0 l its.toArray n b its2.toArray n2 hlong (by rw [List.size_toArray];omega) (by omega)) ⟨e,e2,?_⟩
 refine⟨.non,_,I.lset (its':=its++its2) hH e (by simp) (r.append r2) ?_,rfl,q⟩
 rw [List.length_append]
 omega
def qSh:V→List V→Hp→VK→Prop:=fun x vs H Q=>∃ l xs y,x= .ref l∧vs=[]∧H l=some (.lst xs)∧xs[xs.length - 1]? =some y∧Q y (upd H l (.lst xs.dropLast))
theorem qQf:MtM X "list.pop" qSh:=by
 intro pins s σ H x vs v us Q I rx rv h
 obtain⟨l,xs,y,rfl,rfl,hH,hy,q⟩:=h
 cases rx
 have hus:=rv.zero
 subst hus
 obtain⟨z,its,n,r,hl,e⟩:=I.lstM hH
 obtain⟨u,hu,ru⟩:=r.get hy
 have hy':its.toArray[its.toArray.size - 1]? =some u:=by
  show its.toArray[its.length - 1]? =some u
  rw [← Array.getElem?_toList,← hl]
  exact hu
 refine call_meets F.slot_list_pop ⟨_,e,rfl⟩ F.entry_list_pop (F.args_list_pop_1 _) (MeetsSeq.list_pop_last l its.toArray n u hy' (by rw [List.size_toArray];omega)) ⟨e,?_⟩
 refine⟨y,_,I.lset (its':=its.dropLast) hH e ?_ r.dropLast ?_,ru,q⟩
 · show its.toArray.eraseIdxIfInBounds (its.toArray.size - 1)=its.dropLast.toArray
   rw [List.size_toArray,List.eraseIdxIfInBounds_toArray,qHn]
 · rw [List.length_dropLast]
   omega
inductive qSp (x:V)(y:V)(H:Hp)(Q:VK):Prop
| mk l b xs zs (_:x= .ref l) (_:y= .ref b) (_:H l=some (.lst xs)) (_:H b=some (.lst zs)) (_:xs.length+zs.length≤sizeLine) (_:∀ p,H p=none→Q (.ref p) (upd H p (.lst (xs++zs))))
theorem qHy:OpR X (binaryOp .Add) qSp:=by
 intro pins s σ H x y v u Q I rx ry h
 obtain⟨l,b,xs,zs,rfl,rfl,hH,hB,hz,q⟩:=h
 cases rx
 cases ry
 obtain⟨z,its,n,r,hl,e⟩:=I.lstM hH
 obtain⟨z2,its2,n2,r2,hl2,e2⟩:=I.lstM hB
 refine PySem.P.add_list e e2 ?_ (by rw [List.size_toArray,List.size_toArray];omega)
 have ea:its.toArray++its2.toArray=(its++its2).toArray:=by simp
 rw [ea]
 exact⟨.ref _,_,I.lnew (t':=s.toks) (r.append r2) (by rw [List.length_append];omega),rfl,q _ I.fresh⟩
end
section
variable {prog : Program} {w : World} {A : Around} {E : Value → Shared → Prop} {s : Shared}
end
section
variable {X : Cx}
end
end L2
namespace Att
open PySem PySem.W PySem.Calls PyProof.Rows
theorem wj {P:Params}{h:Heap}:∀ (ns:List Int) (vs:List Value),WellAll P h vs (ns.map WData.int)→IntsAre vs ns:=by
 intro ns
 induction ns with
 | nil=>
  intro vs w
  rw [List.map_nil] at w
  cases w
  exact .nil
 | cons n ns ih=>
  intro vs w
  rw [List.map_cons] at w
  cases w with
  | cons a b=>
   cases a
   exact .cons _ _ (ih _ b)
theorem qIp {l:OpenLaw}{n:Nat}(hn:l.most=some n){P:Params}{h:Heap}{args:List WData}{vals:List Value}
 (hpre:l.row.toRowW.claim.pre args=true) (hwl:WellAll P h vals args):
 ∃ a vs ns,vals=[Value.ref a]∧args=[WData.list (ns.map WData.int)]∧h.get? a=some {cls:=.type "list",data:=.seq vs.toArray}∧IntsAre vs ns∧ns.length≤n:=by
 have hsh:WShape.hasAll [] args [.list .int]=true:=(pre_splitW hpre).1
 have hc:l.pre.holds [] {args:=args}=true:=(pre_splitW hpre).2
 obtain⟨d,r,rfl,h1,h2⟩:=hasAllW_cons hsh
 obtain rfl:=hasAllW_nil h2
 obtain⟨xs,rfl,h3⟩:=hasW_list h1
 obtain⟨ns,rfl⟩:=items_int h3
 have hlen:ns.length≤n:=by
  unfold OpenLaw.pre at hc
  have h4:(WTm.not (.lt (.lit (.int (n:Int))) (.len (.arg 0)))).holds [] {args:=[.list (ns.map .int)]}=true:=by
   have h4:=(holds_andW hc).1
   rw [hn] at h4
   exact h4
  have h5:=condW_of h4 (w_not (w_lt w_lit (w_len_list (w_arg rfl))))
  rw [List.length_map] at h5
  refine Nat.le_of_not_lt fun q=>?_
  have q':(n:Int) < ((ns.length:Nat):Int):=by omega
  first
   | (rw [decide_eq_true q'] at h5;exact absurd h5 (by decide))
   | (simp at h5;omega)
 cases hwl with
 | cons w1 w2=>
  cases w2
  cases w1 with
  | list ho hall=>exact⟨_,_,ns,rfl,rfl,ho,wj ns _ hall,hlen⟩
theorem qJm (l:OpenLaw)(args:List WData):l.row.toRowW.claim.post args (.bool true) args=true:=
 postW_of (r:=l.row.toRowW) (X:=(true == true))
  (show WShape.has [] (.bool true) .bool=true by first | rfl | decide | simp [WShape.has,WShape.arms,WShape.armsAll])
  (show (WTm.eq .res (.lit (.bool true))).value [] {args:=args,res:=some (.bool true),after:=args}=some (.bool (true == true)) from w_eq_bool (w_res rfl) w_lit) rfl
theorem attach_call {l:OpenLaw}{n:Nat}{q:Program}{loose:List Str}{XP:(Str→Option Value)→Heap→Prop}{YP:World→Heap→Prop}{d:DefRec}
 (hn:l.most=some n) (hdf:d.params.defaults=[])
 (call:∀ (w:World) (s₀ s₁:Shared) (mg mb:Str→Option Value) (fa:Addr) (o:Obj) (pm cd doc:Value) (a:Addr) (vs:List Value) (ns:List Int),
   Ground q loose [] XP w s₀ mg mb s₁.heap→YP w s₁.heap→
   s₁.heap.get? fa=some o→o.data= .func (docDef d.name d.params d.body d.scope pm cd doc)→s₁.heap.CodeRec cd d.name→mg d.name=some (.ref fa)→
   s₁.heap.get? a=some {cls:=.type "list",data:=.seq vs.toArray}→IntsAre vs ns→ns.length≤n→s₁.gens=#[]→
   codeAny (model l.prog w) callerA (.call (.ref fa) ⟨[.ref a],[]⟩) (fun r s'=>r= .ok (.ret (.bool true))∧OldK s₁.heap s'.heap∧s'.os=s₁.os∧AllBare s'.gens) s₁):
 WalkO q loose XP YP l.row.toRowW d [] (fun f vs=>PySem.call f vs):=by
 intro w s₀ s₁ mg mb G Y fa o pm cd doc dV kV ho hd hcd hD hmg hg args vals as hpre hlay hrd hwl hlo
 obtain rfl:dV= .none:=Dflts.none hD hdf
 obtain rfl:kV= .none:=Dflts.noKw hD
 obtain⟨a,vs,ns,rfl,rfl,hobj,hints,hlen⟩:=qIp hn hpre hwl
 refine enter_call (codeAny_mono (call w s₀ s₁ mg mb fa o pm cd doc a vs ns G Y ho (fd_plain hd) hcd hmg hobj hints hlen hg) fun r s' hq=>?_)
 obtain⟨rfl,h2,h3,h4⟩:=hq
 exact⟨.inl ⟨.bool true,.bool true,[],rfl,fun _=>rfl,.bool true,qJm l _,fun _=>⟨List.Pairwise.nil,fun _ hm=>(nomatch hm)⟩⟩,h2,h3,h4⟩
section
variable {prog : Program} {w : World} {A : Around} {E : Value → Shared → Prop} {s : Shared} {K : Frag}
def ledger (h:Heap)(L d:Addr):List (Addr × Obj):=(List.range h.objs.size).filterMap fun a=>if a=L∨a=d then none else (h.get? a).map fun o=>(a,o)
end
end Att
namespace L2
open PySem PySem.Spec PyProof.Rows
theorem qDl:∀ {vs:List Value} {ns:List Int},IntsAre vs ns→Vals (ns.map V.int) vs
 | _,_,.nil=>.nil
 | _,_,.cons n t h=>.cons ⟨t,rfl⟩ (qDl h)
def qQx (H:Hp):Prop:=∀ b,H b=none∨∃ o xs,H b=some (.frz o (.lst xs))
theorem qK3 {P:Program}{w:World}{K:PySem.W.Frag}{mg mb:Str→Option Value}{CX:CXT}{k:Nat}{fa a:Addr}{fd:FuncData}{x:Str}{sp:Sp}{s₁:Shared}{vs:List Value}{ns:List Int}
 (KX:K.In s₁.heap) (hns:s₁.heap.Ns mainGlobals mg) (hb:s₁.heap.Ns builtinsNs mb) (hbb:∀ x:Str,x≠"__name__"→mb x=bootBuiltins x) (hlim:s₁.heap.NoLimit) (hg:s₁.gens=#[])
 (ha:s₁.heap.get? a=some {cls:=.type "list",data:=.seq vs.toArray}) (hi:IntsAre vs ns) (hl:ns.length≤sizeLine) (hr:Room k callerA)
 (F:∀ base:Heap,K.In base→base.Ns mainGlobals mg→FnOk P w K mg base CX k fa fd [x] sp) (hbind:∀ (s:Shared) (u:Value),BindsTo s fd ⟨[u],[]⟩ [(x,u)])
 (hsp:∀ H:Hp,qQx H→SqL K H a (ns.map V.int)→sp [.ref a] H (fun v _=>v= .bl true) fun _ _ _=>False)
 (hCX:∀ H e s',CX [] H s₁ (fun _ _ _=>False) e s'→False):
 codeAny (model P w) callerA (.call (.ref fa) ⟨[.ref a],[]⟩) (fun r s'=>r= .ok (.ret (.bool true))∧OldK s₁.heap s'.heap∧s'.os=s₁.os∧AllBare s'.gens) s₁:=by
 have rv:=qDl hi
 have lenV:=hi.length
 have core:∀ H:Hp,qQx H→SqL K H a (ns.map V.int)→HOk P w H s₁.heap→(∀ b,H b≠none→b=a)→(H a≠none→K.lookup a=none)→
  codeAny (model P w) callerA (.call (.ref fa) ⟨[.ref a],[]⟩) (fun r s'=>r= .ok (.ret (.bool true))∧OldK s₁.heap s'.heap∧s'.os=s₁.os∧AllBare s'.gens) s₁:=by
  intro H hO hS hok hA hK
  have base_of:∀ {b:Addr} {o:Obj},s₁.heap.get? b=some o→H b=none→(qK2 s₁.heap H).get? b=some o:=fun e n=>qLq e n
  have noA:∀ {b:Addr} {o:Obj} {es:Array DictEntry} {ep:Nat},s₁.heap.get? b=some o→o.data= .dict es ep→H b=none:=fun {b o es ep} e d=>by
   cases q:H b with
   | none=>rfl
   | some u=>
    have e':b=a:=hA b (by rw [q];simp)
    subst e'
    rw [ha] at e;cases e
    have d':Data.seq vs.toArray _=Data.dict es ep:=d
    cases d'
  have nsK:∀ {b:Addr} {m:Str→Option Value},s₁.heap.Ns b m→(qK2 s₁.heap H).Ns b m:=fun {b m} ⟨o,es,ep,e,d,r⟩=>⟨o,es,ep,base_of e (noA e d),d,r⟩
  have hKb:K.In (qK2 s₁.heap H):=fun b o e=>base_of (KX b o e) (by
   cases q:H b with
   | none=>rfl
   | some u=>
    have e':b=a:=hA b (by rw [q];simp)
    subst e'
    rw [hK (by rw [q];simp)] at e;cases e)
  have hM:Mod K mg (qK2 s₁.heap H):=⟨hKb,nsK hns,⟨mb,nsK hb,hbb⟩,let ⟨mc,h1,h2⟩:=hlim;⟨mc,nsK h1,h2⟩⟩
  have e0:qQn P w K mg (qK2 s₁.heap H) callerA [] s₁ H:=⟨rfl,hM,fun b o e=>qN3 e,Nat.le_of_eq (qI7 _ _),trivial,fun b hb=>absurd (show b∈([]:List Addr) from hb) (by simp),hok,.of_eq hg⟩
  refine codeAny_mono ((F _ hKb (nsK hns)).run callerA [] s₁ H ⟨[.ref a],[]⟩ [.ref a] [.ref a] _ _ hr e0 (hbind s₁ (.ref a)) (.cons rfl .nil) (hsp H hO hS)) fun r s' h=>?_
  cases r with
  | error e=>exact(hCX H e s' h).elim
  | ok fl=>
   cases fl with
   | next=>exact False.elim h
   | brk=>exact False.elim h
   | cont=>exact False.elim h
   | ret u=>
    obtain⟨v,H',os,bare,un,hok',r',q⟩:=h
    have q':v= .bl true:=q
    subst q'
    obtain rfl:u=Value.bool true:=r'
    refine⟨rfl,OldK.of_keep fun b o e=>?_,os,bare⟩
    cases q:H b with
    | none=>exact un.keep b o e q (by intro z;exact absurd (show b∈([]:List Addr) from z) (by simp)) (by simp)
    | some u=>
     rcases hO b with z | ⟨ob,xs,z⟩
     · rw [q] at z;cases z
     · have z2:=un.frzs b ob _ z
       obtain⟨e1,_⟩:=hok b _ z
       obtain⟨e2,_⟩:=hok' b _ z2
       rw [e] at e1;cases e1
       exact e2
 cases hk:K.lookup a with
 | some o=>
  have e:=KX a o hk
  rw [ha] at e
  cases e
  refine core (fun _=>none) (fun _=>.inl rfl) (.inr ⟨_,vs.toArray,_,hk,rfl,rfl,rfl,by rw [List.size_toArray,lenV];exact hl,by simpa using rv⟩) (fun b u z=>by have z':(none:Option HO)=some u:=z;cases z') (fun b z=>absurd rfl z) fun z=>absurd rfl z
 | none=>
  refine core (fun b=>if b=a then some (.frz {cls:=.type "list",data:=.seq vs.toArray} (.lst (ns.map V.int))) else none) (fun b=>?_) (.inl (.inr ⟨{cls:=.type "list",data:=.seq vs.toArray},if_pos rfl⟩)) (fun b u z=>?_) (fun b z=>?_) fun _=>hk
  · by_cases hb:b=a
    · exact .inr ⟨_,_,if_pos hb⟩
    · exact .inl (if_neg hb)
  · by_cases hb:b=a
    · have z':=(if_pos hb).symm.trans z
      cases z'
      subst hb
      exact⟨ha,by rw [List.length_map];exact hl,vs,_,rv,ha⟩
    · have z':=(if_neg hb).symm.trans z
      cases z'
  · by_cases hb:b=a
    · exact hb
    · exact absurd (if_neg hb) z
end L2
namespace L2
open PySem PySem.Spec PyProof.Rows
theorem walk_of {l:PySem.W.OpenLaw}{n k:Nat}{q:Program}{loose:List Str}{XP:(Str→Option Value)→Heap→Prop}{YP:World→Heap→Prop}{d:DefRec}{K:Params→PySem.W.Frag}{CX:World→CXT}{sp:World→Sp}{x:Str}
 (hn:l.most=some n) (hn2:n≤sizeLine) (hdf:d.params.defaults=[]) (hr:Room k callerA)
 (hY:∀ (w:World) (h:Heap),YP w h→(K w.params).In h)
 (F:∀ (w:World) (mg:Str→Option Value) (fa:Addr) (h:Heap),(K w.params).In h→h.Ns mainGlobals mg→mg d.name=some (.ref fa)→
   ∃ fd:FuncData,(∀ (s:Shared) (u:Value),BindsTo s fd ⟨[u],[]⟩ [(x,u)])∧
    ∀ base:Heap,(K w.params).In base→base.Ns mainGlobals mg→FnOk l.prog w (K w.params) mg base (CX w) k fa fd [x] (sp w))
 (hsp:∀ (w:World) (H:Hp) (a:Addr) (ns:List Int),ns.length≤n→qQx H→SqL (K w.params) H a (ns.map V.int)→sp w [.ref a] H (fun v _=>v= .bl true) fun _ _ _=>False)
 (hCX:∀ (w:World) (H:Hp) (s:Shared) (e:Value) (s':Shared),CX w [] H s (fun _ _ _=>False) e s'→False):
 PySem.W.WalkO q loose XP YP l.row.toRowW d [] (fun f vs=>PySem.call f vs):=by
 refine Att.attach_call hn hdf fun w s₀ s₁ mg mb fa o pm cd doc a vs ns G Y ho hd hcd hmg hobj hints hlen hg=>?_
 have KX:=hY w _ Y
 obtain⟨fd,hb,hF⟩:=F w mg fa _ KX G.T.g hmg
 exact qK3 KX G.T.g G.T.b G.T.builtins G.T.nolimit hg hobj hints (Nat.le_trans hlen hn2) hr hF hb (fun H hO hS=>hsp w H a ns hlen hO hS) fun H e s'=>hCX w H s₁ e s'
end L2
namespace L2
open PySem PySem.Spec PyProof.Rows
def kY (s:Stmt):Arguments:=match s with
 | .FunctionDef _ a _ _ _ _ _ _ _ _=>a
 | _=>{posonlyargs:=[],args:=[],vararg:=none,kwonlyargs:=[],kw_defaults:=[],kwarg:=none,defaults:=[]}
def xv (s:Stmt):List Stmt:=match s with
 | .FunctionDef _ _ b _ _ _ _ _ _ _=>b
 | _=>[]
def qH (s:Stmt):Scope:=match s with
 | .FunctionDef _ _ _ _ _ _ sc _ _ _=>sc
 | _=>{kind:=.function,names:=[],isGenerator:=false,isCoroutine:=false}
abbrev CX0:CXT:=fun _ _ _ _ _ _=>False
abbrev E0:XK:=fun _ _ _=>False
theorem qQz {X:Cx}:qKb CX0 X E0:=fun _ _ _ _ _ _ _ h=>h.elim
structure Fun (K:PySem.W.Frag)(x qual:Str)(st:Stmt)(f:Addr)(fd:FuncData):Prop where
 ex:∃ (oc:Value) (od:Option Addr) (kV doc pm:Value) (an:Option Addr) (cdv ct:Value) (osl:Array (Option Value)),
  fd=PySem.W.fnOf x qual (kY st) (xv st) (qH st) .none kV doc pm an cdv ct∧K.lookup f=some ⟨oc,od,.func fd,osl⟩∧PySem.W.codeIn K cdv qual=true
 kp:PySem.W.keepIn K (.ref f)=true
section
variable {P : Program} {w : World} {K : PySem.W.Frag} {mg : Str → Option Value} {base : Heap}
theorem Fun.ok {x qual:Str}{st:Stmt}{f:Addr}{fd:FuncData}{N ps:List Str}{k:Nat}{sp:Sp}(F:Fun K x qual st f fd)(S:qO N ps (qH st))(len:∀ vs H Q E,sp vs H Q E→vs.length=ps.length)
 (hbody:∀ (cdv:Value) (A:Around) (outer:List Env) (s:Shared) (H:Hp) (vs:List V) (Q:VK) (E:XK),Room k (A.deeper (envOfC qual (qH st) s.heap.objs.size f cdv))→sp vs H Q E→
   ∃ t,PSs (qKh CX0 P w K mg base N qual (qH st) f cdv A outer s H E).nox (xv st) t∧t {nx:=fun _ H'=>Q .non H',rt:=Q} (qBh N vs) H):FnOk P w K mg base CX0 (k+1) f fd ps sp:=by
 obtain⟨oc,od,kV,doc,pm,an,cdv,ct,osl,rfl,lk,hcd⟩:=F.ex
 refine qOn lk hcd S len fun A outer s H vs Q E hr hsp=>?_
 obtain⟨t,h,q⟩:=hbody cdv A outer s H vs Q E hr hsp
 exact⟨t,h.nox,q⟩
theorem Fun.binds {x qual:Str}{st:Stmt}{f:Addr}{fd:FuncData}{ps:List Str}(F:Fun K x qual st f fd)
 (h:∀ (kV doc pm:Value) (an:Option Addr) (cdv ct:Value) (us:List Value),us.length=ps.length→bindArgs (PySem.W.fnOf x qual (kY st) (xv st) (qH st) .none kV doc pm an cdv ct) ⟨us,[]⟩=pure (ps.zip us)):Binds K fd ps []:=by
 obtain⟨oc,od,kV,doc,pm,an,cdv,ct,osl,rfl,lk,hcd⟩:=F.ex
 exact .all (h kV doc pm an cdv ct)
theorem qOu {x qual:Str}{st:Stmt}{f:Addr}{oc:Value}{od an:Option Addr}{osl:Array (Option Value)}{kV doc pm cdv ct:Value}(l:K.lookup f=some ⟨oc,od,.func (PySem.W.fnOf x qual (kY st) (xv st) (qH st) .none kV doc pm an cdv ct),osl⟩)
 (c:PySem.W.codeIn K cdv qual=true) (k:PySem.W.keepIn K (.ref f)=true):Fun K x qual st f (PySem.W.fnOf x qual (kY st) (xv st) (qH st) .none kV doc pm an cdv ct):=⟨⟨oc,od,kV,doc,pm,an,cdv,ct,osl,rfl,l,c⟩,k⟩
end
theorem vB {A:Around}{k:Nat}(hr:Room k A):A.units+1 < cLine:=Nat.lt_of_le_of_lt (Nat.add_le_add_left (by decide:1≤64) _) hr.units
theorem qW {n:Nat}(h:n≤1000):n < sizeLine:=Nat.lt_of_le_of_lt h (by decide)
section
variable {X : Cx}
theorem pv (i:Nat){x:Str}{pos:Pos}(hN:X.N[i]? =some x:=by rfl)(hv:Vis X.env.scope x:=by first | exact Or.inl rfl | exact Or.inr (Or.inl rfl) | exact Or.inr (Or.inr rfl))(hd:(x == ("__debug__":Str))=false:=by decide)
 (hcd:(x == ("__classdict__":Str))=false:=by decide):PE X (.Name x pos) (qQl i):=qPi hN hv hd hcd
end
theorem xf {A B:Prop}(h:B):if false=true then A else B:=by
 rw [if_neg Bool.false_ne_true]
 exact h
theorem wN {A B:Prop}(h:A):if true=true then A else B:=by
 rw [if_pos rfl]
 exact h
theorem jp {c A B:Prop} [Decidable c] (h1:c→A)(h2:¬ c→B):if c then A else B:=by
 by_cases h:c
 · rw [if_pos h]
   exact h1 h
 · rw [if_neg h]
   exact h2 h
theorem qLu {c A B:Prop} [Decidable c] (hc:c)(h:B):if (!decide c)=true then A else B:=by
 rw [decide_eq_true hc]
 exact xf h
def Same (H H':Hp):Prop:=∀ b o,H b=some o→H' b=some o
theorem Same.refl (H:Hp):Same H H:=fun _ _ h=>h
theorem Same.trans {H H1 H2:Hp}(a:Same H H1)(b:Same H1 H2):Same H H2:=fun c o h=>b c o (a c o h)
theorem Same.free {H H':Hp}(e:Same H H'){l:Addr}(h:H' l=Option.none):H l=Option.none:=by
 cases q:H l with
 | none=>rfl
 | some o=>
  rw [e l o q] at h
  cases h
theorem Same.seq {K:PySem.W.Frag}{H H':Hp}{a:Addr}{xs:List V}(e:Same H H')(h:SqL K H a xs):SqL K H' a xs:=by
 rcases h with (h | ⟨o,h⟩) | h
 · exact .inl (.inl (e _ _ h))
 · exact .inl (.inr ⟨o,e _ _ h⟩)
 · exact .inr h
end L2
namespace L2
open PySem PySem.Spec PyProof.Rows
section
variable {κ : Type} [DecidableEq κ]
def j3 (kvs:List (κ × V))(k:κ):Option V:=(kvs.find? fun kv=>decide (kv.1=k)).map (·.2)
def wB (kvs:List (κ × V))(k:κ)(v:V):List (κ × V):=
 if (kvs.any fun kv=>decide (kv.1=k))=true then kvs.map (fun kv=>if kv.1=k then (kv.1,v) else kv) else kvs++[(k,v)]
theorem jT {p:κ × V}{r:List (κ × V)}{k:κ}(e:p.1=k):j3 (p::r) k=some p.2:=by simp [j3,List.find?_cons,e]
theorem jd {p:κ × V}{r:List (κ × V)}{k:κ}(e:¬ p.1=k):j3 (p::r) k=j3 r k:=by simp [j3,List.find?_cons,e]
theorem qBr (k:κ):∀ kvs:List (κ × V),(kvs.any fun kv=>decide (kv.1=k))=(j3 kvs k).isSome
 | []=>rfl
 | p::r=>by
  rw [List.any_cons]
  by_cases e:p.1=k
  · simp only [jT e,decide_eq_true e,Bool.true_or,Option.isSome_some]
  · rw [jd e,decide_eq_false e,Bool.false_or];exact qBr k r
theorem qFj (k j:κ)(y:V):∀ kvs:List (κ × V),j3 (kvs.map fun kv=>if kv.1=k then (kv.1,y) else kv) j=(j3 kvs j).map fun x=>if j=k then y else x
 | []=>rfl
 | p::r=>by
  have ih:=qFj k j y r
  rw [List.map_cons]
  by_cases h:p.1=k
  · rw [if_pos h]
    by_cases e:p.1=j
    · rw [jT (p:=(p.1,y)) e,jT e,Option.map_some,if_pos (e.symm.trans h)]
    · rw [jd (p:=(p.1,y)) e,jd e,ih]
  · rw [if_neg h]
    by_cases e:p.1=j
    · rw [jT (p:=p) e,jT e,Option.map_some,if_neg (fun z=>h (e.trans z))]
    · rw [jd (p:=p) e,jd e,ih]
theorem qDf (k j:κ)(y:V):∀ kvs:List (κ × V),j3 kvs k=none→j3 (kvs++[(k,y)]) j=if j=k then some y else j3 kvs j
 | [],_=>by
  by_cases e:k=j
  · rw [if_pos e.symm];exact jT (p:=(k,y)) e
  · rw [if_neg (fun z=>e z.symm)];exact jd (p:=(k,y)) e
 | p::r,hn=>by
  rw [List.cons_append]
  have hk:¬ p.1=k:=fun z=>by rw [jT z] at hn;cases hn
  rw [jd hk] at hn
  have ih:=qDf k j y r hn
  by_cases e:p.1=j
  · rw [jT e,jT e,if_neg (fun z=>hk (e.trans z))]
  · rw [jd e,jd e,ih]
theorem qGd (kvs:List (κ × V))(k j:κ)(y:V):j3 (wB kvs k y) j=if j=k then some y else j3 kvs j:=by
 unfold wB
 by_cases a:(kvs.any fun kv=>decide (kv.1=k))=true
 · rw [if_pos a,qFj]
   rw [qBr] at a
   by_cases e:j=k
   · obtain⟨x,hx⟩:=Option.isSome_iff_exists.mp a
     rw [if_pos e,e,hx,Option.map_some,if_pos rfl]
   · rw [if_neg e]
     cases j3 kvs j with
     | none=>rfl
     | some x=>rw [Option.map_some,if_neg e]
 · rw [if_neg a]
   refine qDf k j y kvs ?_
   rw [qBr] at a
   cases q:j3 kvs k with
   | none=>rfl
   | some x=>rw [q] at a;exact(a rfl).elim
theorem kI (kvs:List (κ × V))(k:κ)(v:V):(wB kvs k v).length≤kvs.length+1:=by
 unfold wB
 split
 · rw [List.length_map];omega
 · rw [List.length_append,List.length_cons,List.length_nil];omega
theorem RelO.getD {o:Option V}{u:Option Value}{d:V}{d':Value}(r:RelO o u)(rd:RelV d d'):RelV (o.getD d) (u.getD d'):=by
 cases o with
 | none=>cases u with
  | none=>exact rd
  | some _=>exact(show False from r).elim
 | some _=>cases u with
  | none=>exact(show False from r).elim
  | some _=>exact r
theorem KV.val {kvs:List (κ × V)}{vs:List (κ × Value)}(r:KV kvs vs)(k:κ):RelO (j3 kvs k) (valueAt vs k):=by
 unfold KV at r
 induction r with
 | nil=>exact True.intro
 | @cons p q ps qs h t ih=>
  obtain⟨h1,h2⟩:=h
  by_cases e:p.1=k
  · have e':q.1=k:=h1.symm.trans e
    have b:valueAt (q::qs) k=some q.2:=by simp [valueAt,List.find?_cons,e']
    rw [jT e,b];exact h2
  · have e':¬ q.1=k:=fun z=>e (h1.trans z)
    have b:valueAt (q::qs) k=valueAt qs k:=by simp [valueAt,List.find?_cons,e']
    rw [jd e,b];exact ih
theorem KV.any {kvs:List (κ × V)}{vs:List (κ × Value)}(r:KV kvs vs)(k:κ):(kvs.any fun kv=>decide (kv.1=k))=vs.any fun kv=>decide (kv.1=k):=by
 unfold KV at r
 induction r with
 | nil=>rfl
 | cons h t ih=>rw [List.any_cons,List.any_cons,ih,h.1]
theorem KV.repl {kvs:List (κ × V)}{vs:List (κ × Value)}(r:KV kvs vs)(k:κ){y:V}{u:Value}(ry:RelV y u):
 KV (kvs.map fun kv=>if kv.1=k then (kv.1,y) else kv) (vs.map fun kv=>if kv.1=k then (kv.1,u) else kv):=by
 unfold KV at r ⊢
 induction r with
 | nil=>exact .nil
 | @cons p q ps qs h t ih=>
  rw [List.map_cons,List.map_cons]
  refine .cons ?_ ih
  obtain⟨h1,h2⟩:=h
  by_cases e:p.1=k
  · rw [if_pos e,if_pos (h1.symm.trans e)];exact⟨h1,ry⟩
  · rw [if_neg e,if_neg (fun z=>e (h1.trans z))];exact⟨h1,h2⟩
theorem KV.put {kvs:List (κ × V)}{vs:List (κ × Value)}(r:KV kvs vs)(k:κ){y:V}{u:Value}(ry:RelV y u):KV (wB kvs k y) (stored vs k u):=by
 unfold wB stored
 rw [r.any k]
 by_cases e:(vs.any fun kv=>decide (kv.1=k))=true
 · rw [if_pos e,if_pos e];exact r.repl k ry
 · rw [if_neg e,if_neg e];exact Paired.snoc r ⟨rfl,ry⟩
theorem KV.length {kvs:List (κ × V)}{vs:List (κ × Value)}(r:KV kvs vs):kvs.length=vs.length:=Paired.length r
end
theorem qK1 {P:Program}{w:World}{k:Key}{u:Value}(r:RelV (kV k) u):(jZ P w).is k u=true:=by
 cases k with
 | inl i=>obtain⟨t,e⟩:=(show ∃ t,u=Value.int i t from r);subst e;exact qEv P w i t
 | inr x=>obtain⟨t,e⟩:=(show ∃ t,u=Value.str x t from r);subst e;exact qE3 P w x t
theorem qDg {P:Program}{w:World}:∀ {ks:List Key} {us:List Value},Vals (ks.map kV) us→ItemsAre (jZ P w) ks us
 | [],_,r=>by rw [List.map_nil] at r;cases r;exact .nil
 | k::ks,_,r=>by
  rw [List.map_cons] at r
  cases r with
  | cons h t=>exact .cons (qK1 h) (qDg t)
abbrev KT (H:Hp):List (List Key × V)→List (List Key × Addr × Value)→Prop:=Paired fun p q=>p.1=q.1∧H q.2.1=some (.tup (p.1.map kV))∧RelV p.2 q.2.2
theorem KT.val {H:Hp}{kvs:List (List Key × V)}{xs:List (List Key × Addr × Value)}(r:KT H kvs xs)(k:List Key):RelO (j3 kvs k) ((atKey xs k).map (·.2)):=by
 induction r with
 | nil=>exact True.intro
 | @cons p q ps qs h t ih=>
  obtain⟨h1,_,h2⟩:=h
  by_cases e:p.1=k
  · have e':q.1=k:=h1.symm.trans e
    have b:atKey (q::qs) k=some q.2:=by simp [atKey,List.find?_cons,e']
    rw [jT e,b];exact h2
  · have e':¬ q.1=k:=fun z=>e (h1.trans z)
    have b:atKey (q::qs) k=atKey qs k:=by simp [atKey,List.find?_cons,e']
    rw [jd e,b];exact ih
theorem KT.keeps {H H':Hp}{kvs:List (List Key × V)}{xs:List (List Key × Addr × Value)}(r:KT H kvs xs)(ht:∀ b ys,H b=some (.tup ys)→H' b=some (.tup ys)):KT H' kvs xs:=
 Paired.mapP r fun _ _ z=>⟨z.1,ht _ _ z.2.1,z.2.2⟩
section
variable {P : Program} {w : World} {H : Hp} {h : Heap} {a : Addr}
theorem qP0 {u:HO}(ok:HOk P w H h)(e:Rd H a u):ObjOk P w H h a u:=e.ok ok
theorem qC7 {kvs:List (Key × V)}(ok:HOk P w H h)(e:Rd H a (.dK kvs)):kvs.length≤sizeLine∧(a == sysModules)=false∧∃ vs,KV kvs vs∧h.DictOf (jZ P w) a vs:=
 show ObjOk P w H h a (.dK kvs) from qP0 ok e
theorem qP3 {kvs:List (Key × V)}(ok:HOk P w H h)(e:H a=some (.dK kvs)):kvs.length≤sizeLine∧(a == sysModules)=false∧∃ vs,KV kvs vs∧h.DictOf (jZ P w) a vs:=qC7 ok (.inl e)
theorem qMc {ks:List Key}(ok:HOk P w H h)(e:H a=some (.tup (ks.map kV))):(tupleKind (jZ P w)).is h ks a:=by
 obtain⟨_,its,r,o,h1,h2,n,h3⟩:=(show ObjOk P w H h a (.tup (ks.map kV)) from ok a _ e)
 exact⟨o,its.toArray,n,h1,h2,h3,by simpa using qDg r⟩
theorem qMy {kvs:List (List Key × V)}(ok:HOk P w H h)(e:Rd H a (.dT kvs)):kvs.length≤sizeLine∧(a == sysModules)=false∧
 ∃ xs,KT H kvs xs∧h.DictOfH (tupleKind (jZ P w)) a xs:=by
 obtain⟨z,y,xs,r,o,es,ep,h1,h2,h3,h4,h5⟩:=(show ObjOk P w H h a (.dT kvs) from qP0 ok e)
 refine⟨z,y,xs,r,o,es,ep,h1,h2,h3,h4,fun x hx=>?_,h5⟩
 have all:∀ {l:List (List Key × V)} {m:List (List Key × Addr × Value)},KT H l m→∀ x∈m,(tupleKind (jZ P w)).is h x.1 x.2.1:=by
  intro l m q
  induction q with
  | nil=>intro x hx;exact nomatch hx
  | @cons p q ps qs hq t ih=>
   intro x hx
   rcases List.mem_cons.mp hx with e | hx
   · subst e
     exact qMc ok (by rw [← hq.1];exact hq.2.1)
   · exact ih x hx
 exact all r x hx
end
def DGet (H:Hp)(a:Addr)(y:V)(r:Option V):Prop:=
 (∃ kvs k,Rd H a (.dK kvs)∧y=kV k∧r=j3 kvs k)∨∃ kvs k b,Rd H a (.dT kvs)∧y= .ref b∧H b=some (.tup (k.map kV))∧r=j3 kvs k
def DPut (H:Hp)(a:Addr)(y v:V)(H':Hp):Prop:=
 (∃ kvs k,H a=some (.dK kvs)∧y=kV k∧kvs.length < sizeLine∧H'=upd H a (.dK (wB kvs k v)))∨
 ∃ kvs k b,H a=some (.dT kvs)∧y= .ref b∧H b=some (.tup (k.map kV))∧kvs.length < sizeLine∧H'=upd H a (.dT (wB kvs k v))
theorem DGet.k {H:Hp}{a:Addr}{kvs:List (Key × V)}{k:Key}(e:H a=some (.dK kvs)):DGet H a (kV k) (j3 kvs k):=.inl ⟨kvs,k,.inl e,rfl,rfl⟩
theorem DGet.t {H:Hp}{a b:Addr}{kvs:List (List Key × V)}{k:List Key}(e:H a=some (.dT kvs))(eb:H b=some (.tup (k.map kV))):DGet H a (.ref b) (j3 kvs k):=.inr ⟨kvs,k,b,.inl e,rfl,eb,rfl⟩
theorem DPut.k {H:Hp}{a:Addr}{kvs:List (Key × V)}{k:Key}{v:V}(e:H a=some (.dK kvs))(hl:kvs.length < sizeLine):DPut H a (kV k) v (upd H a (.dK (wB kvs k v))):=.inl ⟨kvs,k,e,rfl,hl,rfl⟩
section
variable {X : Cx} {pins : List (Addr × Obj)} {σ : St} {H : Hp} {s : Shared} {a : Addr} {y v : V} {u r : Value} {o : Option V} {A : Around} {E : Value → Shared → Prop}
theorem Inv.big (I:Inv X pins σ H s):sysModules < s.heap.objs.size:=by
 have h:mainGlobals < s.heap.objs.size:=(I.mod.glob.keeps I.bk).lt
 exact Nat.lt_trans (by decide) h
theorem qH5 {Q:Value→Shared→Prop}(hu:A.units+1 < cLine)(I:Inv X pins σ H s)(g:DGet H a y (some v))(ry:RelV y u)(h:∀ w' s',Inv X pins σ H s'→RelV v w'→Q w' s'):
 wpAny (model X.prog X.w) A (getItem (.ref a) u) Q E s:=by
 rcases g with ⟨kvs,k,e,ey,l⟩ | ⟨kvs,k,b,e,ey,eb,l⟩
 · subst ey
   obtain⟨z,hd,vs,rel,dd⟩:=qC7 I.hok e
   obtain⟨w',hw,rw'⟩:=RelO.some_of (v:=v) (o:=valueAt vs k) (by rw [l];exact rel.val k)
   exact wpAny_getItem_of (qK1 ry) dd.mapOf hw (h w' _ (I.tok _) rw')
 · subst ey
   cases (show u=Value.ref b from ry)
   obtain⟨z,hd,xs,rel,dd⟩:=qMy I.hok e
   obtain⟨w',hw,rw'⟩:=RelO.some_of (v:=v) (o:=(atKey xs k).map (·.2)) (by rw [l];exact rel.val k)
   obtain⟨p,hp,hp2⟩:=Option.map_eq_some_iff.mp hw
   refine wpAny_getItem_heap (tupleKind_room_in1 hu) (qMc I.hok eb) dd hp ?_
   rw [hp2]
   exact h w' _ (I.tok _) rw'
theorem qI6 {h':Heap}{t':Nat}{ob:HO}(I:Inv X pins σ H s)(mu:Mut (H a))(hs:Heap.SameBut a s.heap h')(he:∃ q,h'.get? a=some q)(new:ObjOk X.prog X.w (upd H a ob) h' a ob):
 Inv X pins σ (upd H a ob) {s with heap:=h',toks:=t'}:=
 I.write (x:=a) (e:=a) mu (.inl rfl) (fun b q hb z=>(hs.2 b hb).trans z) he new
theorem qI0 {P:Program}{w:World}{H':Hp}{h':Heap}{kvs:List (Key × V)}{vs:List (Key × Value)}(z:kvs.length≤sizeLine)(hd:(a == sysModules)=false)(rel:KV kvs vs)(dd:h'.DictOf (jZ P w) a vs):
 ObjOk P w H' h' a (.dK kvs):=⟨z,hd,vs,rel,dd⟩
end
section
variable {X : Cx} {pins : List (Addr × Obj)} {σ : St} {H : Hp} {s : Shared} {a : Addr} {kvs : List (Key × V)} {k : Key} {u : Value} {A : Around} {E : Value → Shared → Prop}
end
def qRv (i:Expr):Prop:=∀ ov iv,subscripted i false ov iv=operate [ov,iv] (getItem ov iv)
theorem qN6 {prog:Program}{w:World}{A:Around}{E:Value→Shared→Prop}{s:Shared}{env:Env}{value slice:Expr}{pos:Pos}{T id:String}{Q:Value→Shared→Prop}
 (hl:typeLookup (.type T) "__getitem__"=pure (some (.builtin id))) (hs:qRv slice)
 (h:wpAny (model prog w) A (eval value env) (fun o s₁=>wpAny (model prog w) A (eval slice env) (fun i s₂=>s₂.TypeIs o T∧wpAny (model prog w) A (getItem o i) Q E s₂) E s₁) E s):
 wpAny (model prog w) A (eval (.Subscript value slice pos) env) Q E s:=by
 refine Subscript_ (wpAny_mono h (fun o s₁ h₁=>wpAny_mono h₁ (fun i s₂ h₂=>?_) fun _ _ x=>x) fun _ _ x=>x)
 obtain⟨hT,h₂⟩:=h₂
 unfold subscriptTail
 refine wpAny_bind ?_
 rw [getitemInPython_of_ne hT.not_modules]
 refine wpAny_bind (wpAny_specialOf hT hl ?_)
 have fin:wpAny (model prog w) A (subscripted slice false o i) (fun r s₃=>wpAny (model prog w) A (letTemporaryGo value o r >>=fun _=>pure r) Q E s₃) E s₂:=by
  rw [hs o i]
  exact wpAny_operating (wpAny_mono h₂ (fun r s₃ h₃=>wpAny_bind (wpAny_letTemporaryGo (wpAny_pure h₃))) fun _ _ x=>x)
 first
  | exact wpAny_pure (wpAny_bind fin)
  | exact wpAny_bind (wpAny_pure (wpAny_bind fin))
  | exact wpAny_bind fin
theorem qFh {X:Cx}{pins:List (Addr × Obj)}{σ:St}{H:Hp}{s:Shared}{a:Addr}{y:V}{o:Option V}(I:Inv X pins σ H s)(g:DGet H a y o):s.TypeIs (.ref a) "dict":=by
 rcases g with ⟨kvs,k,e,_,_⟩ | ⟨kvs,k,b,e,_,_,_⟩
 · obtain⟨_,_,vs,_,dd⟩:=qC7 I.hok e
   exact dd.typeIs
 · obtain⟨_,_,xs,_,dd⟩:=qMy I.hok e
   exact dd.typeIs
def qRd (td ty:TE):TE:=fun σ H Q=>td σ H fun x H1=>ty σ H1 fun y H2=>∃ a v,x= .ref a∧DGet H2 a y (some v)∧Q v H2
section
variable {X : Cx} {o i e value : Expr} {pos pos' tpos : Pos} {td ty tv : TE}
theorem kM (hu:X.A.units+1 < cLine)(ho:PE X o td)(hi:PE X i ty)(hs:qRv i):PE X (.Subscript o i pos) (qRd td ty):=by
 intro pins s σ H Q I h
 refine qN6 PySem.F.slot_dict_getitem.lookup hs (thn (ho pins s σ H _ I h) fun u s1 ⟨x,H1,I1,rx,q1⟩=>thn (hi pins s1 σ H1 _ I1 q1) fun iv s2 ⟨y,H2,I2,ry,a,v,ex,g,q2⟩=>?_)
 subst ex
 obtain rfl:u=Value.ref a:=rx
 exact⟨qFh I2 g,qH5 hu I2 g ry fun w' s3 I3 rw'=>⟨v,H2,I3,rw',q2⟩⟩
end
theorem qF5 {P:Program}{w:World}{H:Hp}(h:Heap)(hb:sysModules < h.objs.size):ObjOk P w H (h.push {cls:=.type "dict",data:=.dict #[]}) h.objs.size (.dK []):=
 ⟨Nat.zero_le _,beq_eq_false_iff_ne.mpr (Ne.symm (Nat.ne_of_lt hb)),[],.nil,Heap.DictOf.new h⟩
def qOo:TE:=fun _ H Q=>∀ p,H p=none→Q (.ref p) (upd H p (.dK []))
section
variable {X : Cx} {pos : Pos}
theorem qLm:PE X (.Dict [] [] pos) qOo:=fun pins s σ H Q I h=>
 wpAny_Dict_empty ⟨.ref s.heap.objs.size,_,I.laid (a:=s.heap.objs.size) (o:=.dK []) (t':=s.toks) (fun _ _ q=>Heap.get?_push_of_some _ q) (Nat.le_refl _) (qF5 s.heap I.big),rfl,h _ (I.hok.fresh (Nat.le_refl _))⟩
end
def qIc:List (TE × TE)→St→Hp→(List (V × V)→Hp→Prop)→Prop
 | [],_,H,Q=>Q [] H
 | (tk,tv)::r,σ,H,Q=>tk σ H fun x H1=>tv σ H1 fun y H2=>qIc r σ H2 fun ps H3=>Q ((x,y)::ps) H3
abbrev VV:List (V × V)→List (Value × Value)→Prop:=Paired fun p q=>RelV p.1 q.1∧RelV p.2 q.2
def PPs (X:Cx)(pos:Pos)(keys:List (Option Expr))(values:List Expr)(trs:List (TE × TE)):Prop:=
 ∀ (pins:List (Addr × Obj)) (s:Shared) (σ:St) (H:Hp) (Q:List (V × V)→Hp→Prop),Inv X pins σ H s→qIc trs σ H Q→
  wpAny (model X.prog X.w) X.A (evalPairs (pairTrees keys values X.env pos)) (fun vs s'=>∃ ps H',Inv X pins σ H' s'∧VV ps vs∧Q ps H') X.xe s
theorem qFi {X:Cx}{pos:Pos}:PPs X pos [] [] []:=fun pins s σ H Q I h=>pairTrees_nil_walk ⟨[],H,I,.nil,h⟩
theorem wO {X:Cx}{pos:Pos}{k v:Expr}{ks:List (Option Expr)}{vs:List Expr}{tk tv:TE}{trs:List (TE × TE)}(hk:PE X k tk)(hv:PE X v tv)(hr:PPs X pos ks vs trs):
 PPs X pos (some k::ks) (v::vs) ((tk,tv)::trs):=fun pins s σ H Q I h=>
 pairTrees_cons_walk (thn (hk pins s σ H _ I h) fun u s1 ⟨x,H1,I1,rx,q1⟩=>thn (hv pins s1 σ H1 _ I1 q1) fun w2 s2 ⟨y,H2,I2,ry,q2⟩=>
  thn (hr pins s2 σ H2 _ I2 q2) fun ws s3 ⟨ps,H3,I3,rel,q3⟩=>⟨(x,y)::ps,H3,I3,.cons ⟨rx,ry⟩ rel,q3⟩)
def v8 (kvs more:List (Key × V)):List (Key × V):=more.foldl (fun acc kv=>wB acc kv.1 kv.2) kvs
theorem KV.merge:∀ {more:List (Key × V)} {rs:List (Key × Value)} {kvs:List (Key × V)} {vs:List (Key × Value)},KV more rs→KV kvs vs→KV (v8 kvs more) (merged vs rs):=by
 intro more rs kvs vs r
 unfold KV at r
 induction r generalizing kvs vs with
 | nil=>intro q;exact q
 | @cons p q ps qs h t ih=>
  intro r0
  have e:KV (wB kvs p.1 p.2) (stored vs q.1 q.2):=by
   have:=r0.put p.1 h.2
   rw [← h.1];exact this
  exact ih e
theorem vD:∀ (more kvs:List (Key × V)),(v8 kvs more).length≤kvs.length+more.length
 | [],kvs=>by show kvs.length≤kvs.length+0;omega
 | p::r,kvs=>by
  have h1:=vD r (wB kvs p.1 p.2)
  have h2:=kI kvs p.1 p.2
  show (v8 (wB kvs p.1 p.2) r).length≤_
  rw [List.length_cons];omega
theorem qA0 {P:Program}{w:World}:∀ {kvs:List (Key × V)} {ws:List (Value × Value)},VV (kvs.map fun kv=>(kV kv.1,kv.2)) ws→∃ rs,Carries (jZ P w) ws rs∧KV kvs rs
 | [],_,r=>by rw [List.map_nil] at r;cases r;exact⟨[],True.intro,.nil⟩
 | p::kvs,_,r=>by
  rw [List.map_cons] at r
  cases r with
  | @cons a b as bs h t=>
   obtain⟨rs,c,q⟩:=qA0 (P:=P) (w:=w) t
   obtain⟨b1,b2⟩:=b
   exact⟨(p.1,b2)::rs,⟨qK1 h.1,rfl,c⟩,.cons ⟨rfl,h.2⟩ q⟩
def qQs (trs:List (TE × TE)):TE:=fun σ H Q=>∀ p,H p=none→qIc trs σ (upd H p (.dK [])) fun ps H2=>H2 p=some (.dK [])∧∃ kvs:List (Key × V),ps=kvs.map (fun kv=>(kV kv.1,kv.2))∧kvs.length≤15∧Q (.ref p) (upd H2 p (.dK (v8 [] kvs)))
theorem qE9 {X:Cx}{pos:Pos}{keys:List (Option Expr)}{values:List Expr}{trs:List (TE × TE)}(h:PPs X pos keys values trs)(hall:keys.all (·.isSome)=true)(hl:keys.length=values.length)(h0:keys≠[])
 (h15:keys.length≤15):PE X (.Dict keys values pos) (qQs trs):=by
 intro pins s σ H Q I q
 have hn:=I.hok.fresh (Nat.le_refl s.heap.objs.size)
 have I1:=I.laid (a:=s.heap.objs.size) (o:=.dK []) (h':=s.heap.push {cls:=.type "dict",data:=.dict #[]}) (t':=s.toks) (fun _ _ q=>Heap.get?_push_of_some _ q) (Nat.le_refl _) (qF5 s.heap I.big)
 refine wpAny_Dict_walk (knd:=jZ X.prog X.w) hall hl h0 h15 (thn (h pins _ σ _ _ I1 (q _ hn)) fun ws s2 ⟨ps,H2,I2,rel,e,kvs,ep,lk,q2⟩=>?_)
 subst ep
 obtain⟨rs,c,rk⟩:=qA0 (P:=X.prog) (w:=X.w) rel
 obtain⟨z,hd,vs0,r0,dd⟩:=qP3 I2.hok e
 cases r0
 refine⟨rs,c,dd,fun h' dd' hs=>⟨.ref s.heap.objs.size,_,?_,rfl,q2⟩⟩
 have hz:(v8 [] kvs).length≤sizeLine:=by
  have h1:=vD kvs []
  rw [List.length_nil] at h1
  rw [sizeLine_eq];omega
 have he:∃ q,h'.get? s.heap.objs.size=some q:=let ⟨q,_,_,hq,_⟩:=dd';⟨q,hq⟩
 exact qI6 I2 (by rw [e];exact True.intro) hs he (qI0 hz hd (rk.merge .nil) dd')
structure M1 (X:Cx)(o:Expr)(m:Str)(apos:Pos)(e:Expr)(cpos:Pos):Prop where
 base:attributeBase o m X.env (eval o X.env)=eval o X.env
 few:((backTo cpos (starEach [e] X.env)).all (fun x=>!x.1) && (backToKw cpos (keywordEach [] X.env)).all (fun x=>x.1.isSome)
  && decide (([e]:List Expr).length+([]:List Keyword).length+(if ([]:List Keyword).isEmpty then 0 else 1) < 30))=true
 line:(apos.endLine == cpos.line)=true
 trees:backTo cpos (starEach [e] X.env)=[(false,eval e X.env)]
structure M2 (X:Cx)(o:Expr)(m:Str)(apos:Pos)(e f:Expr)(cpos:Pos):Prop where
 base:attributeBase o m X.env (eval o X.env)=eval o X.env
 few:((backTo cpos (starEach [e,f] X.env)).all (fun x=>!x.1) && (backToKw cpos (keywordEach [] X.env)).all (fun x=>x.1.isSome)
  && decide (([e,f]:List Expr).length+([]:List Keyword).length+(if ([]:List Keyword).isEmpty then 0 else 1) < 30))=true
 line:(apos.endLine == cpos.line)=true
 trees:backTo cpos (starEach [e,f] X.env)=[(false,eval e X.env),(false,eval f X.env)]
def IsD (H:Hp)(a:Addr):Prop:=(∃ kvs,Rd H a (.dK kvs))∨∃ kvs,Rd H a (.dT kvs)
theorem qP5 {X:Cx}{pins:List (Addr × Obj)}{σ:St}{H:Hp}{s:Shared}{a:Addr}(I:Inv X pins σ H s)(d:IsD H a):
 s.TypeIs (.ref a) "dict"∧(∀ b,Value.ref a= .ref b→∃ ob,s.heap.get? b=some ob∧ob.dict=none)∧(a == sysModules)=false:=by
 rcases d with ⟨kvs,e⟩ | ⟨kvs,e⟩
 · obtain⟨_,hd,vs,_,dd⟩:=qC7 I.hok e
   refine⟨dd.typeIs,fun b q=>?_,hd⟩
   cases q
   obtain⟨ob,_,_,h1,h2,_⟩:=dd
   exact⟨ob,h1,h2.2.1⟩
 · obtain⟨_,hd,xs,_,dd⟩:=qMy I.hok e
   refine⟨dd.typeIs,fun b q=>?_,hd⟩
   cases q
   obtain⟨ob,_,_,h1,h2,_⟩:=dd
   exact⟨ob,h1,h2.2.1⟩
section
variable {X : Cx} {pins : List (Addr × Obj)} {σ : St} {H : Hp} {s : Shared} {a : Addr} {y d : V} {u r : Value} {o : Option V} {A : Around} {E : Value → Shared → Prop}
end
section
variable {X : Cx} {o e f : Expr} {apos cpos : Pos} {td ty tx : TE}
end
section
variable {X : Cx} {pins : List (Addr × Obj)} {σ : St} {H : Hp} {s : Shared} {a : Addr} {kvs : List (Key × V)} {A : Around} {E : Value → Shared → Prop}
theorem qLt {Q:Value→Shared→Prop}(I:Inv X pins σ H s)(e:Rd H a (.dK kvs))(h:∀ p s',H p=none→Inv X pins σ (upd H p (.dK kvs)) s'→Q (.ref p) s'):wpAny (model X.prog X.w) A (call (.type "dict") [.ref a]) Q E s:=by
 obtain⟨z,hd,vs,rel,dd⟩:=qC7 I.hok e
 refine kt_call_dict hd dd (by rw [← rel.length];exact z) fun h' dd' hs=>?_
 refine h _ _ (I.hok.fresh (Nat.le_refl _)) (I.laid (a:=s.heap.objs.size) (o:=.dK kvs) (t':=s.toks) (fun b q hq=>?_) (Nat.le_refl _) (qI0 z (beq_eq_false_iff_ne.mpr (Ne.symm (Nat.ne_of_lt I.big))) rel dd'))
 exact(hs.2 b (Nat.ne_of_lt (Heap.lt_size hq))).trans (Heap.get?_push_of_some _ hq)
end
section
variable {X : Cx} {pins : List (Addr × Obj)} {σ : St} {H : Hp} {s : Shared} {a : Addr} {y : V} {u : Value} {A : Around} {E : Value → Shared → Prop}
end
end L2
namespace Att
open PySem PySem.W PySem.Calls PyProof.Rows
section
variable {prog : Program} {w : World} {A : Around} {E : Value → Shared → Prop} {s : Shared} {K : Frag}
end
end Att
namespace L2
open PySem PySem.Spec PyProof.Rows
end L2
namespace L2
open PySem PySem.Spec PyProof.Rows
end L2
namespace L2
open PySem PySem.Spec PyProof.Rows
section
variable {P : Program} {w : World} {K : PySem.W.Frag} {mg : Str → Option Value} {base : Heap}
end
section
variable {X : Cx}
end
section
variable {κ : Type} [DecidableEq κ]
end
end L2
namespace Mt
theorem qNb (a b:Int):a.fmod b=a - b*a.fdiv b:=by
 have:=Int.fmod_add_mul_fdiv a b
 omega
theorem qGa (a b:Int):Int.gcd b (a.fmod b)=Int.gcd a b:=by
 apply Nat.dvd_antisymm
 · refine Int.dvd_gcd ?_ (Int.gcd_dvd_left b (a.fmod b))
   have h1:((Int.gcd b (a.fmod b):Nat):Int) ∣ b:=Int.gcd_dvd_left ..
   have h2:((Int.gcd b (a.fmod b):Nat):Int) ∣ a.fmod b:=Int.gcd_dvd_right ..
   have h3:=Int.dvd_add h2 (Int.dvd_trans h1 (Int.dvd_mul_right b (a.fdiv b)))
   have e:a.fmod b+b*a.fdiv b=a:=Int.fmod_add_mul_fdiv a b
   rwa [e] at h3
 · refine Int.dvd_gcd (Int.gcd_dvd_right ..) ?_
   rw [qNb]
   exact Int.dvd_sub (Int.gcd_dvd_left ..) (Int.dvd_trans (Int.gcd_dvd_right ..) (Int.dvd_mul_right ..))
theorem qIh (a b:Int)(h:b≠0):(a.fmod b).natAbs < b.natAbs:=by
 rcases Int.lt_or_gt_of_ne h with h | h
 · have h1:=Int.fmod_lt_of_pos (-a) (show 0 < -b by omega)
   have h2:=Int.fmod_nonneg_of_pos (-a) (show 0 < -b by omega)
   rw [Int.neg_fmod_neg] at h1 h2
   omega
 · have h1:=Int.fmod_lt_of_pos a h
   have h2:=Int.fmod_nonneg_of_pos a h
   omega
def sg (t b:Int):Int:=if b < 0 then -((Int.gcd t b:Nat):Int) else ((Int.gcd t b:Nat):Int)
def qt (t b:Int):Int:=t.fdiv (sg t b)
def qj (t b:Int):Int:=b.fdiv (sg t b)
theorem vh {t b:Int}(h:b≠0):0 < Int.gcd t b:=by
 rcases Nat.eq_zero_or_pos (Int.gcd t b) with z | z
 · rw [Int.gcd_eq_zero_iff] at z
   exact absurd z.2 h
 · exact z
theorem qRr {t b:Int}(h:b≠0):sg t b≠0:=by
 have:=vh (t:=t) h
 unfold sg;split <;> omega
theorem qKm (t b:Int):sg t b ∣ t:=by
 unfold sg;split
 · exact Int.neg_dvd.mpr (Int.gcd_dvd_left ..)
 · exact Int.gcd_dvd_left ..
theorem qLn (t b:Int):sg t b ∣ b:=by
 unfold sg;split
 · exact Int.neg_dvd.mpr (Int.gcd_dvd_right ..)
 · exact Int.gcd_dvd_right ..
theorem qGh (t b:Int):(sg t b).natAbs=Int.gcd t b:=by
 unfold sg;split <;> omega
theorem qK5 (t b:Int):qt t b*sg t b=t:=Int.fdiv_mul_cancel (qKm t b)
theorem qJe (t b:Int):qj t b*sg t b=b:=Int.fdiv_mul_cancel (qLn t b)
theorem jD {t b:Int}(h:b≠0):0 < qj t b:=by
 have e:=qJe t b
 have g:=vh (t:=t) h
 by_cases hb:b < 0
 · have s:sg t b= -((Int.gcd t b:Nat):Int):=by unfold sg;rw [if_pos hb]
   rw [s] at e
   rcases Int.lt_trichotomy (qj t b) 0 with z | z | z
   · have:=Int.mul_pos_of_neg_of_neg z (show -((Int.gcd t b:Nat):Int) < 0 by omega)
     omega
   · rw [z] at e;omega
   · exact z
 · have s:sg t b=((Int.gcd t b:Nat):Int):=by unfold sg;rw [if_neg hb]
   rw [s] at e
   rcases Int.lt_trichotomy (qj t b) 0 with z | z | z
   · have:=Int.mul_neg_of_neg_of_pos z (show 0 < ((Int.gcd t b:Nat):Int) by omega)
     omega
   · rw [z] at e;omega
   · exact z
theorem xO {t b:Int}(h:b≠0):Int.gcd (qt t b) (qj t b)=1:=by
 have e:=Int.gcd_mul_right (qt t b) (sg t b) (qj t b)
 rw [qK5,qJe,qGh] at e
 have g:=vh (t:=t) h
 have e':1*Int.gcd t b=(qt t b).gcd (qj t b)*Int.gcd t b:=by omega
 exact(Nat.eq_of_mul_eq_mul_right g e').symm
theorem jo (t b:Int):qt t b*b=t*qj t b:=by
 have e1:=qK5 t b
 have e2:=qJe t b
 calc qt t b*b=qt t b*(qj t b*sg t b):=by rw [e2]
  _=(qt t b*sg t b)*qj t b:=by rw [Int.mul_comm (qj t b),Int.mul_assoc]
  _=t*qj t b:=by rw [e1]
theorem zo {t b:Int}(h:b≠0):(qt t b).natAbs≤t.natAbs:=by
 have e:=congrArg Int.natAbs (qK5 t b)
 rw [Int.natAbs_mul,qGh] at e
 have g:=vh (t:=t) h
 rw [← e]
 exact Nat.le_mul_of_pos_right _ g
theorem xD {t b:Int}(h:b≠0):(qj t b).natAbs≤b.natAbs:=by
 have e:=congrArg Int.natAbs (qJe t b)
 rw [Int.natAbs_mul,qGh] at e
 have g:=vh (t:=t) h
 have:=Nat.le_mul_of_pos_right (qj t b).natAbs g
 omega
end Mt
namespace Mt
theorem qM5 {p q p' q':Int}(hq:0 < q)(hq':0 < q')(g:Int.gcd p q=1)(g':Int.gcd p' q'=1)(c:p*q'=p'*q):p=p'∧q=q':=by
 have d1:q ∣ q':=by
  have h:q ∣ p*q':=by rw [c];exact Int.dvd_mul_left ..
  have n:q.natAbs ∣ p.natAbs*q'.natAbs:=by
   have:=Int.natAbs_dvd_natAbs.mpr h
   rwa [Int.natAbs_mul] at this
  have co:Nat.Coprime q.natAbs p.natAbs:=by
   show Nat.gcd q.natAbs p.natAbs=1
   rw [Nat.gcd_comm];exact g
  exact Int.natAbs_dvd_natAbs.mp (Nat.Coprime.dvd_of_dvd_mul_left co n)
 have d2:q' ∣ q:=by
  have h:q' ∣ p'*q:=by rw [← c];exact Int.dvd_mul_left ..
  have n:q'.natAbs ∣ p'.natAbs*q.natAbs:=by
   have:=Int.natAbs_dvd_natAbs.mpr h
   rwa [Int.natAbs_mul] at this
  have co:Nat.Coprime q'.natAbs p'.natAbs:=by
   show Nat.gcd q'.natAbs p'.natAbs=1
   rw [Nat.gcd_comm];exact g'
  exact Int.natAbs_dvd_natAbs.mp (Nat.Coprime.dvd_of_dvd_mul_left co n)
 have e:q=q':=by
  have h1:=Int.le_of_dvd hq' d1
  have h2:=Int.le_of_dvd hq d2
  omega
 subst e
 exact⟨Int.eq_of_mul_eq_mul_right (by omega) c,rfl⟩
theorem qCm {t b p q:Int}(h:b≠0)(hq:0 < q)(g:Int.gcd p q=1)(c:p*b=t*q):qt t b=p∧qj t b=q:=by
 have e:=jo t b
 have k:qt t b*q=p*qj t b:=by
  have:(qt t b*q)*b=(p*qj t b)*b:=by
   calc (qt t b*q)*b=(qt t b*b)*q:=by rw [Int.mul_assoc,Int.mul_comm q b,← Int.mul_assoc]
    _=(t*qj t b)*q:=by rw [e]
    _=(t*q)*qj t b:=by rw [Int.mul_assoc,Int.mul_comm (qj t b) q,← Int.mul_assoc]
    _=(p*b)*qj t b:=by rw [c]
    _=(p*qj t b)*b:=by rw [Int.mul_assoc,Int.mul_comm b,← Int.mul_assoc]
  exact Int.eq_of_mul_eq_mul_right h this
 exact qM5 (jD h) hq (xO h) g k
theorem wP {p q:Int}(hq:0 < q)(g:Int.gcd p q=1):qt p q=p∧qj p q=q:=qCm (by omega) hq g rfl
theorem qr {p q:Int}(hq:0 < q):p.fdiv q*q≤p∧p < (p.fdiv q+1)*q:=by
 have e:=Int.fmod_add_mul_fdiv p q
 have h1:=Int.fmod_nonneg_of_pos p hq
 have h2:=Int.fmod_lt_of_pos p hq
 have c:q*p.fdiv q=p.fdiv q*q:=Int.mul_comm ..
 have d:(p.fdiv q+1)*q=p.fdiv q*q+q:=by rw [Int.add_mul,Int.one_mul]
 omega
end Mt
namespace Mt
theorem vX {A B C D:Int}(hB:0 < B)(hD:0 < D)(h:A*D=C*B):A.fdiv B=C.fdiv D:=by
 obtain⟨h1,h2⟩:=qr (p:=A) hB
 obtain⟨h3,h4⟩:=qr (p:=C) hD
 generalize A.fdiv B=f at h1 h2 ⊢
 generalize C.fdiv D=g at h3 h4 ⊢
 have k1:f*B*D≤A*D:=Int.mul_le_mul_of_nonneg_right h1 (by omega)
 have k2:C*B < (g+1)*D*B:=Int.mul_lt_mul_of_pos_right h4 hB
 have k3:g*D*B≤C*B:=Int.mul_le_mul_of_nonneg_right h3 (by omega)
 have k4:A*D < (f+1)*B*D:=Int.mul_lt_mul_of_pos_right h2 hD
 have p:=Int.mul_pos hB hD
 have e1:f*(B*D) < (g+1)*(B*D):=by grind
 have e2:g*(B*D) < (f+1)*(B*D):=by grind
 have:=Int.lt_of_mul_lt_mul_right e1 (by omega)
 have:=Int.lt_of_mul_lt_mul_right e2 (by omega)
 omega
theorem qF2 {A B C D:Int}(hB:B≠0)(hD:D≠0)(h:A*D=C*B):qt A B=qt C D∧qj A B=qj C D:=by
 refine qCm hB (jD hD) (xO hD) ?_
 have c:=jo C D
 generalize qt C D=u at c ⊢
 generalize qj C D=v at c ⊢
 refine Int.eq_of_mul_eq_mul_right hD ?_
 grind
def plP (p q r s k:Int):Int:=qt (p*s+k*r*q) (q*s)
def plQ (p q r s k:Int):Int:=qj (p*s+k*r*q) (q*s)
theorem ki {p q r s k:Int}(hq:0 < q)(hs:0 < s):0 < plQ p q r s k:=jD (Int.ne_of_gt (Int.mul_pos hq hs))
theorem qD7 {p q r s k:Int}(hq:0 < q)(hs:0 < s):Int.gcd (plP p q r s k) (plQ p q r s k)=1:=xO (Int.ne_of_gt (Int.mul_pos hq hs))
theorem qGp (p q r s k:Int):plP p q r s k*(q*s)=(p*s+k*r*q)*plQ p q r s k:=jo _ _
theorem vR {p q r s lo k:Int}(hq:0 < q)(hs:0 < s):plP (plP p q r s lo) (plQ p q r s lo) r s k=plP p q r s (lo+k)∧plQ (plP p q r s lo) (plQ p q r s lo) r s k=plQ p q r s (lo+k):=by
 have c:=qGp p q r s lo
 have h:=ki (p:=p) (r:=r) (k:=lo) hq hs
 generalize plP p q r s lo=u at c ⊢
 generalize plQ p q r s lo=v at c h ⊢
 refine qF2 (Int.ne_of_gt (Int.mul_pos h hs)) (Int.ne_of_gt (Int.mul_pos hq hs)) ?_
 grind
theorem qN5 {p q r s:Int}(hq:0 < q)(hs:0 < s)(g:Int.gcd p q=1):plP p q r s 0=p∧plQ p q r s 0=q:=by
 refine qCm (Int.ne_of_gt (Int.mul_pos hq hs)) hq g ?_
 grind
theorem qH0 {p q r s k:Int}(hq:0 < q)(hs:0 < s):(plP p q r s k).natAbs≤(p*s+k*r*q).natAbs:=zo (Int.ne_of_gt (Int.mul_pos hq hs))
theorem qJn {p q r s k:Int}(hq:0 < q)(hs:0 < s):(plQ p q r s k).natAbs≤(q*s).natAbs:=xD (Int.ne_of_gt (Int.mul_pos hq hs))
end Mt
namespace Mt
def InR (N D m:Int):Prop:=0≤N∧N < m*D
theorem qNz {N D m:Int}(hD:0 < D):InR N D m↔(0≤N.fdiv D∧N.fdiv D < m):=by
 obtain⟨h1,h2⟩:=qr (p:=N) hD
 generalize N.fdiv D=f at h1 h2 ⊢
 unfold InR
 constructor
 · rintro ⟨a,b⟩
   constructor
   · have:0*D < (f+1)*D:=by rw [Int.zero_mul];omega
     have:=Int.lt_of_mul_lt_mul_right this (by omega)
     omega
   · exact Int.lt_of_mul_lt_mul_right (a:=D) (by omega) (by omega)
 · rintro ⟨a,b⟩
   constructor
   · have:=Int.mul_nonneg a (by omega:0≤D)
     omega
   · have:(f+1)*D≤m*D:=Int.mul_le_mul_of_nonneg_right (by omega) (by omega)
     omega
def wM (N R D m:Int):Int:=
 if R=0 then 1000000 else if ¬ (0≤N.fdiv D∧N.fdiv D < m) then 0
 else if 1000000 < (if R < 0 then N.fdiv (-R)+1 else -((N - m*D).fdiv R)) then 1000000 else (if R < 0 then N.fdiv (-R)+1 else -((N - m*D).fdiv R))
end Mt
namespace L3
open PySem PySem.Spec PyProof.Rows L2
def CMulB (i j:Int):Prop:=CMul i j∨(i.natAbs < 2 ^ 60000∧j.natAbs < 2 ^ 60000)
theorem kx {i:Int}(h:i.natAbs < 2 ^ 60000):Builtin.Int.intBits i≤2 ^ 20:=by
 unfold Builtin.Int.intBits
 split
 · exact Nat.zero_le _
 · rename_i h0
   have hz:i.natAbs≠0:=by
    intro z
    apply h0
    have:i=0:=by omega
    rw [this];rfl
   have:=(Nat.log2_lt hz).mpr h
   have e:(2:Nat) ^ 20=1048576:=by decide
   omega
theorem CMulB.ok {i j:Int}(h:CMulB i j):IntMulOk i j:=by
 rcases h with h | ⟨h1,h2⟩
 · exact h.ok
 · exact IntMulOk.of_bits (kx h1) (kx h2)
def CDivB (_ j:Int):Prop:=j≠0∧j.natAbs < 2 ^ 8000
theorem CDivB.ok {i j:Int}(h:CDivB i j):Builtin.divisionGoesByPylong i j=false:=by
 refine PyProof.noPylong_of_log2 ?_
 have hz:j.natAbs≠0:=by have:=h.1;omega
 have:=(Nat.log2_lt hz).mpr h.2
 omega
section
variable {X : Cx}
theorem jG:OpR X (binaryOp .Mult) (rI CMulB fun i j=>.int (i*j)):=opI fun _ _ _ _ _ _ _ hc q=>mul_int q hc.ok
theorem qm:OpR X (binaryOp .FloorDiv) (rI CDivB fun i j=>.int (i.fdiv j)):=opI fun _ _ _ _ _ _ _ hc q=>floordiv_int hc.1 q (.inl hc.ok)
theorem jP:xX X (.builtin "isinstance") (fun xs H Q=>∃ x c t b,xs=[x,c]∧qFr X.K H x t∧
 (∃ n,c= .ty n∧PySem.W.kitOne X.K t (.type n)=some b∨∃ a,c= .ref a∧PySem.W.kitOne X.K t (.ref a)=some b)∧Q (.bl b) H):=by
 intro pins s σ H xs us Q I r h
 obtain⟨x,c,t,b,rfl,ty,hk,q⟩:=h
 obtain⟨u,u',rfl,rx,rc⟩:=qLp r
 obtain⟨n,⟨rfl,e⟩ | ⟨a,rfl,e⟩⟩:=hk
 · cases rc
   exact qD2 I rx ty e fun tk=>⟨.bl b,H,I.tok _,rfl,q⟩
 · cases rc
   exact qD2 I rx ty e fun tk=>⟨.bl b,H,I.tok _,rfl,q⟩
def qG5 (xs ys:List V):Bool:=(List.range (min xs.length ys.length)).all (fun j=>eqV (xs.getD j .non) (ys.getD j .non)) && xs.length == ys.length
theorem qG7 {A:Around}{s:Shared}{xs ys:List V}{us ws:List Value}(r1:Vals xs us)(r2:Vals ys ws)(f1:xs.all vK=true)(f2:ys.all vK=true):
 ∀ j (h1:j < us.toArray.size) (h2:j < ws.toArray.size),SeqAt.EqAt A s us.toArray[j] ws.toArray[j] (eqV (xs.getD j .non) (ys.getD j .non)):=by
 intro j h1 h2
 have l1:=r1.length
 have l2:=r2.length
 rw [List.size_toArray] at h1 h2
 have g1:xs[j]? =some xs[j]:=List.getElem?_eq_getElem (by omega)
 have g2:ys[j]? =some ys[j]:=List.getElem?_eq_getElem (by omega)
 obtain⟨u,e1,q1⟩:=r1.get g1
 obtain⟨w,e2,q2⟩:=r2.get g2
 have d1:xs.getD j .non=xs[j]:=by rw [List.getD_eq_getElem?_getD,g1];rfl
 have d2:ys.getD j .non=ys[j]:=by rw [List.getD_eq_getElem?_getD,g2];rfl
 have c1:us.toArray[j]=u:=by
  have:=(List.getElem?_eq_some_iff.mp e1).2
  simpa using this
 have c2:ws.toArray[j]=w:=by
  have:=(List.getElem?_eq_some_iff.mp e2).2
  simpa using this
 rw [d1,d2,c1,c2]
 exact qIj q1 q2 (List.all_eq_true.mp f1 _ (List.getElem_mem _)) (List.all_eq_true.mp f2 _ (List.getElem_mem _))
inductive qSi (K:PySem.W.Frag)(neg:Bool)(x:V)(y:V)(H:Hp)(Q:VK):Prop
| mk p q xs ys (_:x= .ref p) (_:y= .ref q) (_:SqT K H p xs) (_:SqT K H q ys) (_:xs.all vK=true) (_:ys.all vK=true) (_:Q (.bl (if neg then !qG5 xs ys else qG5 xs ys)) H)
theorem qMw (hu:X.A.units < cLine):OpR X (compareOp .Eq) (qSi X.K false):=by
 intro pins s σ H x y v u Q I rx ry h
 obtain⟨p,q,xs,ys,rfl,rfl,h1,h2,f1,f2,k⟩:=h
 cases rx;cases ry
 obtain⟨us,r1,t1,_⟩:=I.tuple h1
 obtain⟨ws,r2,t2,_⟩:=I.tuple h2
 have l1:us.toArray.size=xs.length:=by rw [List.size_toArray];exact r1.length.symm
 have l2:ws.toArray.size=ys.length:=by rw [List.size_toArray];exact r2.length.symm
 refine SeqAt.eq_tupleAt t1 t2 hu (qG7 r1 r2 f1 f2) ?_
 rw [l1,l2]
 exact⟨.bl (qG5 xs ys),H,I,rfl,k⟩
end
def q9 (X:Cx)(scope:Scope)(cl:List (Str × Addr))(C:Addr)(N:List Str)(s:Shared)(H:Hp)(fp:List Addr):Cx:=
 {X with N:=N,s₀:=s,H₀:=H,env:=compEnvC scope cl C X.env,outer:=X.stack,stack:=X.stack,ex:=fp,fn:=fun _=>false,pn:=[]}
def kc (js:List Nat)(σ:L2.St):L2.St:=js.map fun j=>(σ[j]?).join
theorem qHb {prog:Program}{w:World}{A:Around}{R:Result→Shared→Prop}{s0:Shared}{el tg src:Expr}{cs:List Expr}{sco:Scope}{po:Pos}{itv lst:Value}{en:Env}(J:Nat→Shared→Prop)
 (step:∀ k st,J k st→wpAny (model prog w) A (pyNext itv) (fun got s1=>match got with
   | none=>R (.ok .next) s1
   | some u=>wpAny (model prog w) A (letOwnedTupleGo tg itv u) (fun _ s1'=>wpAny (model prog w) A (assign tg en u) (fun _ s2=>
    wpAny (model prog w) A (forIn cs true fun c r=>if r=true then do let ok ← isTrue c en (eval c en);pure (ForInStep.yield ok) else pure (ForInStep.yield r)) (fun good s3=>
     if good=true then wpAny (model prog w) A (eval el en) (fun y s4=>
      wpAny (model prog w) A (call (.builtin "list.append") [lst,y]) (fun _ s5=>∃ j,j < k∧J j s5) (notedBy (model prog w) A en fun x z=>R (.error x) z) s4) (notedBy (model prog w) A en fun x z=>R (.error x) z) s3
     else ∃ j,j < k∧J j s3) (notedBy (model prog w) A en fun x z=>R (.error x) z) s2) (notedBy (model prog w) A en fun x z=>R (.error x) z) s1') (notedBy (model prog w) A en fun x z=>R (.error x) z) s1) (notedBy (model prog w) A en fun x z=>R (.error x) z) st)
 (k:Nat) (hJ:J k s0):codeAny (model prog w) A (.compLoop (.ListComp el [⟨tg,src,cs,0⟩] sco po) 0 itv lst en) R s0:=by
 refine codeAny_loop rfl J (fun k st hk=>?_) k hJ
 show wpAny _ A ((compTurn (.ListComp el [⟨tg,src,cs,0⟩] sco po) 0 itv lst en).onRaise (fun x=>do noteFrame x en;theTreesLotGoes x)) _ _ st
 refine wpAny_noted ?_
 rw [compTurn_list]
 refine wpAny_bind (wpAny_standAt (wpAny_bind (wpAny_mono (step k st hk) (fun got s1 g1=>?_) fun _ _ q=>q)))
 match got with
 | none=>exact wpAny_pure g1
 | some u=>
  refine wpAny_bind (wpAny_mono g1 (fun _ s1' g2=>?_) fun _ _ q=>q)
  refine wpAny_bind (wpAny_mono g2 (fun _ s2 g3=>wpAny_bind (wpAny_mono g3 (fun good s3 g4=>?_) fun _ _ q=>q)) fun _ _ q=>q)
  match good with
  | false=>exact wpAny_pure ⟨rfl,g4⟩
  | true=>
   refine wpAny_bind (wpAny_bind (wpAny_mono g4 (fun y s4 g5=>?_) fun _ _ q=>q))
   exact wpAny_bind (wpAny_mono g5 (fun _ s5 g6=>wpAny_pure (wpAny_pure ⟨rfl,g6⟩)) fun _ _ q=>q)
structure COk (X:Cx)(scope:Scope)(cl:List (Str × Addr))(iter:Expr)(xs ys:List Str)(js:List Nat):Prop where
 clos:closureFor scope X.env=pure cl
 cls:cl.map (fun p=>X.env.cells.lookup p.1)=cl.map (fun p=>some p.2)
 cell:(scope.names.all fun p=>p.2 != .cell)=true
 kind:scope.kind= .function
 names:(scope.names.all fun p=>p.2 != .local || scope.names.lookup p.1 == some .local)=true
 has:((relabel scope X.env).names.all fun p=>(p.2 != .cell && p.2 != .free) || (cl.lookup p.1).isSome)=true
 hjs:js.map (fun j=>X.N[j]?)=ys.map some
 hys:(ys.all fun y=>((relabel scope X.env).names.lookup y == some .cell || (relabel scope X.env).names.lookup y == some .free) && (X.env.scope.names.lookup y == some .cell || X.env.scope.names.lookup y == some .free))=true
 set:∀ x,foldedSetIterable iter X.env x=pure x
 nd:(xs++ys).Nodup
def PTs (X:Cx)(cs:List Expr)(t:TT):Prop:=
 ∀ (pins:List (Addr × Obj)) (s:Shared) (σ:L2.St) (H:Hp) (Q:Bool→Hp→Prop),Inv X pins σ H s→t σ H Q→wpAny (model X.prog X.w) X.A (forIn cs true fun c r=>if r=true then do let ok ← isTrue c X.env (eval c X.env);pure (ForInStep.yield ok) else pure (ForInStep.yield r)) (TP X pins σ Q) X.xe s
theorem qEe {X:Cx}:PTs X [] fun _ H Q=>Q true H:=fun _ _ _ H _ I h=>wpAny_pure ⟨H,I,h⟩
theorem qEx {X:Cx}{c:Expr}{t:TT}(hc:PT X c t):PTs X [c] t:=fun pins s σ H Q I h=>by
 simp only [List.forIn_cons,List.forIn_nil,if_true]
 exact wpAny_bind (wpAny_bind (thn (hc pins s σ H Q I h) fun _ _ q=>wpAny_pure (wpAny_pure q)))
def zB (n:Nat)(js:List Nat)(g:TG)(tc:TT)(te:TE)(σ:L2.St)(Q:VK)(J:It)(H1:Hp):Prop:=∃ W:Nat→Nat→List V→Hp→Prop,(∃ m,W 0 m [] H1)∧∀ i m acc H2,W i m acc H2→
 acc.length < sizeLine∧((J.stop i H2∧∀ D,H2 D=none→Q (.ref D) (upd H2 D (.lst acc)))∨
  (J.go i H2∧∀ x H3,J.yld i H2 x H3→g x (List.replicate n none++kc js σ) H3 fun σ' H4=>∃ vs:L2.St,σ'=vs++kc js σ∧vs.length=n∧tc σ' H4 fun ok H5=>if ok=true then te σ' H5 fun v H6=>∃ m',m' < m∧W (i+1) m' (acc++[v]) H6 else ∃ m',m' < m∧W (i+1) m' acc H5))
theorem qA5 {X:Cx}{elt iter tg:Expr}{cs:List Expr}{scope:Scope}{cl:List (Str × Addr)}{pos:Pos}{wi:TI}{g:TG}{tc:TT}{te:TE}{xs ys:List Str}{js:List Nat}{E:It→Hp→Prop}
 (hcm:X.calm=true) (hi:PI X tg iter wi) (hg:∀ C s H fp,PG (q9 X scope cl C (xs++ys) s H fp).nox tg g) (hc:∀ C s H fp,PTs (q9 X scope cl C (xs++ys) s H fp).nox cs tc) (he:∀ C s H fp,PE (q9 X scope cl C (xs++ys) s H fp).nox elt te)
 (hC:COk X scope cl iter xs ys js)
 {pins:List (Addr × Obj)} {s:Shared} {σ:L2.St} {H:Hp} (R:V→Hp→Prop) (use:Option (Value→Sem Unit)) (Q:Value→Shared→Prop) (I:Inv X pins σ H s) (h:wi σ H E) (hE:∀ J H1,E J H1→zB xs.length js g tc te σ R J H1)
 (fin:∀ (v:V) (u:Value) (H':Hp) (s':Shared) (C:Addr),Inv X pins σ H' s'→RelV v u→R v H'→(∃ m,s'.heap.Ns C m)→H' C=none→C≠X.env.locals→X.s₀.heap.objs.size≤C→(∀ y c,X.env.cells.lookup y=some c→c≠C)→(∀ p∈X.pn++pins,p.1≠C)→
   compPost (model X.prog X.w) X.A X.xe use Q u C (.ok .next) s'):
 wpAny (model X.prog X.w) X.A (comprehension (.ListComp elt [⟨tg,iter,cs,0⟩] scope pos) scope X.env (firstIterPos [⟨tg,iter,cs,0⟩] pos) (newList []) false (eval iter X.env) use) Q X.xe s:=by
 obtain⟨hclos,hcl,hcell,hkind,hnames,hhas,hjs,hys,hs,hnd⟩:=hC
 have hcell':∀ y∈scope.names,y.2≠ .cell:=fun y hy=>by
  have:=List.all_eq_true.mp hcell y hy
  simpa using this
 have hnm:∀ y∈scope.names,y.2= .local→scope.names.lookup y.1=some .local:=fun y hy e=>by
  have:=List.all_eq_true.mp hnames y hy
  rw [e] at this
  simpa using this
 have clX:∀ y c,cl.lookup y=some c→X.env.cells.lookup y=some c:=fun y c e=>by
  have hm:=PySem.mem_of_lookup e
  obtain⟨k,hk,e2⟩:=List.mem_iff_getElem.mp hm
  have:=congrArg (fun l=>l[k]?) hcl
  simp only [List.getElem?_map,List.getElem?_eq_getElem hk,Option.map_some,e2] at this
  exact Option.some.inj this
 have has:∀ y,((relabel scope X.env).names.lookup y=some .cell∨(relabel scope X.env).names.lookup y=some .free)→∃ c,cl.lookup y=some c:=fun y hy=>by
  have key:∀ k:NameKind,(k= .cell∨k= .free)→(relabel scope X.env).names.lookup y=some k→∃ c,cl.lookup y=some c:=fun k hk e=>by
   have:=List.all_eq_true.mp hhas _ (PySem.mem_of_lookup e)
   rcases hk with rfl | rfl <;> exact Option.isSome_iff_exists.mp (by simpa using this)
  rcases hy with e | e
  · exact key _ (.inl rfl) e
  · exact key _ (.inr rfl) e
 refine wpAny_comprehension_free (use:=use) rfl hs hclos hkind hnm (thn (hi pins s σ H _ I h) fun v s1 h1=>thn h1 fun itv s2 h2=>?_)
 obtain⟨it,fp,tn,J,H2,e,I2,T,st2,f2,hw⟩:=h2
 obtain⟨W,⟨m0,w0⟩,turn⟩:=hE J H2 hw
 subst e
 refine wpAny_newObj_type (wpAny_newFunctionEnv hcell' (by intro y hy;simp at hy) (fun h₁ hns hsb=>?_) hkind)
 dsimp only at hns hsb ⊢
 generalize hG:s2.heap.push {cls:=.type "list",dict:=none,data:=.seq ([]:List Value).toArray}=G at hns hsb ⊢
 have szG:G.objs.size=s2.heap.objs.size+1:=by rw [← hG,Heap.size_push]
 have inG:∀ b o,s2.heap.get? b=some o→G.get? b=some o:=fun b o e=>hG ▸ Heap.get?_push_of_some _ e
 have ltC:∀ b o,s2.heap.get? b=some o→b≠G.objs.size:=fun b o e=>by rw [szG];exact Nat.ne_of_lt (Nat.lt_succ_of_lt (Heap.lt_size e))
 have ltD:∀ b o,s2.heap.get? b=some o→b≠s2.heap.objs.size:=fun b o e=>Nat.ne_of_lt (Heap.lt_size e)
 have DC:s2.heap.objs.size≠G.objs.size:=by rw [szG];omega
 have old:∀ b o,s2.heap.get? b=some o→h₁.get? b=some o:=fun b o e=>hsb.extBut b o (ltC b o e) (Heap.get?_push_of_some _ (inG b o e))
 have hacc:h₁.PlainList s2.heap.objs.size #[]:=⟨_,hsb.extBut _ _ DC (Heap.get?_push_of_some _ (hG ▸ Heap.get?_push_size _ rfl))⟩
 have fpO:∀ b∈fp,∃ o,s2.heap.get? b=some o:=fun b hb=>let ⟨o,e,_⟩:=T.obj 0 _ st2 b hb;⟨o,e⟩
 have stkO:∀ b∈frs X.stack,∃ o,s2.heap.get? b=some o:=fun b hb=>by
  obtain⟨_,o,ho,_⟩:=I2.stack.mem hb
  exact⟨o,ho⟩
 have freshH:∀ a,s2.heap.objs.size≤a→H2 a=none:=fun a ha=>I2.hok.fresh ha
 have stkFp:∀ b∈fp,b ∉ frs X.stack:=fun b hb z=>by
  rcases List.mem_cons.mp (I2.stkSub b z) with q | q
  · exact(f2 b hb).2.1 q
  · exact(f2 b hb).2.2.1 q
 have okX:(q9 X scope cl G.objs.size (xs++ys) s2 H2 fp).Ok:={
  mod:=I2.ok.mod
  kind:=hkind
  glob:=I2.ok.glob
  blt:=I2.ok.blt
  above:=by show s2.heap.objs.size≤G.objs.size;rw [szG];omega
  inj:=fun y z c e1 e2=>I2.ok.inj y z c (clX y c e1) (clX z c e2)
  has:=fun y hy=>has y hy
  cab:=fun y c e _=>absurd (show false=true from e) Bool.false_ne_true
  hd:=I2.ok.hd
  frames:=I2.ok.frames
  stk:=.inl rfl
  exf:=fun b hb=>by
   obtain⟨o,e⟩:=fpO b hb
   exact⟨ltC b o e,fun y c e1=>(f2 b hb).2.2.2.2.1 y c (clX y c e1)⟩
  bs:=I2.bs
  bsz:=Nat.le_trans I2.ok.bsz I2.sz
  noex:=fun b o e hb=>by
   rcases (f2 b hb).2.2.2.1 with q | q
   · exact I2.ok.noex b o e q
   · exact Nat.lt_irrefl _ (Nat.lt_of_lt_of_le (Nat.lt_of_lt_of_le (Heap.lt_size e) I2.ok.bsz) q)
  exfs:=stkFp
  funs:=I2.stack
  frf:=I2.stkFree}
 have lenY:js.length=ys.length:=by have:=congrArg List.length hjs;simpa using this
 have I0:Inv (q9 X scope cl G.objs.size (xs++ys) s2 H2 fp) [] (List.replicate xs.length none++kc js σ) H2 {s2 with heap:=h₁,toks:=s2.toks+([]:List (Str × Value)).length}:=by
  refine⟨okX,rfl,I2.bare,Un.kept old,⟨_,hns,fun k y v e1 e2 e3=>?_⟩,fun y c e=>?_,freshH _ (by show s2.heap.objs.size≤G.objs.size;rw [szG];omega),fun y c e=>I2.freeC y c (clX y c e),fun p hp=>absurd (show p∈([]:List (Addr × Obj)) from hp) (by simp),I2.hok.kept old,?_⟩
  · obtain⟨k,e1',e2'⟩:∃ k,ys[k]? =some y∧(kc js σ)[k]? =some (some v):=by
     have e1:(xs++ys)[k]? =some y:=e1
     by_cases hk:k < xs.length
     · rw [List.getElem?_append_left (by simpa using hk),List.getElem?_replicate,if_pos hk] at e2
       cases e2
     · rw [List.getElem?_append_right (by simpa using hk),List.length_replicate] at e2
       rw [List.getElem?_append_right (Nat.le_of_not_lt hk)] at e1
       exact⟨_,e1,e2⟩
    unfold kc at e2'
    rw [List.getElem?_map] at e2'
    cases ej:js[k]? with
    | none=>rw [ej] at e2';cases e2'
    | some j=>
     rw [ej] at e2'
     have e4:(σ[j]?).join=some v:=Option.some.inj e2'
     have e5:σ[j]? =some (some v):=by
      cases q:σ[j]? with
      | none=>rw [q] at e4;cases e4
      | some o=>rw [q] at e4;exact congrArg some e4
     have e6:X.N[j]? =some y:=by
      have:=congrArg (fun l=>l[k]?) hjs
      simp only [List.getElem?_map,ej,e1',Option.map_some] at this
      exact Option.some.inj this
     have hy:=List.all_eq_true.mp hys y (List.mem_of_getElem? e1')
     simp only [Bool.and_eq_true,Bool.or_eq_true,beq_iff_eq] at hy
     obtain⟨ky,ko⟩:=hy
     obtain⟨m,hn,hl⟩:=I2.loc
     obtain⟨u,r,lk⟩:=hl j y v e6 e5 (.inr ko)
     refine⟨u,r,.inr ⟨ky,?_⟩⟩
     rcases lk with ⟨kl,_⟩ | ⟨_,c,ec,hc⟩
     · have kl':X.env.scope.names.lookup y=some .local:=kl
       rw [kl'] at ko
       rcases ko with z | z <;> cases z
     · obtain⟨c',ec'⟩:=has y ky
       have:=clX y c' ec'
       rw [ec] at this
       cases this
       obtain⟨o,ho,hd⟩:=hc
       exact⟨c,ec',o,old c o ho,hd⟩
  · obtain⟨v,o,ho,hd⟩:=I2.cell y c (clX y c e)
    exact⟨v,o,old c o ho,hd⟩
  · show (List.replicate xs.length none++kc js σ).length=(xs++ys).length
    simp [kc,lenY]
 have loop:∀ s3:Shared,s3={s2 with heap:=h₁,toks:=s2.toks+([]:List (Str × Value)).length}→
  codeAny (model X.prog X.w) X.A (.compLoop (.ListComp elt [⟨tg,iter,cs,0⟩] scope pos) 0 (.ref it) (.ref s2.heap.objs.size) (compEnvC scope cl G.objs.size X.env))
   (compPost (model X.prog X.w) X.A X.xe use Q (.ref s2.heap.objs.size) G.objs.size) s3:=by
  rintro s3 rfl
  have stat:∀ {H':Hp} (o:Obj),(∀ b∈fp,H' b=none)→∀ b∈fp,qLc (q9 X scope cl G.objs.size (xs++ys) s2 H2 fp) [(s2.heap.objs.size,o)] H' b:=fun {H'} o hn b hb=>by
   obtain⟨ob,eb⟩:=fpO b hb
   refine⟨hn b hb,ltC b ob eb,stkFp b hb,.inl hb,fun y c e1=>(f2 b hb).2.2.2.2.1 y c (clX y c e1),fun p hp=>?_⟩
   have hp':p=(s2.heap.objs.size,o):=by
    have:p∈[(s2.heap.objs.size,o)]:=hp
    simpa using this
   rw [hp']
   exact Ne.symm (ltD b ob eb)
  refine qHb (fun n s'=>∃ i acc its H3,Inv (q9 X scope cl G.objs.size (xs++ys) s2 H2 fp) [] (List.replicate xs.length none++kc js σ) H3 s'∧tn i s'.heap∧(∀ b∈fp,H3 b=none)∧s'.heap.PlainList s2.heap.objs.size its.toArray∧Vals acc its∧H3 s2.heap.objs.size=none∧W i n acc H3)
   ?_ m0 ⟨0,[],[],H2,I0,T.keep _ _ _ st2 fun b _ o e=>old b o e,fun b hb=>(f2 b hb).1,hacc,.nil,freshH _ (Nat.le_refl _),w0⟩
  rintro n s3 ⟨i,acc,its,H3,I3,st3,fr3,⟨nn,pl3⟩,va3,hD3,w3⟩
  obtain⟨hlen,cs⟩:=turn i n acc H3 w3
  have hal:acc.length=its.length:=va3.length
  have nD:s2.heap.objs.size ∉ frs X.stack:=fun z=>by
   obtain⟨o,e⟩:=stkO _ z
   exact ltD _ o e rfl
  have I3p:Inv (q9 X scope cl G.objs.size (xs++ys) s2 H2 fp) [(s2.heap.objs.size,{cls:=.type "list",data:=.seq its.toArray nn})] (List.replicate xs.length none++kc js σ) H3 s3:=I3.pins_of fun p hp=>by
   have e:p=(s2.heap.objs.size,{cls:=.type "list",data:=.seq its.toArray nn}):=by simpa using hp
   subst e
   exact⟨pl3,hD3,DC,nD,fun v z=>nomatch z⟩
  rcases cs with ⟨stop,q⟩ | ⟨go,step⟩
  · refine thn (T.done (q9 X scope cl G.objs.size (xs++ys) s2 H2 fp) rfl rfl rfl hcm i _ s3 _ H3 _ I3p (stat _ fr3) st3 stop) fun r s4 hr=>?_
    obtain⟨hr,I4⟩:=hr
    subst hr
    have pl4:=(I4.pin (s2.heap.objs.size,{cls:=.type "list",data:=.seq its.toArray nn}) (by simp)).1
    obtain⟨m,hn,_⟩:=I4.loc
    have B:=I4.base
    have un':Un (frs X.stack) fp H2 (upd H3 s2.heap.objs.size (.lst acc)) s2.heap s4.heap:=by
     refine⟨fun b o e n hb hx=>B.keep b o e n hb hx,fun b o e n hb hx=>B.slot b o e n hb hx,fun b o e n hx=>?_,fun b o e hx=>B.there b o e hx,fun b xs e=>?_,fun b o u e=>?_,fun b ps e=>?_⟩
     · rw [qX (ltD b o e)]
       exact B.free b o e n hx
     · have z:=B.tups b xs e
       rw [qX (qg z hD3)]
       exact z
     · have z:=B.frzs b o u e
       rw [qX (qg z hD3)]
       exact z
     · obtain⟨more,z⟩:=B.tbls b ps e
       exact⟨more,by rw [qX (qg z hD3)];exact z⟩
    have freeC4:H3 G.objs.size=none:=I4.free
    have hok':HOk X.prog X.w (upd H3 s2.heap.objs.size (.lst acc)) s4.heap:=fun b u e=>by
     by_cases hb:b=s2.heap.objs.size
     · subst hb
       rw [qD] at e
       cases e
       exact⟨Nat.le_of_lt hlen,its,nn,va3,pl4⟩
     · rw [qX hb] at e
       exact(I4.hok b u e).stay (fun c v hc z=>z) (fun c z=>by rw [qX (qg z hD3)];exact z) fun c xs z=>by rw [qX (qg z hD3)];exact z
    have hch:∀ b∈fp,(b∈X.ex∨X.s₀.heap.objs.size≤b)∧b≠X.env.locals∧(∀ y c,X.env.cells.lookup y=some c→c≠b)∧∀ p∈X.pn++pins,p.1≠b:=fun b hb=>by
     obtain⟨_,z1,_,z3,z4,z5⟩:=f2 b hb
     exact⟨z3,z1,z4,z5⟩
    have I5:=I2.call' (s':=s4) (ch:=fp) I4.os un' hok' I4.bare hch
    refine fin (.ref s2.heap.objs.size) _ _ s4 G.objs.size I5 rfl (q _ hD3) ⟨m,hn⟩ ?_ ?_ ?_ (fun y c e=>?_) fun p hp=>?_
    · rw [qX (Ne.symm DC)];exact freeC4
    · rw [szG];exact Nat.ne_of_gt (Nat.lt_succ_of_lt I2.lt)
    · rw [szG];exact Nat.le_succ_of_le I2.sz
    · obtain⟨v,o,ho,_⟩:=I2.cell y c e
      exact ltC c o ho
    · exact ltC p.1 p.2 (I2.pin p hp).1
  · refine thn (T.item (q9 X scope cl G.objs.size (xs++ys) s2 H2 fp) rfl rfl rfl hcm i _ s3 _ H3 _ I3p (stat _ fr3) st3 go) fun r s4 hr=>?_
    obtain⟨u,hr,h4⟩:=hr
    subst hr
    refine thn h4 fun _ s5 h5=>?_
    obtain⟨v,H5,I5,r5,y5,st5,fr5⟩:=h5
    have I5':=I5.pinned (stat _ fr5) (T.obj _ _ st5)
    refine wpAny_mono (hg G.objs.size s2 H2 fp _ s5 _ H5 v u _ (I5'.wish _) r5 (step v H5 y5)) (fun _ s6 h6=>?_) fun _ _ z=>z.elim
    obtain⟨σ6,H6',I6',vs,eσ,hv,q5⟩:=h6
    subst eσ
    have back:∀ (H7:Hp) (s7:Shared) (σ7:L2.St) (h':Heap) (acc':List V) (its':List Value) (m':Nat),Inv (q9 X scope cl G.objs.size (xs++ys) s2 H2 fp) ([(s2.heap.objs.size,{cls:=.type "list",data:=.seq its.toArray nn})]++qD6 fp s5.heap) (vs++kc js σ) H7 s7→
     Heap.SameBut s2.heap.objs.size s7.heap h'→h'.PlainList s2.heap.objs.size its'.toArray→Vals acc' its'→m' < n→W (i+1) m' acc' H7→
     ∃ m,m < n∧∃ i acc its H3,Inv (q9 X scope cl G.objs.size (xs++ys) s2 H2 fp) [] (List.replicate xs.length none++kc js σ) H3 {s7 with heap:=h'}∧tn i h'∧(∀ b∈fp,H3 b=none)∧h'.PlainList s2.heap.objs.size its.toArray∧Vals acc its∧H3 s2.heap.objs.size=none∧W i m acc H3:=by
     intro H7 s7 _ h' acc' its' m' I7 hsb' hp' va' hm' w7
     have pinD:=I7.pin (s2.heap.objs.size,{cls:=.type "list",data:=.seq its.toArray nn}) (by simp)
     have pf:∀ b∈fp,∀ o,s5.heap.get? b=some o→s7.heap.get? b=some o∧H7 b=none:=fun b hb o e=>by
      have z:=I7.pin (b,o) (List.mem_append_right _ (List.mem_append_right _ (vU hb e)))
      exact⟨z.1,z.2.1⟩
     have I8:Inv (q9 X scope cl G.objs.size (xs++ys) s2 H2 fp) [] (List.replicate xs.length none++kc js σ) H7 {s7 with heap:=h'}:=by
      have I7u:Inv (q9 X scope cl G.objs.size (xs++ys) s2 H2 fp) [] (List.replicate xs.length none++kc js σ) H7 s7:=(I7.pins_of (pins':=[]) fun p hp=>absurd hp (by simp)).weak (by simp [hv]) fun k v e=>by
       by_cases hk:k < xs.length
       · rw [List.getElem?_append_left (by simpa using hk),List.getElem?_replicate,if_pos hk] at e
         cases e
       · rw [List.getElem?_append_right (by simpa using hk),List.length_replicate] at e
         rw [List.getElem?_append_right (by rw [hv];exact Nat.le_of_not_lt hk),hv]
         exact e
      refine I7u.turned (t':=s7.toks) (it:=s2.heap.objs.size) (fun b o hb e=>hsb'.extBut b o hb e) pinD.2.1 DC (.inr (Nat.le_refl _)) (fun y c e=>?_) fun p hp=>absurd (show p∈([]:List (Addr × Obj)) from hp) (by simp)
      obtain⟨v,o,ho,_⟩:=I2.cell y c (clX y c e)
      exact ltD c o ho
     refine⟨m',hm',i+1,acc',its',H7,I8,?_,fun b hb=>?_,hp',va',pinD.2.1,w7⟩
     · refine T.keep _ _ _ st5 fun b hb o e=>hsb'.extBut b o ?_ (pf b hb o e).1
       obtain⟨ob,eb⟩:=fpO b hb
       exact ltD b ob eb
     · obtain⟨o,e,_⟩:=T.obj _ _ st5 b hb
       exact(pf b hb o e).2
    refine wpAny_mono (hc G.objs.size s2 H2 fp _ s6 _ _ _ I6' q5) (fun ok s6a h6=>?_) fun _ _ z=>z.elim
    obtain⟨H6,I6a,q6⟩:=h6
    cases ok with
    | false=>
     rw [if_neg (by decide)] at q6 ⊢
     obtain⟨m',hm',w7⟩:=q6
     have I7:=I6a.unwish
     have pinD:=I7.pin (s2.heap.objs.size,{cls:=.type "list",data:=.seq its.toArray nn}) (by simp)
     exact back H6 s6a (List.replicate xs.length none++kc js σ) s6a.heap acc its m' I7 (Heap.SameBut.refl _ _) ⟨nn,pinD.1⟩ va3 hm' w7
    | true=>
     rw [if_pos rfl] at q6 ⊢
     refine wpAny_mono (he G.objs.size s2 H2 fp _ s6a _ H6 _ I6a q6) (fun y s7 h7=>?_) fun _ _ z=>z.elim
     obtain⟨v7,H7,I7,r7,m',hm',w7⟩:=h7
     have I7:=I7.unwish
     have pinD:=I7.pin (s2.heap.objs.size,{cls:=.type "list",data:=.seq its.toArray nn}) (by simp)
     refine wpAny_list_append_plain (items:=its.toArray) ⟨nn,pinD.1⟩ (fun h' hp' hsb'=>?_) (by rw [List.size_toArray,← hal];exact Nat.le_of_lt hlen)
     have e8:its.toArray.push y=(its++[y]).toArray:=by simp
     rw [e8] at hp'
     exact back H7 s7 (List.replicate xs.length none++kc js σ) h' (acc++[v7]) (its++[y]) m' I7 hsb' hp' (va3.append (.cons r7 .nil)) hm' w7
 exact codeAny_compStart_list (loop _ rfl) (T.self _ 0 _ _ _ (T.keep _ _ _ st2 fun b _ o e=>old b o e) (loop _ rfl))
theorem qFn {X:Cx}{pins:List (Addr × Obj)}{σ:L2.St}{H:Hp}{s:Shared}{C:Addr}{h':Heap}(I:Inv X pins σ H s)(hsb:Heap.SameBut C s.heap h')(h0:H C=none)(h1:C≠X.env.locals)(h2:X.s₀.heap.objs.size≤C)
 (h3:∀ y c,X.env.cells.lookup y=some c→c≠C) (h4:∀ p∈X.pn++pins,p.1≠C):Inv X pins σ H {s with heap:=h'}:=
 I.turned (t':=s.toks) (it:=C) (fun b o hb e=>hsb.extBut b o hb e) h0 h1 (.inr h2) h3 h4
theorem qB7 {X:Cx}{elt iter tg:Expr}{cs:List Expr}{scope:Scope}{cl:List (Str × Addr)}{pos:Pos}{wi:TI}{g:TG}{tc:TT}{te:TE}{xs ys:List Str}{js:List Nat}{T:L2.St→VK→It→Hp→Prop}
 (hcm:X.calm=true) (hi:PI X tg iter wi) (hg:∀ C s H fp,PG (q9 X scope cl C (xs++ys) s H fp).nox tg g) (hc:∀ C s H fp,PTs (q9 X scope cl C (xs++ys) s H fp).nox cs tc) (he:∀ C s H fp,PE (q9 X scope cl C (xs++ys) s H fp).nox elt te) (hC:COk X scope cl iter xs ys js) (hE:∀ σ Q J H1,T σ Q J H1→zB xs.length js g tc te σ Q J H1):PE X (.ListComp elt [⟨tg,iter,cs,0⟩] scope pos) (fun σ H Q=>wi σ H (T σ Q)):=by
 intro pins s σ H Q I h
 rw [eval_ListComp]
 refine qA5 hcm hi hg hc he hC Q none (EP X pins σ Q) I h (hE σ Q) fun v u H' s' C I' r q hm h0 h1 h2 h3 h4=>?_
 obtain⟨m,hm⟩:=hm
 exact⟨m,hm,fun h' hsb=>⟨v,H',qFn I' hsb h0 h1 h2 h3 h4,r,q⟩⟩
theorem qCa {X:Cx}{elt iter tg:Expr}{cs:List Expr}{scope:Scope}{cl:List (Str × Addr)}{pos:Pos}{wi:TI}{g:TG}{tc:TT}{te:TE}{xs ys:List Str}{js:List Nat}{T:L2.St→VK→It→Hp→Prop}{i:Nat}{y:Str}{py spos:Pos}(hN:X.N.Nodup)(hi':X.N[i]? =some y)(hy:X.env.kindOf y=some .local)
 (hcm:X.calm=true) (hi:PI X tg iter wi) (hg:∀ C s H fp,PG (q9 X scope cl C (xs++ys) s H fp).nox tg g) (hc:∀ C s H fp,PTs (q9 X scope cl C (xs++ys) s H fp).nox cs tc) (he:∀ C s H fp,PE (q9 X scope cl C (xs++ys) s H fp).nox elt te) (hC:COk X scope cl iter xs ys js) (hE:∀ σ Q J H1,T σ Q J H1→zB xs.length js g tc te σ Q J H1) (hsw:swapsWith (.ListComp elt [⟨tg,iter,cs,0⟩] scope pos) (some (.Name y py)) spos.line X.env=pure true):PS X (.Assign [.Name y py] (.ListComp elt [⟨tg,iter,cs,0⟩] scope pos) spos) (qNx (fun σ H Q=>wi σ H (T σ Q)) (zH i)):=by
 intro pins s σ H D I h
 rw [exec_Assign_Name_used _ _ _ _ hsw]
 refine wpAny_bind (wpAny_standAt (wpAny_bind ?_))
 have key:=qA5 (pos:=pos) hcm hi hg hc he hC (fun v H'=>D.nx (σ.set i (some v)) H') (some (assign (.Name y py) X.env)) (fun _ s'=>SP X pins D .next s') I h (hE σ _) fun v u H' s' C I' r q hm h0 h1 h2 h3 h4=>?_
 · exact wpAny_bind (thn key fun _ s' hq=>wpAny_pure (wpAny_pure hq))
 · refine wpAny_assign_Name (qDi I' hN hi' (.inl hy) r (fun s2 I2 ch=>?_) (.inr hy))
   obtain⟨b,sb,hb⟩:=ch
   obtain⟨m,hm⟩:=hm
   have nb:C≠b:=by
    rcases hb with rfl | hb
    · exact h1
    · exact Ne.symm (h3 y b hb)
   exact⟨m,hm.sameBut sb nb,fun h' hsb=>⟨_,H',qFn I2 hsb h0 h1 h2 h3 h4,q⟩⟩
def CompEnd (js:List Nat)(te:TE)(σ:L2.St)(Q:VK)(J:It)(H1:Hp):Prop:=∃ W:Nat→Nat→List V→Hp→Prop,(∃ m,W 0 m [] H1)∧∀ i m acc H2,W i m acc H2→
 acc.length < sizeLine∧((J.stop i H2∧∀ D,H2 D=none→Q (.ref D) (upd H2 D (.lst acc)))∨
  (J.go i H2∧∀ x H3,J.yld i H2 x H3→te (some x::kc js σ) H3 fun v H4=>∃ m',m' < m∧W (i+1) m' (acc++[v]) H4))
def qPt (js:List Nat)(wi:TI)(te:TE):TE:=fun σ H Q=>wi σ H (CompEnd js te σ Q)
theorem CompEnd.g {js:List Nat}{te:TE}(σ:L2.St)(Q:VK)(J:It)(H1:Hp):CompEnd js te σ Q J H1→zB 1 js (zH 0) (fun _ H Q=>Q true H) te σ Q J H1:=fun⟨W,w0,st⟩=>
 ⟨W,w0,fun i m acc H2 w=>⟨(st i m acc H2 w).1,(st i m acc H2 w).2.imp id fun⟨go,y⟩=>⟨go,fun x H3 z=>⟨[some x],rfl,rfl,(if_pos rfl).mpr (y x H3 z)⟩⟩⟩⟩
theorem zW {X:Cx}{elt iter:Expr}{x:Str}{px:Pos}{scope:Scope}{cl:List (Str × Addr)}{pos:Pos}{wi:TI}{te:TE}(ys:List Str)(js:List Nat)
 (hcm:X.calm=true) (hi:PI X (.Name x px) iter wi) (he:∀ C s H fp,PE (q9 X scope cl C (x::ys) s H fp).nox elt te) (hx:scope.names.lookup x=some .local:=by rfl) (hC:COk X scope cl iter [x] ys js:=by exact⟨rfl,rfl,rfl,rfl,rfl,rfl,rfl,rfl,fun _=>rfl,by decide⟩):PE X (.ListComp elt [⟨.Name x px,iter,[],0⟩] scope pos) (qPt js wi te):=
 qB7 (xs:=[x]) (T:=CompEnd js te) hcm hi (fun _ _ _ _=>ql (i:=0) hC.nd rfl (.inl (lookup_relabel_local hx)) (.inr (lookup_relabel_local hx))) (fun _ _ _ _=>qEe) he hC CompEnd.g
theorem qOb {X:Cx}{elt iter:Expr}{x:Str}{px:Pos}{scope:Scope}{cl:List (Str × Addr)}{pos:Pos}{wi:TI}{te:TE}(ys:List Str)(js:List Nat){i:Nat}{y:Str}{py spos:Pos}(hN:X.N.Nodup)(hi':X.N[i]? =some y)(hy:X.env.kindOf y=some .local)
 (hcm:X.calm=true) (hi:PI X (.Name x px) iter wi) (he:∀ C s H fp,PE (q9 X scope cl C (x::ys) s H fp).nox elt te) (hx:scope.names.lookup x=some .local:=by rfl) (hC:COk X scope cl iter [x] ys js:=by exact⟨rfl,rfl,rfl,rfl,rfl,rfl,rfl,rfl,fun _=>rfl,by decide⟩) (hsw:swapsWith (.ListComp elt [⟨.Name x px,iter,[],0⟩] scope pos) (some (.Name y py)) spos.line X.env=pure true:=by rfl):PS X (.Assign [.Name y py] (.ListComp elt [⟨.Name x px,iter,[],0⟩] scope pos) spos) (qNx (qPt js wi te) (zH i)):=
 qCa (xs:=[x]) (T:=CompEnd js te) hN hi' hy hcm hi (fun _ _ _ _=>ql (i:=0) hC.nd rfl (.inl (lookup_relabel_local hx)) (.inr (lookup_relabel_local hx))) (fun _ _ _ _=>qEe) he hC CompEnd.g hsw
def Nxt (n i:Nat)(P:Prop):Prop:=∃ m',m' < n - i∧m'=n - (i+1)∧i+1≤n∧P
theorem Nxt.mk {n i:Nat}{P:Prop}(h:i < n)(p:P):Nxt n i P:=⟨n - (i+1),by omega,rfl,h,p⟩
theorem xM {K:PySem.W.Frag}{a:Addr}{xs:List V}{js:List Nat}{te:TE}{σ:L2.St}{H:Hp}{Q:VK}(Pv:Nat→List V→Hp→Prop)(h0:Pv 0 [] H)(hl:∀ i acc H,i≤xs.length→Pv i acc H→SqL K H a xs∧acc.length < sizeLine)
 (hs:∀ i x acc H,i < xs.length→xs[i]? =some x→Pv i acc H→te (some x::kc js σ) H fun v H'=>Nxt xs.length i (Pv (i+1) (acc++[v]) H')) (hd:∀ acc H,Pv xs.length acc H→∀ D,H D=none→Q (.ref D) (upd H D (.lst acc))):CompEnd js te σ Q (Itl K a) H:=by
 refine⟨fun i m acc H=>m=xs.length - i∧i≤xs.length∧Pv i acc H,⟨xs.length,by simp,Nat.zero_le _,h0⟩,?_⟩
 rintro i m acc H2 ⟨rfl,hi,p⟩
 obtain⟨q,hz⟩:=hl i acc H2 hi p
 refine⟨hz,?_⟩
 by_cases hlt:i < xs.length
 · refine .inr ⟨⟨xs,xs[i],q,by simp [hlt]⟩,fun x H3 y=>?_⟩
   obtain⟨e,y⟩:=y
   subst e
   exact hs i x acc _ hlt (y xs q) p
 · have e:i=xs.length:=by omega
   subst e
   exact .inl ⟨⟨xs,q,Nat.le_refl _⟩,hd acc H2 p⟩
structure Def (K:PySem.W.Frag)(mg:Str→Option Value)(x:Str)(st:Stmt)(ps:List Str)(f:Addr)(fd:FuncData):Prop where
 F:Fun K x x st f fd
 b:Binds K fd ps []
 m:mg x=some (.ref f)
section
variable {X : Cx}
theorem qI {k j:Nat}{x:Str}{st:Stmt}{ps:List Str}{f:Addr}{fd:FuncData}{sp:Sp}{e:Expr}{es:List Expr}{t:TA}{p pos:Pos}(D:Def X.K X.mg x st ps f fd)(F:FnOk X.prog X.w X.K X.mg X.base CX0 j f fd ps sp)(hr:Room k X.A)(hg:Gl X x)(ha:PA X (e::es) t)(hj:j≤k:=by decide)
 (hdb:(x == ("__debug__":Str))=false:=by decide) (he:starEach (e::es) X.env=(false,eval e X.env)::starEach es X.env:=by rfl) (hpl:(backTo pos (starEach es X.env)).any (·.1)=false:=by rfl):
 PE X (.Call (.Name x p) (e::es) [] pos) (qP9 sp [] E0 t):=qNv F (hr.mono hj) hg D.m D.F.kp D.b .nil qQz ha hdb he hpl
theorem vj {x:Str}{n:String}{pos:Pos}(hg:Gl X x)(hm:X.mg x=none)(hv:bootBuiltins x=some (.type n))(hn:x≠"__name__":=by decide)(hd:(x == ("__debug__":Str))=false:=by decide):PE X (.Name x pos) (tC (.ty n)):=
 qNh hg hm hv rfl hn hd
end
theorem kT {X:Cx}{K:PySem.W.Frag}(h:X.K=K):IxR X (qOk K):=h ▸ qDc
def qQw (t:TS):TS:=fun D σ H=>∃ R:L2.St→Hp→Prop,t {D with nx:=R} σ H∧∀ σ' H',R σ' H'→D.nx σ' H'
theorem vW {X:Cx}{st:Stmt}{t:TS}(h:PS X st t):PS X st (qQw t):=by
 rintro pins s σ H D I ⟨R,ht,hR⟩
 refine thn (h pins s σ H {D with nx:=R} I ht) fun f s' q=>?_
 cases f with
 | next=>obtain⟨σ',H',I',r⟩:=q;exact⟨σ',H',I',hR _ _ r⟩
 | brk=>exact q
 | cont=>exact q
 | ret u=>exact q
theorem qE {H:Hp}{p:Addr}(h:H p=none)(o:HO):Same H (upd H p o):=fun b u q=>by rw [qX (qg q h)];exact q
theorem Same.tup {K:PySem.W.Frag}{H H':Hp}{a:Addr}{xs:List V}(e:Same H H')(h:SqT K H a xs):SqT K H' a xs:=by
 rcases h with (h | ⟨o,h⟩) | h
 · exact .inl (.inl (e _ _ h))
 · exact .inl (.inr ⟨o,e _ _ h⟩)
 · exact .inr h
section
variable {X : Cx}
end
abbrev EC:=Value × Option Addr
def wu (h:Heap)(e:Addr)(C:EC)(hd:Option Addr):Prop:=
 ∃ (vs:Array Value) (sl:Array (Option Value)),h.get? e=some {cls:=C.1,dict:=C.2,data:=.fields vs,slots:=sl}∧
  match hd with
  | none=>vs[1]? =some .none
  | some T=>vs[1]? =some (.ref T)∧T≠e∧∃ oT ts m,h.get? T=some oT∧oT.data= .fields ts∧ts[3]? =some m
def qRz (h:Heap)(e:Addr)(c:Value):Prop:=∃ o vs,h.get? e=some o∧o.data= .fields vs∧vs[2]? =some c
structure Noted (fs:List Addr)(e:Addr)(hd:Option Addr)(C:EC)(h h':Heap):Prop where
 keep:∀ b o,h.get? b=some o→b ∉ fs→b≠e→some b≠hd→h'.get? b=some o
 slot:∀ b o,h.get? b=some o→b∈fs→b≠e→some b≠hd→∃ sl,h'.get? b=some {o with slots:=sl}
 ent:∃ T,(h.get? T=none∨hd=some T)∧wu h' e C (some T)
 c2:∀ c,qRz h e c→qRz h' e c
theorem Noted.before {fs:List Addr}{e T:Addr}{C:EC}{h h1 h':Heap}(x:Noted fs e none C h1 h')(k:∀ b,b≠T→h1.get? b=h.get? b)(t:∃ o,h1.get? T=some o)(ne:e≠T):Noted fs e (some T) C h h':=by
 refine⟨fun b o q hf he ht=>x.keep b o ?_ hf he (by simp),fun b o q hf he ht=>x.slot b o ?_ hf he (by simp),?_,fun c ⟨o,vs,q1,q2⟩=>x.c2 c ⟨o,vs,by rw [k e ne];exact q1,q2⟩⟩
 · rw [k b (fun z=>ht (by rw [z]))];exact q
 · rw [k b (fun z=>ht (by rw [z]))];exact q
 · obtain⟨T',n | n,r⟩:=x.ent
   · refine⟨T',.inl ?_,r⟩
     rw [← k T' (fun z=>?_)];exact n
     obtain⟨o,q⟩:=t
     rw [z,q] at n;cases n
   · cases n
section
variable {M : Model} {A : Around} {E : Value → Shared → Prop} {s : Shared}
theorem Noted.then {fs:List Addr}{e T:Addr}{hd:Option Addr}{C:EC}{h h1 h2:Heap}(x:Noted fs e hd C h h1)(hT:h.get? T=none∨hd=some T)(y:Noted fs e (some T) C h1 h2):Noted fs e hd C h h2:=by
 have nt:∀ b o,h.get? b=some o→some b≠hd→(some b:Option Addr)≠some T:=fun b o q hb z=>by
  cases z
  rcases hT with n | n
  · rw [q] at n;cases n
  · exact hb n.symm
 have n1:∀ T',h1.get? T'=none→T'≠e→some T'≠hd→h.get? T'=none:=fun T' n he ht=>by
  cases q:h.get? T' with
  | none=>rfl
  | some o=>
   by_cases hs:T'∈fs
   · obtain⟨sl,z⟩:=x.slot T' o q hs he ht
     rw [n] at z;cases z
   · have z:=x.keep T' o q hs he ht
     rw [n] at z;cases z
 refine⟨fun b o q hf he ht=>y.keep b o (x.keep b o q hf he ht) hf he (nt b o q ht),fun b o q hf he ht=>?_,?_,fun c q=>y.c2 c (x.c2 c q)⟩
 · obtain⟨sl,z⟩:=x.slot b o q hf he ht
   obtain⟨sl',z'⟩:=y.slot b _ z hf he (nt b o q ht)
   exact⟨sl',z'⟩
 · obtain⟨T',n,r⟩:=y.ent
   refine⟨T',?_,r⟩
   rcases n with n | n
   · by_cases hh:hd=some T'
     · exact .inr hh
     · refine .inl (n1 T' n (fun z=>?_) (Ne.symm hh))
       obtain⟨vs,sl,q,r1,nT,_⟩:=r
       exact nT z
   · cases n
     exact hT
theorem qC3 {base:Heap}{env:Env}{outer:List Env}{L e:Addr}{C:EC}{head:Value}{vs:Array Value}{sl:Array (Option Value)}{had:Bool}{Q:Unit→Shared→Prop}
 (fr:A.frames=some (env::outer)) (ff:s.heap.FunFrames base (env::outer)) (ef:env.frame=some L) (re:s.heap.get? e=some {cls:=C.1,dict:=C.2,data:=.fields vs,slots:=sl}) (v1:1 < vs.size)
 (k:∀ h',Noted (frs (env::outer)) e none C s.heap h'→Q () {s with heap:=h'}):
 wpAny M A (do let a ← frameOf env;let pl ← entryPlaceOf L had;let b ← EntryCells.newEntry head a .none (rawInt L) .none pl;setField (.ref e) 1 b) Q E s:=by
 have efs:e ∉ frs (env::outer):=fun z=>by
  obtain⟨_,o,q,nf⟩:=ff.mem z
  rw [re] at q;cases q
  exact nf vs rfl
 refine wpAny_bind (wpAny_frameOf_fun fr ff ef fun g so=>?_)
 refine wpAny_bind (wpAny_entryPlaceOf fun pl ip=>?_)
 unfold EntryCells.newEntry newFields
 refine wpAny_bind (wpAny_newObj_type ?_ (ip.sizeOk5 _ _ _ _ _))
 generalize hN:({cls:=.type "traceback",dict:=none,data:=.fields ([head,.ref L,.none,rawInt L,.none]++(if pl.isEmpty then List.replicate 6 Value.none else pl)).toArray}:Obj)=N
 have Nd:N.data= .fields ([head,.ref L,.none,rawInt L,.none]++(if pl.isEmpty then List.replicate 6 Value.none else pl)).toArray:=by rw [← hN]
 have q1:g.get? e=some {cls:=C.1,dict:=C.2,data:=.fields vs,slots:=sl}:=(so.2.1 e efs).trans re
 have q2:=Heap.get?_push_of_some (h:=g) N q1
 have ne:g.objs.size≠e:=Nat.ne_of_gt (Heap.lt_size q1)
 refine wpAny_setField q2 rfl v1 (k _ ?_)
 have q3:=Heap.get?_update_self (Obj.mapFields (·.setIfInBounds 1 (Value.ref g.objs.size))) q2 rfl
 have nf:N.isFreed=false:=Obj.isFreed_of_fields Nd
 have t3:((g.push N).update e (Obj.mapFields (·.setIfInBounds 1 (Value.ref g.objs.size)))).get? g.objs.size=some N:=
  (Heap.get?_update_other (g.push N) _ (Ne.symm ne)).trans (Heap.get?_push_size g nf)
 have oth:∀ b o,b≠e→g.get? b=some o→((g.push N).update e (Obj.mapFields (·.setIfInBounds 1 (Value.ref g.objs.size)))).get? b=some o:=fun b o hb q=>by
  rw [Heap.get?_update_other _ _ (Ne.symm hb)]
  exact Heap.get?_push_of_some _ q
 refine⟨fun b o q hf he _=>oth b o he ((so.2.1 b hf).trans q),fun b o q hf he _=>?_,⟨g.objs.size,.inl ?_,vs.setIfInBounds 1 (.ref g.objs.size),sl,q3,by simp [v1],ne,N,_,rawInt L,t3,Nd,?_⟩,fun c q=>?_⟩
 · obtain⟨sl',q'⟩:=so.2.2 b o q
   exact⟨sl',oth b _ he q'⟩
 · rw [so.1]
   exact Heap.get?_none_of_le (Nat.le_refl _)
 · simp
 · obtain⟨o,ws,z1,z2,z3⟩:=q
   rw [re] at z1
   cases z1
   cases z2
   exact⟨_,vs.setIfInBounds 1 (.ref g.objs.size),q3,rfl,by rw [Array.getElem?_setIfInBounds_ne (by decide)];exact z3⟩
theorem qLb {base:Heap}{env:Env}{outer:List Env}{L e:Addr}{C:EC}{hd:Option Addr}{Q:Unit→Shared→Prop}
 (fr:A.frames=some (env::outer)) (ff:s.heap.FunFrames base (env::outer)) (ef:env.frame=some L) (re:wu s.heap e C hd)
 (k:∀ h',Noted (frs (env::outer)) e hd C s.heap h'→Q () {s with heap:=h'}):wpAny M A (noteFrame (.ref e) env) Q E s:=by
 have re0:=re
 obtain⟨vs,sl,q,r⟩:=re
 unfold noteFrame
 simp only [ef]
 cases hd with
 | none=>
  refine wpAny_bind (wpAny_field q rfl r ?_)
  rw [if_neg (by decide)]
  exact qC3 fr ff ef q (Array.getElem?_eq_some_iff.mp r).1 k
 | some T=>
  obtain⟨r1,nT,oT,ts,m,qT,dT,r3⟩:=r
  refine wpAny_bind (wpAny_field q rfl r1 ?_)
  rw [if_pos (by simp)]
  refine wpAny_bind (wpAny_field qT dT r3 ?_)
  by_cases hm:(m == rawInt L)=true
  · rw [if_pos hm]
    exact wpAny_pure (k s.heap ⟨fun b o q _ _ _=>q,fun b o q _ _ _=>⟨o.slots,q⟩,⟨T,.inr rfl,re0⟩,fun _ z=>z⟩)
  rw [if_neg hm]
  refine wpAny_bind (wpAny_setField qT dT (Array.getElem?_eq_some_iff.mp r3).1 ?_)
  have oth:∀ b,b≠T→(s.heap.update T (Obj.mapFields (·.setIfInBounds 3 Value.none))).get? b=s.heap.get? b:=fun b z=>Heap.get?_update_other _ _ (Ne.symm z)
  have qT':=Heap.get?_update_self (Obj.mapFields (·.setIfInBounds 3 Value.none)) qT (Obj.isFreed_of_fields (Obj.data_mapFields dT _))
  have nf:∀ b o,s.heap.get? b=some o→(∀ vs,o.data≠ .fields vs)→b≠T:=fun b o z n w=>by
   rw [w,qT] at z;cases z
   exact n ts dT
  refine qC3 (s:={s with heap:=s.heap.update T (Obj.mapFields (·.setIfInBounds 3 Value.none))}) fr (ff.of_keeps fun b o z n=>⟨o,(oth b (nf b o z n)).trans z,rfl⟩) ef ((oth e (Ne.symm nT)).trans q) (Array.getElem?_eq_some_iff.mp r1).1 fun h' x=>?_
  exact k h' (x.before oth ⟨_,qT'⟩ (Ne.symm nT))
theorem qGw {e T:Addr}{C:EC}{fo:Option Addr}{Q:Unit→Shared→Prop}(re:wu s.heap e C (some T))
 (k:∀ h',(∀ fs,Noted fs e (some T) C s.heap h')→Q () {s with heap:=h'}):wpAny M A (setFlight (.ref e) fo) Q E s:=by
 obtain⟨vs,sl,q,r1,nT,oT,ts,m,qT,dT,r3⟩:=re
 unfold setFlight
 refine wpAny_bind (wpAny_field q rfl r1 ?_)
 rw [if_pos (by simp)]
 have oth:∀ b,b≠T→(s.heap.update T (Obj.mapFields (·.setIfInBounds 3 (fo.elim Value.none fun f=>rawInt f)))).get? b=s.heap.get? b:=fun b z=>Heap.get?_update_other _ _ (Ne.symm z)
 refine wpAny_setField qT dT (Array.getElem?_eq_some_iff.mp r3).1 (k _ fun fs=>⟨fun b o q _ _ z=>?_,fun b o q _ _ z=>⟨o.slots,?_⟩,⟨T,.inr rfl,?_⟩,fun c ⟨o,ws,z1,z2⟩=>⟨o,ws,(Heap.get?_update_other _ _ nT).trans z1,z2⟩⟩)
 · rw [oth b fun w=>z (by rw [w])];exact q
 · rw [oth b fun w=>z (by rw [w])];exact q
 · refine⟨vs,sl,(Heap.get?_update_other _ _ nT).trans q,r1,nT,_,_,fo.elim Value.none fun f=>rawInt f,Heap.get?_update_self _ qT (Obj.isFreed_of_fields (Obj.data_mapFields dT _)),Obj.data_mapFields dT _,?_⟩
   have h3:=(Array.getElem?_eq_some_iff.mp r3).1
   simp [h3]
theorem qHu {e T:Addr}{C:EC}{Q:Unit→Shared→Prop}(re:wu s.heap e C (some T))
 (k:∀ h',(∀ fs,Noted fs e (some T) C s.heap h')→Q () {s with heap:=h'}):wpAny M A (setFlight (.ref e) none) Q E s:=qGw re k
theorem qM8 {base:Heap}{env:Env}{outer:List Env}{L e:Addr}{C:EC}{hd:Option Addr}{Q:Unit→Shared→Prop}
 (fr:A.frames=some (env::outer)) (ff:s.heap.FunFrames base (env::outer)) (ef:env.frame=some L) (re:wu s.heap e C hd)
 (k:∀ h',Noted (frs (env::outer)) e hd C s.heap h'→Q () {s with heap:=h'}):wpAny M A (noteFrame (.ref e) env) (fun _ s'=>wpAny M A (setFlight (.ref e) none) Q E s') E s:=by
 refine qLb fr ff ef re fun h1 N1=>?_
 obtain⟨T,hT,rT⟩:=N1.ent
 exact qHu (s:={s with heap:=h1}) rT fun h2 N2=>k h2 (N1.then hT (N2 _))
end
theorem qPo {P:Program}{w:World}{H:Hp}{h:Heap}{a:Addr}{o:HO}(x:ObjOk P w H h a o):∃ ob,h.get? a=some ob:=by
 cases o with
 | lst xs=>obtain⟨_,_,_,_,e⟩:=x;exact⟨_,e⟩
 | tup xs=>obtain⟨_,_,_,ob,e,_⟩:=x;exact⟨ob,e⟩
 | dK kvs=>obtain⟨_,_,_,_,o,_,_,e,_⟩:=x;exact⟨_,e⟩
 | dT kvs=>obtain⟨_,_,_,_,o,_,_,e,_⟩:=x;exact⟨_,e⟩
 | set S n=>obtain⟨o,_,_,_,e,_⟩:=x;exact⟨_,e⟩
 | ins C dx fs=>obtain⟨_,_,_,e,_⟩:=x;exact⟨_,e⟩
 | own y=>exact x
 | xd fs=>obtain⟨_,⟨_,_,_,e,_⟩,_⟩:=x;exact⟨_,e⟩
 | rng lo hi=>obtain⟨_,_,_,e⟩:=x;exact⟨_,e⟩
 | frz ob u=>obtain⟨e,_⟩:=x;exact⟨_,e⟩
 | tbl ps=>exact⟨_,x⟩
 | met f y=>exact⟨_,x⟩
 | ext φ=>exact x.2.1
def qKv (h₀:Heap)(H:Hp)(ps:List (Addr × Obj))(e:Addr):Prop:=h₀.get? e=none∧H e=none∧∀ p∈ps,p.1≠e
def qN7 (h₀:Heap)(H:Hp)(ps:List (Addr × Obj))(h:Heap)(e:Addr)(C:EC):Prop:=
 qKv h₀ H ps e∧∃ hd,wu h e C hd∧∀ T,hd=some T→qKv h₀ H ps T
def CXR (P:Program)(w:World):CXT:=fun outer H s E e s'=>∃ ea C H',e= .ref ea∧s'.os=s.os∧AllBare s'.gens∧Un (frs outer) [] H H' s.heap s'.heap∧HOk P w H' s'.heap∧qN7 s.heap H' [] s'.heap ea C∧E C.1 C.2 H'
def XE (X:Cx)(Ex:Value→Option Addr→Hp→Prop):Value→Shared→Prop:=fun e s'=>∃ ea C σ H',e= .ref ea∧Inv X [] σ H' s'∧qN7 X.s₀.heap H' X.pn s'.heap ea C∧Ex C.1 C.2 H'
section
variable {X : Cx} {σ : L2.St} {H : Hp} {s : Shared}
theorem qH9 {e:Addr}{hd:Option Addr}{C:EC}{h':Heap}(I:Inv X [] σ H s)(hex:X.ex=[])(re:wu s.heap e C hd)(n1:qKv X.s₀.heap H X.pn e)(n3:∀ T,hd=some T→qKv X.s₀.heap H X.pn T)
 (N:Noted (frs X.stack) e hd C s.heap h'):Inv X [] σ H {s with heap:=h'}∧qN7 X.s₀.heap H X.pn h' e C:=by
 have B:=I.base
 rw [hex] at B
 have ne:∀ b o,X.s₀.heap.get? b=some o→b≠e∧some b≠hd∧b≠X.env.locals:=fun b o q=>by
  refine⟨fun z=>?_,fun z=>?_,Nat.ne_of_lt (Nat.lt_of_lt_of_le (Heap.lt_size q) I.ok.above)⟩
  · rw [z,n1.1] at q;cases q
  · rw [(n3 b z.symm).1] at q;cases q
 have nin:∀ b,b ∉ ([]:List Addr):=fun b z=>nomatch z
 have nfl:∀ b o,s.heap.get? b=some o→(∀ vs,o.data≠ .fields vs)→b≠e∧some b≠hd:=fun b o q nf=>by
  obtain⟨vs,sl,qe,r⟩:=re
  refine⟨fun z=>?_,fun z=>?_⟩
  · rw [z,qe] at q;cases q
    exact nf vs rfl
  · subst z
    obtain⟨_,_,oT,ts,_,qT,dT,_⟩:=r
    rw [qT] at q;cases q
    exact nf ts dT
 have up:∀ b o,s.heap.get? b=some o→b≠e→some b≠hd→∃ sl,h'.get? b=some {o with slots:=sl}:=fun b o q z1 z2=>by
  by_cases hs:b∈frs X.stack
  · exact N.slot b o q hs z1 z2
  · exact⟨o.slots,N.keep b o q hs z1 z2⟩
 have un:Un X.fs [] X.H₀ H X.s₀.heap h':=by
  refine⟨fun b o q n hb hx=>?_,fun b o q n hb hx=>?_,fun b o q n hx=>B.free b o q n hx,fun b o q hx=>?_,B.tups,B.frzs,B.tbls⟩
  · obtain⟨z1,z2,z3⟩:=ne b o q
    refine N.keep b o (B.keep b o q n hb hx) (fun z=>?_) z1 z2
    rcases List.mem_cons.mp (I.stkSub b z) with w | w
    · exact z3 w
    · exact hb w
  · obtain⟨z1,z2,z3⟩:=ne b o q
    obtain⟨sl,q1⟩:=B.slot b o q n hb hx
    obtain⟨sl',q2⟩:=up b _ q1 z1 z2
    exact⟨sl',q2⟩
  · obtain⟨z1,z2,z3⟩:=ne b o q
    obtain⟨o',q1⟩:=B.there b o q hx
    obtain⟨sl',q2⟩:=up b _ q1 z1 z2
    exact⟨_,q2⟩
 have hok:HOk X.prog X.w H h':=fun a u q=>by
  have key:∀ c,H c=none→¬ (c=a∨H c=some (.own a)):=fun c z w=>by
   rcases w with w | w
   · rw [w,q] at z;cases z
   · rw [z] at w;cases w
  exact(I.hok a u q).stay (fun c v hc z=>N.keep c v z (fun w=>key c (I.stkFree c w) hc) (fun w=>key c (by rw [w];exact n1.2.1) hc) fun w=>key c (n3 c w.symm).2.1 hc) (fun _ z=>z) fun _ _ z=>z
 have cellK:∀ c v,s.heap.IsCell c v→h'.IsCell c v:=fun c v ⟨o,q,d⟩=>by
  obtain⟨z1,z2⟩:=nfl c o q fun vs w=>by rw [d] at w;cases w
  obtain⟨sl,q'⟩:=up c o q z1 z2
  exact⟨_,q',d⟩
 have I':Inv X [] σ H {s with heap:=h'}:=by
  refine⟨I.ok,I.os,I.bare,by rw [hex];exact un,?_,fun y c e=>?_,I.free,I.freeC,fun p hp=>?_,hok,I.len⟩
  · obtain⟨m,⟨o,es,ep,ho,hd',r⟩,hl⟩:=I.loc
    obtain⟨z1,z2⟩:=nfl _ o ho fun vs w=>by rw [hd'] at w;cases w
    obtain⟨sl,q'⟩:=up _ o ho z1 z2
    refine⟨m,⟨_,es,ep,q',hd',r⟩,fun i x v e1 e2 e3=>?_⟩
    obtain⟨u,r,l⟩:=hl i x v e1 e2 e3
    refine⟨u,r,?_⟩
    rcases l with l | ⟨k,c,ec,z⟩
    · exact .inl l
    · exact .inr ⟨k,c,ec,cellK c _ z⟩
  · obtain⟨v,z⟩:=I.cell y c e
    exact⟨v,cellK c v z⟩
  · obtain⟨q,n,nl,nf,d⟩:=I.pin p hp
    have hp':p∈X.pn:=by simpa using hp
    refine⟨N.keep p.1 p.2 q (fun z=>?_) (n1.2.2 p hp') fun z=>(n3 p.1 z.symm).2.2 p hp' rfl,n,nl,nf,d⟩
    rcases List.mem_cons.mp (I.stkSub p.1 z) with w | w
    · exact nl w
    · exact nf w
 refine⟨I',n1,?_⟩
 obtain⟨T,nT,r⟩:=N.ent
 refine⟨some T,r,fun T' e'=>?_⟩
 cases e'
 rcases nT with nT | nT
 rotate_left
 · exact n3 T nT
 refine⟨?_,?_,fun p hp z=>?_⟩
 · cases q:X.s₀.heap.get? T with
   | none=>rfl
   | some o=>
    obtain⟨o',z⟩:=B.there T o q (nin T)
    rw [nT] at z;cases z
 · cases q:H T with
   | none=>rfl
   | some u=>
    obtain⟨o',z⟩:=qPo (I.hok T u q)
    rw [nT] at z;cases z
 · have q:=(I.pin p (List.mem_append_left _ hp)).1
   rw [z,nT] at q;cases q
end
theorem qOg {X:Cx}{E:Value→Shared→Prop}{st:List Stmt}{t:TS}(h:PSs (X.wish E) st t)(hE:∀ e s',E e s'→X.xe e s'):PSs X st t:=fun pins s σ H D I hw=>
 wpAny_mono (h pins s σ H D (I.wish E) hw) (fun _ _ q=>q.unwish) hE
section
variable {P : Program} {w : World} {K : PySem.W.Frag} {mg : Str → Option Value} {base : Heap}
theorem okX {x qual:Str}{st:Stmt}{f:Addr}{fd:FuncData}{N ps:List Str}{k:Nat}{sp:Sp}(F:Fun K x qual st f fd)(S:qO N ps (qH st))(len:∀ vs H Q E,sp vs H Q E→vs.length=ps.length)
 (hbody:∀ (cdv:Value) (A:Around) (outer:List Env) (s:Shared) (H:Hp) (vs:List V) (Q:VK) (E:XK),Room k (A.deeper (envOfC qual (qH st) s.heap.objs.size f cdv))→sp vs H Q E→
   ∃ t,PSs ((qKh (CXR P w) P w K mg base N qual (qH st) f cdv A outer s H E).wish (XE (qKh (CXR P w) P w K mg base N qual (qH st) f cdv A outer s H E) E)) (xv st) t∧
    t {nx:=fun _ H'=>Q .non H',rt:=Q} (qBh N vs) H):FnOk P w K mg base (CXR P w) (k+1) f fd ps sp:=by
 obtain⟨oc,od,kV,doc,pm,an,cdv,ct,osl,rfl,lk,hcd⟩:=F.ex
 refine qOn lk hcd S len fun A outer s H vs Q E hr hsp=>?_
 obtain⟨t,h,q⟩:=hbody cdv A outer s H vs Q E hr hsp
 refine⟨t,qOg h ?_,q⟩
 rintro e s' ⟨ea,C,σ,H',rfl,I,⟨n1,hd,r,n3⟩,z⟩
 show wpAny _ _ (leaving _ _) _ _ _
 unfold leaving
 refine wpAny_bind (qM8 I.ok.frames I.stack rfl r fun h' N'=>?_)
 obtain⟨I',x'⟩:=qH9 I rfl r n1 n3 N'
 exact⟨ea,C,H',rfl,I.os,I.bare,I'.base,I'.hok,x',z⟩
end
def qRw:List Value:=[.type "ValueError",.type "Exception",.type "BaseException",.type "object"]
def pnX (X:Cx)(l:List (Addr × Obj)):Cx:={X with pn:=l}
def hdX (X:Cx)(ea:Addr):Cx:={X with A:=X.A.mark (some (.ref ea)),calm:=false}
section
variable {X : Cx} {pins : List (Addr × Obj)} {σ : L2.St} {H : Hp} {s : Shared}
end
inductive qJy (X:Cx):Option Str→Option Nat→Prop where
 | none:qJy X none none
 | some {n:Str} {i:Nat} (hi:X.N[i]? =some n) (hl:X.env.scope.names.lookup n=some .local):qJy X (some n) (some i)
end L3
set_option maxRecDepth 100000
namespace L3
open PySem PySem.Spec PySem.Calls PyProof.Rows PySem.W
section
variable {prog : Program} {w : World} {A : Around} {E : Value → Shared → Prop} {K : Frag} {h : Heap} {g : Array GenState} {d : Drawn} {t : Nat} {os : OsState} {a D : Addr} {ox : Obj} {od : Option Obj}
end
end L3
namespace L3
open PySem PySem.Spec PyProof.Rows L2
end L3
set_option maxRecDepth 100000
namespace L3
open PySem PySem.Spec PySem.Calls PySem.Builtin PySem.Builtin.ObjectAttr PyProof.Rows
def qOw (K:PySem.W.Frag)(C D:Addr):Bool:=(PySem.W.clsIn K C).any fun cd=>cd.mro == .ref C:: .ref D::qRw
section
variable {prog : Program} {w : World} {A : Around} {E : Value → Shared → Prop} {K : PySem.W.Frag} {s : Shared} {x C D : Addr} {vs : Array Value} {sl : Array (Option Value)} {R : Result → Shared → Prop}
end
section
variable {prog : Program} {w : World} {A : Around} {E : Value → Shared → Prop} {h : Heap} {g : Array GenState} {d : Drawn} {t : Nat} {os : OsState}
variable {nm q : Str} {C N : Addr} {bs bm bmB : List Value} {hdct : Bool} {sn : List Str} {sub : List Value} {ab : Bool} {col : Option Bool} {dd : Option Addr} {k0 k1 k2 k3 k5 : Option Value} {B newId initId : String}
end
section
variable {prog : Program} {w : World} {A : Around} {E : Value → Shared → Prop} {s : Shared} {env : Env}
variable {nm q : Str} {C N : Addr} {bs bm bmB : List Value} {hdct : Bool} {sn : List Str} {sub : List Value} {ab : Bool} {col : Option Bool} {dd : Option Addr} {k0 k1 k2 k3 k5 : Option Value} {B newId initId : String}
end
end L3
namespace L3
open PySem PySem.Spec PyProof.Rows L2
def qHt (K:PySem.W.Frag)(C f:Addr):Bool:=match K.lookup C with
 | some ⟨.type "type",_,.cls cd,sl⟩=>(match cd.mro,sl.toList with
  | .ref C'::bm,[_,_,_,_,some (.builtin n),_]=>C' == C && n == "ValueError.__new__" && !cd.hasDel && PySem.W.tailIn K qRw bm && PySem.W.nsOkIn K cd.ns && PySem.W.nsIn K cd.ns "__init__" == some (some (.ref f))
  | _,_=>false)
 | _=>false
structure XMk (K:PySem.W.Frag)(C D f:Addr):Prop where
 ov:qOw K C D=true
 hd:PySem.W.hasDictIn K C=true
 sa:PySem.W.findIn K (.ref C) "__setattr__"=some (some (.builtin "object.__setattr__"))
 ex:qHt K C f=true
 fn:PySem.W.isFn K (.ref f)=true
section
variable {X : Cx} {pins : List (Addr × Obj)} {σ : L2.St} {H : Hp} {s : Shared}
end
end L3
set_option maxRecDepth 100000
namespace L3
open PySem PySem.Spec PySem.Calls PyProof.Rows PySem.W
section
variable {prog : Program} {w : World} {A : Around} {E : Value → Shared → Prop} {K : Frag} {h : Heap} {g : Array GenState} {d : Drawn} {t : Nat} {os : OsState} {a D : Addr} {ox o : Obj} {name : Str} {v : Value}
end
end L3
namespace L3
open PySem PySem.Spec PyProof.Rows L2
end L3
set_option maxRecDepth 100000
namespace L3
open PySem PySem.Spec PyProof.Rows L2
inductive PHs (X:Cx):List ExceptHandler→List (Addr × Option Nat × TS)→Prop where
 | nil:PHs X [] []
 | cons {x:Str} {np hpos:Pos} {nm:Option Str} {i:Option Nat} {b₀:Stmt} {suite:List Stmt} {C:Addr} {ts:TS} {hs:List ExceptHandler} {cs:List (Addr × Option Nat × TS)} (hcl:qJy X nm i) (hg:Gl X x) (hm:X.mg x=some (.ref C))
  (h:∀ l ea,PSs (hdX (pnX X l) ea).nox (b₀::suite) ts) (r:PHs X hs cs) (hdb:(x == ("__debug__":Str))=false:=by decide):PHs X (.ExceptHandler (some (.Name x np)) nm (b₀::suite) hpos::hs) ((C,i,ts)::cs)
section
variable {X : Cx}
theorem qLf {bs:List Bool}{its:List Value}{P:Program}{w:World}{A:Around}(r:Vals (bs.map V.bl) its):TruthOf P w A (fun i v=>its.toArray[i]? =some v) (fun i=>(bs[i]?).getD false):=by
 intro i v s Q E hv hq
 have hv':its[i]? =some v:=by simpa using hv
 have hl:=r.length
 have hi:i < bs.length:=by
  have:=(List.getElem?_eq_some_iff.mp hv').1
  rw [List.length_map] at hl
  omega
 obtain⟨u,e1,q1⟩:=r.get (i:=i) (x:=.bl bs[i]) (by rw [List.getElem?_map,List.getElem?_eq_getElem hi];rfl)
 rw [hv'] at e1
 cases e1
 cases q1
 have e:(bs[i]?).getD false=bs[i]:=by rw [List.getElem?_eq_getElem hi];rfl
 have hq':Q ((bs[i]?).getD false) s:=hq
 rw [e] at hq'
 exact wpAny_truthy_bool hq'
theorem qJk (bs:List Bool):(List.range bs.length).all (fun i=>(bs[i]?).getD false)=bs.all id:=by
 rw [Bool.eq_iff_iff,List.all_eq_true,List.all_eq_true]
 constructor
 · intro h x hx
   obtain⟨i,hi,e⟩:=List.mem_iff_getElem.mp hx
   have:=h i (by simpa using hi)
   rw [List.getElem?_eq_getElem hi,e] at this
   exact this
 · intro h i hi
   have hi:i < bs.length:=by simpa using hi
   rw [List.getElem?_eq_getElem hi]
   exact h _ (List.getElem_mem hi)
theorem qDe (hc:X.calm=true):xX X (.builtin "all") (fun xs H Q=>∃ (p:Addr) (bs:List Bool),xs=[.ref p]∧SqL X.K H p (bs.map V.bl)∧Q (.bl (bs.all id)) H):=by
 intro pins s σ H xs us Q I r h
 obtain⟨p,bs,rfl,hq,q⟩:=h
 obtain⟨u,rfl,rx⟩:=kj r
 cases rx
 obtain⟨its,rv,pl,hz⟩:=I.list hq
 have hp:p≠s.heap.objs.size:=by
  obtain⟨o,n,e,_⟩:=pl
  exact Nat.ne_of_lt (Heap.lt_size e)
 have hh:X.A.in1.handled=none:=I.ok.hd hc
 have hl:its.toArray.size=bs.length:=by rw [List.size_toArray,← rv.length,List.length_map]
 refine call_all_walk (wpAny_pyIter_list pl.isList ?_)
 refine⟨s.heap.objs.size,_,_,_,_,_,_,rfl,Walks.list hh _ p hp its.toArray,⟨⟨_,Heap.get?_push_size _ rfl,rfl,rfl⟩,pl.isList.at fun o e=>Heap.get?_push_of_some _ e⟩,qLf rv,fun h' tk hk=>?_⟩
 rw [hl,qJk]
 refine⟨.bl _,H,I.kept fun b o e=>hk b o (fun z=>?_) (Heap.get?_push_of_some _ e),rfl,q⟩
 have z':b=s.heap.objs.size:=by simpa using z
 exact absurd (Heap.lt_size e) (by rw [z'];exact Nat.lt_irrefl _)
end
section
variable {X : Cx}
end
inductive D where
 | leaf (v:V)
 | tup (xs:List D)
 | lst (xs:List D)
mutual
def Rep (K:PySem.W.Frag)(H:Hp):D→V→Prop
 | .leaf v,x=>x=v∧vK v=true
 | .tup ds,x=>∃ p xs,x= .ref p∧SqT K H p xs∧Reps K H ds xs
 | .lst ds,x=>∃ p xs,x= .ref p∧SqL K H p xs∧Reps K H ds xs
def Reps (K:PySem.W.Frag)(H:Hp):List D→List V→Prop
 | [],[]=>True
 | d::ds,x::xs=>Rep K H d x∧Reps K H ds xs
 | _,_=>False
end
mutual
def eqD:D→D→Bool
 | .leaf v,.leaf w=>eqV v w
 | .tup xs,.tup ys=>xB xs ys
 | .lst xs,.lst ys=>xB xs ys
 | _,_=>false
def xB:List D→List D→Bool
 | [],[]=>true
 | x::xs,y::ys=>eqD x y && xB xs ys
 | _,_=>false
end
mutual
def dep:D→Nat
 | .leaf _=>0
 | .tup xs=>xk xs+1
 | .lst xs=>xk xs+1
def xk:List D→Nat
 | []=>0
 | x::xs=>max (dep x) (xk xs)
end
theorem Reps.length {K:PySem.W.Frag}{H:Hp}:∀ {ds:List D} {xs:List V},Reps K H ds xs→ds.length=xs.length
 | [],[],_=>rfl
 | _::_,_::_,h=>by
  unfold Reps at h
  rw [List.length_cons,List.length_cons,h.2.length]
 | [],_::_,h=>by unfold Reps at h;exact h.elim
 | _::_,[],h=>by unfold Reps at h;exact h.elim
theorem qKn {v:V}(h:vK v=true):eqV v v=true:=by
 cases v <;> simp_all [vK,eqV]
theorem wU:∀ {xs ys:List D},xB xs ys=true→xs.length=ys.length
 | [],[],_=>rfl
 | x::xs,y::ys,h=>by
  unfold xB at h
  rw [Bool.and_eq_true] at h
  rw [List.length_cons,List.length_cons,wU h.2]
 | [],_::_,h=>by simp [xB] at h
 | _::_,[],h=>by simp [xB] at h
def itE (xs ys:List D)(j:Nat):Bool:=match xs[j]?,ys[j]? with
 | some a,some b=>eqD a b
 | _,_=>false
theorem qC6:∀ (xs ys:List D),((List.range (min xs.length ys.length)).all (itE xs ys) && xs.length == ys.length)=xB xs ys
 | [],[]=>by simp [xB]
 | [],y::ys=>by simp [xB]
 | x::xs,[]=>by simp [xB]
 | x::xs,y::ys=>by
  have ih:=qC6 xs ys
  have e:min (x::xs).length (y::ys).length=min xs.length ys.length+1:=by simp only [List.length_cons];omega
  rw [e,List.range_succ_eq_map,List.all_cons,List.all_map]
  have e2:(itE (x::xs) (y::ys)) ∘ Nat.succ=itE xs ys:=by
   funext j
   simp [itE]
  have e3:itE (x::xs) (y::ys) 0=eqD x y:=by simp [itE]
  have e4:((x::xs).length == (y::ys).length)=(xs.length == ys.length):=by
   rw [Bool.eq_iff_iff];simp
  rw [e2,e3,e4,Bool.and_assoc,ih]
  conv=>rhs;unfold xB
theorem qEk {xs ys:List D}(h:xs.length=ys.length):(List.range xs.length).all (itE xs ys)=xB xs ys:=by
 have:=qC6 xs ys
 rw [← h,Nat.min_self] at this
 simpa using this
section
variable {X : Cx} {pins : List (Addr × Obj)} {σ : L2.St} {H : Hp} {s : Shared}
mutual
theorem qBx (I:Inv X pins σ H s):∀ (d e:D) {x:V},Rep X.K H d x→Rep X.K H e x→eqD d e=true
 | .leaf v,.leaf w,x,h1,h2=>by
  unfold Rep at h1 h2
  obtain⟨rfl,f⟩:=h1
  obtain⟨rfl,_⟩:=h2
  unfold eqD
  exact qKn f
 | .leaf v,.tup ds,x,h1,h2=>by
  unfold Rep at h1 h2
  obtain⟨rfl,f⟩:=h1
  obtain⟨p,xs,rfl,_⟩:=h2
  cases f
 | .leaf v,.lst ds,x,h1,h2=>by
  unfold Rep at h1 h2
  obtain⟨rfl,f⟩:=h1
  obtain⟨p,xs,rfl,_⟩:=h2
  cases f
 | .tup ds,.leaf w,x,h1,h2=>by
  unfold Rep at h1 h2
  obtain⟨rfl,f⟩:=h2
  obtain⟨p,xs,rfl,_⟩:=h1
  cases f
 | .lst ds,.leaf w,x,h1,h2=>by
  unfold Rep at h1 h2
  obtain⟨rfl,f⟩:=h2
  obtain⟨p,xs,rfl,_⟩:=h1
  cases f
 | .tup ds,.tup es,x,h1,h2=>by
  unfold Rep at h1 h2
  obtain⟨p,xs,rfl,t1,r1⟩:=h1
  obtain⟨q,ys,e,t2,r2⟩:=h2
  cases e
  rw [I.tuple_inj t1 t2] at r1
  unfold eqD
  exact wY I ds es r1 r2
 | .lst ds,.lst es,x,h1,h2=>by
  unfold Rep at h1 h2
  obtain⟨p,xs,rfl,t1,r1⟩:=h1
  obtain⟨q,ys,e,t2,r2⟩:=h2
  cases e
  rw [I.list_inj t1 t2] at r1
  unfold eqD
  exact wY I ds es r1 r2
 | .tup ds,.lst es,x,h1,h2=>by
  unfold Rep at h1 h2
  obtain⟨p,xs,rfl,t1,r1⟩:=h1
  obtain⟨q,ys,e,t2,r2⟩:=h2
  cases e
  obtain⟨_,_,i1,_⟩:=I.tuple t1
  obtain⟨_,_,i2,_⟩:=I.list t2
  exact(SeqAt.ne_of_list_tuple i2.isList i1 rfl).elim
 | .lst ds,.tup es,x,h1,h2=>by
  unfold Rep at h1 h2
  obtain⟨p,xs,rfl,t1,r1⟩:=h1
  obtain⟨q,ys,e,t2,r2⟩:=h2
  cases e
  obtain⟨_,_,i1,_⟩:=I.list t1
  obtain⟨_,_,i2,_⟩:=I.tuple t2
  exact(SeqAt.ne_of_list_tuple i1.isList i2 rfl).elim
theorem wY (I:Inv X pins σ H s):∀ (ds es:List D) {xs:List V},Reps X.K H ds xs→Reps X.K H es xs→xB ds es=true
 | [],[],_,_,_=>by simp [xB]
 | d::ds,e::es,[],h1,_=>by unfold Reps at h1;exact h1.elim
 | d::ds,e::es,x::xs,h1,h2=>by
  unfold Reps at h1 h2
  unfold xB
  rw [qBx I d e h1.1 h2.1,wY I ds es h1.2 h2.2]
  rfl
 | [],e::es,[],_,h2=>by unfold Reps at h2;exact h2.elim
 | [],e::es,_::_,h1,_=>by unfold Reps at h1;exact h1.elim
 | d::ds,[],[],h1,_=>by unfold Reps at h1;exact h1.elim
 | d::ds,[],_::_,_,h2=>by unfold Reps at h2;exact h2.elim
end
theorem zq {A:Around}{x:V}{u:Value}{p:Addr}{its:Array Value}(f:vK x=true)(r:RelV x u)(hu:A.units < cLine)(h:s.heap.IsTuple p its∨s.heap.IsList p its):SeqAt.EqAt A s u (.ref p) false∧SeqAt.EqAt A s (.ref p) u false:=by
 cases x with
 | non=>cases r;rcases h with h | h <;> exact⟨by first | exact SeqAt.EqAt.none_tuple h hu | exact SeqAt.EqAt.none_list h hu,by first | exact SeqAt.EqAt.tuple_none h hu | exact SeqAt.EqAt.list_none h hu⟩
 | bl b=>cases r;rcases h with h | h <;> exact⟨by first | exact SeqAt.EqAt.bool_tuple _ h hu | exact SeqAt.EqAt.bool_list _ h hu,by first | exact SeqAt.EqAt.tuple_bool _ h hu | exact SeqAt.EqAt.list_bool _ h hu⟩
 | int i=>obtain⟨t,rfl⟩:=r;rcases h with h | h <;> exact⟨by first | exact SeqAt.EqAt.int_tuple _ _ h hu | exact SeqAt.EqAt.int_list _ _ h hu,by first | exact SeqAt.EqAt.tuple_int _ _ h hu | exact SeqAt.EqAt.list_int _ _ h hu⟩
 | str i=>obtain⟨t,rfl⟩:=r;rcases h with h | h <;> exact⟨by first | exact SeqAt.EqAt.str_tuple _ _ h hu | exact SeqAt.EqAt.str_list _ _ h hu,by first | exact SeqAt.EqAt.tuple_str _ _ h hu | exact SeqAt.EqAt.list_str _ _ h hu⟩
 | _=>cases f
theorem Reps.get {K:PySem.W.Frag}{H:Hp}:∀ {ds:List D} {xs:List V},Reps K H ds xs→∀ (j:Nat) (d:D),ds[j]? =some d→∃ x,xs[j]? =some x∧Rep K H d x
 | [],[],_,j,d,e=>by simp at e
 | a::ds,x::xs,h,0,d,e=>by
  unfold Reps at h
  have:a=d:=by simpa using e
  subst this
  exact⟨x,rfl,h.1⟩
 | a::ds,x::xs,h,j+1,d,e=>by
  unfold Reps at h
  exact h.2.get j d (by simpa using e)
 | [],_::_,h,_,_,_=>by unfold Reps at h;exact h.elim
 | _::_,[],h,_,_,_=>by unfold Reps at h;exact h.elim
theorem qBo:∀ {ds:List D} {j:Nat} {d:D},ds[j]? =some d→dep d≤xk ds
 | a::ds,0,d,e=>by
  have:a=d:=by simpa using e
  subst this
  unfold xk
  exact Nat.le_max_left _ _
 | a::ds,j+1,d,e=>by
  have:=qBo (ds:=ds) (j:=j) (d:=d) (by simpa using e)
  unfold xk
  exact Nat.le_trans this (Nat.le_max_right _ _)
 | [],_,_,e=>by simp at e
theorem qI1 {A:Around}{ds es:List D}{xs ys:List V}{us ws:List Value}(r1:Reps X.K H ds xs)(r2:Reps X.K H es ys)(v1:Vals xs us)(v2:Vals ys ws)
 (ih:∀ d e x y u w,d∈ds→Rep X.K H d x→Rep X.K H e y→RelV x u→RelV y w→SeqAt.EqAt A s u w (eqD d e)):
 ∀ j (h1:j < us.toArray.size) (h2:j < ws.toArray.size),SeqAt.EqAt A s us.toArray[j] ws.toArray[j] (itE ds es j):=by
 intro j h1 h2
 have l1:=v1.length
 have l2:=v2.length
 have m1:=r1.length
 have m2:=r2.length
 rw [List.size_toArray] at h1 h2
 have g1:ds[j]? =some ds[j]:=List.getElem?_eq_getElem (by omega)
 have g2:es[j]? =some es[j]:=List.getElem?_eq_getElem (by omega)
 obtain⟨x,ex,rx⟩:=r1.get j _ g1
 obtain⟨y,ey,ry⟩:=r2.get j _ g2
 obtain⟨u,eu,qu⟩:=v1.get ex
 obtain⟨w,ew,qw⟩:=v2.get ey
 have c1:us.toArray[j]=u:=by
  have:=(List.getElem?_eq_some_iff.mp eu).2
  simpa using this
 have c2:ws.toArray[j]=w:=by
  have:=(List.getElem?_eq_some_iff.mp ew).2
  simpa using this
 have e:itE ds es j=eqD ds[j] es[j]:=by unfold itE;rw [g1,g2]
 rw [c1,c2,e]
 exact ih _ _ _ _ _ _ (List.getElem_mem _) rx ry qu qw
theorem qMu (I:Inv X pins σ H s):∀ (n:Nat) (A:Around) (d e:D) (x y:V) (u w:Value),dep d≤n→A.units+n < cLine→Rep X.K H d x→Rep X.K H e y→RelV x u→RelV y w→SeqAt.EqAt A s u w (eqD d e):=by
 intro n
 induction n with
 | zero=>
  intro A d e x y u w hd hu r1 r2 q1 q2
  cases d with
  | leaf v=>
   unfold Rep at r1
   obtain⟨rfl,f1⟩:=r1
   cases e with
   | leaf v'=>
    unfold Rep at r2
    obtain⟨rfl,f2⟩:=r2
    unfold eqD
    exact qIj q1 q2 f1 f2
   | tup es=>
    unfold Rep at r2
    obtain⟨p,ys,rfl,t,_⟩:=r2
    cases q2
    obtain⟨_,_,i,_⟩:=I.tuple t
    unfold eqD
    exact(zq f1 q1 hu (.inl i)).1
   | lst es=>
    unfold Rep at r2
    obtain⟨p,ys,rfl,t,_⟩:=r2
    cases q2
    obtain⟨_,_,i,_⟩:=I.list t
    unfold eqD
    exact(zq f1 q1 hu (.inr i.isList)).1
  | tup ds=>unfold dep at hd;omega
  | lst ds=>unfold dep at hd;omega
 | succ n ih=>
  intro A d e x y u w hd hu r1 r2 q1 q2
  have hu0:A.units < cLine:=by omega
  have hu1:A.in1.units+n < cLine:=by show A.units+1+n < cLine;omega
  cases d with
  | leaf v=>
   unfold Rep at r1
   obtain⟨rfl,f1⟩:=r1
   cases e with
   | leaf v'=>
    unfold Rep at r2
    obtain⟨rfl,f2⟩:=r2
    unfold eqD
    exact qIj q1 q2 f1 f2
   | tup es=>
    unfold Rep at r2
    obtain⟨p,ys,rfl,t,_⟩:=r2
    cases q2
    obtain⟨_,_,i,_⟩:=I.tuple t
    unfold eqD
    exact(zq f1 q1 hu0 (.inl i)).1
   | lst es=>
    unfold Rep at r2
    obtain⟨p,ys,rfl,t,_⟩:=r2
    cases q2
    obtain⟨_,_,i,_⟩:=I.list t
    unfold eqD
    exact(zq f1 q1 hu0 (.inr i.isList)).1
  | tup ds=>
   have r1':=r1
   unfold Rep at r1
   obtain⟨p,xs,rfl,t1,s1⟩:=r1
   cases q1
   obtain⟨us,v1,i1,_⟩:=I.tuple t1
   cases e with
   | leaf v'=>
    unfold Rep at r2
    obtain⟨rfl,f2⟩:=r2
    unfold eqD
    exact(zq f2 q2 hu0 (.inl i1)).2
   | lst es=>
    unfold Rep at r2
    obtain⟨q,ys,rfl,t2,_⟩:=r2
    cases q2
    obtain⟨_,_,i2,_⟩:=I.list t2
    unfold eqD
    exact SeqAt.EqAt.tuple_list i1 i2.isList hu0
   | tup es=>
    have r2':=r2
    unfold Rep at r2
    obtain⟨q,ys,rfl,t2,s2⟩:=r2
    cases q2
    by_cases pq:p=q
    · subst pq
      rw [qBx I _ _ r1' r2']
      exact SeqAt.EqAt.same _
    obtain⟨ws,v2,i2,_⟩:=I.tuple t2
    have hdd:xk ds≤n:=by unfold dep at hd;omega
    have:=SeqAt.EqAt.of_refs pq (SeqAt.RcAt.tuples i1 i2 hu0 (qI1 s1 s2 v1 v2 fun d e x y u w hm ra rb qa qb=>by
     obtain⟨j,hj,ej⟩:=List.mem_iff_getElem.mp hm
     have hde:dep d≤xk ds:=qBo (j:=j) (by rw [List.getElem?_eq_getElem hj,ej])
     exact ih A.in1 d e x y u w (by omega) hu1 ra rb qa qb))
    rw [List.size_toArray,List.size_toArray,← v1.length,← v2.length,← s1.length,← s2.length,qC6] at this
    unfold eqD
    exact this
  | lst ds=>
   have r1':=r1
   unfold Rep at r1
   obtain⟨p,xs,rfl,t1,s1⟩:=r1
   cases q1
   obtain⟨us,v1,i1,_⟩:=I.list t1
   cases e with
   | leaf v'=>
    unfold Rep at r2
    obtain⟨rfl,f2⟩:=r2
    unfold eqD
    exact(zq f2 q2 hu0 (.inr i1.isList)).2
   | tup es=>
    unfold Rep at r2
    obtain⟨q,ys,rfl,t2,_⟩:=r2
    cases q2
    obtain⟨_,_,i2,_⟩:=I.tuple t2
    unfold eqD
    exact SeqAt.EqAt.list_tuple i1.isList i2 hu0
   | lst es=>
    have r2':=r2
    unfold Rep at r2
    obtain⟨q,ys,rfl,t2,s2⟩:=r2
    cases q2
    by_cases pq:p=q
    · subst pq
      rw [qBx I _ _ r1' r2']
      exact SeqAt.EqAt.same _
    obtain⟨ws,v2,i2,_⟩:=I.list t2
    have hdd:xk ds≤n:=by unfold dep at hd;omega
    unfold eqD
    by_cases hl:ds.length=es.length
    · have hsz:us.toArray.size=ws.toArray.size:=by rw [List.size_toArray,List.size_toArray,← v1.length,← v2.length,← s1.length,← s2.length];exact hl
      have:=SeqAt.EqAt.of_refs pq (SeqAt.RcAt.lists i1.isList i2.isList hsz hu0 (qI1 s1 s2 v1 v2 fun d e x y u w hm ra rb qa qb=>by
       obtain⟨j,hj,ej⟩:=List.mem_iff_getElem.mp hm
       have hde:dep d≤xk ds:=qBo (j:=j) (by rw [List.getElem?_eq_getElem hj,ej])
       exact ih A.in1 d e x y u w (by omega) hu1 ra rb qa qb))
      rw [List.size_toArray,← v1.length,← s1.length,qEk hl] at this
      exact this
    · have hsz:(us.toArray.size != ws.toArray.size)=true:=by
       rw [List.size_toArray,List.size_toArray,← v1.length,← v2.length,← s1.length,← s2.length]
       simpa using hl
      have e:xB ds es=false:=by
       rw [Bool.eq_false_iff]
       intro z
       exact hl (wU z)
      rw [e]
      exact SeqAt.EqAt.of_refs pq (SeqAt.RcAt.lists_lengths i1.isList i2.isList hsz hu0)
def kin:D→D→Bool
 | .tup _,.tup _=>true
 | .lst _,.lst _=>true
 | _,_=>false
inductive qHs (K:PySem.W.Frag)(neg:Bool)(x:V)(y:V)(H:Hp)(Q:VK):Prop
| mk (d e:D) (_:Rep K H d x) (_:Rep K H e y) (_:kin d e=true) (_:dep d≤60) (_:Q (.bl (if neg then !eqD d e else eqD d e)) H)
theorem zl {A:Around}(I:Inv X pins σ H s)(hu:A.units+64 < cLine){ds es:List D}{xs ys:List V}{us ws:List Value}(hd:xk ds≤60)(s1:Reps X.K H ds xs)(s2:Reps X.K H es ys)(v1:Vals xs us)(v2:Vals ys ws):
 ∀ j (h1:j < us.toArray.size) (h2:j < ws.toArray.size),SeqAt.EqAt A.in1 s us.toArray[j] ws.toArray[j] (itE ds es j):=
 qI1 s1 s2 v1 v2 fun d e x y u w hm ra rb qa qb=>by
  obtain⟨j,hj,ej⟩:=List.mem_iff_getElem.mp hm
  have hde:dep d≤xk ds:=qBo (j:=j) (by rw [List.getElem?_eq_getElem hj,ej])
  exact qMu I 60 A.in1 d e x y u w (by omega) (by show A.units+1+60 < cLine;omega) ra rb qa qb
theorem qIy (hu:X.A.units+64 < cLine):OpR X (compareOp .Eq) (qHs X.K false):=by
 intro pins s σ H x y v u Q I rx ry h
 obtain⟨d,e,r1,r2,hk,hd,q⟩:=h
 have hu0:X.A.units < cLine:=by omega
 cases d with
 | leaf a=>cases e <;> cases hk
 | tup ds=>
  cases e with
  | leaf b=>cases hk
  | lst es=>cases hk
  | tup es=>
   unfold Rep at r1 r2
   obtain⟨p,xs,rfl,t1,s1⟩:=r1
   obtain⟨p',ys,rfl,t2,s2⟩:=r2
   cases rx;cases ry
   obtain⟨us,v1,i1,_⟩:=I.tuple t1
   obtain⟨ws,v2,i2,_⟩:=I.tuple t2
   refine SeqAt.eq_tupleAt i1 i2 hu0 (zl I hu (by unfold dep at hd;omega) s1 s2 v1 v2) ?_
   rw [List.size_toArray,List.size_toArray,← v1.length,← v2.length,← s1.length,← s2.length,qC6]
   refine⟨.bl _,H,I,rfl,?_⟩
   unfold eqD at q
   exact q
 | lst ds=>
  cases e with
  | leaf b=>cases hk
  | tup es=>cases hk
  | lst es=>
   unfold Rep at r1 r2
   obtain⟨p,xs,rfl,t1,s1⟩:=r1
   obtain⟨p',ys,rfl,t2,s2⟩:=r2
   cases rx;cases ry
   obtain⟨us,v1,i1,_⟩:=I.list t1
   obtain⟨ws,v2,i2,_⟩:=I.list t2
   unfold eqD at q
   by_cases hl:ds.length=es.length
   · have hsz:us.toArray.size=ws.toArray.size:=by rw [List.size_toArray,List.size_toArray,← v1.length,← v2.length,← s1.length,← s2.length];exact hl
     refine SeqAt.eq_listAt i1.isList i2.isList hsz hu0 (zl I hu (by unfold dep at hd;omega) s1 s2 v1 v2) ?_
     rw [List.size_toArray,← v1.length,← s1.length,qEk hl]
     exact⟨.bl _,H,I,rfl,q⟩
   · have hsz:(us.toArray.size != ws.toArray.size)=true:=by
      rw [List.size_toArray,List.size_toArray,← v1.length,← v2.length,← s1.length,← s2.length]
      simpa using hl
     have e:xB ds es=false:=by
      rw [Bool.eq_false_iff]
      intro z
      exact hl (wU z)
     rw [e] at q
     exact SeqAt.eq_list_lengthsAt i1.isList i2.isList hsz hu0 ⟨.bl _,H,I,rfl,q⟩
theorem qDu (hu:X.A.units+64 < cLine):OpR X (compareOp .NotEq) (qHs X.K true):=by
 intro pins s σ H x y v u Q I rx ry h
 obtain⟨d,e,r1,r2,hk,hd,q⟩:=h
 have hu0:X.A.units < cLine:=by omega
 cases d with
 | leaf a=>cases e <;> cases hk
 | tup ds=>
  cases e with
  | leaf b=>cases hk
  | lst es=>cases hk
  | tup es=>
   unfold Rep at r1 r2
   obtain⟨p,xs,rfl,t1,s1⟩:=r1
   obtain⟨p',ys,rfl,t2,s2⟩:=r2
   cases rx;cases ry
   obtain⟨us,v1,i1,_⟩:=I.tuple t1
   obtain⟨ws,v2,i2,_⟩:=I.tuple t2
   refine SeqAt.RcNeAt.tuples i1 i2 hu0 (zl I hu (by unfold dep at hd;omega) s1 s2 v1 v2) _ _ _ _ ?_
   rw [List.size_toArray,List.size_toArray,← v1.length,← v2.length,← s1.length,← s2.length,qC6]
   refine⟨.bl _,H,I,rfl,?_⟩
   unfold eqD at q
   exact q
 | lst ds=>
  cases e with
  | leaf b=>cases hk
  | tup es=>cases hk
  | lst es=>
   unfold Rep at r1 r2
   obtain⟨p,xs,rfl,t1,s1⟩:=r1
   obtain⟨p',ys,rfl,t2,s2⟩:=r2
   cases rx;cases ry
   obtain⟨us,v1,i1,_⟩:=I.list t1
   obtain⟨ws,v2,i2,_⟩:=I.list t2
   unfold eqD at q
   by_cases hl:ds.length=es.length
   · have hsz:us.toArray.size=ws.toArray.size:=by rw [List.size_toArray,List.size_toArray,← v1.length,← v2.length,← s1.length,← s2.length];exact hl
     refine SeqAt.RcNeAt.lists i1.isList i2.isList hsz hu0 (zl I hu (by unfold dep at hd;omega) s1 s2 v1 v2) _ _ _ _ ?_
     rw [List.size_toArray,← v1.length,← s1.length,qEk hl]
     exact⟨.bl _,H,I,rfl,q⟩
   · have hsz:(us.toArray.size != ws.toArray.size)=true:=by
      rw [List.size_toArray,List.size_toArray,← v1.length,← v2.length,← s1.length,← s2.length]
      simpa using hl
     have e:xB ds es=false:=by
      rw [Bool.eq_false_iff]
      intro z
      exact hl (wU z)
     rw [e] at q
     exact SeqAt.RcNeAt.lists_lengths i1.isList i2.isList hsz hu0 _ _ _ _ ⟨.bl _,H,I,rfl,q⟩
end
end L3
namespace L3
open PySem PySem.Spec PyProof.Rows L2
def CompEndF (js:List Nat)(tc:TT)(te:TE)(σ:L2.St)(Q:VK)(J:It)(H1:Hp):Prop:=∃ W:Nat→Nat→List V→Hp→Prop,(∃ m,W 0 m [] H1)∧∀ i m acc H2,W i m acc H2→
 acc.length < sizeLine∧((J.stop i H2∧∀ D,H2 D=none→Q (.ref D) (upd H2 D (.lst acc)))∨
  (J.go i H2∧∀ x H3,J.yld i H2 x H3→tc (some x::kc js σ) H3 fun ok H4=>if ok=true then te (some x::kc js σ) H4 fun v H5=>∃ m',m' < m∧W (i+1) m' (acc++[v]) H5 else ∃ m',m' < m∧W (i+1) m' acc H4))
def qMs (js:List Nat)(wi:TI)(tc:TT)(te:TE):TE:=fun σ H Q=>wi σ H (CompEndF js tc te σ Q)
theorem CompEndF.g {js:List Nat}{tc:TT}{te:TE}(σ:L2.St)(Q:VK)(J:It)(H1:Hp):CompEndF js tc te σ Q J H1→zB 1 js (zH 0) tc te σ Q J H1:=fun⟨W,w0,st⟩=>
 ⟨W,w0,fun i m acc H2 w=>⟨(st i m acc H2 w).1,(st i m acc H2 w).2.imp id fun⟨go,y⟩=>⟨go,fun x H3 z=>⟨[some x],rfl,rfl,y x H3 z⟩⟩⟩⟩
theorem qLx {X:Cx}{elt iter cnd:Expr}{x:Str}{px:Pos}{scope:Scope}{cl:List (Str × Addr)}{pos:Pos}{wi:TI}{tc:TT}{te:TE}(ys:List Str)(js:List Nat)
 (hcm:X.calm=true) (hi:PI X (.Name x px) iter wi) (hc:∀ C s H fp,PT (q9 X scope cl C (x::ys) s H fp).nox cnd tc) (he:∀ C s H fp,PE (q9 X scope cl C (x::ys) s H fp).nox elt te) (hx:scope.names.lookup x=some .local:=by rfl) (hC:COk X scope cl iter [x] ys js:=by exact⟨rfl,rfl,rfl,rfl,rfl,rfl,rfl,rfl,fun _=>rfl,by decide⟩):PE X (.ListComp elt [⟨.Name x px,iter,[cnd],0⟩] scope pos) (qMs js wi tc te):=
 qB7 (xs:=[x]) (T:=CompEndF js tc te) hcm hi (fun _ _ _ _=>ql (i:=0) hC.nd rfl (.inl (lookup_relabel_local hx)) (.inr (lookup_relabel_local hx))) (fun C s H fp=>qEx (hc C s H fp)) he hC CompEndF.g
theorem qKy {X:Cx}{elt iter cnd:Expr}{x:Str}{px:Pos}{scope:Scope}{cl:List (Str × Addr)}{pos:Pos}{wi:TI}{tc:TT}{te:TE}(ys:List Str)(js:List Nat){i:Nat}{y:Str}{py spos:Pos}(hN:X.N.Nodup)(hi':X.N[i]? =some y)(hy:X.env.kindOf y=some .local)
 (hcm:X.calm=true) (hi:PI X (.Name x px) iter wi) (hc:∀ C s H fp,PT (q9 X scope cl C (x::ys) s H fp).nox cnd tc) (he:∀ C s H fp,PE (q9 X scope cl C (x::ys) s H fp).nox elt te) (hx:scope.names.lookup x=some .local:=by rfl) (hC:COk X scope cl iter [x] ys js:=by exact⟨rfl,rfl,rfl,rfl,rfl,rfl,rfl,rfl,fun _=>rfl,by decide⟩) (hsw:swapsWith (.ListComp elt [⟨.Name x px,iter,[cnd],0⟩] scope pos) (some (.Name y py)) spos.line X.env=pure true:=by rfl):PS X (.Assign [.Name y py] (.ListComp elt [⟨.Name x px,iter,[cnd],0⟩] scope pos) spos) (qNx (qMs js wi tc te) (zH i)):=
 qCa (xs:=[x]) (T:=CompEndF js tc te) hN hi' hy hcm hi (fun _ _ _ _=>ql (i:=0) hC.nd rfl (.inl (lookup_relabel_local hx)) (.inr (lookup_relabel_local hx))) (fun C s H fp=>qEx (hc C s H fp)) he hC CompEndF.g hsw
theorem qGu {K:PySem.W.Frag}{a:Addr}{xs:List V}{js:List Nat}{tc:TT}{te:TE}{σ:L2.St}{H:Hp}{Q:VK}(Pv:Nat→List V→Hp→Prop)(h0:Pv 0 [] H)(hl:∀ i acc H,i≤xs.length→Pv i acc H→SqL K H a xs∧acc.length < sizeLine)
 (hs:∀ i x acc H,i < xs.length→xs[i]? =some x→Pv i acc H→tc (some x::kc js σ) H fun ok H'=>if ok=true then te (some x::kc js σ) H' fun v H''=>Nxt xs.length i (Pv (i+1) (acc++[v]) H'') else Nxt xs.length i (Pv (i+1) acc H')) (hd:∀ acc H,Pv xs.length acc H→∀ D,H D=none→Q (.ref D) (upd H D (.lst acc))):CompEndF js tc te σ Q (Itl K a) H:=by
 refine⟨fun i m acc H=>m=xs.length - i∧i≤xs.length∧Pv i acc H,⟨xs.length,by simp,Nat.zero_le _,h0⟩,?_⟩
 rintro i m acc H2 ⟨rfl,hi,p⟩
 obtain⟨q,hz⟩:=hl i acc H2 hi p
 refine⟨hz,?_⟩
 by_cases hlt:i < xs.length
 · refine .inr ⟨⟨xs,xs[i],q,by simp [hlt]⟩,fun x H3 y=>?_⟩
   obtain⟨e,y⟩:=y
   subst e
   exact hs i x acc _ hlt (y xs q) p
 · have e:i=xs.length:=by omega
   subst e
   exact .inl ⟨⟨xs,q,Nat.le_refl _⟩,hd acc H2 p⟩
theorem qId {X:Cx}{pins:List (Addr × Obj)}{σ:L2.St}{H:Hp}{s:Shared}{h':Heap}{t':Nat}{ch:List Addr}(I:Inv X pins σ H s)(hf:∀ b∈ch,qLc X pins H b)
 (k:∀ b o,b ∉ ch→s.heap.get? b=some o→h'.get? b=some o):Inv X pins σ H {s with heap:=h',toks:=t'}:=by
 have nit:∀ b u,H b=some u→b ∉ ch:=fun b u e z=>by rw [(hf b z).1] at e;cases e
 refine I.step (g':=s.gens) (d':=s.drawn) (ch:=ch) (fun b hb=>?_) (fun b o _ _ hc e _=>k b o hc e) (fun b o _ _ hc e _=>⟨o.slots,k b o hc e⟩) (fun _ _ _ _ n=>n)
  (fun b o hc e=>⟨o,k b o hc e⟩) (fun _ _ e=>e) (fun _ _ _ e=>e) (fun b ps e=>⟨#[],by rw [e];simp⟩) (fun m hm=>?_) (fun b u e=>?_) I.bare
 · obtain⟨_,f1,_,f3,f4,f5⟩:=hf b hb
   exact⟨f3,f1,f4,f5⟩
 · obtain⟨o,es,ep,ho,r⟩:=hm
   exact⟨o,es,ep,k _ o (fun z=>(hf _ z).2.1 rfl) ho,r⟩
 · refine(I.hok b u e).stay (fun c v hc q=>k c v ?_ q) (fun _ q=>q) fun _ _ q=>q
   rcases hc with z | z
   · rw [z];exact nit b u e
   · exact nit c _ z
theorem qMd {X:Cx}{pins:List (Addr × Obj)}{σ:L2.St}{H:Hp}{s:Shared}{h':Heap}{t':Nat}{ch:List Addr}{xs:List V}{us:Array Value}(I:Inv X pins σ H s)(hf:∀ b∈ch,qLc X pins H b)(hlt:∀ b∈ch,b < s.heap.objs.size)
 (k:∀ b o,b ∉ ch→s.heap.get? b=some o→h'.get? b=some o) (hT:h'.get? s.heap.objs.size=some {cls:=.type "tuple",data:=.seq us}) (r:Vals xs us.toList) (hz:xs.length≤sizeLine):
 Inv X pins σ (upd H s.heap.objs.size (.tup xs)) {s with heap:=h',toks:=t'}∧∀ b∈ch,upd H s.heap.objs.size (.tup xs) b=none:=by
 have hn:∀ b∈ch,upd H s.heap.objs.size (.tup xs) b=none:=fun b hb=>by
  rw [qX (Nat.ne_of_lt (hlt b hb))];exact(hf b hb).1
 have I1:Inv X pins σ (upd H s.heap.objs.size (.tup xs)) {s with heap:=s.heap.push {cls:=.type "tuple",data:=.seq us},toks:=t'}:=
  I.laid (t':=t') (fun b o e=>Heap.get?_push_of_some _ e) (Nat.le_refl _) ⟨hz,us.toList,r,⟨_,Heap.get?_push_size _ rfl,rfl,_,rfl⟩⟩
 have I2:=qId (h':=h') (t':=t') (ch:=ch) I1 (fun b hb=>⟨hn b hb,(hf b hb).2⟩) (fun b o hb e=>?_)
 · exact⟨I2,hn⟩
 rcases Heap.get?_push_cases e with ⟨e1,e2⟩ | e1
 · rw [e1,e2];exact hT
 · exact k b o hb e1
def Ite (K:PySem.W.Frag)(a:Addr):It:=
 ⟨fun i H=>∃ xs x,SqL K H a xs∧xs[i]? =some x,fun i H x H'=>∃ p v,H p=none∧x= .ref p∧(∀ xs,SqL K H a xs→xs[i]? =some v)∧H'=upd H p (.tup [.int i,v]),fun i H=>∃ xs,SqL K H a xs∧xs.length≤i⟩
theorem qKe {P:Program}{w:World}{K:PySem.W.Frag}{elts:List Expr}{k1:Nat}{pos:Pos}(a e it:Addr)(hne:e≠it):
 qOj P w K (.Tuple elts k1 pos) (Ite K a) [e,it] e (fun i h=>(∃ old,IsEnum h e it (i:Nat) old)∧h.IsListIter it a i) where
 mem:=by simp
 obj:=fun i h st b hb=>by
  obtain⟨⟨old,he⟩,o,ho,c,d⟩:=st
  rcases List.mem_cons.mp hb with rfl | hb
  · exact⟨_,he,fun v z=>by cases z⟩
  · have e:b=it:=by simpa using hb
    subst e
    exact⟨o,ho,fun v z=>by rw [d] at z;cases z⟩
 keep:=fun i h h' st k=>by
  obtain⟨⟨old,he⟩,hi⟩:=st
  exact⟨⟨old,k e (by simp) _ he⟩,hi.at fun o q=>k it (by simp) o q⟩
 item:=by
  intro X hP hw hK hc i pins s σ H E I hf st hg
  subst hP hw hK
  obtain⟨⟨old,he⟩,hit⟩:=st
  obtain⟨xs,x,hq,hx⟩:=hg
  obtain⟨its,rv,p,hz⟩:=I.list hq
  obtain⟨u,hu,ru⟩:=rv.get hx
  refine wpAny_pyNext_enum_item he hit p.isList (x:=u) (by simpa using hu) hne fun h' heo hit' hT hsz hk=>?_
  refine⟨_,rfl,wpAny_letOwnedTupleGo_enum heo fun h'' he'' hs''=>?_⟩
  have hel:e < s.heap.objs.size:=Heap.lt_size he
  have hil:it < s.heap.objs.size:=by obtain⟨_,q,_⟩:=hit;exact Heap.lt_size q
  have T:=qMd (h':=h'') (t':=s.toks+1) (ch:=[e,it]) (xs:=[.int i,x]) (us:=#[.int i s.toks,u]) I hf (fun b hb=>by
   rcases List.mem_cons.mp hb with rfl | hb
   · exact hel
   · have z:b=it:=by simpa using hb
     subst z;exact hil)
   (fun b o hb q=>(hs''.2 b (fun z=>hb (by simp [z]))).trans (hk b o (fun z=>hb (by simp [z])) (fun z=>hb (by simp [z])) q))
   ((hs''.2 _ (Nat.ne_of_gt hel)).trans hT) (.cons ⟨_,rfl⟩ (.cons ru .nil)) (by show 2≤sizeLine;decide)
  refine⟨.ref s.heap.objs.size,_,T.1,rfl,⟨_,x,I.hok.fresh (Nat.le_refl _),rfl,fun ys hy=>by rw [I.list_inj hy hq];exact hx,rfl⟩,⟨⟨u,by simpa using he''⟩,hit'.at fun o q=>(hs''.2 it hne.symm).trans q⟩,T.2⟩
 done:=by
  intro X hP hw hK hc i pins s σ H E I hf st hg
  subst hP hw hK
  obtain⟨⟨old,he⟩,hit⟩:=st
  obtain⟨xs,hq,hx⟩:=hg
  obtain⟨its,rv,p,hz⟩:=I.list hq
  obtain⟨f0,f1,f2,f3,f4,f5⟩:=hf it (by simp)
  have hl:=rv.length
  exact wpAny_pyNext_enum_end (I.ok.hd hc) he hit p.isList (by simp;omega) fun h' eb=>⟨rfl,I.turned (t':=s.toks) (fun b o hb e=>eb b o hb e) f0 f1 f3 f4 f5⟩
 self:=fun _ _ _ _ _ st h=>by
  obtain⟨⟨old,he⟩,_⟩:=st
  exact wpAny_pyIter_enum he h
inductive qPs (K:PySem.W.Frag)(R:It→Hp→Prop)(vs:List V)(H1:Hp):Prop
| mk a (_:vs=[.ref a]) (_:(∃ xs,SqL K H1 a xs)) (_:R (Ite K a) H1)
def qQ8 (K:PySem.W.Frag)(t:TA):TI:=fun σ H R=>t σ H fun vs H1=>qPs K R vs H1
theorem qIa {X:Cx}{l:Expr}{tl:TA}{elts:List Expr}{k1:Nat}{tpos p pos:Pos}(hg:Gl X "enumerate")(hm:X.mg "enumerate"=none)(hl:PA X [l] tl)(hs:starEach [l] X.env=[(false,eval l X.env)]:=by rfl):
 PI X (.Tuple elts k1 tpos) (.Call (.Name "enumerate" p) [l] [] pos) (qQ8 X.K tl):=by
 intro pins s σ H R I h
 refine Call_ (wC I hg hm boot_enumerate (PyProof.Rows.callWith_type1 (thn (hl pos pins s σ H _ I h) fun us s1 ⟨vs,H1,I1,r1,q1⟩=>?_) hs rfl))
 obtain⟨a,e,⟨xs,hq⟩,q⟩:=q1
 subst e
 cases r1 with
 | cons r rr=>
  cases rr
  cases r
  obtain⟨its,rv,pl,hz⟩:=I1.list hq
  refine call_enumerate_list pl.isList fun h' he hit hsz hk=>?_
  refine wpAny_pyIter_enum he ?_
  refine⟨s1.heap.objs.size+1,[s1.heap.objs.size+1,s1.heap.objs.size],_,_,H1,rfl,I1.kept (t':=s1.toks) fun b o e=>hk b o e,qKe a _ _ (Nat.succ_ne_self _),⟨⟨_,he⟩,hit⟩,fun b hb=>?_,q⟩
  rcases List.mem_cons.mp hb with rfl | hb
  · exact I1.fpOk (Nat.le_succ _) (I1.hok.fresh (Nat.le_succ _))
  · have e:b=s1.heap.objs.size:=by simpa using hb
    subst e
    exact I1.fpOk (Nat.le_refl _) (I1.hok.fresh (Nat.le_refl _))
theorem qLs {K:PySem.W.Frag}{a:Addr}{xs:List V}{g:TG}{tb:TS}{D:qHq}{σ:L2.St}{H:Hp}(Pv:Nat→L2.St→Hp→Prop)(h0:Pv 0 σ H)(hl:∀ i σ H,i≤xs.length→Pv i σ H→SqL K H a xs)
 (hs:∀ i x σ H p,xs[i]? =some x→Pv i σ H→H p=none→g (.ref p) σ (upd H p (.tup [.int i,x])) fun σ2 H2=>tb {D with nx:=Pv (i+1),ct:=Pv (i+1),bk:=D.nx} σ2 H2) (hd:∀ σ H,Pv xs.length σ H→D.nx σ H):
 ∃ W:Nat→Nat→L2.St→Hp→Prop,(∃ m,W 0 m σ H)∧∀ i m σ H,W i m σ H→
  ((Ite K a).stop i H∧D.nx σ H)∨((Ite K a).go i H∧∃ N:L2.St→Hp→Prop,(∀ σ' H',N σ' H'→∃ m',m' < m∧W (i+1) m' σ' H')∧∀ x H',(Ite K a).yld i H x H'→g x σ H' fun σ2 H2=>tb {D with nx:=N,ct:=N,bk:=D.nx} σ2 H2):=by
 refine⟨fun i m σ H=>m=xs.length - i∧i≤xs.length∧Pv i σ H,⟨xs.length,by simp,Nat.zero_le _,h0⟩,?_⟩
 rintro i m σ H ⟨rfl,hi,p⟩
 have q:=hl i σ H hi p
 by_cases hlt:i < xs.length
 · refine .inr ⟨⟨xs,xs[i],q,by simp [hlt]⟩,Pv (i+1),fun σ' H' p'=>⟨xs.length - (i+1),by omega,rfl,hlt,p'⟩,fun x H' y=>?_⟩
   obtain⟨z,v,hz,rfl,y,rfl⟩:=y
   exact hs i v σ _ z (y xs q) p hz
 · have e:i=xs.length:=by omega
   subst e
   exact .inl ⟨⟨xs,q,Nat.le_refl _⟩,hd σ H p⟩
theorem qCe:∀ {ns:List Int} {us:List Value},Vals (ns.map V.int) us→∃ xs:List (Int × Tok),us.toArray=intItems xs.toArray∧xs.map (·.1)=ns
 | [],us,r=>by cases r;exact⟨[],by simp [intItems],rfl⟩
 | n::ns,us,r=>by
  rw [List.map_cons] at r
  cases r with
  | cons h t=>
   obtain⟨xs,e1,e2⟩:=qCe t
   obtain⟨tk,rfl⟩:=h
   refine⟨(n,tk)::xs,?_,by rw [List.map_cons,e2]⟩
   have e3:=congrArg Array.toList e1
   simp only [intItems,List.map_toArray] at e3 ⊢
   rw [e3]
   rfl
theorem qAb {X:Cx}(hc:X.calm=true):xX X (.builtin "sum") (fun xs H Q=>∃ (p:Addr) (ns:List Int),xs=[.ref p]∧SqL X.K H p (ns.map V.int)∧Q (.int ns.sum) H):=by
 intro pins s σ H xs us Q I r h
 obtain⟨p,ns,rfl,hq,q⟩:=h
 obtain⟨u,rfl,rx⟩:=kj r
 cases rx
 obtain⟨its,rv,pl,hz⟩:=I.list hq
 obtain⟨ys,e1,e2⟩:=qCe rv
 have pl':=pl.isList
 rw [e1] at pl'
 refine sum_intListG (I.ok.hd hc) pl' fun h' tk t' hk=>?_
 rw [preSum_eq,List.take_of_length_le (by simp)]
 have e3:ys.toArray.toList.map (·.1)=ns:=by simpa using e2
 rw [e3]
 exact⟨.int ns.sum,H,I.kept fun b o e=>hk b o e,⟨_,rfl⟩,q⟩
theorem qD3 {X:Cx}(hc:X.calm=true):xX X (.builtin "max") (fun xs H Q=>∃ (p:Addr) (ns:List Int),xs=[.ref p]∧SqL X.K H p (ns.map V.int)∧ns≠[]∧∀ m:Int,m∈ns→(∀ n∈ns,n≤m)→Q (.int m) H):=by
 intro pins s σ H xs us Q I r h
 obtain⟨p,ns,rfl,hq,hne,q⟩:=h
 obtain⟨u,rfl,rx⟩:=kj r
 cases rx
 obtain⟨its,rv,pl,hz⟩:=I.list hq
 obtain⟨ys,e1,e2⟩:=qCe rv
 have pl':=pl.isList
 rw [e1] at pl'
 have hlen:ys.length=ns.length:=by rw [← e2,List.length_map]
 have hpos:0 < ys.length:=by
  rw [hlen];exact List.length_pos_iff.mpr hne
 refine max_intList (I.ok.hd hc) pl' (by simpa using hpos) fun v h' tk hv hk=>?_
 obtain⟨t,rfl⟩:=intItems_at hv
 have B:=argBest_gt (numAt ys.toArray) (ys.toArray.size - 1)
 have num:∀ j,j < ys.length→∃ n,ns[j]? =some n∧numAt ys.toArray j=n:=fun j hj=>by
  refine⟨(ys[j]).1,?_,?_⟩
  · rw [← e2,List.getElem?_map,List.getElem?_eq_getElem hj];rfl
  · simp [numAt,hj]
 have hb:argBest (fun i j=>decide (numAt ys.toArray i > numAt ys.toArray j)) (ys.toArray.size - 1) < ys.length:=by
  have:=B.1
  simp only [List.size_toArray] at this ⊢
  omega
 obtain⟨n,hn,en⟩:=num _ hb
 refine⟨.int _,H,I.kept fun b o e=>hk b o e,⟨_,rfl⟩,?_⟩
 rw [en]
 refine q n (List.mem_of_getElem? hn) fun x hx=>?_
 obtain⟨j,hj,ej⟩:=List.mem_iff_getElem.mp hx
 obtain⟨n',hn',en'⟩:=num j (by omega)
 have:x=n':=by rw [List.getElem?_eq_getElem hj,ej] at hn';exact Option.some.inj hn'
 rw [this,← en',← en]
 exact B.2 j (by simp only [List.size_toArray];omega)
def qSe (t:TT):TT:=fun σ H Q=>∃ R:Bool→Hp→Prop,t σ H R∧∀ b H',R b H'→Q b H'
theorem qDo {X:Cx}{e:Expr}{t:TT}(h:PT X e t):PT X e (qSe t):=by
 rintro pins s σ H Q I ⟨R,ht,hR⟩
 exact thn (h pins s σ H R I ht) fun b s' ⟨H',I',r⟩=>⟨H',I',hR b H' r⟩
def CompEndP (K:PySem.W.Frag)(js:List Nat)(tc:TT)(te:TE)(σ:L2.St)(Q:VK)(J:It)(H1:Hp):Prop:=∃ W:Nat→Nat→List V→Hp→Prop,(∃ m,W 0 m [] H1)∧∀ i m acc H2,W i m acc H2→
 acc.length < sizeLine∧((J.stop i H2∧∀ D,H2 D=none→Q (.ref D) (upd H2 D (.lst acc)))∨
  (J.go i H2∧∀ x H3,J.yld i H2 x H3→∃ p va vb,x= .ref p∧SqT K H3 p [va,vb]∧tc (some va::some vb::kc js σ) H3 fun ok H4=>if ok=true then te (some va::some vb::kc js σ) H4 fun v H5=>∃ m',m' < m∧W (i+1) m' (acc++[v]) H5 else ∃ m',m' < m∧W (i+1) m' acc H4))
def qPx (K:PySem.W.Frag)(js:List Nat)(wi:TI)(tc:TT)(te:TE):TE:=fun σ H Q=>wi σ H (CompEndP K js tc te σ Q)
theorem CompEndP.g {K:PySem.W.Frag}{js:List Nat}{tc:TT}{te:TE}(σ:L2.St)(Q:VK)(J:It)(H1:Hp):CompEndP K js tc te σ Q J H1→zB 2 js (qQj K 2 (qAf (zH 0) (qAf (zH 1) qQm))) tc te σ Q J H1:=fun⟨W,w0,st⟩=>
 ⟨W,w0,fun i m acc H2 w=>⟨(st i m acc H2 w).1,(st i m acc H2 w).2.imp id fun⟨go,y⟩=>⟨go,fun x H3 z=>let ⟨p,va,vb,e,q,r⟩:=y x H3 z;⟨p,_,e,q,rfl,va,_,rfl,vb,_,rfl,rfl,[some va,some vb],rfl,rfl,r⟩⟩⟩⟩
theorem qOi {X:Cx}{scope:Scope}{cl:List (Str × Addr)}{x1 x2:Str}{px1 px2:Pos}{tk:Nat}{tpos:Pos}{ys:List Str}(hcm:X.calm=true)(hnd:([x1,x2]++ys).Nodup)(hx1:scope.names.lookup x1=some .local)(hx2:scope.names.lookup x2=some .local)(C:Addr)(s:Shared)(H:Hp)(fp:List Addr):PG (q9 X scope cl C ([x1,x2]++ys) s H fp).nox (.Tuple [.Name x1 px1,.Name x2 px2] tk tpos) (qQj X.K 2 (qAf (zH 0) (qAf (zH 1) qQm))):=
 qDv (X:=(q9 X scope cl C ([x1,x2]++ys) s H fp).nox) hcm (jV (ql (i:=0) hnd rfl (.inl (lookup_relabel_local hx1)) (.inr (lookup_relabel_local hx1))) (jV (ql (i:=1) hnd rfl (.inl (lookup_relabel_local hx2)) (.inr (lookup_relabel_local hx2))) qAa))
theorem qK7 {X:Cx}{elt iter cnd:Expr}{x1 x2:Str}{px1 px2:Pos}{tk:Nat}{tpos:Pos}{scope:Scope}{cl:List (Str × Addr)}{pos:Pos}{wi:TI}{tc:TT}{te:TE}(ys:List Str)(js:List Nat){i:Nat}{y:Str}{py spos:Pos}(hN:X.N.Nodup)(hi':X.N[i]? =some y)(hy:X.env.kindOf y=some .local)
 (hcm:X.calm=true) (hi:PI X (.Tuple [.Name x1 px1,.Name x2 px2] tk tpos) iter wi) (hc:∀ C s H fp,PT (q9 X scope cl C (x1::x2::ys) s H fp).nox cnd tc) (he:∀ C s H fp,PE (q9 X scope cl C (x1::x2::ys) s H fp).nox elt te) (hx1:scope.names.lookup x1=some .local:=by rfl) (hx2:scope.names.lookup x2=some .local:=by rfl) (hC:COk X scope cl iter [x1,x2] ys js:=by exact⟨rfl,rfl,rfl,rfl,rfl,rfl,rfl,rfl,fun _=>rfl,by decide⟩) (hsw:swapsWith (.ListComp elt [⟨.Tuple [.Name x1 px1,.Name x2 px2] tk tpos,iter,[cnd],0⟩] scope pos) (some (.Name y py)) spos.line X.env=pure true:=by rfl):PS X (.Assign [.Name y py] (.ListComp elt [⟨.Tuple [.Name x1 px1,.Name x2 px2] tk tpos,iter,[cnd],0⟩] scope pos) spos) (qNx (qPx X.K js wi tc te) (zH i)):=
 qCa (xs:=[x1,x2]) (T:=CompEndP X.K js tc te) hN hi' hy hcm hi (qOi hcm hC.nd hx1 hx2) (fun C s H fp=>qEx (hc C s H fp)) he hC CompEndP.g hsw
theorem qG1 {K:PySem.W.Frag}{a:Addr}{xs:List V}{js:List Nat}{tc:TT}{te:TE}{σ:L2.St}{H:Hp}{Q:VK}(Pv:Nat→List V→Hp→Prop)(h0:Pv 0 [] H)(hl:∀ i acc H,i≤xs.length→Pv i acc H→SqL K H a xs∧acc.length < sizeLine)
 (hs:∀ i x acc H p,i < xs.length→xs[i]? =some x→Pv i acc H→H p=none→tc (some (.int i)::some x::kc js σ) (upd H p (.tup [.int i,x])) fun ok H'=>if ok=true then te (some (.int i)::some x::kc js σ) H' fun v H''=>Nxt xs.length i (Pv (i+1) (acc++[v]) H'') else Nxt xs.length i (Pv (i+1) acc H')) (hd:∀ acc H,Pv xs.length acc H→∀ D,H D=none→Q (.ref D) (upd H D (.lst acc))):CompEndP K js tc te σ Q (Ite K a) H:=by
 refine⟨fun i m acc H=>m=xs.length - i∧i≤xs.length∧Pv i acc H,⟨xs.length,by simp,Nat.zero_le _,h0⟩,?_⟩
 rintro i m acc H2 ⟨rfl,hi,p⟩
 obtain⟨q,hz⟩:=hl i acc H2 hi p
 refine⟨hz,?_⟩
 by_cases hlt:i < xs.length
 · refine .inr ⟨⟨xs,xs[i],q,by simp [hlt]⟩,fun x H3 y=>?_⟩
   obtain⟨z,v,hz,rfl,y,rfl⟩:=y
   exact⟨z,_,_,rfl,SqT.of qD,hs i v acc _ z hlt (y xs q) p hz⟩
 · have e:i=xs.length:=by omega
   subst e
   exact .inl ⟨⟨xs,q,Nat.le_refl _⟩,hd acc H2 p⟩
def Itz (K:PySem.W.Frag)(a b:Addr):It:=
 ⟨fun i H=>∃ xs ys x y,SqL K H a xs∧SqL K H b ys∧xs[i]? =some x∧ys[i]? =some y,
  fun i H x H'=>∃ p v u,H p=none∧x= .ref p∧(∀ xs,SqL K H a xs→xs[i]? =some v)∧(∀ ys,SqL K H b ys→ys[i]? =some u)∧H'=upd H p (.tup [v,u]),
  fun i H=>∃ xs ys,SqL K H a xs∧SqL K H b ys∧(xs.length≤i∨ys.length≤i)⟩
theorem qL6 {P:Program}{w:World}{K:PySem.W.Frag}{elts:List Expr}{k1:Nat}{pos:Pos}(z TI TO i1 i2 a b:Addr)(n0:z≠TI∧z≠TO∧z≠i1∧z≠i2∧TI≠TO∧TI≠i1∧TI≠i2∧TO≠i1∧TO≠i2∧i1≠i2):
 qOj P w K (.Tuple elts k1 pos) (Itz K a b) [z,TI,TO,i1,i2] z (fun i h=>IsZip h z TI TO .none∧IsPair h TI (.ref i1) (.ref i2)∧(∃ u v,IsPair h TO u v)∧h.IsListIter i1 a i∧h.IsListIter i2 b i) where
 mem:=by simp
 obj:=fun i h st c hc=>by
  obtain⟨hz,hTI,⟨u,v,hTO⟩,⟨o1,e1,_,d1⟩,o2,e2,_,d2⟩:=st
  simp only [List.mem_cons,List.not_mem_nil,or_false] at hc
  rcases hc with rfl | rfl | rfl | rfl | rfl
  · exact⟨_,hz,fun v z=>by cases z⟩
  · exact⟨_,hTI,fun v z=>by cases z⟩
  · exact⟨_,hTO,fun v z=>by cases z⟩
  · exact⟨o1,e1,fun v z=>by rw [d1] at z;cases z⟩
  · exact⟨o2,e2,fun v z=>by rw [d2] at z;cases z⟩
 keep:=fun i h h' st k=>by
  obtain⟨hz,hTI,⟨u,v,hTO⟩,h1,h2⟩:=st
  exact⟨k z (by simp) _ hz,k TI (by simp) _ hTI,⟨u,v,k TO (by simp) _ hTO⟩,h1.at fun o q=>k i1 (by simp) o q,h2.at fun o q=>k i2 (by simp) o q⟩
 item:=by
  intro X hP hw hK hc i pins s σ H E I hf st hg
  subst hP hw hK
  obtain⟨hz,hTI,⟨u0,v0,hTO⟩,h1,h2⟩:=st
  obtain⟨xs,ys,x,y,hq1,hq2,hx,hy⟩:=hg
  obtain⟨its1,rv1,p1,hz1⟩:=I.list hq1
  obtain⟨its2,rv2,p2,hz2⟩:=I.list hq2
  obtain⟨u,hu,ru⟩:=rv1.get hx
  obtain⟨u',hu',ru'⟩:=rv2.get hy
  have free:∀ c∈[z,TI,TO,i1,i2],H c=none:=fun c hc=>(hf c hc).1
  have nl:∀ (l:Addr) (zs:List V),SqL X.K H l zs→∀ c∈[z,TI,TO,i1,i2],l≠c:=fun l zs hl c hc e=>by
   subst e
   rcases hl with (q | ⟨o,q⟩) | ⟨o,its,n,q,_⟩
   · rw [free _ hc] at q;cases q
   · rw [free _ hc] at q;cases q
   · have q1:=(I.bs l o (I.ok.mod.kin l o q)).1
     have:=hf l hc
     rcases this.2.2.2.1 with q2 | q2
     · exact I.ok.noex l o (I.ok.mod.kin l o q) q2
     · exact Nat.lt_irrefl _ (Nat.lt_of_lt_of_le (Nat.lt_of_lt_of_le (Heap.lt_size (I.ok.mod.kin l o q)) I.ok.bsz) q2)
  obtain⟨n1,n2,n3,n4,n5,n6,n7,n8,n9,n10⟩:=n0
  have D:ZipApart z TI TO i1 i2 a b:=⟨n1.symm,n2.symm,n3.symm,n4.symm,n5,n6,n7,n8,n9,n10,nl a xs hq1 z (by simp),nl a xs hq1 TO (by simp),nl a xs hq1 i1 (by simp),nl a xs hq1 i2 (by simp),nl b ys hq2 z (by simp),nl b ys hq2 TO (by simp),nl b ys hq2 i1 (by simp),nl b ys hq2 i2 (by simp)⟩
  refine wpAny_pyNext_zip_item D hz hTI hTO h1 h2 p1.isList p2.isList (x:=u) (y:=u') (by simpa using hu) (by simpa using hu') fun h' hz' hTO' h1' h2' hT hsz hk=>?_
  refine⟨_,rfl,wpAny_letOwnedTupleGo_zip hz' fun h'' hz'' hs''=>?_⟩
  have lt:∀ c∈[z,TI,TO,i1,i2],c < s.heap.objs.size:=fun c hc=>by
   simp only [List.mem_cons,List.not_mem_nil,or_false] at hc
   rcases hc with rfl | rfl | rfl | rfl | rfl
   · exact Heap.lt_size hz
   · exact Heap.lt_size hTI
   · exact Heap.lt_size hTO
   · obtain⟨_,q,_⟩:=h1;exact Heap.lt_size q
   · obtain⟨_,q,_⟩:=h2;exact Heap.lt_size q
  have up:∀ c o,c≠z→h'.get? c=some o→h''.get? c=some o:=fun c o hc q=>(hs''.2 c hc).trans q
  have T:=qMd (h':=h'') (t':=s.toks) (ch:=[z,TI,TO,i1,i2]) (xs:=[x,y]) (us:=#[u,u']) I hf lt
   (fun c o hc q=>up c o (fun e=>hc (by simp [e])) (hk c o (fun e=>hc (by simp [e])) (fun e=>hc (by simp [e])) (fun e=>hc (by simp [e])) (fun e=>hc (by simp [e])) q))
   (up _ _ (Nat.ne_of_gt (lt z (by simp))) hT) (.cons ru (.cons ru' .nil)) (by show 2≤sizeLine;decide)
  refine⟨.ref s.heap.objs.size,_,T.1,rfl,⟨_,x,y,I.hok.fresh (Nat.le_refl _),rfl,fun zs hzs=>by rw [I.list_inj hzs hq1];exact hx,fun zs hzs=>by rw [I.list_inj hzs hq2];exact hy,rfl⟩,?_,T.2⟩
  exact⟨hz'',up _ _ n1.symm (hk _ _ n1.symm n5 n6 n7 hTI),⟨_,_,up _ _ n2.symm hTO'⟩,h1'.at fun o q=>up _ o n3.symm q,h2'.at fun o q=>up _ o n4.symm q⟩
 done:=by
  intro X hP hw hK hc i pins s σ H E I hf st hg
  subst hP hw hK
  obtain⟨hz,hTI,⟨u0,v0,hTO⟩,h1,h2⟩:=st
  obtain⟨xs,ys,hq1,hq2,hend⟩:=hg
  obtain⟨its1,rv1,p1,hz1⟩:=I.list hq1
  obtain⟨its2,rv2,p2,hz2⟩:=I.list hq2
  have free:∀ c∈[z,TI,TO,i1,i2],H c=none:=fun c hc=>(hf c hc).1
  have nl:∀ (l:Addr) (zs:List V),SqL X.K H l zs→∀ c∈[z,TI,TO,i1,i2],l≠c:=fun l zs hl c hc e=>by
   subst e
   rcases hl with (q | ⟨o,q⟩) | ⟨o,its,n,q,_⟩
   · rw [free _ hc] at q;cases q
   · rw [free _ hc] at q;cases q
   · rcases (hf l hc).2.2.2.1 with q2 | q2
     · exact I.ok.noex l o (I.ok.mod.kin l o q) q2
     · exact Nat.lt_irrefl _ (Nat.lt_of_lt_of_le (Nat.lt_of_lt_of_le (Heap.lt_size (I.ok.mod.kin l o q)) I.ok.bsz) q2)
  obtain⟨n1,n2,n3,n4,n5,n6,n7,n8,n9,n10⟩:=n0
  have D:ZipApart z TI TO i1 i2 a b:=⟨n1.symm,n2.symm,n3.symm,n4.symm,n5,n6,n7,n8,n9,n10,nl a xs hq1 z (by simp),nl a xs hq1 TO (by simp),nl a xs hq1 i1 (by simp),nl a xs hq1 i2 (by simp),nl b ys hq2 z (by simp),nl b ys hq2 TO (by simp),nl b ys hq2 i1 (by simp),nl b ys hq2 i2 (by simp)⟩
  have l1:=rv1.length
  have l2:=rv2.length
  refine wpAny_pyNext_zip_end (I.ok.hd hc) D hz hTI hTO h1 h2 p1.isList p2.isList ?_ fun h' hk=>⟨rfl,qId (t':=s.toks) (ch:=[z,TI,TO,i1,i2]) I hf fun c o hc q=>hk c o (fun e=>hc (by simp [e])) (fun e=>hc (by simp [e])) (fun e=>hc (by simp [e])) (fun e=>hc (by simp [e])) q⟩
  rcases hend with q | q
  · exact .inl (by simp;omega)
  · exact .inr (by simp;omega)
 self:=fun _ _ _ _ _ st h=>wpAny_pyIter_zip st.1 h
theorem qHm (n:Nat):n+4≠n+2∧n+4≠n+3∧n+4≠n∧n+4≠n+1∧n+2≠n+3∧n+2≠n∧n+2≠n+1∧n+3≠n∧n+3≠n+1∧n≠n+1:=by omega
def qR1 (K:PySem.W.Frag)(t:TA):TI:=fun σ H R=>t σ H fun vs H1=>∃ a b,vs=[.ref a,.ref b]∧(∃ xs,SqL K H1 a xs)∧(∃ ys,SqL K H1 b ys)∧R (Itz K a b) H1
theorem qO9 {X:Cx}{l l':Expr}{tl:TA}{elts:List Expr}{k1:Nat}{tpos p pos:Pos}(hg:Gl X "zip")(hm:X.mg "zip"=none)(hl:PA X [l,l'] tl)(hs:starEach [l,l'] X.env=[(false,eval l X.env),(false,eval l' X.env)]:=by rfl)(hs2:starEach [l'] X.env=[(false,eval l' X.env)]:=by rfl):
 PI X (.Tuple elts k1 tpos) (.Call (.Name "zip" p) [l,l'] [] pos) (qR1 X.K tl):=by
 intro pins s σ H R I h
 refine Call_ (wC I hg hm boot_zip (PyProof.Rows.callWith_type1 (thn (hl pos pins s σ H _ I h) fun us s1 ⟨vs,H1,I1,r1,q1⟩=>?_) (by rw [hs,hs2]) (by rw [hs2];rfl)))
 obtain⟨a,b,e,⟨xs,hq1⟩,⟨ys,hq2⟩,q⟩:=q1
 subst e
 cases r1 with
 | cons r rr=>
  cases rr with
  | cons r' rr=>
   cases rr
   cases r
   cases r'
   obtain⟨its1,rv1,p1,hz1⟩:=I1.list hq1
   obtain⟨its2,rv2,p2,hz2⟩:=I1.list hq2
   refine call_zip_2 p1.isList p2.isList fun h' hz hTI hTO h1 h2 hsz hk=>?_
   refine wpAny_pyIter_zip hz ?_
   refine⟨s1.heap.objs.size+4,[s1.heap.objs.size+4,s1.heap.objs.size+2,s1.heap.objs.size+3,s1.heap.objs.size,s1.heap.objs.size+1],_,_,H1,rfl,I1.kept (t':=s1.toks) fun c o e=>hk c o e,qL6 _ _ _ _ _ a b (qHm _),⟨hz,hTI,⟨_,_,hTO⟩,h1,h2⟩,fun c hc=>?_,q⟩
   have hle:s1.heap.objs.size≤c:=by
    simp only [List.mem_cons,List.not_mem_nil,or_false] at hc
    rcases hc with rfl | rfl | rfl | rfl | rfl <;> omega
   exact I1.fpOk hle (I1.hok.fresh hle)
theorem qM0 {K:PySem.W.Frag}{a b:Addr}{xs ys:List V}{g:TG}{tb:TS}{D:qHq}{σ:L2.St}{H:Hp}(Pv:Nat→L2.St→Hp→Prop)(hlen:xs.length=ys.length)(h0:Pv 0 σ H)(hl:∀ i σ H,i≤xs.length→Pv i σ H→SqL K H a xs∧SqL K H b ys)
 (hs:∀ i x y σ H p,xs[i]? =some x→ys[i]? =some y→Pv i σ H→H p=none→g (.ref p) σ (upd H p (.tup [x,y])) fun σ2 H2=>tb {D with nx:=Pv (i+1),ct:=Pv (i+1),bk:=D.nx} σ2 H2) (hd:∀ σ H,Pv xs.length σ H→D.nx σ H):
 ∃ W:Nat→Nat→L2.St→Hp→Prop,(∃ m,W 0 m σ H)∧∀ i m σ H,W i m σ H→
  ((Itz K a b).stop i H∧D.nx σ H)∨((Itz K a b).go i H∧∃ N:L2.St→Hp→Prop,(∀ σ' H',N σ' H'→∃ m',m' < m∧W (i+1) m' σ' H')∧∀ x H',(Itz K a b).yld i H x H'→g x σ H' fun σ2 H2=>tb {D with nx:=N,ct:=N,bk:=D.nx} σ2 H2):=by
 refine⟨fun i m σ H=>m=xs.length - i∧i≤xs.length∧Pv i σ H,⟨xs.length,by simp,Nat.zero_le _,h0⟩,?_⟩
 rintro i m σ H ⟨rfl,hi,p⟩
 obtain⟨q1,q2⟩:=hl i σ H hi p
 by_cases hlt:i < xs.length
 · have hlt2:i < ys.length:=by omega
   refine .inr ⟨⟨xs,ys,xs[i],ys[i],q1,q2,by simp [hlt],by simp [hlt2]⟩,Pv (i+1),fun σ' H' p'=>⟨xs.length - (i+1),by omega,rfl,hlt,p'⟩,fun x H' y=>?_⟩
   obtain⟨z,v,u,hz,rfl,y1,y2,rfl⟩:=y
   exact hs i v u σ _ z (y1 xs q1) (y2 ys q2) p hz
 · have e:i=xs.length:=by omega
   subst e
   exact .inl ⟨⟨xs,ys,q1,q2,.inl (Nat.le_refl _)⟩,hd σ H p⟩
theorem qM2 {k:Key}{v:Value}(h:qFg k v=true):RelV (kV k) v:=by
 rcases jJ h with ⟨i,t,rfl,rfl⟩ | ⟨x,t,rfl,rfl⟩
 · exact⟨t,rfl⟩
 · exact⟨t,rfl⟩
section
variable {P : Program} {w : World} {K : PySem.W.Frag}
end
theorem xT {X:Cx}:xX X (.builtin "isinstance") (fun xs H Q=>∃ (p:Addr) (n t:String) (b:Bool),xs=[.ref p,.ty n]∧((∃ ys,SqT X.K H p ys∧t="tuple")∨∃ kvs:List (Key × V),Rd H p (.dK kvs)∧t="dict")∧PySem.W.kitOne X.K (.type t) (.type n)=some b∧Q (.bl b) H):=by
 intro pins s σ H xs us Q I r h
 obtain⟨p,n,t,b,rfl,ht,e,q⟩:=h
 obtain⟨u,w',rfl,ru,rw'⟩:=qLp r
 cases ru
 have ew:w'= .type n:=rw'
 subst ew
 rcases ht with ⟨ys,hy,rfl⟩ | ⟨kvs,hk,rfl⟩
 · obtain⟨its,_,⟨o,h1,h2,_⟩,_⟩:=I.tuple hy
   exact PySem.W.kia_one PySem.W.kitx_tuple I.kIn ⟨o,h1,h2⟩ e (fun z=>nomatch z) fun tk=>⟨.bl b,H,I.tok tk,rfl,q⟩
 · obtain⟨_,_,vs,_,o,es,ep,h1,h2,_⟩:=qC7 I.hok hk
   exact PySem.W.kia_one PySem.W.kitx_dict I.kIn ⟨o,h1,h2.1⟩ e (fun z=>nomatch z) fun tk=>⟨.bl b,H,I.tok tk,rfl,q⟩
def EqIn (P:Program)(w:World)(A:Around)(s:Shared)(y x:Value):Prop:=∀ (E:Value→Shared→Prop) (Q:Bool→Shared→Prop),Q true s→wpAny (model P w) A (eqBool y x) Q E s
theorem EqIn.rc {P:Program}{w:World}{A:Around}{s:Shared}{l b:Addr}(h:∀ (E:Value→Shared→Prop) (Q:Value→Shared→Prop),Q (.bool true) s→wpAny (model P w) A (richCompare .Eq (.ref l) (.ref b)) Q E s):EqIn P w A s (.ref l) (.ref b):=by
 by_cases e:l=b
 · subst e
   exact fun E Q hq=>SeqAt.EqAt.same _ P w E Q hq
 · intro E Q hq
   unfold eqBool
   refine wpAny_holding (wpAny_ite_split (fun z=>?_) (fun _=>?_))
   · have:=eq_of_beq z
     injection this with this
     exact absurd this e
   · exact wpAny_bind (h E _ (wpAny_truthy_bool hq))
def DEq (K:PySem.W.Frag)(H:Hp)(a b:Addr):Prop:=∃ ka kb:List (Key × V),Rd H a (.dK ka)∧Rd H b (.dK kb)∧ka.length=kb.length∧∀ p∈ka,∃ v d,j3 kb p.1=some v∧Rep K H d p.2∧Rep K H d v∧eqD d d=true∧dep d≤50
section
variable {X : Cx} {pins : List (Addr × Obj)} {σ : L2.St} {H : Hp} {s : Shared}
theorem qNj (I:Inv X pins σ H s){A:Around}(hu:A.units+50 < cLine){kb:List (Key × V)}{vb:List (Key × Value)}(rb:KV kb vb):∀ {ka:List (Key × V)} {va:List (Key × Value)},KV ka va→
 (∀ p∈ka,∃ v d,j3 kb p.1=some v∧Rep X.K H d p.2∧Rep X.K H d v∧eqD d d=true∧dep d≤50)→PySem.W.KeqHits A s vb va true:=by
 intro ka va r
 unfold KV at r
 induction r with
 | nil=>exact fun _=>.nil
 | @cons p q ps qs h t ih=>
  intro hp
  obtain⟨h1,h2⟩:=h
  obtain⟨v,d,e,r1,r2,g,hd⟩:=hp p (by simp)
  have rv:=rb.val p.1
  rw [e] at rv
  cases w:valueAt vb p.1 with
  | none=>rw [w] at rv;exact(show False from rv).elim
  | some y=>
   rw [w] at rv
   have rv:RelV v y:=rv
   have ea:=qMu I 50 A d d p.2 v q.2 y hd hu r1 r2 h2 rv
   rw [g] at ea
   have hq:q=(p.1,q.2):=by rw [h1]
   have k:=PySem.W.KeqHits.hit (A:=A) (s:=s) (kb:=vb) (k:=p.1) (v:=q.2) (e:=true) w ea (ih fun x hx=>hp x (by simp [hx]))
   rw [hq]
   exact k
theorem DEq.at (I:Inv X pins σ H s){A:Around}(hu:A.units+51 < cLine){a b:Addr}(h:DEq X.K H a b):EqIn X.prog X.w A s (.ref a) (.ref b):=by
 obtain⟨ka,kb,ra,rb,hl,hh⟩:=h
 obtain⟨_,na,va,qa,da⟩:=qC7 I.hok ra
 obtain⟨_,nb,vb,qb,db⟩:=qC7 I.hok rb
 refine EqIn.rc fun E Q hq=>?_
 refine PySem.W.keq_eq (r:=true) na nb da db (by omega) (fun _=>qNj I (by show A.units+1+50 < cLine;omega) qb qa hh) ?_
 have e:(va.length == vb.length)=true:=by rw [← qa.length,← qb.length,hl];simp
 rw [e]
 exact hq
end
theorem qNd {P:Program}{w:World}{A:Around}{E:Value→Shared→Prop}{s:Shared}{l b:Addr}{u1 u2 v1 v2:Value}{Q:Fin→Shared→Prop}(hl:s.heap.IsTuple l #[u1,u2])(hb:s.heap.IsTuple b #[v1,v2])
 (e1:EqIn P w A s u1 v1) (e2:EqIn P w A s u2 v2) (hq:Q (.done (.ret (.bool true))) s):wpAny (model P w) A (Builtin.«tuple.__eq__» ⟨[.ref l,.ref b],[]⟩) Q E s:=by
 obtain⟨⟨c1,dd1,dt1,sl1⟩,g1,hc1,n1,hd1⟩:=hl
 obtain⟨⟨c2,dd2,dt2,sl2⟩,g2,hc2,n2,hd2⟩:=hb
 simp only at hc1 hd1 hc2 hd2
 subst hc1 hd1 hc2 hd2
 obtain⟨hp,g,dr,tk,os⟩:=s
 have f2:=AutoSeq1.sub_tuple_tuple
 have e1':∀ (E:Value→Shared→Prop) (Q:Bool→Shared→Prop),Q true ⟨hp,g,dr,tk,os⟩→wpAny (model P w) A (eqBool u1 v1) Q E ⟨hp,g,dr,tk,os⟩:=e1
 have e2':∀ (E:Value→Shared→Prop) (Q:Bool→Shared→Prop),Q true ⟨hp,g,dr,tk,os⟩→wpAny (model P w) A (eqBool u2 v2) Q E ⟨hp,g,dr,tk,os⟩:=e2
 wp_walk using wpAny_loadPart' g1,wpAny_loadPart' g2,e1' _ _,e2' _ _
 simpa [Builtin.Tuple.tupleCompareSizes] using hq
theorem qM4 {P:Program}{w:World}{A:Around}{E:Value→Shared→Prop}{s:Shared}{l b:Addr}{u1 u2 v1 v2:Value}{Q:Fin→Shared→Prop}(hl:s.heap.IsTuple l #[u1,u2])(hb:s.heap.IsTuple b #[v1,v2])
 (e1:EqIn P w A s u1 v1) (e2:EqIn P w A s u2 v2) (hq:Q (.done (.ret (.bool false))) s):wpAny (model P w) A (Builtin.«tuple.__ne__» ⟨[.ref l,.ref b],[]⟩) Q E s:=by
 obtain⟨⟨c1,dd1,dt1,sl1⟩,g1,hc1,n1,hd1⟩:=hl
 obtain⟨⟨c2,dd2,dt2,sl2⟩,g2,hc2,n2,hd2⟩:=hb
 simp only at hc1 hd1 hc2 hd2
 subst hc1 hd1 hc2 hd2
 obtain⟨hp,g,dr,tk,os⟩:=s
 have f2:=AutoSeq1.sub_tuple_tuple
 have e1':∀ (E:Value→Shared→Prop) (Q:Bool→Shared→Prop),Q true ⟨hp,g,dr,tk,os⟩→wpAny (model P w) A (eqBool u1 v1) Q E ⟨hp,g,dr,tk,os⟩:=e1
 have e2':∀ (E:Value→Shared→Prop) (Q:Bool→Shared→Prop),Q true ⟨hp,g,dr,tk,os⟩→wpAny (model P w) A (eqBool u2 v2) Q E ⟨hp,g,dr,tk,os⟩:=e2
 wp_walk using wpAny_loadPart' g1,wpAny_loadPart' g2,e1' _ _,e2' _ _
 simpa [Builtin.Tuple.tupleCompareSizes] using hq
theorem wR {x y:V}{us:List Value}(r:Vals [x,y] us):∃ u v,us=[u,v]∧RelV x u∧RelV y v:=by
 cases r with
 | cons a t=>cases t with
  | cons b t=>cases t;exact⟨_,_,rfl,a,b⟩
def qJ5 (K:PySem.W.Frag)(neg:Bool):R2:=fun x y H Q=>∃ r1 r2 a1 a2 b1 b2:Addr,x= .ref r1∧y= .ref r2∧SqT K H r1 [.ref a1,.ref b1]∧SqT K H r2 [.ref a2,.ref b2]∧DEq K H a1 a2∧DEq K H b1 b2∧Q (.bl (!neg)) H
theorem op_eqRoom {X:Cx}(hu:X.A.units+64 < cLine):OpR X (compareOp .Eq) (qJ5 X.K false):=by
 intro pins s σ H x y v u Q I rx ry h
 obtain⟨r1,r2,a1,a2,b1,b2,rfl,rfl,t1,t2,d1,d2,q⟩:=h
 cases rx;cases ry
 obtain⟨us,v1,i1,_⟩:=I.tuple t1
 obtain⟨ws,v2,i2,_⟩:=I.tuple t2
 obtain⟨_,_,rfl,q1,q2⟩:=wR v1
 obtain⟨_,_,rfl,q3,q4⟩:=wR v2
 cases q1;cases q2;cases q3;cases q4
 have i1:s.heap.IsTuple r1 #[.ref a1,.ref b1]:=i1
 have i2:s.heap.IsTuple r2 #[.ref a2,.ref b2]:=i2
 have hu1:X.A.in1.units+51 < cLine:=by show X.A.units+1+51 < cLine;omega
 refine wpAny_richCompare_same_room (op:=.Eq) i1.typeIs i2.typeIs F.slot_tuple_eq ?_ (by omega)
 refine wpAny_call_entry F.slot_tuple_eq i1.typeIs F.entry_tuple_eq ?_ (F.args_tuple_eq_2 _ _)
 exact qNd i1 i2 (d1.at I hu1) (d2.at I hu1) ⟨_,rfl,(fun z=>nomatch z),.bl true,H,I,rfl,q⟩
theorem qIk {X:Cx}(hu:X.A.units+64 < cLine):OpR X (compareOp .NotEq) (qJ5 X.K true):=by
 intro pins s σ H x y v u Q I rx ry h
 obtain⟨r1,r2,a1,a2,b1,b2,rfl,rfl,t1,t2,d1,d2,q⟩:=h
 cases rx;cases ry
 obtain⟨us,v1,i1,_⟩:=I.tuple t1
 obtain⟨ws,v2,i2,_⟩:=I.tuple t2
 obtain⟨_,_,rfl,q1,q2⟩:=wR v1
 obtain⟨_,_,rfl,q3,q4⟩:=wR v2
 cases q1;cases q2;cases q3;cases q4
 have i1:s.heap.IsTuple r1 #[.ref a1,.ref b1]:=i1
 have i2:s.heap.IsTuple r2 #[.ref a2,.ref b2]:=i2
 have hu1:X.A.in1.units+51 < cLine:=by show X.A.units+1+51 < cLine;omega
 refine wpAny_richCompare_same_room (op:=.NotEq) i1.typeIs i2.typeIs F.slot_tuple_ne ?_ (by omega)
 refine wpAny_call_entry F.slot_tuple_ne i1.typeIs F.entry_tuple_ne ?_ (F.args_tuple_ne_2 _ _)
 exact qM4 i1 i2 (d1.at I hu1) (d2.at I hu1) ⟨_,rfl,(fun z=>nomatch z),.bl false,H,I,rfl,q⟩
theorem qGt {X:Cx}{K:PySem.W.Frag}(h:X.K=K)(hc:X.calm=true):xX X (.builtin "sum") (fun xs H Q=>∃ (p:Addr) (ns:List Int),xs=[.ref p]∧SqL K H p (ns.map V.int)∧Q (.int ns.sum) H):=h ▸ qAb hc
theorem qBu {X:Cx}{K:PySem.W.Frag}(h:X.K=K):xX X (.type "list") (fun xs H Q=>∃ p ys,xs=[.ref p]∧(SqL K H p ys∨SqT K H p ys)∧∀ l,H l=none→Q (.ref l) (upd H l (.lst ys))):=h ▸ zd
theorem qLg {X:Cx}{K:PySem.W.Frag}{tg l:Expr}{tl:TE}(h:X.K=K)(hl:PE X l tl):PI X tg l (qPf K tl):=h ▸ jf hl
end L3
set_option maxRecDepth 100000
namespace L3
open PySem PySem.Spec PyProof.Rows L2
theorem qGg {K:PySem.W.Frag}{a:Addr}{xs:List V}{js:List Nat}{te:TE}{σ:L2.St}{H:Hp}{Q:VK}(Pv:Nat→List V→Hp→Prop)(h0:Pv 0 [] H)(hl:∀ i acc H,i≤xs.length→Pv i acc H→SqT K H a xs∧acc.length < sizeLine)
 (hs:∀ i x acc H,i < xs.length→xs[i]? =some x→Pv i acc H→te (some x::kc js σ) H fun v H'=>Nxt xs.length i (Pv (i+1) (acc++[v]) H')) (hd:∀ acc H,Pv xs.length acc H→∀ D,H D=none→Q (.ref D) (upd H D (.lst acc))):CompEnd js te σ Q (Itt K a) H:=by
 refine⟨fun i m acc H=>m=xs.length - i∧i≤xs.length∧Pv i acc H,⟨xs.length,by simp,Nat.zero_le _,h0⟩,?_⟩
 rintro i m acc H2 ⟨rfl,hi,p⟩
 obtain⟨q,hz⟩:=hl i acc H2 hi p
 refine⟨hz,?_⟩
 by_cases hlt:i < xs.length
 · refine .inr ⟨⟨xs,xs[i],q,by simp [hlt]⟩,fun x H3 y=>?_⟩
   obtain⟨e,y⟩:=y
   subst e
   exact hs i x acc _ hlt (y xs q) p
 · have e:i=xs.length:=by omega
   subst e
   exact .inl ⟨⟨xs,q,Nat.le_refl _⟩,hd acc H2 p⟩
theorem KV.keys {kvs:List (Key × V)}{vs:List (Key × Value)}(r:KV kvs vs):vs.map (·.1)=kvs.map (·.1):=by
 induction r with
 | nil=>rfl
 | cons h _ ih=>rw [List.map_cons,List.map_cons,ih,h.1]
theorem qM1 {xs:List V}{us:List Value}(hl:xs.length=us.length)(h:∀ (j:Nat) (x:V) (u:Value),xs[j]? =some x→us[j]? =some u→RelV x u):Vals xs us:=by
 induction xs generalizing us with
 | nil=>
  cases us with
  | nil=>exact .nil
  | cons _ _=>simp at hl
 | cons x xs ih=>
  cases us with
  | nil=>simp at hl
  | cons u us=>exact .cons (h 0 x u rfl rfl) (ih (by simpa using hl) fun j y v e1 e2=>h (j+1) y v (by simpa using e1) (by simpa using e2))
theorem qAx {X:Cx}(hc:X.calm=true):xX X (.type "list") (fun xs H Q=>∃ d kvs,xs=[.ref d]∧Rd H d (.dK kvs)∧∀ l,H l=none→Q (.ref l) (upd H l (.lst (kvs.map fun p=>kV p.1)))):=by
 intro pins s σ H xs us Q I r h
 obtain⟨d,kvs,rfl,hd,q⟩:=h
 obtain⟨u,rfl,rx⟩:=kj r
 cases rx
 obtain⟨hz,hs,vs,rk,o,es,ep,ho,rest⟩:=hd.ok I.hok
 have hk:=KV.keys rk
 have hlen:vs.length=kvs.length:=by have:=congrArg List.length hk;simpa using this
 refine PySem.W.kdl_call (PySem.W.kdl_dict (knd:=jZ X.prog X.w) (kvs:=vs) (ep:=ep) hs) (I.ok.hd hc) ⟨o,es,ho,rest⟩ (by omega) fun h' tk acc c kp hS hi=>?_
 refine⟨.ref s.heap.objs.size,_,I.laid (t':=tk) kp (Nat.le_refl _) (show ObjOk X.prog X.w _ h' _ (.lst (kvs.map fun p=>kV p.1)) from ⟨by simpa using hz,acc.toList,c,?_,by simpa using hS⟩),rfl,q _ (I.hok.fresh (Nat.le_refl _))⟩
 refine qM1 (by rw [List.length_map];have:=hi.1;have:=Array.length_toList (xs:=acc);omega) fun j x u e1 e2=>?_
 obtain⟨k,y,e3,e4⟩:=hi.2 j u (by rw [← Array.getElem?_toList];exact e2)
 have e5:(vs.map (·.1))[j]? =some k:=by rw [List.getElem?_map,e3];rfl
 rw [hk,List.getElem?_map] at e5
 rw [List.getElem?_map] at e1
 cases e6:kvs[j]? with
 | none=>rw [e6] at e5;cases e5
 | some p=>
  rw [e6] at e1 e5
  cases e1
  cases e5
  exact qM2 e4
theorem qJr {K:PySem.W.Frag}{a:Addr}{xs:List V}{js:List Nat}{tc:TT}{te:TE}{σ:L2.St}{H:Hp}{Q:VK}(Pv:Nat→List V→Hp→Prop)(h0:Pv 0 [] H)(hl:∀ i acc H,i≤xs.length→Pv i acc H→SqT K H a xs∧acc.length < sizeLine)
 (hs:∀ i x acc H,i < xs.length→xs[i]? =some x→Pv i acc H→tc (some x::kc js σ) H fun ok H'=>if ok=true then te (some x::kc js σ) H' fun v H''=>Nxt xs.length i (Pv (i+1) (acc++[v]) H'') else Nxt xs.length i (Pv (i+1) acc H')) (hd:∀ acc H,Pv xs.length acc H→∀ D,H D=none→Q (.ref D) (upd H D (.lst acc))):CompEndF js tc te σ Q (Itt K a) H:=by
 refine⟨fun i m acc H=>m=xs.length - i∧i≤xs.length∧Pv i acc H,⟨xs.length,by simp,Nat.zero_le _,h0⟩,?_⟩
 rintro i m acc H2 ⟨rfl,hi,p⟩
 obtain⟨q,hz⟩:=hl i acc H2 hi p
 refine⟨hz,?_⟩
 by_cases hlt:i < xs.length
 · refine .inr ⟨⟨xs,xs[i],q,by simp [hlt]⟩,fun x H3 y=>?_⟩
   obtain⟨e,y⟩:=y
   subst e
   exact hs i x acc _ hlt (y xs q) p
 · have e:i=xs.length:=by omega
   subst e
   exact .inl ⟨⟨xs,q,Nat.le_refl _⟩,hd acc H2 p⟩
variable {X : Cx}
end L3
namespace L3
open PySem PySem.Spec PyProof.Rows L2 PySem.NumText PySem.Builtin.Str
def qQy (l:List Nat):List Nat:=if l.head?=some 45 then l.tail else l
def qR4 (c:Nat):Bool:=!(occurrences "0123456789" ⟨#[c]⟩ 0 ("0123456789":Str).length 1).isEmpty
structure Fig (l:List Nat):Prop where
 ne:qQy l≠[]
 len:(qQy l).length≤60
 all:(qQy l).all qR4=true
end L3
namespace L3
open PySem PySem.Spec PyProof.Rows L2 PySem.NumText PySem.Builtin.Str
inductive qK0 (l:List Nat):List Str→Prop where
 | none (h:l=[]):qK0 l []
 | one {p:Str} (h:l=p.cps.toList) (hf:47 ∉ l):qK0 l [p]
 | two {p q:Str} (h:l=p.cps.toList++47::q.cps.toList) (hp:47 ∉ p.cps.toList) (hq:47 ∉ q.cps.toList):qK0 l [p,q]
 | more {p q r:Str} {t:List Str} (rest:List Nat) (h:l=p.cps.toList++47::rest) (hp:47 ∉ p.cps.toList) (hq:47∈rest):qK0 l (p::q::r::t)
theorem qJ {G:Prop}(k:∀ X:Prop,(G→X)→X):G:=k G id
section
variable {X : Cx}
theorem qK {a:Expr}{ta:TE}{i:Int}{j}{p pos:Pos}(ha:PE X a ta):PE X (.Subscript a (.Constant (.int i) j p) pos) (tOp (qOk X.K) ta (tC (.int i))):=jK qDc ha qF (fun _ _=>rfl)
theorem qS (i:Nat){x:Str}{e:Expr}{te:TE}{pos pos':Pos}(hN:X.N.Nodup)(he:PE X e te)(hi:X.N[i]? =some x:=by rfl)(hx:Loc X.env.scope x:=by exact Or.inl rfl)(hs:swapsWith e (some (.Name x pos')) pos.line X.env=pure false:=by rfl)(hf:X.fn x=true∨X.env.scope.names.lookup x=some .local:=by first | exact .inl rfl | exact .inr rfl | assumption):
 PS X (.Assign [.Name x pos'] e pos) (qNx te (zH i)):=qMn hN hi hx he hs hf
end
end L3
set_option maxRecDepth 100000
namespace L3
open PySem PySem.Spec PyProof.Rows L2
theorem qJd {vs:List V}{us:List Value}(h:Vals vs us):∀ i,Vals (vs.take i) (us.take i):=by
 induction h with
 | nil=>intro i;simp;exact .nil
 | cons r _ ih=>
  intro i
  cases i with
  | zero=>exact .nil
  | succ i=>exact .cons r (ih i)
theorem qKf {vs:List V}{us:List Value}(h:Vals vs us):∀ i,Vals (vs.drop i) (us.drop i):=by
 induction h with
 | nil=>intro i;simp;exact .nil
 | cons r t ih=>
  intro i
  cases i with
  | zero=>exact .cons r t
  | succ i=>exact ih i
end L3
set_option maxRecDepth 100000
namespace L3
open PySem PySem.Spec PyProof.Rows L2
theorem qGm:∀ {ns:List Int} {us:List Value},Vals (ns.map V.int) us→IntsAre us ns
 | [],us,r=>by cases r;exact .nil
 | n::ns,us,r=>by
  rw [List.map_cons] at r
  cases r with
  | cons h t=>
   obtain⟨tk,rfl⟩:=h
   exact .cons _ _ (qGm t)
theorem qGk:∀ {ns:List Int} {us:List Value},IntsAre us ns→Vals (ns.map V.int) us
 | _,_,.nil=>.nil
 | _,_,.cons _ _ h=>.cons ⟨_,rfl⟩ (qGk h)
end L3
set_option maxRecDepth 100000
namespace L3
open PySem PySem.Spec PySem.W PyProof.Rows L2
section
variable {X : Cx} {pins : List (Addr × Obj)} {σ : L2.St} {H : Hp} {s : Shared} {a : Addr} {kvs : List (Key × V)} {k : Key} {u r : Value} {A : Around} {E : Value → Shared → Prop}
theorem qO6 {x:V}{Q:Value→Shared→Prop}(I:Inv X pins σ H s)(e:H a=some (.dK kvs))(ry:RelV (kV k) u)(rx:RelV x r)(hz:kvs.length+1≤sizeLine)
 (h1:∀ v w' s',j3 kvs k=some v→Inv X pins σ H s'→RelV v w'→Q w' s') (h2:j3 kvs k=none→∀ s',Inv X pins σ (upd H a (.dK (wB kvs k x))) s'→Q r s'):
 wpAny (model X.prog X.w) A (call (.builtin "dict.setdefault") [.ref a,u,r]) Q E s:=by
 obtain⟨z,hd,vs,rel,dd⟩:=qP3 I.hok e
 have hv:=rel.val k
 refine call_meetsIn PySem.F.slot_dict_setdefault dd.typeIs PySem.F.entry_dict_setdefault (PySem.F.args_dict_setdefault_3 _ _ _) (kt_meets_setdefault (jZ X.prog X.w) a (qK1 ry) hd r)
  ⟨vs,dd,by rw [← rel.length];exact z,fun v' hv'=>?_,fun hn h' dd' hs=>?_⟩
 · cases l:j3 kvs k with
   | none=>
    have:=RelO.none_of (o:=valueAt vs k) (by rw [← l];exact hv)
    rw [this] at hv'
    cases hv'
   | some v=>
    obtain⟨w',hw,rw'⟩:=RelO.some_of (v:=v) (o:=valueAt vs k) (by rw [← l];exact hv)
    rw [hw] at hv'
    cases hv'
    exact h1 v _ _ l (I.tok _) rw'
 · cases l:j3 kvs k with
   | some v=>
    obtain⟨w',hw,rw'⟩:=RelO.some_of (v:=v) (o:=valueAt vs k) (by rw [← l];exact hv)
    rw [hw] at hn
    cases hn
   | none=>
    have hl:(wB kvs k x).length≤sizeLine:=by have:=kI kvs k x;omega
    have he:∃ q,h'.get? a=some q:=let ⟨q,_,_,hq,_⟩:=dd';⟨q,hq⟩
    exact h2 l _ (qI6 I (by rw [e];exact True.intro) hs he (qI0 hl hd (rel.put k rx) dd'))
end
def qPk (td ty tx:TE):TE:=fun σ H Q=>td σ H fun x H1=>∃ a,x= .ref a∧IsD H1 a∧ty σ H1 fun y H2=>tx σ H2 fun z H3=>∃ kvs k,H3 a=some (.dK kvs)∧y=kV k∧kvs.length+1≤sizeLine∧∃ u H4,((j3 kvs k=some u∧H4=H3)∨(j3 kvs k=none∧u=z∧H4=upd H3 a (.dK (wB kvs k z))))∧Q u H4
theorem qKw {X:Cx}{o e f:Expr}{td ty tx:TE}{apos cpos:Pos}(ho:PE X o td)(he:PE X e ty)(hf:PE X f tx)(m:M2 X o "setdefault" apos e f cpos):PE X (.Call (.Attribute o "setdefault" apos) [e,f] [] cpos) (qPk td ty tx):=by
 intro pins s σ H Q I h
 refine wpAny_Call_method m.base m.few m.line PySem.F.plainAttrs_dict PySem.F.slot_dict_setdefault PySem.F.type_dict_setdefault (thn (ho pins s σ H _ I h) fun u s1 ⟨x,H1,I1,rx,a,ex,d,q1⟩=>?_)
 subst ex
 obtain rfl:u=Value.ref a:=rx
 obtain⟨t1,t2,_⟩:=qP5 I1 d
 refine⟨t1,t2,?_⟩
 rw [m.trees]
 refine Calls.callWith_builtin rfl (Calls.evalArgs_plain (Calls.spliced_cons (thn (he pins s1 σ H1 _ I1 q1) fun iv s2 ⟨y,H2,I2,ry,q2⟩=>
  Calls.spliced_cons (thn (hf pins s2 σ H2 _ I2 q2) fun fv s3 ⟨z,H3,I3,rz,kvs,k,ea,ey,hz,u4,H4,hu4,q4⟩=>Calls.spliced_nil ?_))))
 subst ey
 refine qO6 I3 ea ry rz hz (fun v w' s4 l I4 rw'=>?_) (fun l s4 I4=>?_)
 · rcases hu4 with ⟨h1,rfl⟩ | ⟨h1,_⟩
   · rw [h1] at l
     cases l
     exact⟨_,_,I4,rw',q4⟩
   · rw [h1] at l;cases l
 · rcases hu4 with ⟨h1,_⟩ | ⟨_,rfl,rfl⟩
   · rw [h1] at l;cases l
   · exact⟨_,_,I4,rz,q4⟩
def qK4:V→List V→Hp→VK→Prop:=fun x vs H Q=>∃ (l:Addr) (xs:List V) (i:Nat) (j:Int) (y:V),x= .ref l∧vs=[.int j,y]∧j=(i:Int)∧H l=some (.lst xs)∧i≤16777216∧xs.length+1≤sizeLine∧Q .non (upd H l (.lst (xs.take i++y::xs.drop i)))
theorem qHk {X:Cx}:MtM X "list.insert" qK4:=by
 intro pins s σ H x vs v us Q I rx rv h
 obtain⟨l,xs,i,j,y,rfl,rfl,hj,hH,h1,h2,q⟩:=h
 cases rx
 cases rv with
 | cons r1 rv=>
 cases rv with
 | cons ru rv=>
 cases rv
 obtain⟨t,rfl⟩:=r1
 obtain⟨z,its,n,r,hl,e⟩:=I.lstM hH
 have hsz:its.length+1≤sizeLine:=by rw [← hl];exact h2
 have hfit:¬ (!Builtin.List.listFitsIndex j)=true:=by
  rw [PySem.fitsIndex_both (by omega) (by have:j≤16777216:=by omega
                                          omega)]
  decide
 have hz1:its.toArray.size≤sizeLine:=by rw [List.size_toArray];exact Nat.le_of_succ_le hsz
 have M:=fun(x:Int) (y:Value) (hx:¬ (!Builtin.List.listFitsIndex x)=true)=>PySem.AutoSeq1.list_insert_list_int_val_1 l its.toArray n x t y hx hz1
 refine call_meets F.slot_list_insert ⟨_,e,rfl⟩ F.entry_list_insert (F.args_list_insert_3 _ _ _) (M _ _ hfit) ⟨e,?_⟩
 refine⟨.non,_,I.lset (its':=its.take i++_::its.drop i) hH e ?_ ((qJd r i).append (.cons ru (qKf r i))) ?_,rfl,q⟩
 · dsimp only
   rw [if_neg (by omega),hj,Int.toNat_natCast,List.size_toArray]
   by_cases hli:i≤its.length
   · rw [Nat.min_eq_left hli]
     simp
     exact List.take_of_length_le (by rw [List.length_drop];exact Nat.le_refl _)
   · rw [Nat.min_eq_right (by omega),List.take_of_length_le (show its.length≤i by omega),List.drop_eq_nil_of_le (show its.length≤i by omega)]
     simp
 · rw [List.length_append,List.length_take,List.length_cons,List.length_drop]
   have:min i xs.length+(xs.length - i+1)=its.length+1:=by omega
   rw [this];exact hsz
end L3
set_option maxRecDepth 100000
namespace L3
open PySem PySem.Spec PySem.W PyProof.Rows L2
section
variable {prog : Program} {w : World} {A : Around} {R : Result → Shared → Prop} {I : Addr} {fp wr : List Addr} {n : Nat} {P : Nat → Value → Prop} {St : Nat → Heap → Prop} {kw : List (Str × Value)}
theorem qNk (W:Walks prog w A.in1 I fp wr n P St)(bt:Nat→Nat→Bool)(hcmp:CmpOf prog w A.in1 .Lt P bt)(S:Addr)(hSf:S ∉ fp):
 ∀ (k j:Nat) (s:Shared) (vb:Value) (c:Nat),n - (j+1)=k→j+1≤n→St (j+1) s.heap→P (argBest bt j) vb→
 s.heap.get? S=some {cls:=.type "list",dict:=none,data:=.seq #[vb,vb] c,slots:=#[]}→
 (∀ v h' tk,P (argBest bt (n - 1)) v→(∀ b o,b ∉ wr→b≠S→s.heap.get? b=some o→h'.get? b=some o)→R (.ok (.ret v)) {s with heap:=h',toks:=tk})→
 codeAny (model prog w) A (.builtin "min.loop" ⟨[.ref I,.none,.ref S],kw⟩) R s:=by
 have hSw:S ∉ wr:=fun h=>hSf (W.sub _ h)
 have hname:(toString "min"++toString ".loop":String)="min.loop":=by decide
 intro k
 induction k with
 | zero=>
  intro j s vb c hk hj hst hPb hS hR
  have hin:j+1=n:=by omega
  refine codeAny_builtin F.entry_min_loop ?_
  rw [Around.under_plainId F.plain_min_loop _]
  refine wpAny_bind (wpAny_seqItems hS rfl (wpAny_bind (wpAny_tryCatch (W.done s _ _ (hin ▸ hst) fun h' tk hk'=>?_))))
  have hS':=hk' S _ hSw hS
  refine wpAny_bind (wpAny_updateSeq hS' rfl (wpAny_bind (wpAny_letGo (wpAny_pure ?_))))
  exact hR vb _ tk (by rw [← hin];exact hPb) fun b o hbw hbS e=>(Heap.get?_update_other _ _ (Ne.symm hbS)).trans (hk' b o hbw e)
 | succ k ih=>
  intro j s vb c hk hj hst hPb hS hR
  have hlt:j+1 < n:=by omega
  refine codeAny_builtin F.entry_min_loop ?_
  rw [Around.under_plainId F.plain_min_loop _]
  refine wpAny_bind (wpAny_seqItems hS rfl (wpAny_bind (wpAny_tryCatch (W.item (j+1) s _ _ hlt hst fun v h' tk hP hst' hk'=>?_))))
  have hS':=hk' S _ hSw hS
  show wpAny _ A.in1 (tryCatch (holding [v,v] (richCompare .Lt v vb >>=_)) _ >>=_) _ _ _
  refine wpAny_bind (wpAny_tryCatch (wpAny_holding (wpAny_bind (hcmp (j+1) (argBest bt j) v vb _ _ _ hP hPb (wpAny_bind (wpAny_holding (wpAny_truthy_bool (wpAny_bind (wpAny_letGo (wpAny_pure ?_))))))))))
  cases hb:bt (j+1) (argBest bt j) with
  | true=>
   simp only [if_true]
   refine wpAny_bind (wpAny_updateSeq hS' rfl (wpAny_bind (wpAny_letGo ?_)))
   rw [hname]
   refine wpAny_pure ⟨plainId_quiet F.plain_min_loop _,ih (j+1) _ v _ (by omega) hlt (W.frame _ _ _ hst' fun b hbf o e=>?_) (by simp only [argBest,hb,if_true];exact hP) (Heap.get?_update_self _ hS' rfl) fun v' h'' tk'' hP' hk''=>?_⟩
   · exact(Heap.get?_update_other _ _ (fun h:S=b=>hSf (by rw [h];exact hbf))).trans e
   · exact hR v' h'' tk'' hP' fun b o hbw hbS e=>hk'' b o hbw hbS ((Heap.get?_update_other _ _ (Ne.symm hbS)).trans (hk' b o hbw e))
  | false=>
   simp only [Bool.false_eq_true,if_false]
   refine wpAny_bind (wpAny_letGo ?_)
   rw [hname]
   refine wpAny_pure ⟨plainId_quiet F.plain_min_loop _,ih (j+1) _ vb c (by omega) hlt hst' (by simp only [argBest,hb,Bool.false_eq_true,if_false];exact hPb) hS' fun v' h'' tk'' hP' hk''=>?_⟩
   exact hR v' h'' tk'' hP' fun b o hbw hbS e=>hk'' b o hbw hbS (hk' b o hbw e)
theorem qQ1 (a v:Value):argsOk "min" ⟨[a],[(Str.ofString "default",v)]⟩:=by unfold argsOk;kernel_rfl
theorem qIn {l:Addr}{xs:Array (Int × Tok)}{d:Value}{E:Value→Shared→Prop}{s:Shared}{Q:Value→Shared→Prop}(hh:A.handled=none)(hl:s.heap.IsList l (intItems xs))
 (h0:xs.size=0→∀ h' tk,(∀ b o,s.heap.get? b=some o→h'.get? b=some o)→Q d {s with heap:=h',toks:=tk})
 (h1:0 < xs.size→∀ v h' tk,(intItems xs)[argBest (fun i j=>decide (numAt xs i < numAt xs j)) (xs.size - 1)]? =some v→(∀ b o,s.heap.get? b=some o→h'.get? b=some o)→Q v {s with heap:=h',toks:=tk}):
 wpAny (model prog w) A (call (.builtin "min") [.ref l] [(Str.ofString "default",d)]) Q E s:=by
 have hname:(toString "min"++toString ".loop":String)="min.loop":=by decide
 have hsz:(intItems xs).size=xs.size:=by simp [intItems]
 refine kmk_tree PySem.F.kind_min PySem.F.plain_min PySem.F.entry_min (qQ1 _ _) ?_
 refine wpAny_bind (wpAny_of_eq (show Builtin.Builtins.bindParams "min" ["key","default"] 0 ⟨[],[(Str.ofString "default",d)]⟩=pure [none,some d] from rfl) (wpAny_bind (wpAny_pure ?_)))
 refine wpAny_bind (iter_intList hl fun s₂ e st hfp hlI=>?_)
 subst e
 refine wpAny_bind (wpAny_newObj_type ?_)
 rw [hname]
 refine wpAny_pure ⟨plainId_quiet PySem.F.plain_min_loop _,?_⟩
 have W:=Walks.list (prog:=prog) (w:=w) (A:=A.in1) hh _ l hlI (intItems xs)
 generalize hs2:({s with heap:=s.heap.push {cls:=.type "list_iterator",data:=.fields #[.ref l,.int 0 0]}}:Shared)=s₂ at st hfp ⊢
 have hk0:∀ b o,s.heap.get? b=some o→s₂.heap.get? b=some o:=fun b o e=>by rw [← hs2];exact Heap.get?_push_of_some _ e
 have hfr:∀ b o,s.heap.get? b=some o→b ∉ [s.heap.objs.size]:=fun b o e z=>by
  rw [List.mem_singleton] at z
  exact absurd (Heap.lt_size e) (by rw [z];exact Nat.lt_irrefl _)
 have hos:∀ h' tk,({s with heap:=h',toks:=tk}:Shared)={s₂ with heap:=h',toks:=tk}:=fun h' tk=>by rw [← hs2]
 have hSf:s₂.heap.objs.size ∉ [s.heap.objs.size,l]:=fun hm=>Nat.lt_irrefl _ (hfp _ hm)
 have hSw:s₂.heap.objs.size ∉ [s.heap.objs.size]:=fun h=>hSf (W.sub _ h)
 have hst:=W.frame 0 s₂.heap (s₂.heap.push {cls:=.type "list",dict:=none,data:=.seq ([]:List Value).toArray}) st fun b _ o e=>Heap.get?_push_of_some _ e
 have hS:(s₂.heap.push {cls:=.type "list",dict:=none,data:=.seq ([]:List Value).toArray}).get? s₂.heap.objs.size=some {cls:=.type "list",dict:=none,data:=.seq ([]:List Value).toArray}:=Heap.get?_push_size _ rfl
 have hk1:∀ b o,s.heap.get? b=some o→(s₂.heap.push {cls:=.type "list",dict:=none,data:=.seq ([]:List Value).toArray}).get? b=some o∧b≠s₂.heap.objs.size:=fun b o e=>⟨Heap.get?_push_of_some _ (hk0 b o e),Nat.ne_of_lt (Heap.lt_size (hk0 b o e))⟩
 generalize s₂.heap.objs.size=S at hSf hSw hS hk1 ⊢
 generalize s₂.heap.push {cls:=.type "list",dict:=none,data:=.seq ([]:List Value).toArray}=G at hst hS hk1 ⊢
 refine codeAny_builtin F.entry_min_loop ?_
 rw [Around.under_plainId F.plain_min_loop _]
 refine wpAny_bind (wpAny_seqItems hS rfl (wpAny_bind (wpAny_tryCatch ?_)))
 by_cases hn:xs.size=0
 · refine W.done _ _ _ (by rw [hsz,hn];exact hst) fun h' tk hk'=>wpAny_bind (wpAny_rule (wpAny_pure ?_))
   have:=h0 hn h' tk fun b o e=>hk' b o (hfr b o e) (hk1 b o e).1
   rw [hos] at this
   exact this
 · refine W.item 0 _ _ _ (by rw [hsz];omega) hst fun v h' tk hP hst' hk'=>?_
   have hS':=hk' S _ hSw hS
   show wpAny _ A.in1 (updateSeq S (fun _=>#[v,v]) >>=_) _ _ _
   refine wpAny_bind ?_
   refine wpAny_updateSeq hS' rfl ?_
   rw [hname]
   refine wpAny_pure ⟨plainId_quiet F.plain_min_loop _,qNk W _ (CmpOf.ints_lt (numAt xs) (fun _ _=>intItems_at)) S hSf _ 0 _ v _ rfl (by omega) (W.frame _ _ _ hst' fun b hbf o e=>?_) hP (Heap.get?_update_self _ hS' rfl) fun v' h'' tk'' hP' hk''=>?_⟩
   · exact(Heap.get?_update_other _ _ (fun h:S=b=>hSf (by rw [h];exact hbf))).trans e
   · have:=h1 (by omega) v' h'' tk'' (by rw [hsz] at hP';exact hP') fun b o e=>hk'' b o (hfr b o e) (hk1 b o e).2 ((Heap.get?_update_other _ _ (Ne.symm (hk1 b o e).2)).trans (hk' b o (hfr b o e) (hk1 b o e).1))
     rw [hos] at this
     exact this
end
def qQq (K:PySem.W.Frag)(t:TA)(td:TE):TE:=fun σ H Q=>t σ H fun vs H1=>td σ H1 fun d H2=>∃ (p:Addr) (ns:List Int),vs=[.ref p]∧SqL K H2 p (ns.map V.int)∧∃ u:V,(ns=[]→u=d)∧(∀ m:Int,m∈ns→(∀ n∈ns,m≤n)→u= .int m)∧Q u H2
theorem qNl {X:Cx}{e dv:Expr}{t:TA}{td:TE}{p kp pos:Pos}(hc:X.calm=true)(hg:Gl X "min")(hm:X.mg "min"=none)(ha:PA X [e] t)(hd:PE X dv td)
 (he:backTo pos (starEach [e] X.env)=(false,eval e X.env)::backTo pos (starEach [] X.env):=by rfl) (hpl:(backTo pos (starEach [e] X.env)).any (·.1)=false:=by rfl):PE X (.Call (.Name "min" p) [e] [⟨some (Str.ofString "default"),dv,kp⟩] pos) (qQq X.K t td):=by
 intro pins s σ H Q I h
 refine wpAny_Call_Name_kw (wC I hg hm (by rfl) ?_ (by decide) (by decide))
 refine callWith_kw (thn (ha pos pins s σ H _ I h) fun us s1 ⟨vs,H1,I1,r1,q1⟩=>kws_cons (thn (hd pins s1 σ H1 _ I1 q1) fun d s2 ⟨y,H2,I2,ry,p,ns,ev,hq,u0,q0,q2,qq⟩=>kws_nil ?_)) he hpl (by rfl) (by rfl)
 subst ev
 obtain⟨u,rfl,rx⟩:=kj r1
 cases rx
 obtain⟨its,rv,pl,hz⟩:=I2.list hq
 obtain⟨ys,e1,e2⟩:=qCe rv
 have pl':=pl.isList
 rw [e1] at pl'
 have hlen:ys.length=ns.length:=by rw [← e2,List.length_map]
 refine qIn (I2.ok.hd hc) pl' (fun h0 h' tk hk=>?_) fun h0 v h' tk hv hk=>?_
 · have:ns=[]:=List.eq_nil_of_length_eq_zero (by simp only [List.size_toArray] at h0;omega)
   rw [q0 this] at qq
   exact⟨y,H2,I2.kept fun b o e=>hk b o e,ry,qq⟩
 · obtain⟨t,rfl⟩:=intItems_at hv
   have B:=argBest_lt (numAt ys.toArray) (ys.toArray.size - 1)
   simp only [List.size_toArray] at h0
   have num:∀ j,j < ys.length→∃ n,ns[j]? =some n∧numAt ys.toArray j=n:=fun j hj=>by
    refine⟨(ys[j]).1,?_,?_⟩
    · rw [← e2,List.getElem?_map,List.getElem?_eq_getElem hj];rfl
    · simp [numAt,hj]
   have hb:argBest (fun i j=>decide (numAt ys.toArray i < numAt ys.toArray j)) (ys.toArray.size - 1) < ys.length:=by
    have:=B.1
    simp only [List.size_toArray] at this ⊢
    omega
   obtain⟨n,hn,en⟩:=num _ hb
   refine⟨.int _,H2,I2.kept fun b o e=>hk b o e,⟨_,rfl⟩,?_⟩
   rw [en]
   rw [q2 n (List.mem_of_getElem? hn) fun x hx=>?_] at qq
   · exact qq
   obtain⟨j,hj,ej⟩:=List.mem_iff_getElem.mp hx
   obtain⟨n',hn',en'⟩:=num j (by omega)
   have:x=n':=by rw [List.getElem?_eq_getElem hj,ej] at hn';exact Option.some.inj hn'
   rw [this,← en',← en]
   exact B.2 j (by simp only [List.size_toArray];omega)
end L3
set_option maxRecDepth 100000
namespace L3
open PySem PySem.Spec PyProof.Rows L2
def CompEnd5 (K:PySem.W.Frag)(js:List Nat)(te:TE)(σ:L2.St)(Q:VK)(J:It)(H1:Hp):Prop:=∃ W:Nat→Nat→List V→Hp→Prop,(∃ m,W 0 m [] H1)∧∀ i m acc H2,W i m acc H2→
 acc.length < sizeLine∧((J.stop i H2∧∀ D,H2 D=none→Q (.ref D) (upd H2 D (.lst acc)))∨
  (J.go i H2∧∀ x H3,J.yld i H2 x H3→∃ p v1 v2 v3 v4 v5,x= .ref p∧SqT K H3 p [v1,v2,v3,v4,v5]∧te (some v1::some v2::some v3::some v4::some v5::kc js σ) H3 fun v H5=>∃ m',m' < m∧W (i+1) m' (acc++[v]) H5))
def qPw (K:PySem.W.Frag)(js:List Nat)(wi:TI)(te:TE):TE:=fun σ H Q=>wi σ H (CompEnd5 K js te σ Q)
def g5 (K:PySem.W.Frag):TG:=qQj K 5 (qAf (zH 0) (qAf (zH 1) (qAf (zH 2) (qAf (zH 3) (qAf (zH 4) qQm)))))
theorem CompEnd5.g {K:PySem.W.Frag}{js:List Nat}{te:TE}(σ:L2.St)(Q:VK)(J:It)(H1:Hp):CompEnd5 K js te σ Q J H1→zB 5 js (g5 K) (fun _ H Q=>Q true H) te σ Q J H1:=fun⟨W,w0,st⟩=>
 ⟨W,w0,fun i m acc H2 w=>⟨(st i m acc H2 w).1,(st i m acc H2 w).2.imp id fun⟨go,y⟩=>⟨go,fun x H3 z=>let ⟨p,v1,v2,v3,v4,v5,e,q,r⟩:=y x H3 z;⟨p,_,e,q,rfl,v1,_,rfl,v2,_,rfl,v3,_,rfl,v4,_,rfl,v5,_,rfl,rfl,[some v1,some v2,some v3,some v4,some v5],rfl,rfl,r⟩⟩⟩⟩
theorem qKz {X:Cx}{elt iter:Expr}{x1 x2 x3 x4 x5:Str}{p1 p2 p3 p4 p5:Pos}{tk:Nat}{tpos:Pos}{scope:Scope}{cl:List (Str × Addr)}{pos:Pos}{wi:TI}{te:TE}(ys:List Str)(js:List Nat)
 (hcm:X.calm=true) (hi:PI X (.Tuple [.Name x1 p1,.Name x2 p2,.Name x3 p3,.Name x4 p4,.Name x5 p5] tk tpos) iter wi) (he:∀ C s H fp,PE (q9 X scope cl C (x1::x2::x3::x4::x5::ys) s H fp).nox elt te) (h1:scope.names.lookup x1=some .local:=by rfl) (h2:scope.names.lookup x2=some .local:=by rfl) (h3:scope.names.lookup x3=some .local:=by rfl) (h4:scope.names.lookup x4=some .local:=by rfl) (h5:scope.names.lookup x5=some .local:=by rfl) (hC:COk X scope cl iter [x1,x2,x3,x4,x5] ys js:=by exact⟨rfl,rfl,rfl,rfl,rfl,rfl,rfl,rfl,fun _=>rfl,by decide⟩):PE X (.ListComp elt [⟨.Tuple [.Name x1 p1,.Name x2 p2,.Name x3 p3,.Name x4 p4,.Name x5 p5] tk tpos,iter,[],0⟩] scope pos) (qPw X.K js wi te):=
 qB7 (xs:=[x1,x2,x3,x4,x5]) (T:=CompEnd5 X.K js te) hcm hi (fun C s H fp=>qDv (X:=(q9 X scope cl C ([x1,x2,x3,x4,x5]++ys) s H fp).nox) hcm (jV (ql (i:=0) hC.nd rfl (.inl (lookup_relabel_local h1)) (.inr (lookup_relabel_local h1))) (jV (ql (i:=1) hC.nd rfl (.inl (lookup_relabel_local h2)) (.inr (lookup_relabel_local h2))) (jV (ql (i:=2) hC.nd rfl (.inl (lookup_relabel_local h3)) (.inr (lookup_relabel_local h3))) (jV (ql (i:=3) hC.nd rfl (.inl (lookup_relabel_local h4)) (.inr (lookup_relabel_local h4))) (jV (ql (i:=4) hC.nd rfl (.inl (lookup_relabel_local h5)) (.inr (lookup_relabel_local h5))) qAa)))))) (fun _ _ _ _=>qEe) he hC CompEnd5.g
theorem qIt {K:PySem.W.Frag}{a:Addr}{xs:List V}{js:List Nat}{te:TE}{σ:L2.St}{H:Hp}{Q:VK}(Pv:Nat→List V→Hp→Prop)(h0:Pv 0 [] H)(hl:∀ i acc H,i≤xs.length→Pv i acc H→SqT K H a xs∧acc.length < sizeLine)
 (hs:∀ i x acc H,i < xs.length→xs[i]? =some x→Pv i acc H→∃ p v1 v2 v3 v4 v5,x= .ref p∧SqT K H p [v1,v2,v3,v4,v5]∧te (some v1::some v2::some v3::some v4::some v5::kc js σ) H fun v H'=>Nxt xs.length i (Pv (i+1) (acc++[v]) H')) (hd:∀ acc H,Pv xs.length acc H→∀ D,H D=none→Q (.ref D) (upd H D (.lst acc))):CompEnd5 K js te σ Q (Itt K a) H:=by
 refine⟨fun i m acc H=>m=xs.length - i∧i≤xs.length∧Pv i acc H,⟨xs.length,by simp,Nat.zero_le _,h0⟩,?_⟩
 rintro i m acc H2 ⟨rfl,hi,p⟩
 obtain⟨q,hz⟩:=hl i acc H2 hi p
 refine⟨hz,?_⟩
 by_cases hlt:i < xs.length
 · refine .inr ⟨⟨xs,xs[i],q,by simp [hlt]⟩,fun x H3 y=>?_⟩
   obtain⟨e,y⟩:=y
   subst e
   exact hs i x acc _ hlt (y xs q) p
 · have e:i=xs.length:=by omega
   subst e
   exact .inl ⟨⟨xs,q,Nat.le_refl _⟩,hd acc H2 p⟩
end L3
set_option maxRecDepth 100000
namespace L3
open PySem PySem.Spec PyProof.Rows L2
section
variable {X : Cx} {elt iter tg : Expr} {cs : List Expr} {scope : Scope} {cl : List (Str × Addr)} {pos : Pos} {wi : TI} {g : TG} {tc : TT} {te : TE} {xs ys : List Str} {js : List Nat} {T : L2.St → VK → It → Hp → Prop} {Ex : Value → Option Addr → Hp → Prop}
end
end L3
set_option maxRecDepth 100000
namespace L3
open PySem PySem.Spec PyProof.Rows L2
variable {X : Cx}
end L3
set_option maxRecDepth 100000
namespace L3
open PySem PySem.Spec PyProof.Rows L2
section
variable {prog : Program} {w : World} {A : Around} {E : Value → Shared → Prop} {s : Shared}
end
end L3
set_option maxRecDepth 100000
namespace L3
open PySem PySem.Spec PyProof.Rows L2
inductive KEs (P:Params):List (Str × V)→List DictEntry→Prop where
 | nil:KEs P [] []
 | cons {k:Str} {t:Tok} {v:V} {u:Value} {l:List (Str × V)} {es:List DictEntry} (r:RelV v u) (q:KEs P l es):KEs P ((k,v)::l) (⟨PyData.keyHash P k,.str k t,u⟩::es)
structure KDi (K:PySem.W.Frag)(P:Params)(a:Addr)(l:List (Str × V)):Prop where
 ex:∃ es n,K.lookup a=some ⟨.type "dict",none,.dict es n,#[]⟩∧KEs P l es.toList
 ns:(a == sysModules)=false
theorem KEs.lit {P:Params}{l:List (Str × V)}{es:List DictEntry}(h:KEs P l es):PySem.W.KeysLit P es:=by
 induction h with
 | nil=>trivial
 | cons r q ih=>exact⟨⟨_,_,rfl,rfl⟩,ih⟩
theorem KEs.find {P:Params}{l:List (Str × V)}{es:List DictEntry}(h:KEs P l es)(k:Str):RelO (l.lookup k) ((es.find? fun e=>Value.isStrOf k e.key).map (·.val)):=by
 induction h with
 | nil=>exact True.intro
 | @cons k' t v u l es r q ih=>
  rw [List.lookup_cons,List.find?_cons]
  show RelO _ (Option.map _ (match k' == k with | true=>_ | false=>_))
  have e:(k == k')=(k' == k):=Bool.beq_comm
  rw [e]
  cases k' == k with
  | true=>exact r
  | false=>exact ih
theorem KDi.map {X:Cx}{pins:List (Addr × Obj)}{σ:L2.St}{H:Hp}{s:Shared}{a:Addr}{l:List (Str × V)}(I:Inv X pins σ H s)(h:KDi X.K X.w.params a l):∃ f:Str→Option Value,s.heap.MapOf (strKind X.prog X.w) a f∧∀ k,RelO (l.lookup k) (f k):=by
 obtain⟨es,n,hl,q⟩:=h.ex
 refine⟨_,PySem.W.mapOf_K (prog:=X.prog) (fun b o e=>I.kIn b o e) hl q.lit,fun k=>?_⟩
 have:=q.find k
 unfold findBy
 rw [← Array.find?_toList]
 exact this
section
variable {X : Cx} {o i : Expr} {pos : Pos} {td ty : TE}
end
end L3
set_option maxRecDepth 100000
namespace L3
open PySem PySem.Spec PyProof.Rows L2
variable {X : Cx}
end L3
set_option maxRecDepth 100000
namespace L3
open PySem PySem.Spec PyProof.Rows L2 PySem.Builtin.Str PySem.StrLaws
end L3
set_option maxRecDepth 100000
namespace L3
open PySem PySem.Spec PyProof.Rows L2
section
variable {prog : Program} {w : World} {A : Around} {E : Value → Shared → Prop} {s : Shared}
variable {env : Env} {nm q : Str} {C N : Addr} {bs bm : List Value} {hdct : Bool} {sn : List Str} {sub : List Value} {ab : Bool} {col : Option Bool} {dd : Option Addr} {k0 k1 k2 k3 k5 : Option Value} {newId : String}
variable {bmB : List Value} {B initId : String}
end
section
variable {P : Program} {w : World} {K : PySem.W.Frag} {mg : Str → Option Value} {base : Heap}
end
end L3
set_option maxRecDepth 100000
namespace L3
open PySem PySem.Spec PyProof.Rows L2
variable {X : Cx}
theorem qG9:xX X (.type "dict") (fun xs H Q=>∃ (a:Addr) (kvs:List (Key × V)),xs=[.ref a]∧Rd H a (.dK kvs)∧∀ p,H p=none→Q (.ref p) (upd H p (.dK kvs))):=by
 intro pins s σ H xs us Q I r h
 obtain⟨a,kvs,rfl,e,q⟩:=h
 obtain⟨u,rfl,rx⟩:=kj r
 cases rx
 exact qLt I e fun p s' hp I'=>⟨.ref p,_,I',rfl,q p hp⟩
end L3
set_option maxRecDepth 100000
namespace WS
open PySem PyProof.Rows
structure WB (a₀:Array Keyed)(st:SortSt):Prop where
 size:(arrOf st).size=a₀.size
 mem:∀ x,x∈(arrOf st).toList→x∈a₀.toList
 kind:kindOf st=oneType'
 failed:failedOf st=none
abbrev IsK (x:Keyed):Prop:=∃ n t,x.1= .int n t
theorem WB.perm {a₀:Array Keyed}{st:SortSt}(h:WB a₀ st){xs:Array Keyed}(hp:xs.Perm (arrOf st)):WB a₀ (setArr st xs):=
 ⟨hp.size_eq.trans h.size,fun x hx=>h.mem x ((Array.perm_iff_toList_perm.mp hp).mem_iff.mp hx),h.kind,h.failed⟩
section
variable {prog : Program} {w : World} {A : Around} {E : Value → Shared → Prop} {s : Shared} {a₀ : Array Keyed}
theorem je {c:Prop} [Decidable c] {α:Type}{m m':StateT SortSt Sem α}{Q:α→SortSt→Prop}{st:SortSt}(h1:c→wpS (model prog w) A E s m Q st)(h2:¬ c→wpS (model prog w) A E s m' Q st):wpS (model prog w) A E s (if c then m else m') Q st:=by
 split
 · exact h1 ‹_›
 · exact h2 ‹_›
theorem qy {arr:Array Keyed}{i:Nat}{st:SortSt}{Q:Keyed→SortSt→Prop}(hi:i < arr.size)(h:∀ x,x∈arr.toList→Q x st):wpS (model prog w) A E s (elem' arr i) Q st:=by
 rw [elem'_eq,getElem?_pos arr i hi]
 exact wpS_pure (h _ (by simp))
theorem qJb {x y:Keyed}{st:SortSt}{Q:Option Bool→SortSt→Prop}(hk:kindOf st=oneType')(hx:IsK x)(hy:IsK y)(h:∀ b,Q (some b) st):wpS (model prog w) A E s (lt' x y) Q st:=by
 obtain⟨n,t,e⟩:=hx
 obtain⟨m,u,e'⟩:=hy
 rw [lt'_eq,e,e']
 refine wpS_bind (wpS_get ?_)
 rw [hk,keyLt'_oneType]
 refine wpS_bind (wpS_lift (wpAny_attempt (oneLt_int ⟨rfl,?_⟩)))
 exact wpS_pure (h _)
theorem zM {st:SortSt}{i j:Nat}{Q:Option Bool→SortSt→Prop}(h0:IntKeys a₀)(hB:WB a₀ st)(hi:i < a₀.size)(hj:j < a₀.size)(h:∀ b,Q (some b) st):wpS (model prog w) A E s (ltAt' i j) Q st:=by
 rw [ltAt'_eq]
 refine wpS_bind (wpS_get ?_)
 refine wpS_bind (qy (by rw [hB.size];exact hi) fun x hx=>?_)
 refine wpS_bind (qy (by rw [hB.size];exact hj) fun y hy=>?_)
 exact qJb hB.kind (h0 _ (hB.mem _ hx)) (h0 _ (hB.mem _ hy)) h
def qNp:Bool→Keyed→Array Keyed→Nat→Nat→Nat→StateT SortSt Sem (Option Nat):=sortPriv% PySem.Builtin.gallop
theorem xU {left:Bool}{key:Keyed}{arr:Array Keyed}{base n hint:Nat}{st:SortSt}{Q:Option Nat→SortSt→Prop}(hk:kindOf st=oneType')(hkey:IsK key)(h0:IntKeys arr)
 (hb:base+n≤arr.size) (hh:hint < n) (h:∀ k,k≤n→Q (some k) st):wpS (model prog w) A E s (qNp left key arr base n hint) Q st:=by
 have bey:∀ {i:Nat} {Q':Option Bool→SortSt→Prop},i < n→(∀ b,Q' (some b) st)→wpS (model prog w) A E s (elem' arr (base+i) >>=fun x=>if left=true then lt' x key else lt' key x >>=fun r=>pure (r.map (!·))) Q' st:=by
  intro i Q' hi h'
  refine wpS_bind (qy (by omega) fun x hx=>?_)
  cases left
  · exact wpS_bind (qJb hk hkey (h0 _ hx) fun b=>wpS_pure (h' _))
  · exact qJb hk (h0 _ hx) hkey h'
 have fin:∀ lo hi,hi≤n→wpS (model prog w) A E s (forIn [:n] ((none,lo,hi):Option (Option Nat) × Nat × Nat) fun _ (c:Option (Option Nat) × Nat × Nat)=>if c.2.1 ≥ c.2.2 then pure (ForInStep.done (none,c.2.1,c.2.2)) else
  (elem' arr (base+(c.2.1+(c.2.2 - c.2.1) / 2)) >>=fun x=>if left=true then lt' x key else lt' key x >>=fun r=>pure (r.map (!·))) >>=fun x=>match x with
    | some more=>if more=true then pure (ForInStep.yield (none,c.2.1+(c.2.2 - c.2.1) / 2+1,c.2.2)) else pure (ForInStep.yield (none,c.2.1,c.2.1+(c.2.2 - c.2.1) / 2))
    | _=>pure (ForInStep.done (some none,c.2.1,c.2.2)))
  (fun(c:Option (Option Nat) × Nat × Nat) st'=>st'=st∧c.1=none∧c.2.2≤n) st:=by
  intro lo hi hl
  refine wpS_forRange (I:=fun _ (c:Option (Option Nat) × Nat × Nat) st'=>st'=st∧c.1=none∧c.2.2≤n) ?_ (fun _ _ h=>h) ⟨rfl,rfl,hl⟩
  rintro _ ⟨r,lo,hi⟩ _ _ _ ⟨rfl,_,hl⟩
  dsimp only at hl ⊢
  split
  · exact wpS_pure ⟨rfl,rfl,hl⟩
  · refine wpS_bind (bey (by omega) fun b=>?_)
    cases b
    · exact wpS_pure ⟨rfl,rfl,by dsimp only;omega⟩
    · exact wpS_pure ⟨rfl,rfl,hl⟩
 refine wpS_bind (bey hh fun b=>?_)
 cases b
 · refine wpS_bind (wpS_mono (wpS_forRange (I:=fun _ c st'=>st'=st∧c.1=none) (Q:=fun c st'=>st'=st∧c.1=none) ?_ (fun _ _ h=>h) ⟨rfl,rfl⟩) ?_)
   · rintro _ ⟨r,lo,hi⟩ _ _ _ ⟨rfl,_⟩
     dsimp only
     split
     · exact wpS_pure ⟨rfl,rfl⟩
     · refine wpS_bind (bey (by omega) fun b=>?_)
       cases b
       · exact wpS_pure ⟨rfl,rfl⟩
       · exact wpS_pure ⟨rfl,rfl⟩
   · rintro ⟨r,lo,hi⟩ _ ⟨rfl,rfl⟩
     refine wpS_bind (wpS_mono (fin _ _ (by omega)) ?_)
     rintro ⟨r,lo,hi⟩ _ ⟨rfl,rfl,hl⟩
     exact wpS_pure (h _ hl)
 · refine wpS_bind (wpS_mono (wpS_forRange (I:=fun _ c st'=>st'=st∧c.1=none) (Q:=fun c st'=>st'=st∧c.1=none) ?_ (fun _ _ h=>h) ⟨rfl,rfl⟩) ?_)
   · rintro _ ⟨r,lo,hi⟩ _ _ _ ⟨rfl,_⟩
     dsimp only
     split
     · exact wpS_pure ⟨rfl,rfl⟩
     · refine wpS_bind (bey (by omega) fun b=>?_)
       cases b
       · exact wpS_pure ⟨rfl,rfl⟩
       · exact wpS_pure ⟨rfl,rfl⟩
   · rintro ⟨r,lo,hi⟩ _ ⟨rfl,rfl⟩
     refine wpS_bind (wpS_mono (fin _ _ (by omega)) ?_)
     rintro ⟨r,lo,hi⟩ _ ⟨rfl,rfl,hl⟩
     exact wpS_pure (h _ hl)
def qCj:Nat→StateT SortSt Sem Unit:=sortPriv% PySem.Builtin.setMinGallop
structure SM (a₀:Array Keyed)(st st':SortSt):Prop where
 wb:WB a₀ st'
 arr:arrOf st'=arrOf st
 pend:pendingOf st'=pendingOf st
theorem wS {g:Nat}{st st':SortSt}{Q:Unit→SortSt→Prop}(hS:SM a₀ st st')(h:∀ st'',SM a₀ st st''→Q () st''):wpS (model prog w) A E s (qCj g) Q st':=
 wpS_modify (h _ ⟨⟨hS.wb.size,hS.wb.mem,hS.wb.kind,hS.wb.failed⟩,hS.arr,hS.pend⟩)
def Gd (a b o:Array Keyed):Prop:=∀ x,x∈o.toList→x∈a.toList∨x∈b.toList
theorem Gd.push {a b o:Array Keyed}{x:Keyed}(h:Gd a b o)(hx:x∈a.toList∨x∈b.toList):Gd a b (o.push x):=fun y hy=>by
 rw [Array.toList_push,List.mem_append,List.mem_singleton] at hy
 rcases hy with hy | rfl
 · exact h y hy
 · exact hx
theorem Gd.app {a b o o':Array Keyed}(h:Gd a b o)(h':Gd a b o'):Gd a b (o++o'):=fun y hy=>by
 rw [Array.toList_append,List.mem_append] at hy
 rcases hy with hy | hy
 · exact h y hy
 · exact h' y hy
theorem qCs {a:Array Keyed}{i j:Nat}{x:Keyed}(h:x∈(a.extract i j).toList):x∈a.toList:=by
 rw [Array.toList_extract] at h
 exact List.mem_of_mem_drop (List.mem_of_mem_take (by simpa [List.extract_eq_take_drop] using h))
theorem Gd.exa {a b:Array Keyed}{i j:Nat}:Gd a b (a.extract i j):=fun _ hx=>.inl (qCs hx)
theorem Gd.exb {a b:Array Keyed}{i j:Nat}:Gd a b (b.extract i j):=fun _ hx=>.inr (qCs hx)
theorem Gd.rev {a b o:Array Keyed}(h:Gd a b o):Gd a b o.reverse:=fun x hx=>h x (by simpa using hx)
theorem Gd.one {a b:Array Keyed}{x:Keyed}(hx:x∈a.toList∨x∈b.toList):Gd a b #[x]:=fun y hy=>by
 obtain rfl:y=x:=by simpa using hy
 exact hx
def qK6:Array Keyed→Array Keyed→StateT SortSt Sem (Array Keyed):=sortPriv% PySem.Builtin.mergeLo
theorem qJp {a b:Array Keyed}{st:SortSt}{Q:Array Keyed→SortSt→Prop}(hB:WB a₀ st)(ha:IntKeys a)(hb:IntKeys b)(na:1≤a.size)(nb:1≤b.size)
 (h:∀ c st',SM a₀ st st'→Gd a b c→Q c st'):wpS (model prog w) A E s (qK6 a b) Q st:=by
 refine wpS_bind (wpS_lift (wpAny_rule ⟨rfl,?_⟩))
 refine wpS_bind (qy nb fun x hx=>?_)
 dsimp only
 have hS:SM a₀ st st:=⟨hB,rfl,rfl⟩
 (refine je (fun hc=>?_) (fun hc=>?_) <;> (try simp only [beq_iff_eq] at hc))
 · exact wpS_pure (h _ _ hS (by with_reducible (repeat' first | assumption | exact Gd.exa | exact Gd.exb | apply Gd.app | apply Gd.push | apply Gd.rev | apply Gd.one | (apply Or.inl;assumption) | (apply Or.inr;assumption))))
 (refine je (fun hc=>?_) (fun hc=>?_) <;> (try simp only [beq_iff_eq] at hc))
 · exact wpS_pure (h _ _ hS (by with_reducible (repeat' first | assumption | exact Gd.exa | exact Gd.exb | apply Gd.app | apply Gd.push | apply Gd.rev | apply Gd.one | (apply Or.inl;assumption) | (apply Or.inr;assumption))))
 refine wpS_bind (wpS_get ?_)
 refine wpS_bind (wpS_mono (wpS_forRange
  (I:=fun i c st'=>SM a₀ st st'∧c.1=none∧Gd a b c.2.1∧c.2.2.1+1 < a.size∧c.2.2.2.1 < b.size∧i+1≤c.2.2.1+c.2.2.2.1)
  (Q:=fun c st'=>SM a₀ st st'∧∃ o,c.1=some o∧Gd a b o) ?step ?fin ⟨hS,rfl,by with_reducible (repeat' first | assumption | exact Gd.exa | exact Gd.exb | apply Gd.app | apply Gd.push | apply Gd.rev | apply Gd.one | (apply Or.inl;assumption) | (apply Or.inr;assumption)),by dsimp only;omega,by dsimp only;omega,by dsimp only;omega⟩) ?post)
 case fin=>
  rintro ⟨r,o,ia,ib,mg⟩ st' ⟨_,_,_,h1,h2,h3⟩
  dsimp only at h1 h2 h3
  omega
 case post=>
  rintro ⟨r,o,ia,ib,mg⟩ st' ⟨hS',o',rfl,hg⟩
  exact wpS_pure (h _ _ hS' hg)
 case step=>
  rintro i ⟨r,o,ia,ib,mg⟩ st1 _ hi ⟨hS1,rfl,hg1,h1,h2,h3⟩
  dsimp only at hg1 h1 h2 h3 ⊢
  refine wpS_bind (wpS_mono (wpS_forRange
   (I:=fun y c st'=>SM a₀ st st'∧c.1=none∧Gd a b c.2.1∧c.2.2.1+1 < a.size∧c.2.2.2.1 < b.size∧i+1+y≤c.2.2.1+c.2.2.2.1)
   (Q:=fun c st'=>SM a₀ st st'∧((∃ o,c.1=some o∧Gd a b o)∨c.1=none∧Gd a b c.2.1∧c.2.2.1+1 < a.size∧c.2.2.2.1 < b.size∧i+2≤c.2.2.1+c.2.2.2.1)) ?st2 ?fi2 ⟨hS1,rfl,hg1,h1,h2,h3⟩) ?po2)
  case fi2=>
   rintro ⟨r,o,ia,ib,ac,bc⟩ st' ⟨h0,h0',h0'',h1,h2,h3⟩
   exact⟨h0,.inr ⟨h0',h0'',h1,h2,by dsimp only at h3 ⊢;omega⟩⟩
  case st2=>
   rintro y ⟨r,o,ia,ib,ac,bc⟩ st2 _ hy ⟨hS2,rfl,hg2,h1,h2,h3⟩
   dsimp only at hg2 h1 h2 h3 ⊢
   refine wpS_bind (qy h2 fun x1 hx1=>?_)
   refine wpS_bind (qy (by omega) fun x2 hx2=>?_)
   refine wpS_bind (qJb hS2.wb.kind (hb _ hx1) (ha _ hx2) fun c=>?_)
   cases c
   · refine wpS_bind (qy (by omega) fun x3 hx3=>?_)
     (refine je (fun hc=>?_) (fun hc=>?_) <;> (try simp only [beq_iff_eq] at hc))
     · exact wpS_pure ⟨hS2,.inl ⟨_,rfl,by with_reducible (repeat' first | assumption | exact Gd.exa | exact Gd.exb | apply Gd.app | apply Gd.push | apply Gd.rev | apply Gd.one | (apply Or.inl;assumption) | (apply Or.inr;assumption))⟩⟩
     (refine je (fun hc=>?_) (fun hc=>?_) <;> (try simp only [beq_iff_eq] at hc))
     · exact wpS_pure ⟨hS2,.inr ⟨rfl,by dsimp only;with_reducible (repeat' first | assumption | exact Gd.exa | exact Gd.exb | apply Gd.app | apply Gd.push | apply Gd.rev | apply Gd.one | (apply Or.inl;assumption) | (apply Or.inr;assumption)),by dsimp only;omega,by dsimp only;omega,by dsimp only;omega⟩⟩
     · exact wpS_pure ⟨hS2,rfl,by dsimp only;with_reducible (repeat' first | assumption | exact Gd.exa | exact Gd.exb | apply Gd.app | apply Gd.push | apply Gd.rev | apply Gd.one | (apply Or.inl;assumption) | (apply Or.inr;assumption)),by dsimp only;omega,by dsimp only;omega,by dsimp only;omega⟩
   · refine wpS_bind (qy (by omega) fun x3 hx3=>?_)
     (refine je (fun hc=>?_) (fun hc=>?_) <;> (try simp only [beq_iff_eq] at hc))
     · exact wpS_pure ⟨hS2,.inl ⟨_,rfl,by with_reducible (repeat' first | assumption | exact Gd.exa | exact Gd.exb | apply Gd.app | apply Gd.push | apply Gd.rev | apply Gd.one | (apply Or.inl;assumption) | (apply Or.inr;assumption))⟩⟩
     (refine je (fun hc=>?_) (fun hc=>?_) <;> (try simp only [beq_iff_eq] at hc))
     · exact wpS_pure ⟨hS2,.inr ⟨rfl,by dsimp only;with_reducible (repeat' first | assumption | exact Gd.exa | exact Gd.exb | apply Gd.app | apply Gd.push | apply Gd.rev | apply Gd.one | (apply Or.inl;assumption) | (apply Or.inr;assumption)),by dsimp only;omega,by dsimp only;omega,by dsimp only;omega⟩⟩
     · exact wpS_pure ⟨hS2,rfl,by dsimp only;with_reducible (repeat' first | assumption | exact Gd.exa | exact Gd.exb | apply Gd.app | apply Gd.push | apply Gd.rev | apply Gd.one | (apply Or.inl;assumption) | (apply Or.inr;assumption)),by dsimp only;omega,by dsimp only;omega,by dsimp only;omega⟩
  case po2=>
   rintro ⟨r,o,ia,ib,ac,bc⟩ st2 ⟨hS2,⟨o',rfl,hg⟩ | ⟨rfl,hg2,h1,h2,h3⟩⟩
   · exact wpS_pure ⟨hS2,o',rfl,hg⟩
   dsimp only at hg2 h1 h2 h3 ⊢
   refine wpS_bind (wpS_lift (wpAny_rule ⟨rfl,?_⟩))
   refine wpS_bind (wpS_mono (wpS_forRange
    (I:=fun _ c st'=>SM a₀ st st'∧c.1=none∧Gd a b c.2.1∧c.2.2.1+1 < a.size∧c.2.2.2.1 < b.size∧i+2≤c.2.2.1+c.2.2.2.1)
    (Q:=fun c st'=>SM a₀ st st'∧((∃ o,c.1=some o∧Gd a b o)∨c.1=none∧Gd a b c.2.1∧c.2.2.1+1 < a.size∧c.2.2.2.1 < b.size∧i+2≤c.2.2.1+c.2.2.2.1)) ?st3 (fun _ _ h=>⟨h.1,.inr h.2⟩) ⟨hS2,rfl,hg2,h1,h2,h3⟩) ?po3)
   case po3=>
    rintro ⟨r,o,ia,ib,mg,ac,bc⟩ st3 ⟨hS3,⟨o',rfl,hg⟩ | ⟨rfl,hg3,h1,h2,h3⟩⟩
    · exact wpS_pure ⟨hS3,o',rfl,hg⟩
    · exact wpS_bind (wS hS3 fun st4 hS4=>wpS_pure ⟨hS4,rfl,hg3,h1,h2,by dsimp only at h3 ⊢;omega⟩)
   case st3=>
    rintro y ⟨r,o,ia,ib,mg,ac,bc⟩ st3 _ hy ⟨hS3,rfl,hg3,h1,h2,h3⟩
    dsimp only at hg3 h1 h2 h3 ⊢
    (refine je (fun hc=>?_) (fun hc=>?_) <;> (try simp only [beq_iff_eq] at hc))
    all_goals
     refine wpS_bind (wS hS3 fun st4 hS4=>?_)
     refine wpS_bind (qy h2 fun x1 hx1=>?_)
     refine wpS_bind (xU hS4.wb.kind (hb _ hx1) ha (by omega) (by omega) fun k hk=>?_)
     dsimp only
     (refine je (fun hc=>?_) (fun hc=>?_) <;> (try simp only [beq_iff_eq] at hc))
     · (refine je (fun hc=>?_) (fun hc=>?_) <;> (try simp only [beq_iff_eq] at hc))
       · exact wpS_pure ⟨hS4,.inl ⟨_,rfl,by with_reducible (repeat' first | assumption | exact Gd.exa | exact Gd.exb | apply Gd.app | apply Gd.push | apply Gd.rev | apply Gd.one | (apply Or.inl;assumption) | (apply Or.inr;assumption))⟩⟩
       (refine je (fun hc=>?_) (fun hc=>?_) <;> (try simp only [beq_iff_eq] at hc))
       · exact wpS_pure ⟨hS4,.inl ⟨_,rfl,by with_reducible (repeat' first | assumption | exact Gd.exa | exact Gd.exb | apply Gd.app | apply Gd.push | apply Gd.rev | apply Gd.one | (apply Or.inl;assumption) | (apply Or.inr;assumption))⟩⟩
       refine wpS_bind (qy h2 fun x3 hx3=>?_)
       (refine je (fun hc=>?_) (fun hc=>?_) <;> (try simp only [beq_iff_eq] at hc))
       · exact wpS_pure ⟨hS4,.inl ⟨_,rfl,by with_reducible (repeat' first | assumption | exact Gd.exa | exact Gd.exb | apply Gd.app | apply Gd.push | apply Gd.rev | apply Gd.one | (apply Or.inl;assumption) | (apply Or.inr;assumption))⟩⟩
       refine wpS_bind (qy (by omega) fun x4 hx4=>?_)
       refine wpS_bind (xU hS4.wb.kind (ha _ hx4) hb (by omega) (by omega) fun k2 hk2=>?_)
       dsimp only
       (refine je (fun hc=>?_) (fun hc=>?_) <;> (try simp only [beq_iff_eq] at hc))
       · (refine je (fun hc=>?_) (fun hc=>?_) <;> (try simp only [beq_iff_eq] at hc))
         · exact wpS_pure ⟨hS4,.inl ⟨_,rfl,by with_reducible (repeat' first | assumption | exact Gd.exa | exact Gd.exb | apply Gd.app | apply Gd.push | apply Gd.rev | apply Gd.one | (apply Or.inl;assumption) | (apply Or.inr;assumption))⟩⟩
         refine wpS_bind (qy (by omega) fun x5 hx5=>?_)
         (refine je (fun hc=>?_) (fun hc=>?_) <;> (try simp only [beq_iff_eq] at hc))
         · exact wpS_pure ⟨hS4,.inl ⟨_,rfl,by with_reducible (repeat' first | assumption | exact Gd.exa | exact Gd.exb | apply Gd.app | apply Gd.push | apply Gd.rev | apply Gd.one | (apply Or.inl;assumption) | (apply Or.inr;assumption))⟩⟩
         (refine je (fun hc=>?_) (fun hc=>?_) <;> (try simp only [beq_iff_eq] at hc))
         · exact wpS_pure ⟨hS4,.inr ⟨rfl,by dsimp only;with_reducible (repeat' first | assumption | exact Gd.exa | exact Gd.exb | apply Gd.app | apply Gd.push | apply Gd.rev | apply Gd.one | (apply Or.inl;assumption) | (apply Or.inr;assumption)),by dsimp only;omega,by dsimp only;omega,by dsimp only;omega⟩⟩
         · exact wpS_pure ⟨hS4,rfl,by dsimp only;with_reducible (repeat' first | assumption | exact Gd.exa | exact Gd.exb | apply Gd.app | apply Gd.push | apply Gd.rev | apply Gd.one | (apply Or.inl;assumption) | (apply Or.inr;assumption)),by dsimp only;omega,by dsimp only;omega,by dsimp only;omega⟩
       · refine wpS_bind (qy (by omega) fun x5 hx5=>?_)
         (refine je (fun hc=>?_) (fun hc=>?_) <;> (try simp only [beq_iff_eq] at hc))
         · exact wpS_pure ⟨hS4,.inl ⟨_,rfl,by with_reducible (repeat' first | assumption | exact Gd.exa | exact Gd.exb | apply Gd.app | apply Gd.push | apply Gd.rev | apply Gd.one | (apply Or.inl;assumption) | (apply Or.inr;assumption))⟩⟩
         (refine je (fun hc=>?_) (fun hc=>?_) <;> (try simp only [beq_iff_eq] at hc))
         · exact wpS_pure ⟨hS4,.inr ⟨rfl,by dsimp only;with_reducible (repeat' first | assumption | exact Gd.exa | exact Gd.exb | apply Gd.app | apply Gd.push | apply Gd.rev | apply Gd.one | (apply Or.inl;assumption) | (apply Or.inr;assumption)),by dsimp only;omega,by dsimp only;omega,by dsimp only;omega⟩⟩
         · exact wpS_pure ⟨hS4,rfl,by dsimp only;with_reducible (repeat' first | assumption | exact Gd.exa | exact Gd.exb | apply Gd.app | apply Gd.push | apply Gd.rev | apply Gd.one | (apply Or.inl;assumption) | (apply Or.inr;assumption)),by dsimp only;omega,by dsimp only;omega,by dsimp only;omega⟩
     · refine wpS_bind (qy h2 fun x3 hx3=>?_)
       (refine je (fun hc=>?_) (fun hc=>?_) <;> (try simp only [beq_iff_eq] at hc))
       · exact wpS_pure ⟨hS4,.inl ⟨_,rfl,by with_reducible (repeat' first | assumption | exact Gd.exa | exact Gd.exb | apply Gd.app | apply Gd.push | apply Gd.rev | apply Gd.one | (apply Or.inl;assumption) | (apply Or.inr;assumption))⟩⟩
       refine wpS_bind (qy (by omega) fun x4 hx4=>?_)
       refine wpS_bind (xU hS4.wb.kind (ha _ hx4) hb (by omega) (by omega) fun k2 hk2=>?_)
       dsimp only
       (refine je (fun hc=>?_) (fun hc=>?_) <;> (try simp only [beq_iff_eq] at hc))
       · (refine je (fun hc=>?_) (fun hc=>?_) <;> (try simp only [beq_iff_eq] at hc))
         · exact wpS_pure ⟨hS4,.inl ⟨_,rfl,by with_reducible (repeat' first | assumption | exact Gd.exa | exact Gd.exb | apply Gd.app | apply Gd.push | apply Gd.rev | apply Gd.one | (apply Or.inl;assumption) | (apply Or.inr;assumption))⟩⟩
         refine wpS_bind (qy (by omega) fun x5 hx5=>?_)
         (refine je (fun hc=>?_) (fun hc=>?_) <;> (try simp only [beq_iff_eq] at hc))
         · exact wpS_pure ⟨hS4,.inl ⟨_,rfl,by with_reducible (repeat' first | assumption | exact Gd.exa | exact Gd.exb | apply Gd.app | apply Gd.push | apply Gd.rev | apply Gd.one | (apply Or.inl;assumption) | (apply Or.inr;assumption))⟩⟩
         (refine je (fun hc=>?_) (fun hc=>?_) <;> (try simp only [beq_iff_eq] at hc))
         · exact wpS_pure ⟨hS4,.inr ⟨rfl,by dsimp only;with_reducible (repeat' first | assumption | exact Gd.exa | exact Gd.exb | apply Gd.app | apply Gd.push | apply Gd.rev | apply Gd.one | (apply Or.inl;assumption) | (apply Or.inr;assumption)),by dsimp only;omega,by dsimp only;omega,by dsimp only;omega⟩⟩
         · exact wpS_pure ⟨hS4,rfl,by dsimp only;with_reducible (repeat' first | assumption | exact Gd.exa | exact Gd.exb | apply Gd.app | apply Gd.push | apply Gd.rev | apply Gd.one | (apply Or.inl;assumption) | (apply Or.inr;assumption)),by dsimp only;omega,by dsimp only;omega,by dsimp only;omega⟩
       · refine wpS_bind (qy (by omega) fun x5 hx5=>?_)
         (refine je (fun hc=>?_) (fun hc=>?_) <;> (try simp only [beq_iff_eq] at hc))
         · exact wpS_pure ⟨hS4,.inl ⟨_,rfl,by with_reducible (repeat' first | assumption | exact Gd.exa | exact Gd.exb | apply Gd.app | apply Gd.push | apply Gd.rev | apply Gd.one | (apply Or.inl;assumption) | (apply Or.inr;assumption))⟩⟩
         (refine je (fun hc=>?_) (fun hc=>?_) <;> (try simp only [beq_iff_eq] at hc))
         · exact wpS_pure ⟨hS4,.inr ⟨rfl,by dsimp only;with_reducible (repeat' first | assumption | exact Gd.exa | exact Gd.exb | apply Gd.app | apply Gd.push | apply Gd.rev | apply Gd.one | (apply Or.inl;assumption) | (apply Or.inr;assumption)),by dsimp only;omega,by dsimp only;omega,by dsimp only;omega⟩⟩
         · exact wpS_pure ⟨hS4,rfl,by dsimp only;with_reducible (repeat' first | assumption | exact Gd.exa | exact Gd.exb | apply Gd.app | apply Gd.push | apply Gd.rev | apply Gd.one | (apply Or.inl;assumption) | (apply Or.inr;assumption)),by dsimp only;omega,by dsimp only;omega,by dsimp only;omega⟩
def qLr:Array Keyed→Array Keyed→StateT SortSt Sem (Array Keyed):=sortPriv% PySem.Builtin.mergeHi
theorem qHv {a b:Array Keyed}{st:SortSt}{Q:Array Keyed→SortSt→Prop}(hB:WB a₀ st)(ha:IntKeys a)(hb:IntKeys b)(na:1≤a.size)(nb:1≤b.size)
 (h:∀ c st',SM a₀ st st'→Gd a b c→Q c st'):wpS (model prog w) A E s (qLr a b) Q st:=by
 refine wpS_bind (wpS_lift (wpAny_rule ⟨rfl,?_⟩))
 refine wpS_bind (qy (by omega) fun x hx=>?_)
 dsimp only
 have hS:SM a₀ st st:=⟨hB,rfl,rfl⟩
 (refine je (fun hc=>?_) (fun hc=>?_) <;> (try simp only [beq_iff_eq] at hc))
 · exact wpS_pure (h _ _ hS (by with_reducible (repeat' first | assumption | exact Gd.exa | exact Gd.exb | apply Gd.app | apply Gd.push | apply Gd.rev | apply Gd.one | (apply Or.inl;assumption) | (apply Or.inr;assumption))))
 (refine je (fun hc=>?_) (fun hc=>?_) <;> (try simp only [beq_iff_eq] at hc))
 · exact wpS_pure (h _ _ hS (by with_reducible (repeat' first | assumption | exact Gd.exa | exact Gd.exb | apply Gd.app | apply Gd.push | apply Gd.rev | apply Gd.one | (apply Or.inl;assumption) | (apply Or.inr;assumption))))
 refine wpS_bind (wpS_get ?_)
 refine wpS_bind (wpS_mono (wpS_forRange
  (I:=fun i c st'=>SM a₀ st st'∧c.1=none∧Gd a b c.2.2.2.1∧1≤c.2.1∧c.2.1≤a.size∧2≤c.2.2.1∧c.2.2.1≤b.size∧c.2.1+c.2.2.1+i+1≤a.size+b.size)
  (Q:=fun c st'=>SM a₀ st st'∧∃ o,c.1=some o∧Gd a b o) ?step ?fin ⟨hS,rfl,by with_reducible (repeat' first | assumption | exact Gd.exa | exact Gd.exb | apply Gd.app | apply Gd.push | apply Gd.rev | apply Gd.one | (apply Or.inl;assumption) | (apply Or.inr;assumption)),by dsimp only;omega,by dsimp only;omega,by dsimp only;omega,by dsimp only;omega,by dsimp only;omega⟩) ?post)
 case fin=>
  rintro ⟨r,ia,ib,o,mg⟩ st' ⟨_,_,_,h1,_,h2,_,h3⟩
  dsimp only at h1 h2 h3
  omega
 case post=>
  rintro ⟨r,ia,ib,o,mg⟩ st' ⟨hS',o',rfl,hg⟩
  exact wpS_pure (h _ _ hS' hg)
 case step=>
  rintro i ⟨r,ia,ib,o,mg⟩ st1 _ hi ⟨hS1,rfl,hg1,h1,h1',h2,h2',h3⟩
  dsimp only at hg1 h1 h1' h2 h2' h3 ⊢
  refine wpS_bind (wpS_mono (wpS_forRange
   (I:=fun y c st'=>SM a₀ st st'∧c.1=none∧Gd a b c.2.2.2.1∧1≤c.2.1∧c.2.1≤a.size∧2≤c.2.2.1∧c.2.2.1≤b.size∧c.2.1+c.2.2.1+i+1+y≤a.size+b.size)
   (Q:=fun c st'=>SM a₀ st st'∧((∃ o,c.1=some o∧Gd a b o)∨c.1=none∧Gd a b c.2.2.2.1∧1≤c.2.1∧c.2.1≤a.size∧2≤c.2.2.1∧c.2.2.1≤b.size∧c.2.1+c.2.2.1+i+2≤a.size+b.size)) ?st2 ?fi2 ⟨hS1,rfl,hg1,h1,h1',h2,h2',h3⟩) ?po2)
  case fi2=>
   rintro ⟨r,ia,ib,o,ac,bc⟩ st' ⟨h0,h0',h0'',h1,h1',h2,h2',h3⟩
   exact⟨h0,.inr ⟨h0',h0'',h1,h1',h2,h2',by dsimp only at h3 ⊢;omega⟩⟩
  case st2=>
   rintro y ⟨r,ia,ib,o,ac,bc⟩ st2 _ hy ⟨hS2,rfl,hg2,h1,h1',h2,h2',h3⟩
   dsimp only at hg2 h1 h1' h2 h2' h3 ⊢
   refine wpS_bind (qy (by omega) fun x1 hx1=>?_)
   refine wpS_bind (qy (by omega) fun x2 hx2=>?_)
   refine wpS_bind (qJb hS2.wb.kind (hb _ hx1) (ha _ hx2) fun c=>?_)
   cases c
   all_goals
    refine wpS_bind (qy (by omega) fun x3 hx3=>?_)
    (refine je (fun hc=>?_) (fun hc=>?_) <;> (try simp only [beq_iff_eq] at hc))
    · exact wpS_pure ⟨hS2,.inl ⟨_,rfl,by with_reducible (repeat' first | assumption | exact Gd.exa | exact Gd.exb | apply Gd.app | apply Gd.push | apply Gd.rev | apply Gd.one | (apply Or.inl;assumption) | (apply Or.inr;assumption))⟩⟩
    (refine je (fun hc=>?_) (fun hc=>?_) <;> (try simp only [beq_iff_eq] at hc))
    · exact wpS_pure ⟨hS2,.inr ⟨rfl,by dsimp only;with_reducible (repeat' first | assumption | exact Gd.exa | exact Gd.exb | apply Gd.app | apply Gd.push | apply Gd.rev | apply Gd.one | (apply Or.inl;assumption) | (apply Or.inr;assumption)),by dsimp only;omega,by dsimp only;omega,by dsimp only;omega,by dsimp only;omega,by dsimp only;omega⟩⟩
    · exact wpS_pure ⟨hS2,rfl,by dsimp only;with_reducible (repeat' first | assumption | exact Gd.exa | exact Gd.exb | apply Gd.app | apply Gd.push | apply Gd.rev | apply Gd.one | (apply Or.inl;assumption) | (apply Or.inr;assumption)),by dsimp only;omega,by dsimp only;omega,by dsimp only;omega,by dsimp only;omega,by dsimp only;omega⟩
  case po2=>
   rintro ⟨r,ia,ib,o,ac,bc⟩ st2 ⟨hS2,⟨o',rfl,hg⟩ | ⟨rfl,hg2,h1,h1',h2,h2',h3⟩⟩
   · exact wpS_pure ⟨hS2,o',rfl,hg⟩
   dsimp only at hg2 h1 h1' h2 h2' h3 ⊢
   refine wpS_bind (wpS_lift (wpAny_rule ⟨rfl,?_⟩))
   refine wpS_bind (wpS_mono (wpS_forRange
    (I:=fun _ c st'=>SM a₀ st st'∧c.1=none∧Gd a b c.2.2.2.1∧1≤c.2.1∧c.2.1≤a.size∧2≤c.2.2.1∧c.2.2.1≤b.size∧c.2.1+c.2.2.1+i+2≤a.size+b.size)
    (Q:=fun c st'=>SM a₀ st st'∧((∃ o,c.1=some o∧Gd a b o)∨c.1=none∧Gd a b c.2.2.2.1∧1≤c.2.1∧c.2.1≤a.size∧2≤c.2.2.1∧c.2.2.1≤b.size∧c.2.1+c.2.2.1+i+2≤a.size+b.size)) ?st3 (fun _ _ h=>⟨h.1,.inr h.2⟩) ⟨hS2,rfl,hg2,h1,h1',h2,h2',h3⟩) ?po3)
   case po3=>
    rintro ⟨r,ia,ib,o,mg,ac,bc⟩ st3 ⟨hS3,⟨o',rfl,hg⟩ | ⟨rfl,hg3,h1,h1',h2,h2',h3⟩⟩
    · exact wpS_pure ⟨hS3,o',rfl,hg⟩
    · exact wpS_bind (wS hS3 fun st4 hS4=>wpS_pure ⟨hS4,rfl,hg3,h1,h1',h2,h2',by dsimp only at h3 ⊢;omega⟩)
   case st3=>
    rintro y ⟨r,ia,ib,o,mg,ac,bc⟩ st3 _ hy ⟨hS3,rfl,hg3,h1,h1',h2,h2',h3⟩
    dsimp only at hg3 h1 h1' h2 h2' h3 ⊢
    (refine je (fun hc=>?_) (fun hc=>?_) <;> (try simp only [beq_iff_eq] at hc))
    all_goals
     refine wpS_bind (wS hS3 fun st4 hS4=>?_)
     refine wpS_bind (qy (by omega) fun x1 hx1=>?_)
     refine wpS_bind (xU hS4.wb.kind (hb _ hx1) ha (by omega) (by omega) fun k hk=>?_)
     dsimp only
     refine je (fun hc=>?_) (fun hc=>?_)
     · (refine je (fun hc=>?_) (fun hc=>?_) <;> (try simp only [beq_iff_eq] at hc))
       · exact wpS_pure ⟨hS4,.inl ⟨_,rfl,by with_reducible (repeat' first | assumption | exact Gd.exa | exact Gd.exb | apply Gd.app | apply Gd.push | apply Gd.rev | apply Gd.one | (apply Or.inl;assumption) | (apply Or.inr;assumption))⟩⟩
       refine wpS_bind (qy (by omega) fun x3 hx3=>?_)
       (refine je (fun hc=>?_) (fun hc=>?_) <;> (try simp only [beq_iff_eq] at hc))
       · exact wpS_pure ⟨hS4,.inl ⟨_,rfl,by with_reducible (repeat' first | assumption | exact Gd.exa | exact Gd.exb | apply Gd.app | apply Gd.push | apply Gd.rev | apply Gd.one | (apply Or.inl;assumption) | (apply Or.inr;assumption))⟩⟩
       refine wpS_bind (qy (by omega) fun x4 hx4=>?_)
       refine wpS_bind (xU hS4.wb.kind (ha _ hx4) hb (by omega) (by omega) fun k2 hk2=>?_)
       dsimp only
       refine je (fun hc=>?_) (fun hc=>?_)
       · (refine je (fun hc=>?_) (fun hc=>?_) <;> (try simp only [beq_iff_eq] at hc))
         · exact wpS_pure ⟨hS4,.inl ⟨_,rfl,by with_reducible (repeat' first | assumption | exact Gd.exa | exact Gd.exb | apply Gd.app | apply Gd.push | apply Gd.rev | apply Gd.one | (apply Or.inl;assumption) | (apply Or.inr;assumption))⟩⟩
         (refine je (fun hc=>?_) (fun hc=>?_) <;> (try simp only [beq_iff_eq] at hc))
         · exact wpS_pure ⟨hS4,.inl ⟨_,rfl,by with_reducible (repeat' first | assumption | exact Gd.exa | exact Gd.exb | apply Gd.app | apply Gd.push | apply Gd.rev | apply Gd.one | (apply Or.inl;assumption) | (apply Or.inr;assumption))⟩⟩
         refine wpS_bind (qy (by omega) fun x5 hx5=>?_)
         (refine je (fun hc=>?_) (fun hc=>?_) <;> (try simp only [beq_iff_eq] at hc))
         · exact wpS_pure ⟨hS4,.inl ⟨_,rfl,by with_reducible (repeat' first | assumption | exact Gd.exa | exact Gd.exb | apply Gd.app | apply Gd.push | apply Gd.rev | apply Gd.one | (apply Or.inl;assumption) | (apply Or.inr;assumption))⟩⟩
         (refine je (fun hc=>?_) (fun hc=>?_) <;> (try simp only [beq_iff_eq] at hc))
         · exact wpS_pure ⟨hS4,.inr ⟨rfl,by dsimp only;with_reducible (repeat' first | assumption | exact Gd.exa | exact Gd.exb | apply Gd.app | apply Gd.push | apply Gd.rev | apply Gd.one | (apply Or.inl;assumption) | (apply Or.inr;assumption)),by dsimp only;omega,by dsimp only;omega,by dsimp only;omega,by dsimp only;omega,by dsimp only;omega⟩⟩
         · exact wpS_pure ⟨hS4,rfl,by dsimp only;with_reducible (repeat' first | assumption | exact Gd.exa | exact Gd.exb | apply Gd.app | apply Gd.push | apply Gd.rev | apply Gd.one | (apply Or.inl;assumption) | (apply Or.inr;assumption)),by dsimp only;omega,by dsimp only;omega,by dsimp only;omega,by dsimp only;omega,by dsimp only;omega⟩
       · refine wpS_bind (qy (by omega) fun x5 hx5=>?_)
         (refine je (fun hc=>?_) (fun hc=>?_) <;> (try simp only [beq_iff_eq] at hc))
         · exact wpS_pure ⟨hS4,.inl ⟨_,rfl,by with_reducible (repeat' first | assumption | exact Gd.exa | exact Gd.exb | apply Gd.app | apply Gd.push | apply Gd.rev | apply Gd.one | (apply Or.inl;assumption) | (apply Or.inr;assumption))⟩⟩
         (refine je (fun hc=>?_) (fun hc=>?_) <;> (try simp only [beq_iff_eq] at hc))
         · exact wpS_pure ⟨hS4,.inr ⟨rfl,by dsimp only;with_reducible (repeat' first | assumption | exact Gd.exa | exact Gd.exb | apply Gd.app | apply Gd.push | apply Gd.rev | apply Gd.one | (apply Or.inl;assumption) | (apply Or.inr;assumption)),by dsimp only;omega,by dsimp only;omega,by dsimp only;omega,by dsimp only;omega,by dsimp only;omega⟩⟩
         · exact wpS_pure ⟨hS4,rfl,by dsimp only;with_reducible (repeat' first | assumption | exact Gd.exa | exact Gd.exb | apply Gd.app | apply Gd.push | apply Gd.rev | apply Gd.one | (apply Or.inl;assumption) | (apply Or.inr;assumption)),by dsimp only;omega,by dsimp only;omega,by dsimp only;omega,by dsimp only;omega,by dsimp only;omega⟩
     · refine wpS_bind (qy (by omega) fun x3 hx3=>?_)
       (refine je (fun hc=>?_) (fun hc=>?_) <;> (try simp only [beq_iff_eq] at hc))
       · exact wpS_pure ⟨hS4,.inl ⟨_,rfl,by with_reducible (repeat' first | assumption | exact Gd.exa | exact Gd.exb | apply Gd.app | apply Gd.push | apply Gd.rev | apply Gd.one | (apply Or.inl;assumption) | (apply Or.inr;assumption))⟩⟩
       refine wpS_bind (qy (by omega) fun x4 hx4=>?_)
       refine wpS_bind (xU hS4.wb.kind (ha _ hx4) hb (by omega) (by omega) fun k2 hk2=>?_)
       dsimp only
       refine je (fun hc=>?_) (fun hc=>?_)
       · (refine je (fun hc=>?_) (fun hc=>?_) <;> (try simp only [beq_iff_eq] at hc))
         · exact wpS_pure ⟨hS4,.inl ⟨_,rfl,by with_reducible (repeat' first | assumption | exact Gd.exa | exact Gd.exb | apply Gd.app | apply Gd.push | apply Gd.rev | apply Gd.one | (apply Or.inl;assumption) | (apply Or.inr;assumption))⟩⟩
         (refine je (fun hc=>?_) (fun hc=>?_) <;> (try simp only [beq_iff_eq] at hc))
         · exact wpS_pure ⟨hS4,.inl ⟨_,rfl,by with_reducible (repeat' first | assumption | exact Gd.exa | exact Gd.exb | apply Gd.app | apply Gd.push | apply Gd.rev | apply Gd.one | (apply Or.inl;assumption) | (apply Or.inr;assumption))⟩⟩
         refine wpS_bind (qy (by omega) fun x5 hx5=>?_)
         (refine je (fun hc=>?_) (fun hc=>?_) <;> (try simp only [beq_iff_eq] at hc))
         · exact wpS_pure ⟨hS4,.inl ⟨_,rfl,by with_reducible (repeat' first | assumption | exact Gd.exa | exact Gd.exb | apply Gd.app | apply Gd.push | apply Gd.rev | apply Gd.one | (apply Or.inl;assumption) | (apply Or.inr;assumption))⟩⟩
         (refine je (fun hc=>?_) (fun hc=>?_) <;> (try simp only [beq_iff_eq] at hc))
         · exact wpS_pure ⟨hS4,.inr ⟨rfl,by dsimp only;with_reducible (repeat' first | assumption | exact Gd.exa | exact Gd.exb | apply Gd.app | apply Gd.push | apply Gd.rev | apply Gd.one | (apply Or.inl;assumption) | (apply Or.inr;assumption)),by dsimp only;omega,by dsimp only;omega,by dsimp only;omega,by dsimp only;omega,by dsimp only;omega⟩⟩
         · exact wpS_pure ⟨hS4,rfl,by dsimp only;with_reducible (repeat' first | assumption | exact Gd.exa | exact Gd.exb | apply Gd.app | apply Gd.push | apply Gd.rev | apply Gd.one | (apply Or.inl;assumption) | (apply Or.inr;assumption)),by dsimp only;omega,by dsimp only;omega,by dsimp only;omega,by dsimp only;omega,by dsimp only;omega⟩
       · refine wpS_bind (qy (by omega) fun x5 hx5=>?_)
         (refine je (fun hc=>?_) (fun hc=>?_) <;> (try simp only [beq_iff_eq] at hc))
         · exact wpS_pure ⟨hS4,.inl ⟨_,rfl,by with_reducible (repeat' first | assumption | exact Gd.exa | exact Gd.exb | apply Gd.app | apply Gd.push | apply Gd.rev | apply Gd.one | (apply Or.inl;assumption) | (apply Or.inr;assumption))⟩⟩
         (refine je (fun hc=>?_) (fun hc=>?_) <;> (try simp only [beq_iff_eq] at hc))
         · exact wpS_pure ⟨hS4,.inr ⟨rfl,by dsimp only;with_reducible (repeat' first | assumption | exact Gd.exa | exact Gd.exb | apply Gd.app | apply Gd.push | apply Gd.rev | apply Gd.one | (apply Or.inl;assumption) | (apply Or.inr;assumption)),by dsimp only;omega,by dsimp only;omega,by dsimp only;omega,by dsimp only;omega,by dsimp only;omega⟩⟩
         · exact wpS_pure ⟨hS4,rfl,by dsimp only;with_reducible (repeat' first | assumption | exact Gd.exa | exact Gd.exb | apply Gd.app | apply Gd.push | apply Gd.rev | apply Gd.one | (apply Or.inl;assumption) | (apply Or.inr;assumption)),by dsimp only;omega,by dsimp only;omega,by dsimp only;omega,by dsimp only;omega,by dsimp only;omega⟩
abbrev Rn:=Nat × Nat × Nat
def Ct:List Rn→Nat→Nat→Prop
 | [],lo,hi=>lo=hi
 | x::r,lo,hi=>x.1=lo∧1≤x.2.1∧Ct r (lo+x.2.1) hi
theorem qP8:∀ {l:List Rn} {lo hi:Nat},Ct l lo hi→lo≤hi
 | [],_,_,h=>Nat.le_of_eq h
 | _::_,_,_,h=>by have:=qP8 h.2.2;omega
theorem qJo:∀ {l:List Rn} {i lo hi:Nat} {x:Rn},Ct l lo hi→l[i]? =some x→lo≤x.1∧1≤x.2.1∧x.1+x.2.1≤hi
 | y::l,0,lo,hi,x,h,e=>by
  obtain rfl:y=x:=by simpa using e
  have:=qP8 h.2.2
  exact⟨Nat.le_of_eq h.1.symm,h.2.1,by have:=h.1;omega⟩
 | y::l,i+1,lo,hi,x,h,e=>by
  have:=qJo h.2.2 (by simpa using e)
  exact⟨by omega,this.2⟩
theorem qJv:∀ {l:List Rn} {i lo hi:Nat} {x y:Rn},Ct l lo hi→l[i]? =some x→l[i+1]? =some y→y.1=x.1+x.2.1
 | z::v::l,0,lo,hi,x,y,h,e,e'=>by
  obtain rfl:z=x:=by simpa using e
  obtain rfl:v=y:=by simpa using e'
  rw [h.2.2.1,h.1]
 | z::l,i+1,lo,hi,x,y,h,e,e'=>qJv h.2.2 (by simpa using e) (by simpa using e')
theorem qGb:∀ {l:List Rn} {i lo hi:Nat} {x y:Rn} {p:Nat},Ct l lo hi→l[i]? =some x→l[i+1]? =some y→Ct ((l.set i (x.1,x.2.1+y.2.1,p)).eraseIdx (i+1)) lo hi
 | z::v::l,0,lo,hi,x,y,p,h,e,e'=>by
  obtain rfl:z=x:=by simpa using e
  obtain rfl:v=y:=by simpa using e'
  show Ct ((z.1,z.2.1+v.2.1,p)::l) lo hi
  exact⟨h.1,by have:=h.2.1;show 1≤z.2.1+v.2.1;omega,by show Ct l (lo+(z.2.1+v.2.1)) hi;rw [← Nat.add_assoc];exact h.2.2.2.2⟩
 | z::l,i+1,lo,hi,x,y,p,h,e,e'=>by
  show Ct (z::(l.set i (x.1,x.2.1+y.2.1,p)).eraseIdx (i+1)) lo hi
  exact⟨h.1,h.2.1,qGb h.2.2 (by simpa using e) (by simpa using e')⟩
theorem qH6:∀ {l:List Rn} {i lo hi:Nat} {p:Nat},Ct l lo hi→Ct (l.modify i fun x=>(x.1,x.2.1,p)) lo hi
 | [],i,lo,hi,p,h=>by simpa using h
 | z::l,0,lo,hi,p,h=>show Ct ((z.1,z.2.1,p)::l) lo hi from h
 | z::l,i+1,lo,hi,p,h=>by rw [List.modify_succ_cons];exact⟨h.1,h.2.1,qH6 h.2.2⟩
theorem qAd:∀ {l:List Rn} {lo hi n:Nat} {p:Nat},Ct l lo hi→1≤n→Ct (l++[(hi,n,p)]) lo (hi+n)
 | [],lo,hi,n,p,h,hn=>⟨Eq.symm h,hn,by show lo+n=hi+n;rw [show lo=hi from h]⟩
 | z::l,lo,hi,n,p,h,hn=>⟨h.1,h.2.1,qAd h.2.2 hn⟩
theorem qGj {k:Nat}:∀ (l:List (Keyed × Nat)) (xs:Array Keyed),(l.foldl (fun a x=>a.setIfInBounds (k+x.2) x.1) xs).size=xs.size∧∀ y,y∈(l.foldl (fun a x=>a.setIfInBounds (k+x.2) x.1) xs).toList→y∈xs.toList∨y∈l.map (·.1)
 | [],xs=>⟨rfl,fun y hy=>.inl hy⟩
 | x::l,xs=>by
  obtain⟨h1,h2⟩:=qGj l (xs.setIfInBounds (k+x.2) x.1)
  refine⟨by rw [List.foldl_cons,h1,Array.size_setIfInBounds],fun y hy=>?_⟩
  rw [List.foldl_cons] at hy
  rcases h2 y hy with hm | hm
  · rw [Array.toList_setIfInBounds] at hm
    rcases List.mem_or_eq_of_mem_set hm with hm | rfl
    · exact .inl hm
    · exact .inr (List.mem_cons_self ..)
  · exact .inr (List.mem_cons_of_mem _ hm)
structure WP (a₀:Array Keyed)(p:Array Rn)(st:SortSt):Prop where
 wb:WB a₀ st
 pend:pendingOf st=p
theorem qKq {a:Array Keyed}{i j:Nat}(h:IntKeys a):IntKeys (a.extract i j):=fun _ hp=>h _ (qCs hp)
theorem wk {i:Nat}{st:SortSt}{Q:Bool→SortSt→Prop}{lo:Nat}(h0:IntKeys a₀)(hB:WB a₀ st)(hc:Ct (pendingOf st).toList 0 lo)(hl:lo≤a₀.size)(hi:i+1 < (pendingOf st).size)
 (h:∀ st',WB a₀ st'→Ct (pendingOf st').toList 0 lo→Q true st'):wpS (model prog w) A E s (mergeAt' i) Q st:=by
 refine wpS_bind (wpS_get ?_)
 dsimp only
 obtain⟨⟨sa,na,pa⟩,ex⟩:∃ x,(pendingOf st)[i]? =some x:=⟨_,getElem?_pos _ i (by omega)⟩
 obtain⟨⟨sb,nb,pb⟩,ey⟩:∃ x,(pendingOf st)[i+1]? =some x:=⟨_,getElem?_pos _ (i+1) hi⟩
 have ex':(pendingOf st).toList[i]? =some (sa,na,pa):=by rw [Array.getElem?_toList];exact ex
 have ey':(pendingOf st).toList[i+1]? =some (sb,nb,pb):=by rw [Array.getElem?_toList];exact ey
 have g1:=qJo hc ex'
 have g2:=qJo hc ey'
 have g3:=qJv hc ex' ey'
 have g4:=qGb (p:=pa) hc ex' ey'
 dsimp only at g1 g2 g3 g4
 have hik:IntKeys (arrOf st):=fun p hp=>h0 _ (hB.mem _ hp)
 have hsz:=hB.size
 rw [ex,ey]
 have hpd:(((pendingOf st).setIfInBounds i (sa,na+nb,pa)).eraseIdxIfInBounds (i+1)).toList=((pendingOf st).toList.set i (sa,na+nb,pa)).eraseIdx (i+1):=by
  simp [Array.eraseIdxIfInBounds,hi]
 refine wpS_bind ?_
 refine wpS_mono (Q:=fun _ st'=>WB a₀ st'∧arrOf st'=arrOf st∧Ct (pendingOf st').toList 0 lo) ?_ ?_
 · unfold wpS
   exact wpAny_pure ⟨rfl,⟨hB.size,hB.mem,hB.kind,hB.failed⟩,rfl,by rw [← hpd] at g4;exact g4⟩
 rintro _ st1 ⟨hB1,ha1,hc1⟩
 have hS1:SM a₀ st1 st1:=⟨hB1,rfl,rfl⟩
 refine wpS_bind (qy (by rw [hsz];omega) fun x1 hx1=>?_)
 refine wpS_bind (xU hB1.kind (hik _ hx1) hik (by rw [hsz];omega) (by omega) fun k hk=>?_)
 dsimp only
 (refine je (fun hc=>?_) (fun hc=>?_) <;> (try simp only [beq_iff_eq] at hc))
 · exact wpS_pure (h _ hB1 hc1)
 refine wpS_bind (qy (by rw [hsz];omega) fun x2 hx2=>?_)
 refine wpS_bind (xU hB1.kind (hik _ hx2) hik (by rw [hsz];omega) (by omega) fun k2 hk2=>?_)
 dsimp only
 (refine je (fun hc=>?_) (fun hc=>?_) <;> (try simp only [beq_iff_eq] at hc))
 · exact wpS_pure (h _ hB1 hc1)
 have fin:∀ (c:Array Keyed) (st':SortSt),SM a₀ st1 st'→Gd ((arrOf st).extract (sa+k) sb) ((arrOf st).extract sb (sb+k2)) c→
  wpS (model prog w) A E s (modify (fun t=>setArr t (c.toList.zipIdx.foldl (fun a x=>a.setIfInBounds (sa+k+x.2) x.1) (arrOf t))) >>=fun _=>get >>=fun t=>pure (failedOf t).isNone) Q st':=by
  intro c st' hS hg
  refine wpS_bind (wpS_modify (wpS_bind (wpS_get ?_)))
  obtain⟨f1,f2⟩:=qGj (k:=sa+k) c.toList.zipIdx (arrOf st')
  show wpS _ _ _ _ (pure (failedOf st').isNone) _ _
  rw [hS.wb.failed]
  refine wpS_pure (h _ ⟨f1.trans hS.wb.size,fun y hy=>?_,hS.wb.kind,hS.wb.failed⟩ ?_)
  · rcases f2 y hy with hm | hm
    · exact hS.wb.mem y hm
    · rw [List.zipIdx_map_fst] at hm
      rcases hg y hm with hm | hm
      · exact hB.mem y (qCs hm)
      · exact hB.mem y (qCs hm)
  · show Ct (pendingOf st').toList 0 lo
    rw [hS.pend]
    exact hc1
 refine je (fun _=>?_) (fun _=>?_)
 · exact wpS_bind (qJp hB1 (qKq hik) (qKq hik) (by show 1≤((arrOf st).extract _ _).size;rw [Array.size_extract,hsz];omega) (by show 1≤((arrOf st).extract _ _).size;rw [Array.size_extract,hsz];omega) fun c st' hS hg=>fin c st' hS hg)
 · exact wpS_bind (qHv hB1 (qKq hik) (qKq hik) (by show 1≤((arrOf st).extract _ _).size;rw [Array.size_extract,hsz];omega) (by show 1≤((arrOf st).extract _ _).size;rw [Array.size_extract,hsz];omega) fun c st' hS hg=>fin c st' hS hg)
theorem qCf {i j:Nat}{st:SortSt}{p:Array Rn}{Q:Unit→SortSt→Prop}(hW:WP a₀ p st)(h:∀ st',WP a₀ p st'→Q () st'):wpS (model prog w) A E s (reverseSlice' i j) Q st:=
 wpS_reverse (h _ ⟨hW.wb.perm (mirror_perm _ _ _ _),hW.pend⟩)
theorem qG6 {lo nrem:Nat}{st:SortSt}{p:Array Rn}{Q:Option Nat→SortSt→Prop}(h0:IntKeys a₀)(hW:WP a₀ p st)(hl:lo+nrem≤a₀.size)(hn:1≤nrem)
 (h:∀ m st',WP a₀ p st'→1≤m→m≤nrem→Q (some m) st'):wpS (model prog w) A E s (countRun' lo nrem) Q st:=by
 refine wpS_bind ?_
 dsimp only
 refine wpS_mono (wpS_forRange (I:=fun y c st'=>WP a₀ p st'∧c=(none,y)) (Q:=fun c st'=>WP a₀ p st'∧∃ n,c=(none,n)∧1≤n∧n≤nrem) ?_ ?_ ⟨hW,rfl⟩) ?_
 · rintro y c st1 hy1 hy2 ⟨hW1,rfl⟩
   refine wpS_bind (zM h0 hW1.wb (by dsimp only;omega) (by dsimp only;omega) fun b=>?_)
   cases b
   · exact wpS_pure ⟨hW1,rfl⟩
   · exact wpS_pure ⟨hW1,y,rfl,hy1,by omega⟩
 · rintro c st1 ⟨hW1,rfl⟩
   exact⟨hW1,nrem,by rw [show max 1 nrem=nrem by omega],hn,Nat.le_refl _⟩
 rintro _ st1 ⟨hW1,n,rfl,hn1,hn2⟩
 dsimp only
 (refine je (fun hc=>?_) (fun hc=>?_) <;> (try simp only [beq_iff_eq] at hc))
 · exact wpS_pure (h _ _ hW1 hn1 hn2)
 (refine je (fun hc=>?_) (fun hc=>?_) <;> (try simp only [beq_iff_eq] at hc))
 · refine wpS_bind (zM h0 hW1.wb (by omega) (by omega) fun b=>?_)
   cases b
   · refine wpS_bind (qCf hW1 fun st2 hW2=>?_)
     refine wpS_bind (wpS_lift (wpAny_rule ⟨rfl,?_⟩))
     refine wpS_bind (wpS_mono (wpS_forRange (I:=fun y c st'=>WP a₀ p st'∧c.1=none∧c.2.1=y) (Q:=fun c st'=>WP a₀ p st'∧c.1=none∧1≤c.2.1∧c.2.1≤nrem) ?_ ?_ ⟨hW2,rfl,rfl⟩) ?_)
     · rintro y ⟨r,m,q⟩ st3 hy1 hy2 ⟨hW3,rfl,rfl⟩
       dsimp only at hy1 hy2 ⊢
       refine wpS_bind (zM h0 hW3.wb (by omega) (by omega) fun b=>?_)
       cases b
       · refine wpS_bind (zM h0 hW3.wb (by omega) (by omega) fun b=>?_)
         cases b
         · exact wpS_pure ⟨hW3,rfl,rfl⟩
         · exact wpS_pure ⟨hW3,rfl,by dsimp only;omega,by dsimp only;omega⟩
       · refine je (fun _=>je (fun hc=>?_) (fun hc=>?_)) (fun hx=>absurd rfl hx)
         · exact wpS_bind (qCf hW3 fun st4 hW4=>wpS_pure ⟨hW4,rfl,rfl⟩)
         · exact wpS_pure ⟨hW3,rfl,rfl⟩
     · rintro ⟨r,m,q⟩ st3 ⟨hW3,rfl,hm⟩
       exact⟨hW3,rfl,by dsimp only at hm ⊢;omega,by dsimp only at hm ⊢;omega⟩
     · rintro ⟨r,m,q⟩ st3 ⟨hW3,rfl,hm1,hm2⟩
       dsimp only at hm1 hm2 ⊢
       (refine je (fun hc=>?_) (fun hc=>?_) <;> (try simp only [beq_iff_eq] at hc))
       · refine wpS_bind (qCf hW3 fun st4 hW4=>?_)
         refine wpS_bind (qCf hW4 fun st5 hW5=>?_)
         refine wpS_bind (wpS_mono (wpS_forRange (I:=fun y c st'=>WP a₀ p st'∧c=(none,y)) (Q:=fun c st'=>WP a₀ p st'∧∃ n,c=(none,n)∧1≤n∧n≤nrem) ?_ ?_ ⟨hW5,rfl⟩) ?_)
         · rintro y c st6 hy1 hy2 ⟨hW6,rfl⟩
           refine wpS_bind (zM h0 hW6.wb (by dsimp only;omega) (by dsimp only;omega) fun b=>?_)
           cases b
           · exact wpS_pure ⟨hW6,rfl⟩
           · exact wpS_pure ⟨hW6,y,rfl,by omega,by omega⟩
         · rintro c st6 ⟨hW6,rfl⟩
           exact⟨hW6,_,rfl,by omega,by omega⟩
         · rintro _ st6 ⟨hW6,n6,rfl,hn6,hn6'⟩
           exact wpS_pure (h _ _ hW6 hn6 hn6')
       · refine wpS_bind (qCf hW3 fun st5 hW5=>?_)
         refine wpS_bind (wpS_mono (wpS_forRange (I:=fun y c st'=>WP a₀ p st'∧c=(none,y)) (Q:=fun c st'=>WP a₀ p st'∧∃ n,c=(none,n)∧1≤n∧n≤nrem) ?_ ?_ ⟨hW5,rfl⟩) ?_)
         · rintro y c st6 hy1 hy2 ⟨hW6,rfl⟩
           refine wpS_bind (zM h0 hW6.wb (by dsimp only;omega) (by dsimp only;omega) fun b=>?_)
           cases b
           · exact wpS_pure ⟨hW6,rfl⟩
           · exact wpS_pure ⟨hW6,y,rfl,by omega,by omega⟩
         · rintro c st6 ⟨hW6,rfl⟩
           exact⟨hW6,_,rfl,by omega,by omega⟩
         · rintro _ st6 ⟨hW6,n6,rfl,hn6,hn6'⟩
           exact wpS_pure (h _ _ hW6 hn6 hn6')
   · exact wpS_pure (h _ _ hW1 hn1 hn2)
 · have hW2:=hW1
   refine wpS_bind (wpS_lift (wpAny_rule ⟨rfl,?_⟩))
   refine wpS_bind (wpS_mono (wpS_forRange (I:=fun y c st'=>WP a₀ p st'∧c.1=none∧c.2.1=y) (Q:=fun c st'=>WP a₀ p st'∧c.1=none∧1≤c.2.1∧c.2.1≤nrem) ?_ ?_ ⟨hW2,rfl,rfl⟩) ?_)
   · rintro y ⟨r,m,q⟩ st3 hy1 hy2 ⟨hW3,rfl,rfl⟩
     dsimp only at hy1 hy2 ⊢
     refine wpS_bind (zM h0 hW3.wb (by omega) (by omega) fun b=>?_)
     cases b
     · refine wpS_bind (zM h0 hW3.wb (by omega) (by omega) fun b=>?_)
       cases b
       · exact wpS_pure ⟨hW3,rfl,rfl⟩
       · exact wpS_pure ⟨hW3,rfl,by dsimp only;omega,by dsimp only;omega⟩
     · refine je (fun _=>je (fun hc=>?_) (fun hc=>?_)) (fun hx=>absurd rfl hx)
       · exact wpS_bind (qCf hW3 fun st4 hW4=>wpS_pure ⟨hW4,rfl,rfl⟩)
       · exact wpS_pure ⟨hW3,rfl,rfl⟩
   · rintro ⟨r,m,q⟩ st3 ⟨hW3,rfl,hm⟩
     exact⟨hW3,rfl,by dsimp only at hm ⊢;omega,by dsimp only at hm ⊢;omega⟩
   · rintro ⟨r,m,q⟩ st3 ⟨hW3,rfl,hm1,hm2⟩
     dsimp only at hm1 hm2 ⊢
     (refine je (fun hc=>?_) (fun hc=>?_) <;> (try simp only [beq_iff_eq] at hc))
     · refine wpS_bind (qCf hW3 fun st4 hW4=>?_)
       refine wpS_bind (qCf hW4 fun st5 hW5=>?_)
       refine wpS_bind (wpS_mono (wpS_forRange (I:=fun y c st'=>WP a₀ p st'∧c=(none,y)) (Q:=fun c st'=>WP a₀ p st'∧∃ n,c=(none,n)∧1≤n∧n≤nrem) ?_ ?_ ⟨hW5,rfl⟩) ?_)
       · rintro y c st6 hy1 hy2 ⟨hW6,rfl⟩
         refine wpS_bind (zM h0 hW6.wb (by dsimp only;omega) (by dsimp only;omega) fun b=>?_)
         cases b
         · exact wpS_pure ⟨hW6,rfl⟩
         · exact wpS_pure ⟨hW6,y,rfl,by omega,by omega⟩
       · rintro c st6 ⟨hW6,rfl⟩
         exact⟨hW6,_,rfl,by omega,by omega⟩
       · rintro _ st6 ⟨hW6,n6,rfl,hn6,hn6'⟩
         exact wpS_pure (h _ _ hW6 hn6 hn6')
     · refine wpS_bind (qCf hW3 fun st5 hW5=>?_)
       refine wpS_bind (wpS_mono (wpS_forRange (I:=fun y c st'=>WP a₀ p st'∧c=(none,y)) (Q:=fun c st'=>WP a₀ p st'∧∃ n,c=(none,n)∧1≤n∧n≤nrem) ?_ ?_ ⟨hW5,rfl⟩) ?_)
       · rintro y c st6 hy1 hy2 ⟨hW6,rfl⟩
         refine wpS_bind (zM h0 hW6.wb (by dsimp only;omega) (by dsimp only;omega) fun b=>?_)
         cases b
         · exact wpS_pure ⟨hW6,rfl⟩
         · exact wpS_pure ⟨hW6,y,rfl,by omega,by omega⟩
       · rintro c st6 ⟨hW6,rfl⟩
         exact⟨hW6,_,rfl,by omega,by omega⟩
       · rintro _ st6 ⟨hW6,n6,rfl,hn6,hn6'⟩
         exact wpS_pure (h _ _ hW6 hn6 hn6')
theorem qDd {lo n ok:Nat}{st:SortSt}{p:Array Rn}{Q:Bool→SortSt→Prop}(h0:IntKeys a₀)(hW:WP a₀ p st)(hl:lo+n≤a₀.size)
 (h:∀ st',WP a₀ p st'→Q true st'):wpS (model prog w) A E s (binarySort' lo n ok) Q st:=by
 refine wpS_bind ?_
 dsimp only
 refine wpS_mono (wpS_forRange (I:=fun _ c st'=>WP a₀ p st'∧c=(none,())) (Q:=fun c st'=>WP a₀ p st'∧c=(none,())) ?_ (fun _ _ h=>h) ⟨hW,rfl⟩) ?_
 · rintro y c st1 hy1 hy2 ⟨hW1,rfl⟩
   refine wpS_bind (wpS_mono (wpS_forRange (I:=fun _ c st'=>st'=st1∧c.1=none∧c.2.2≤y) (Q:=fun c st'=>st'=st1∧c.1=none) ?_ (fun _ _ h=>⟨h.1,h.2.1⟩) ⟨rfl,rfl,Nat.le_refl _⟩) ?_)
   · rintro z ⟨r,l,u⟩ _ _ _ ⟨rfl,rfl,hu⟩
     dsimp only at hu ⊢
     (refine je (fun hc=>?_) (fun hc=>?_) <;> (try simp only [beq_iff_eq] at hc))
     · exact wpS_pure ⟨rfl,rfl⟩
     refine wpS_bind (zM h0 hW1.wb (by omega) (by omega) fun b=>?_)
     cases b
     · exact wpS_pure ⟨rfl,rfl,hu⟩
     · exact wpS_pure ⟨rfl,rfl,by dsimp only;omega⟩
   · rintro ⟨r,l,u⟩ _ ⟨rfl,rfl⟩
     exact wpS_bind (wpS_modify (wpS_pure ⟨⟨hW1.wb.perm (bubble_perm _ _ _),hW1.pend⟩,rfl⟩))
 · rintro _ st1 ⟨hW1,rfl⟩
   exact wpS_pure (h _ hW1)
theorem qNe {c:Prop} [Decidable c] {n:Nat}:(if c then n - 1 else n)+1≤n+1:=by
 split <;> omega
theorem qHe {st:SortSt}{Q:Unit→SortSt→Prop}(h0:IntKeys a₀)(hB:WB a₀ st)(hp:pendingOf st=#[])(h2:2≤a₀.size)
 (h:∀ st',WB a₀ st'→Q () st'):wpS (model prog w) A E s sortRuns' Q st:=by
 rw [sortRuns'_eq]
 refine wpS_bind (wpS_get ?_)
 dsimp only
 simp only [hB.size]
 refine wpS_bind (wpS_mono (wpS_forRange (I:=fun _ c st'=>WB a₀ st'∧c.1=none∧Ct (pendingOf st').toList 0 c.2∧c.2≤a₀.size) (Q:=fun c st'=>WB a₀ st'∧c.1=none∧Ct (pendingOf st').toList 0 c.2∧c.2≤a₀.size) ?_ (fun _ _ h=>h) ⟨hB,rfl,by rw [hp];rfl,Nat.zero_le _⟩) ?_)
 · rintro x ⟨r,lo⟩ st1 _ _ ⟨hB1,rfl,hc1,hl1⟩
   dsimp only at hc1 hl1 ⊢
   (refine je (fun hc=>?_) (fun hc=>?_) <;> (try simp only [beq_iff_eq] at hc))
   · exact wpS_pure ⟨hB1,rfl,hc1,hl1⟩
   refine wpS_bind (qG6 (p:=pendingOf st1) h0 ⟨hB1,rfl⟩ (by omega) (by omega) fun m st2 hW2 hm1 hm2=>?_)
   dsimp only
   refine je (fun hmr=>?_) (fun hmr=>?_)
   · refine wpS_bind (wpS_lift (wpAny_rule ⟨rfl,?_⟩))
     refine wpS_bind (qDd h0 hW2 (by omega) fun st3 hW3=>?_)
     simp only [Bool.not_true,Bool.false_eq_true,if_false]
     have hc3:Ct (pendingOf st3).toList 0 lo:=by rw [hW3.pend];exact hc1
     refine wpS_bind (wpS_get ?_)
     generalize (pendingOf st3).back?=bk
     rcases bk with _ | ⟨s1,n1,p1⟩
     · refine wpS_bind (wpS_modify (wpS_pure ⟨⟨hW3.wb.size,hW3.wb.mem,hW3.wb.kind,hW3.wb.failed⟩,rfl,?_,by dsimp only;omega⟩))
       show Ct ((pendingOf st3).push _).toList 0 _
       rw [Array.toList_push]
       exact qAd hc3 (by omega)
     · refine wpS_bind (wpS_mono (wpS_forRange (I:=fun _ c st'=>WB a₀ st'∧c=(none,())∧Ct (pendingOf st').toList 0 lo) (Q:=fun c st'=>WB a₀ st'∧c=(none,())∧Ct (pendingOf st').toList 0 lo) ?_ (fun _ _ h=>h) ⟨hW3.wb,rfl,hc3⟩) ?_)
       · rintro y c st4 _ _ ⟨hB4,rfl,hc4⟩
         refine wpS_bind (wpS_get ?_)
         by_cases hs:(pendingOf st4).size > 1
         · rw [if_pos hs]
           obtain⟨⟨f1,f2,f3⟩,e⟩:∃ x,(pendingOf st4)[(pendingOf st4).size - 2]? =some x:=⟨_,getElem?_pos _ _ (by omega)⟩
           rw [e]
           dsimp only
           (refine je (fun hc=>?_) (fun hc=>?_) <;> (try simp only [beq_iff_eq] at hc))
           · exact wpS_pure ⟨hB4,rfl,hc4⟩
           · refine wpS_bind (wk h0 hB4 hc4 hl1 (by omega) fun st5 hB5 hc5=>?_)
             exact wpS_pure ⟨hB5,rfl,hc5⟩
         · rw [if_neg hs]
           exact wpS_pure ⟨hB4,rfl,hc4⟩
       · rintro _ st4 ⟨hB4,rfl,hc4⟩
         refine wpS_bind (wpS_modify (wpS_bind (wpS_modify (wpS_pure ⟨⟨hB4.size,hB4.mem,hB4.kind,hB4.failed⟩,rfl,?_,by dsimp only;omega⟩))))
         show Ct (((pendingOf st4).modify _ _).push _).toList 0 _
         rw [Array.toList_push,Array.toList_modify]
         exact qAd (qH6 hc4) (by omega)
   · have hW3:=hW2
     revert hW3
     generalize st2=st3
     intro hW3
     have hc3:Ct (pendingOf st3).toList 0 lo:=by rw [hW3.pend];exact hc1
     refine wpS_bind (wpS_get ?_)
     generalize (pendingOf st3).back?=bk
     rcases bk with _ | ⟨s1,n1,p1⟩
     · refine wpS_bind (wpS_modify (wpS_pure ⟨⟨hW3.wb.size,hW3.wb.mem,hW3.wb.kind,hW3.wb.failed⟩,rfl,?_,by dsimp only;omega⟩))
       show Ct ((pendingOf st3).push _).toList 0 _
       rw [Array.toList_push]
       exact qAd hc3 (by omega)
     · refine wpS_bind (wpS_mono (wpS_forRange (I:=fun _ c st'=>WB a₀ st'∧c=(none,())∧Ct (pendingOf st').toList 0 lo) (Q:=fun c st'=>WB a₀ st'∧c=(none,())∧Ct (pendingOf st').toList 0 lo) ?_ (fun _ _ h=>h) ⟨hW3.wb,rfl,hc3⟩) ?_)
       · rintro y c st4 _ _ ⟨hB4,rfl,hc4⟩
         refine wpS_bind (wpS_get ?_)
         by_cases hs:(pendingOf st4).size > 1
         · rw [if_pos hs]
           obtain⟨⟨f1,f2,f3⟩,e⟩:∃ x,(pendingOf st4)[(pendingOf st4).size - 2]? =some x:=⟨_,getElem?_pos _ _ (by omega)⟩
           rw [e]
           dsimp only
           (refine je (fun hc=>?_) (fun hc=>?_) <;> (try simp only [beq_iff_eq] at hc))
           · exact wpS_pure ⟨hB4,rfl,hc4⟩
           · refine wpS_bind (wk h0 hB4 hc4 hl1 (by omega) fun st5 hB5 hc5=>?_)
             exact wpS_pure ⟨hB5,rfl,hc5⟩
         · rw [if_neg hs]
           exact wpS_pure ⟨hB4,rfl,hc4⟩
       · rintro _ st4 ⟨hB4,rfl,hc4⟩
         refine wpS_bind (wpS_modify (wpS_bind (wpS_modify (wpS_pure ⟨⟨hB4.size,hB4.mem,hB4.kind,hB4.failed⟩,rfl,?_,by dsimp only;omega⟩))))
         show Ct (((pendingOf st4).modify _ _).push _).toList 0 _
         rw [Array.toList_push,Array.toList_modify]
         exact qAd (qH6 hc4) (by omega)
 · rintro ⟨r,lo⟩ st1 ⟨hB1,rfl,hc1,hl1⟩
   dsimp only at hc1 hl1 ⊢
   refine wpS_bind (wpS_mono (wpS_forRange (I:=fun _ c st'=>WB a₀ st'∧c=(none,())∧Ct (pendingOf st').toList 0 lo) (Q:=fun c st'=>WB a₀ st'∧c=(none,())∧Ct (pendingOf st').toList 0 lo) ?_ (fun _ _ h=>h) ⟨hB1,rfl,hc1⟩) ?_)
   · rintro y c st2 _ _ ⟨hB2,rfl,hc2⟩
     refine wpS_bind (wpS_get ?_)
     (refine je (fun hc=>?_) (fun hc=>?_) <;> (try simp only [beq_iff_eq] at hc))
     · exact wpS_pure ⟨hB2,rfl,hc2⟩
     · refine wpS_bind (wk h0 hB2 hc2 hl1 (Nat.lt_of_le_of_lt qNe (by omega)) fun st3 hB3 hc3=>?_)
       exact wpS_pure ⟨hB3,rfl,hc3⟩
   · rintro _ st2 ⟨hB2,rfl,_⟩
     exact wpS_pure (h _ hB2)
end
end WS
set_option maxRecDepth 100000
namespace WS
open PySem PySem.Spec PyProof.Rows
abbrev Srt (xs:Array Nat):Prop:=xs.toList.Pairwise (· < ·)
theorem qCh {xs:Array Nat}(h:Srt xs){i j:Nat}(hi:i≤j)(hj:j < xs.size)(d:Nat):xs.getD i d≤xs.getD j d:=by
 rw [Array.getD_eq_getD_getElem?,Array.getD_eq_getD_getElem?,getElem?_pos xs i (by omega),getElem?_pos xs j hj]
 show xs[i]≤xs[j]
 rcases Nat.lt_or_eq_of_le hi with hl | rfl
 · have:=List.pairwise_iff_getElem.mp h i j (by simpa using Nat.lt_trans hl hj) (by simpa using hj) hl
   exact Nat.le_of_lt (by simpa using this)
 · exact Nat.le_refl _
def NL (t:SetTable)(x:Nat):Prop:=t.place[SetTable.below t.place x]?≠some x
theorem qJ4 {t:SetTable}{x:Nat}(h:∀ i,t.slot x≠ .live i):NL t x:=by
 intro e
 unfold SetTable.slot at h
 dsimp only at h
 rw [e,if_pos (by simp)] at h
 exact h _ rfl
theorem vV {t:SetTable}{f:Nat→Int}{k:Int}:∀ (n:Nat) (p:SetTable.Probe) (j:Nat) (d:Option Nat),(∀ x,p.dummy=some x→NL t x)→SetTable.probe.go t f k n p=some (.empty j d)→NL t j∧∀ x,d=some x→NL t x
 | 0,p,j,d,hp,h=>by unfold SetTable.probe.go at h;cases h
 | n+1,p,j,d,hp,h=>by
  have adv:∀ q:SetTable.Probe,(t.advance q).dummy=q.dummy:=fun q=>by unfold SetTable.advance;split <;> rfl
  unfold SetTable.probe.go at h
  cases hs:t.slot p.j with
  | empty=>
   rw [hs] at h
   cases h
   exact⟨qJ4 (fun i e=>by (rw [hs] at e;cases e)),hp⟩
  | dummy=>
   rw [hs] at h
   exact vV n _ j d (fun x hx=>by
    rw [adv] at hx
    cases hx
    exact qJ4 fun i e=>by rw [hs] at e;cases e) h
  | live i=>
   rw [hs] at h
   dsimp only at h
   split at h
   · cases h
   · exact vV n _ j d (fun x hx=>hp x (by rw [adv] at hx;exact hx)) h
theorem qH8 {t:SetTable}{k:Int}{j:Nat}{b:Bool}(h:t.freeSlot k=some (j,b)):NL t j:=by
 unfold SetTable.freeSlot at h
 split at h
 · rename_i j' d hp
   obtain⟨h1,h2⟩:=vV (t:=t) _ _ j' d (fun x hx=>by cases hx) hp
   cases d with
   | none=>cases h;exact h1
   | some x=>cases h;exact h2 _ rfl
 · cases h
def Bl (xs:Array Nat)(j p:Nat):Prop:=p≤xs.size∧(∀ i,i < p→xs.getD i j < j)∧∀ i,p≤i→i < xs.size→j≤xs.getD i j
theorem qBp {xs:Array Nat}{j:Nat}(h:Srt xs):∀ (f lo hi:Nat),hi - lo≤f→lo≤hi→hi≤xs.size→(∀ i,i < lo→xs.getD i j < j)→(∀ i,hi≤i→i < xs.size→j≤xs.getD i j)→Bl xs j (SetTable.below.go xs j f lo hi)
 | 0,lo,hi,hf,hl,hs,h1,h2=>by
  unfold SetTable.below.go
  obtain rfl:lo=hi:=by omega
  exact⟨hs,h1,h2⟩
 | f+1,lo,hi,hf,hl,hs,h1,h2=>by
  unfold SetTable.below.go
  by_cases hlt:lo < hi
  · rw [if_pos hlt]
    dsimp only
    by_cases hm:xs.getD ((lo+hi) / 2) j < j
    · rw [if_pos hm]
      exact qBp h f _ _ (by omega) (by omega) hs (fun i hi'=>Nat.lt_of_le_of_lt (qCh h (by omega) (by omega) j) hm) h2
    · rw [if_neg hm]
      exact qBp h f _ _ (by omega) (by omega) (by omega) h1 fun i hi' hi2=>Nat.le_trans (Nat.not_lt.mp hm) (qCh h hi' hi2 j)
  · rw [if_neg hlt]
    obtain rfl:lo=hi:=by omega
    exact⟨hs,h1,h2⟩
theorem qB4 {xs:Array Nat}{j:Nat}(h:Srt xs):Bl xs j (SetTable.below xs j):=
 qBp h _ _ _ (by omega) (Nat.zero_le _) (Nat.le_refl _) (fun _ hi=>by omega) fun _ h1 h2=>by omega
theorem qN1 {t:SetTable}{j:Nat}(h:Srt t.place)(hnl:NL t j):Srt (t.put j).1.place:=by
 obtain⟨h0,h1,h2'⟩:=qB4 (j:=j) h
 have h2:∀ i,SetTable.below t.place j≤i→i < t.place.size→j < t.place.getD i j:=fun i hi hs=>by
  unfold NL at hnl
  generalize SetTable.below t.place j=p at hi h2' hnl
  have e1:j≠t.place.getD p j:=fun e=>hnl (by rw [Array.getD_eq_getD_getElem?,getElem?_pos t.place p (by omega)] at e;rw [getElem?_pos t.place p (by omega)];exact congrArg some e.symm)
  have e2:=h2' p (Nat.le_refl _) (by omega)
  have e3:=qCh h hi hs j
  omega
 show List.Pairwise _ (SetTable.insertAt t.place (SetTable.below t.place j) j).toList
 rw [SetTable.toList_insertAt]
 clear hnl
 generalize SetTable.below t.place j=p at h0 h1 h2 h2'
 have ge:∀ i,t.place.getD i j=(t.place.toList[i]?).getD j:=fun i=>by rw [Array.getD_eq_getD_getElem?,Array.getElem?_toList]
 refine List.pairwise_append.mpr ⟨List.Pairwise.sublist (List.take_sublist _ _) h,List.pairwise_cons.mpr ⟨fun x hx=>?_,List.Pairwise.sublist (List.drop_sublist _ _) h⟩,fun x hx y hy=>?_⟩
 · obtain⟨i,hi,rfl⟩:=List.getElem_of_mem hx
   have hi':p+i < t.place.size:=by rw [List.length_drop,Array.length_toList] at hi;omega
   have:=h2 (p+i) (by omega) hi'
   rw [ge,List.getElem?_eq_getElem (by simpa using hi')] at this
   simpa using this
 · obtain⟨i,hi,rfl⟩:=List.getElem_of_mem hx
   rw [List.length_take,Array.length_toList] at hi
   have a1:=h1 i (by omega)
   rw [ge,List.getElem?_eq_getElem (by rw [Array.length_toList];omega)] at a1
   have a1':(t.place.toList.take p)[i]'(by rw [List.length_take,Array.length_toList];exact hi) < j:=by simpa using a1
   rcases List.mem_cons.mp hy with rfl | hy
   · exact a1'
   · obtain⟨k,hk,rfl⟩:=List.getElem_of_mem hy
     have hk':p+k < t.place.size:=by rw [List.length_drop,Array.length_toList] at hk;omega
     have a2:=h2 (p+k) (by omega) hk'
     rw [ge,List.getElem?_eq_getElem (by simpa using hk')] at a2
     have a2':j < (t.place.toList.drop p)[k]:=by simpa using a2
     exact Nat.lt_trans a1' a2'
theorem qJa (n:Nat):Srt (Array.range n):=by
 show List.Pairwise _ (Array.range n).toList
 rw [Array.toList_range]
 exact List.pairwise_lt_range
structure TOk (b:Bool)(t:SetTable):Prop where
 led:t.led=b
 srt:Srt t.place
theorem xq {b:Bool}{t:SetTable}{n:Nat}(h:TOk b t):TOk b (t.standIn n):=⟨h.led,qJa n⟩
theorem qG2 {b:Bool}{t:SetTable}{es:Array (Int × Value)}{k:Int}{x:Value}(h:TOk b t):TOk b (layNew t es k x).2.1:=by
 unfold layNew
 split
 · rename_i hfs
   have hp:=fun j (hj:NL t j)=>(⟨h.led,qN1 h.srt hj⟩:TOk b (t.put j).1)
   unfold SetTable.orStandIn
   dsimp only
   split
   · exact hp _ (qH8 hfs)
   · exact xq (hp _ (qH8 hfs))
 · exact xq h
theorem qDt {f:Nat→Option (Nat × Nat)}(hf:∀ j y,f j=some y→y.1=j):∀ n,(((List.range n).filterMap f).map (·.1)).Pairwise (· < ·)∧∀ y∈((List.range n).filterMap f).map (·.1),y < n
 | 0=>by simp
 | n+1=>by
  obtain⟨h1,h2⟩:=qDt hf n
  rw [List.range_succ,List.filterMap_append,List.map_append]
  have h3:∀ y∈(([n]:List Nat).filterMap f).map (·.1),y=n:=by
   intro y hy
   obtain⟨z,hz,rfl⟩:=List.mem_map.mp hy
   obtain⟨j,hj,e⟩:=List.mem_filterMap.mp hz
   rw [List.mem_singleton] at hj
   subst hj
   exact hf _ _ e
  refine⟨List.pairwise_append.mpr ⟨h1,?_,fun x hx y hy=>?_⟩,fun y hy=>?_⟩
  · cases hfn:f n with
    | none=>simp [hfn]
    | some z=>simp [hfn]
  · rw [h3 y hy];exact h2 x hx
  · rcases List.mem_append.mp hy with hy | hy
    · exact Nat.lt_succ_of_lt (h2 y hy)
    · rw [h3 y hy];exact Nat.lt_succ_self _
theorem qIq {b:Bool}{t:SetTable}{es:Array (Int × Value)}{n:Nat}(h:TOk b t):TOk b (relayAll t es n).2.1:=by
 unfold relayAll
 split
 · rename_i t' order hr
   dsimp only
   split
   · refine⟨?_,?_⟩
     all_goals
      unfold SetTable.relaid SetTable.laid at hr
      cases hl:SetTable.layClean (SetTable.sizeAbove n - 1) (es.map (·.1)) with
      | none=>rw [hl] at hr;cases hr
      | some ow=>
       rw [hl] at hr
       obtain⟨e1,e2⟩:=Prod.mk.inj (Option.some.inj hr)
       subst e1
       first
        | exact h.led
        | (show List.Pairwise _ (List.toArray _).toList
           exact(qDt (fun j y e=>by
            obtain⟨z,hz,rfl⟩:=Option.map_eq_some_iff.mp e
            rfl) _).1)
   · exact xq h
 · exact xq h
def SW (prog:Program)(w:World)(h:Heap)(a:Addr)(ns:List Int)(m:Nat):Prop:=
 ∃ o es ep t,h.get? a=some o∧o.ExactSet∧o.data= .set es ep t∧ElemsOf (intKind prog w) es.toList∧(∀ e∈es.toList,∃ n tk,e.2= .int n tk∧n∈ns)∧es.size≤m∧t.fits es.size=true∧TOk (!w.params.followText "set-order") t
section
variable {prog : Program} {w : World} {A : Around} {E : Value → Shared → Prop} {s : Shared}
theorem qGe {h:Heap}{a:Addr}{o:Obj}{es es':Array (Int × Value)}{ep m:Nat}{t t':SetTable}{ns:List Int}(ho:h.get? a=some o)(hx:o.ExactSet)(hd:o.data= .set es ep t)
 (h1:ElemsOf (intKind prog w) es'.toList) (h2:∀ e∈es'.toList,∃ n tk,e.2= .int n tk∧n∈ns) (h3:es'.size≤m) (h4:t'.fits es'.size=true) (h5:TOk (!w.params.followText "set-order") t'):
 (h.update a (Obj.putSet es' t')).get? a=some {o with data:=.set es' (ep+1) t'}∧SW prog w (h.update a (Obj.putSet es' t')) a ns m:=by
 have hg:(h.update a (Obj.putSet es' t')).get? a=some {o with data:=.set es' (ep+1) t'}:=by
  have:=Heap.get?_update_self (Obj.putSet es' t') ho (by rw [putSet_of es' t' hd];rfl)
  rw [putSet_of es' t' hd] at this
  exact this
 exact⟨hg,_,es',ep+1,t',hg,hx,rfl,h1,h2,h3,h4,h5⟩
theorem qPn {a:Addr}{ns:List Int}{m:Nat}{n:Int}{tk:Tok}{Q:Bool→Shared→Prop}(hS:SW prog w s.heap a ns m)(hn:n∈ns)(hm:m+1 < scanBound)
 (h:∀ r h',Heap.SameBut a s.heap h'→SW prog w h' a ns (m+1)→Q r {s with heap:=h'}):wpAny (model prog w) A (setAddHashed a (.int n tk) ((intKind prog w).hash n)) Q E s:=by
 obtain⟨o,es,ep,t,ho,hx,hd,hel,hin,hsz,hf,hok⟩:=hS
 have hk:(intKind prog w).is n (.int n tk)=true:=intKind_is _ _ _ _
 unfold setAddHashed setAddHashedIn
 refine wpAny_holding (wpAny_bind (wpAny_setState_of ho hd hf ?_))
 dsimp only
 rw [byScan_of (knd:=intKind prog w) rfl (by omega) hel,if_pos rfl]
 unfold setAddByScan
 refine wpAny_bind (wpAny_bind (wpAny_rule (wpAny_bind (wpAny_setScan_of hk ho hd hf hel ?_))))
 cases List.findIdx? (fun e=>(intKind prog w).is n e.2) es.toList with
 | some j=>
  refine wpAny_pure (wpAny_pure ?_)
  have e:s={s with heap:=s.heap}:=by cases s;rfl
  rw [e]
  exact h _ _ (Heap.SameBut.refl a s.heap) ⟨o,es,ep,t,ho,hx,hd,hel,hin,by omega,hf,hok⟩
 | none=>
  dsimp only
  have hp:=layNew_perm t es ((intKind prog w).hash n) (.int n tk)
  have hfit:=layNew_fits t es ((intKind prog w).hash n) (.int n tk)
  have hok1:=qG2 (es:=es) (k:=(intKind prog w).hash n) (x:=.int n tk) hok
  generalize layNew t es ((intKind prog w).hash n) (.int n tk)=L at hp hfit hok1 ⊢
  obtain⟨es1,t1,wd,gave⟩:=L
  dsimp only at hp hfit hok1 ⊢
  rw [Array.toList_push] at hp
  have hel1:ElemsOf (intKind prog w) es1.toList:=(hel.push hk rfl).perm hp
  have hin1:∀ e∈es1.toList,∃ n tk,e.2= .int n tk∧n∈ns:=fun e he=>by
   rcases List.mem_append.mp (hp.mem_iff.mp he) with he | he
   · exact hin e he
   · rw [List.mem_singleton] at he
     subst he
     exact⟨n,tk,rfl,hn⟩
  have hz1:es1.size≤m+1:=by rw [← Array.length_toList,hp.length_eq,List.length_append,Array.length_toList];simp;omega
  obtain⟨ho1,hS1⟩:=qGe (es':=es1) (t':=t1) ho hx hd hel1 hin1 hz1 hfit hok1
  have hsb1:=Heap.SameBut.update s.heap a (Obj.putSet es1 t1)
  have hb:∀ k,k≤m+1→k≤sizeLine:=fun k hk=>fits_of_scanBound (Nat.lt_of_le_of_lt hk hm)
  have hp2:=relayAll_perm t1 es1 (SetTable.grown es1.size)
  have hf2:=relayAll_fits t1 es1 (SetTable.grown es1.size)
  have hok2:=qIq (es:=es1) (n:=SetTable.grown es1.size) hok1
  have key:∀ (gw:Bool→Sem Unit),(∀ (b:Bool) (s₁:Shared) (Q':Unit→Shared→Prop),Q' () s₁→wpAny (model prog w) A (gw b) Q' E s₁)→
   wpAny (model prog w) A (storeSet a es1 t1 >>=fun _=>if (!wd && t1.tooFull)=true then gw (relayAll t1 es1 (SetTable.grown es1.size)).2.2 >>=fun _=>storeSet a (relayAll t1 es1 (SetTable.grown es1.size)).1 (relayAll t1 es1 (SetTable.grown es1.size)).2.1 >>=fun _=>pure (some true) else pure (some true))
    (fun r s'=>∃ h',r=some true∧s'={s with heap:=h'}∧Heap.SameBut a s.heap h'∧SW prog w h' a ns (m+1)) E s:=by
   intro gw hgw
   refine wpAny_bind (wpAny_storeSet_of ho hd ?_ (hb _ hz1))
   split
   · refine wpAny_bind (hgw _ _ _ ?_)
     generalize relayAll t1 es1 (SetTable.grown es1.size)=L at hp2 hf2 hok2 ⊢
     obtain⟨es2,t2,g2⟩:=L
     dsimp only at hp2 hf2 hok2 ⊢
     have hz2:es2.size≤m+1:=by rw [← Array.length_toList,hp2.length_eq,Array.length_toList];exact hz1
     refine wpAny_bind (wpAny_storeSet_of ho1 rfl ?_ (hb _ hz2))
     obtain⟨_,hS2⟩:=qGe (es':=es2) (t':=t2) (m:=m+1) ho1 hx rfl (hel1.perm hp2) (fun e he=>hin1 e (hp2.mem_iff.mp he)) hz2 hf2 hok2
     exact wpAny_pure ⟨_,rfl,rfl,hsb1.trans (Heap.SameBut.update _ a _),hS2⟩
   · exact wpAny_pure ⟨_,rfl,rfl,hsb1,hS1⟩
  have gw:∀ (b:Bool) (s₁:Shared) (Q':Unit→Shared→Prop),Q' () s₁→wpAny (model prog w) A (match b with | true=>rule "set.scan.the-table-gave-way" | false=>pure ()) Q' E s₁:=fun b s₁ Q' hq=>by
   cases b
   · exact wpAny_pure hq
   · exact wpAny_rule hq
  refine wpAny_bind (gw _ _ _ ?_)
  rw [hashByValue_scannable 8 (x:=.int n tk) rfl]
  split
  all_goals
   refine wpAny_bind (wpAny_pure ?_)
   refine wpAny_mono (key _ gw) (fun r s' hr=>?_) fun _ _ x=>x
   obtain⟨h',rfl,rfl,hsb,hS'⟩:=hr
   exact wpAny_pure (h _ _ hsb hS')
end
end WS
set_option maxRecDepth 100000
namespace WS
open PySem PySem.Spec PyProof.Rows
theorem sw_keep {prog:Program}{w:World}{h h':Heap}{a:Addr}{ns:List Int}{m:Nat}(k:∀ o,h.get? a=some o→h'.get? a=some o)(hS:SW prog w h a ns m):SW prog w h' a ns m:=by
 obtain⟨o,es,ep,t,ho,r⟩:=hS
 exact⟨o,es,ep,t,k o ho,r⟩
section
variable {prog : Program} {w : World} {A : Around} {R : Result → Shared → Prop} {I : Addr} {fp wr : List Addr} {G : Array GenState → Array GenState → Prop} {n : Nat} {P : Nat → Value → Prop} {St : Nat → Shared → Prop}
theorem qOe (W:WalksS prog w A.in1 I fp wr G n P St){S:Addr}(hSf:S ∉ fp){ns:List Int}(hval:∀ i v,P i v→∃ m t,v= .int m t∧m∈ns)(hb:n+1 < scanBound):
 ∀ (k i:Nat) (s:Shared),n - i=k→i≤n→St i s→SW prog w s.heap S ns i→
  (∀ s',Moved (S::wr) G s s'→SW prog w s'.heap S ns n→R (.ok (.ret .none)) s')→
  codeAny (model prog w) A (.builtin "set.update.loop" ⟨[.ref S,.ref I],[]⟩) R s:=by
 have hSw:S ∉ wr:=fun h=>hSf (W.sub _ h)
 have hsub:∀ b∈wr,b∈S::wr:=fun b hb=>List.mem_cons_of_mem _ hb
 intro k
 induction k with
 | zero=>
  intro i s hk hi hst hS hR
  obtain rfl:i=n:=by omega
  refine codeAny_builtin F.entry_set_update_loop ?_
  rw [Around.under_plainId F.plain_set_update_loop _]
  refine wpAny_bind (W.done s _ _ hst fun s' hm=>?_)
  exact wpAny_pure (hR s' (hm.mono hsub) (sw_keep (fun o ho=>hm.heap S _ hSw ho) hS))
 | succ k ih=>
  intro i s hk hi hst hS hR
  refine codeAny_builtin F.entry_set_update_loop ?_
  rw [Around.under_plainId F.plain_set_update_loop _]
  refine wpAny_bind (W.item i s _ _ (by omega) hst fun v s' hP hst' hm=>?_)
  obtain⟨x,t,rfl,hx⟩:=hval i v hP
  refine wpAny_bind (m:=holding [Value.int x t] (setAdd S (.int x t))) (wpAny_holding ?_)
  unfold setAdd
  refine wpAny_holding (wpAny_bind ((intKind prog w).pyHash (k:=x) (intKind_is _ _ _ _) ?_))
  refine qPn (s:={s' with toks:=s'.toks+1}) (sw_keep (fun o ho=>hm.heap S _ hSw ho) hS) hx (by omega) fun r h' hsb hS2=>?_
  refine wpAny_pure ⟨plainId_quiet F.plain_set_update_loop _,ih (i+1) _ (by omega) (by omega) (W.frame _ s' _ _ hst' (Nat.le_succ _) fun b hb o e=>?_) hS2 fun s'' hm'' hS''=>?_⟩
  · rw [hsb.2 b (fun h:b=S=>hSf (by rw [← h];exact hb))];exact e
  · refine hR s'' (Moved.trans W.gtrans ((hm.mono hsub).then_heap (Nat.le_succ _) fun b o hb e=>?_) hm'') hS''
    rw [hsb.2 b (fun h:b=S=>hb (by rw [h];exact List.mem_cons_self))];exact e
end
abbrev qKo (b:Bool):Obj:={cls:=.type "set",dict:=none,data:=.set #[] 0 (.fresh 0 0 b)}
section
variable {prog : Program} {w : World} {A : Around} {E : Value → Shared → Prop} {s : Shared}
theorem qOv (a:Value){Q₁:Value→Shared→Prop}
 (h:Q₁ (.ref s.heap.objs.size) {s with heap:=s.heap.push (qKo (!w.params.followText "set-order"))}):
 codeAny (model prog w) A (.call (.builtin "set.__new__") ⟨[.type "set",a],[]⟩) (wants Q₁ E) s:=by
 refine codeAny_of_tree ?_
 refine wpAny_bind (m:=checkBuiltinCall "set.__new__" ⟨[.type "set",a],[]⟩) (wpAny_of_eq (F.newCall_set_1 a) (wpAny_pure ⟨plainId_quiet F.plain_set_new _,codeAny_builtin F.entry_set_new ?_⟩))
 rw [Around.under_plainId F.plain_set_new _]
 unfold Builtin.«set.__new__» Builtin.Frozenset.newClass
 have hsub:=sub_set_self
 obtain⟨hp,g,d,tk,os⟩:=s
 dsimp only
 wp_walk
 refine wpAny_askSetting (wpAny_pure ?_)
 dsimp only
 simp only [newObj]
 refine wpAny_bind (wpAny_alloc (wpAny_pure ?_))
 exact wpAny_pure h
theorem qLh {h:Heap}{a:Addr}{ns:List Int}(hg:h.get? a=some (qKo (!w.params.followText "set-order"))):SW prog w h a ns 0:=
 ⟨_,#[],0,_,hg,⟨rfl,rfl,rfl⟩,rfl,fun e he=>by simp at he,fun e he=>by simp at he,Nat.le_refl _,rfl,rfl,List.Pairwise.nil⟩
set_option maxHeartbeats 8000000 in
theorem sw_set {l:Addr}{items:Array Value}{ns:List Int}{Q:Value→Shared→Prop}(hh:A.handled=none)(hl:s.heap.IsList l items)(hi:IntsAre items.toList ns)(hb:items.size+1 < scanBound)
 (h:∀ (h':Heap) (tk:Nat),SW prog w h' s.heap.objs.size ns items.size→(∀ b o,b < s.heap.objs.size→s.heap.get? b=some o→h'.get? b=some o)→s.heap.objs.size < h'.objs.size→Q (.ref s.heap.objs.size) {s with heap:=h',toks:=tk}):
 wpAny (model prog w) A (call (.type "set") [.ref l]) Q E s:=by
 obtain⟨c,tl,hmro⟩:=F.called_set.mro
 have hmade:=F.called_set.made
 have hsub:=F.called_set.sub
 refine wpAny_call (codeAny_of_tree ?_)
 show wpAny _ _ (callAny (.type "set") _) _ _ _
 refine wpAny_pure ⟨Code.quiet_builtin _ (by decide+kernel),codeAny_builtin F.entry_type_call ?_⟩
 rw [Around.under_plain (weight_type_call_type "set" [.ref l] []) rfl]
 have h1:=F.called_set.notType
 have h2:=F.called_set.canCreate
 have hct:=F.typeCall_set_1 (.ref l)
 repeat (any_goals (first | assumption | wp_step))
 let B:=!w.params.followText "set-order"
 refine codeAny_mono (qOv (.ref l) (E:=E) (Q₁:=fun obj s₁=>obj= .ref s.heap.objs.size∧s₁={s with heap:=s.heap.push (qKo B)}) ⟨rfl,rfl⟩) fun r s₁ hr=>?_
 rcases r with e | fl
 · exact hr
 rcases fl with obj | _ | _
 rotate_left
 · exact hr.elim
 · exact hr.elim
 obtain⟨rfl,rfl⟩:=hr
 have hS:(s.heap.push (qKo B)).get? s.heap.objs.size=some (qKo B):=Heap.get?_push_size _ rfl
 have hT:Shared.TypeIs {s with heap:=s.heap.push (qKo B)} (.ref s.heap.objs.size) "set":=⟨_,hS,rfl⟩
 have hli:=F.called_set.init.lookup
 have hbi:=F.called_set.init.bind (.ref s.heap.objs.size)
 repeat (any_goals (first | assumption | wp_step))
 refine codeAny_mono (codeAny_call_builtin (R:=wants (fun r s₂=>r= .none∧∃ h' tk,s₂={s with heap:=h',toks:=tk}∧SW prog w h' s.heap.objs.size ns items.size∧
  (∀ b o,b < s.heap.objs.size→s.heap.get? b=some o→h'.get? b=some o)) E) F.called_set.init.plain F.entry_set_init (check_set_init_1 hT ?_)) fun r₂ s₂ hr₂=>?_
 · obtain⟨ol,hol,hcl,nl,hdl⟩:=hl
   obtain⟨ocls,odict,odata,oslots⟩:=ol
   simp only at hcl hdl
   subst hcl;subst hdl
   have hol':=Heap.get?_push_of_some (qKo B) hol
   have hsls:=F.sub_list_set
   have hslf:=F.sub_list_frozenset
   have hne:(Value.type "list" == Value.type "dict")=false:=by decide
   have hl1:(s.heap.push (qKo B)).IsList l items:=⟨_,hol',rfl,nl,rfl⟩
   unfold Builtin.«set.__init__» noKeywords Builtin.Frozenset.updateFrom
   generalize hPI:pyIter=PI
   wp_walk
   subst hPI
   refine wpAny_pyIter_list hl1 ?_
   refine wpAny_bind (wpAny_runValue ?_)
   have hlS:l < s.heap.objs.size:=Heap.lt_size hol
   have hneI:l≠(s.heap.push (qKo B)).objs.size:=by
    rw [Heap.size_push];exact Nat.ne_of_lt (Nat.lt_succ_of_lt hlS)
   refine qOe ((Walks.list (by simp [hh]) _ l hneI items).toS) (S:=s.heap.objs.size) (ns:=ns) ?_ (fun i v hv=>?_) hb (items.size - 0) 0 _ (by omega) (Nat.zero_le _)
    ⟨⟨_,Heap.get?_push_size _ rfl,rfl,rfl⟩,(hl1.push _)⟩ (qLh (Heap.get?_push_of_some _ hS)) fun s' hm hS'=>?_
   · rw [Heap.size_push];simp only [List.mem_cons,List.not_mem_nil,or_false,not_or]
     exact⟨Nat.ne_of_lt (Nat.lt_succ_self _),Nat.ne_of_gt hlS⟩
   · have hv':items.toList[i]? =some v:=by rw [Array.getElem?_toList];exact hv
     obtain⟨t,rfl⟩:=IntsAre.int_at hi i v hv'
     obtain⟨n,t',e⟩:=hi.all _ (List.mem_of_getElem? hv')
     have hn:=hi.nums
     refine⟨_,t,rfl,?_⟩
     rw [← hn]
     have:=List.mem_map_of_mem (f:=numOf) (List.mem_of_getElem? hv')
     rw [hn] at this ⊢
     exact this
   · obtain⟨h',g',d',tk',os'⟩:=s'
     have eg:g'=s.gens:=hm.gens
     have ed:d'=s.drawn:=hm.drawn
     have eo:os'=s.os:=hm.os
     subst eg;subst ed;subst eo
     refine wpAny_pure (wpAny_pure ⟨rfl,h',tk',rfl,hS',fun b o hb e=>?_⟩)
     refine hm.heap b o ?_ (Heap.get?_push_of_some _ (Heap.get?_push_of_some _ e))
     rw [Heap.size_push]
     simp only [List.mem_cons,List.not_mem_nil,or_false,not_or]
     exact⟨Nat.ne_of_lt hb,Nat.ne_of_lt (Nat.lt_succ_of_lt hb)⟩
 · rcases r₂ with e | fl₂
   · exact hr₂
   rcases fl₂ with r | _ | _
   rotate_left
   · exact hr₂.elim
   · exact hr₂.elim
   obtain⟨rfl,h',tk,rfl,hS',hk'⟩:=hr₂
   repeat (any_goals (first | assumption | wp_step))
   exact h _ _ hS' hk' (by obtain⟨o,_,_,_,ho,_⟩:=hS';exact Heap.lt_size ho)
end
end WS
set_option maxRecDepth 100000
namespace WS
open PySem PySem.Spec PyProof.Rows
theorem s_next:Slot "set_iterator" "__next__" "set_iterator.__next__":=
 .of (owner:="set_iterator") (n:="__next__") (by rw [typeLookup_type,builtinLookup_eq_fast];kernel_rfl) (by decide+kernel) (by decide+kernel) (by decide+kernel)
  (by first | exact .inl (by decide+kernel) | exact .inr (by decide+kernel)) (by rw [isSubtype_type];kernel_rfl)
theorem qMv:Slot "set_iterator" "__iter__" "set_iterator.__iter__":=
 .of (owner:="set_iterator") (n:="__iter__") (by rw [typeLookup_type,builtinLookup_eq_fast];kernel_rfl) (by decide+kernel) (by decide+kernel) (by decide+kernel)
  (by first | exact .inl (by decide+kernel) | exact .inr (by decide+kernel)) (by rw [isSubtype_type];kernel_rfl)
theorem qJ6:Slot "set" "__iter__" "set.__iter__":=
 .of (owner:="set") (n:="__iter__") (by rw [typeLookup_type,builtinLookup_eq_fast];kernel_rfl) (by decide+kernel) (by decide+kernel) (by decide+kernel)
  (by first | exact .inl (by decide+kernel) | exact .inr (by decide+kernel)) (by rw [isSubtype_type];kernel_rfl)
theorem qGo:entryFor table "set_iterator.__next__"=some Builtin.«set_iterator.__next__»:=entryFor_of_fast (by kernel_rfl)
theorem qPg:entryFor table "set_iterator.__iter__"=some Builtin.«dict_keyiterator.__iter__»:=entryFor_alias (id':="dict_keyiterator.__iter__") (by kernel_rfl) rfl (by decide+kernel) (by kernel_rfl)
theorem qOf:entryFor table "set.__iter__"=some Builtin.«frozenset.__iter__»:=entryFor_alias (id':="frozenset.__iter__") (by kernel_rfl) rfl (by decide+kernel) (by kernel_rfl)
theorem qGl (a:Value):argsOk "set_iterator.__next__" ⟨[a],[]⟩:=by unfold argsOk;kernel_rfl
theorem qOm (a:Value):argsOk "set_iterator.__iter__" ⟨[a],[]⟩:=by unfold argsOk;kernel_rfl
theorem qNs (a:Value):argsOk "set.__iter__" ⟨[a],[]⟩:=by unfold argsOk;kernel_rfl
theorem qRo:typeLookup (.type "set") "__len__"=pure (some (.builtin "set.__len__")):=by rw [typeLookup_type,builtinLookup_eq_fast];kernel_rfl
def IsIt (h:Heap)(I:Addr)(f:Value)(i:Nat)(S:Addr)(n ep:Nat):Prop:=∃ o,h.get? I=some o∧o.cls= .type "set_iterator"∧o.data= .fields #[f,.int i 0,.ref S,.int n 0,.int ep 0]
section
variable {prog : Program} {w : World} {A : Around} {E : Value → Shared → Prop} {s : Shared}
theorem IsIt.typ {I S:Addr}{f:Value}{i n ep:Nat}(x:IsIt s.heap I f i S n ep):s.TypeIs (.ref I) "set_iterator":=let ⟨o,ho,hc,_⟩:=x;⟨o,ho,hc⟩
theorem IsIt.set {h:Heap}{I S:Addr}{o:Obj}{f f' v:Value}{i n ep:Nat}(ho:h.get? I=some o)(hc:o.cls= .type "set_iterator")(hd:o.data= .fields #[f,v,.ref S,.int n 0,.int ep 0]):
 ∃ o',(h.update I (Obj.mapFields (·.setIfInBounds 0 f'))).get? I=some o'∧o'.cls= .type "set_iterator"∧o'.data= .fields #[f',v,.ref S,.int n 0,.int ep 0]:=
 ⟨_,Heap.get?_update_self _ ho (Obj.isFreed_of_fields (Obj.data_mapFields hd _)),(Obj.cls_mapFields ..).trans hc,by rw [Obj.data_mapFields hd];simp⟩
theorem IsIt.up {h:Heap}{I S:Addr}{o:Obj}{f:Value}{i n ep:Nat}(ho:h.get? I=some o)(hc:o.cls= .type "set_iterator")(hd:o.data= .fields #[f,.int i 0,.ref S,.int n 0,.int ep 0]):
 IsIt (h.update I (Obj.mapFields (·.setIfInBounds 1 (rawInt ((i:Int)+1))))) I f (i+1) S n ep:=
 ⟨_,Heap.get?_update_self _ ho (Obj.isFreed_of_fields (Obj.data_mapFields hd _)),(Obj.cls_mapFields ..).trans hc,by rw [Obj.data_mapFields hd];simp [rawInt]⟩
abbrev qCp (prog:Program)(w:World)(s:Shared)(S:Addr)(k i ep:Nat)(r:Option (Value × Nat)):Prop:=
 ∀ (A':Around) (E':Value→Shared→Prop) (Q':Option (Value × Nat)→Shared→Prop),Q' r s→wpAny (model prog w) A' (setNext S k i ep) Q' E' s
section
variable {I S : Addr} {k i j ep : Nat} {os : Obj} {es : Array (Int × Value)} {t : SetTable} {x : Value} {Q : Option Value → Shared → Prop} (hS : s.heap.get? S = some os) (hd : os.data = .set es ep t) (hf : t.fits es.size = true)
include hS hd hf
theorem qMt (hit:IsIt s.heap I (.int k 0) i S es.size ep)(hn:qCp prog w s S k i ep (some (x,j)))
 (hQ:∀ h',IsIt h' I (.int j 0) (i+1) S es.size ep→Heap.SameBut I s.heap h'→Q (some x) {s with heap:=h'}):
 wpAny (model prog w) A (pyNext (.ref I)) Q E s:=by
 obtain⟨o,ho,hc,hdI⟩:=id hit
 unfold pyNext
 refine wpAny_bind (wpAny_attempt (wpAny_callSpecial?_slot (name:=Str.ofString "__next__") hit.typ s_next (wpAny_call_entry s_next hit.typ qGo ?_ (qGl _))))
 refine wpAny_bind (wpAny_pure ?_)
 refine wpAny_bind (wpAny_fieldsOf ho hdI ?_)
 dsimp only
 refine wpAny_bind (wpAny_setEntries_of hS hd hf ?_)
 rw [if_neg (by simp)]
 simp only [Int.toNat_natCast]
 refine wpAny_bind (hn _ _ _ ?_)
 dsimp only
 refine wpAny_bind (wpAny_setField ho hdI (by simp) ?_)
 obtain⟨o1,ho1,hc1,hd1⟩:=IsIt.set (i:=i) (f':=rawInt (j:Int)) ho hc hdI
 refine wpAny_bind (wpAny_setField ho1 hd1 (by simp) (wpAny_pure ⟨x,rfl,wpAny_pure (hQ _ (IsIt.up ho1 hc1 hd1) ?_)⟩))
 exact(Heap.SameBut.update s.heap I _).trans (Heap.SameBut.update _ I _)
theorem qA3 {h:Heap}(hh:A.handled=none)(hQ:∀ h',Heap.ExtBut I s.heap h'→Q none {s with heap:=h'})(hb:Heap.SameBut I s.heap h):
 wpAny (model prog w) A.in1 (newExc (.type "StopIteration") [] >>=fun e=>raiseNew e)
  (fun fin s'=>∃ v,fin=Fin.done (Flow.ret v)∧wpAny (model prog w) A (pure (some v)) Q E s')
  (fun e s'=>wpAny (model prog w) A (isInstance e (Value.type "StopIteration") >>=fun b=>if b=true then pure none else throw e) Q E s') {s with heap:=h}:=by
 refine wpAny_bind ?_
 simp only [newExc,newTuple]
 refine wpAny_bind (wpAny_newObj_type ?_ (by size_fits))
 refine wpAny_bind (m:=firstArgMember _ _) (wpAny_of_eq (a:=Value.none) (by first | rfl | (simp only [firstArgMember];rfl)) ?_)
 refine wpAny_newObj_type ?_ (by size_fits)
 simp only [raiseNew]
 refine wpAny_bind (wpAny_handled ?_)
 rw [show A.in1.handled=none from hh]
 refine wpAny_bind (wpAny_pure (wpAny_throw ?_))
 refine wpAny_bind (wpAny_isInstance (T:="StopIteration") (b:=true) ⟨_,Heap.get?_push_size _ rfl,rfl⟩ isSubtype_stop ?_)
 exact wpAny_pure (hQ _ ((hb.extBut.push _).push _))
theorem qMi (hh:A.handled=none)(hit:IsIt s.heap I (.int k 0) i S es.size ep)(hn:qCp prog w s S k i ep none)
 (hQ:∀ h',Heap.ExtBut I s.heap h'→Q none {s with heap:=h'}):wpAny (model prog w) A (pyNext (.ref I)) Q E s:=by
 obtain⟨o,ho,hc,hdI⟩:=id hit
 unfold pyNext
 refine wpAny_bind (wpAny_attempt (wpAny_callSpecial?_slot (name:=Str.ofString "__next__") hit.typ s_next (wpAny_call_entry s_next hit.typ qGo ?_ (qGl _))))
 refine wpAny_bind (wpAny_pure ?_)
 refine wpAny_bind (wpAny_fieldsOf ho hdI ?_)
 dsimp only
 refine wpAny_bind (wpAny_setEntries_of hS hd hf ?_)
 rw [if_neg (by simp)]
 simp only [Int.toNat_natCast]
 refine wpAny_bind (hn _ _ _ ?_)
 dsimp only
 refine wpAny_bind (wpAny_setField ho hdI (by simp) ?_)
 exact qA3 hS hd hf hh hQ (Heap.SameBut.update ..)
theorem qP7 {T:Addr}{ps:List Nat}{p:Nat}{ot:Obj}{m:Nat}(hit:IsIt s.heap I (.ref T) i S es.size ep)(hT:s.heap.get? T=some ot)(hdT:ot.data= .seq (ps.map fun(i:Nat)=>rawInt i).toArray m)(hp:ps[i]? =some p)(hlt:p < es.size)
 (hQ:∀ h',IsIt h' I (.ref T) (i+1) S es.size ep→Heap.SameBut I s.heap h'→Q (some es[p].2) {s with heap:=h'}):
 wpAny (model prog w) A (pyNext (.ref I)) Q E s:=by
 obtain⟨o,ho,hc,hdI⟩:=id hit
 unfold pyNext
 refine wpAny_bind (wpAny_attempt (wpAny_callSpecial?_slot (name:=Str.ofString "__next__") hit.typ s_next (wpAny_call_entry s_next hit.typ qGo ?_ (qGl _))))
 refine wpAny_bind (wpAny_pure ?_)
 refine wpAny_bind (wpAny_fieldsOf ho hdI ?_)
 dsimp only
 refine wpAny_bind (wpAny_setEntries_of hS hd hf ?_)
 rw [if_neg (by simp)]
 refine wpAny_bind (wpAny_seqItems hT hdT ?_)
 have e:(ps.map fun(i:Nat)=>rawInt i).toArray[i]? =some (rawInt p):=by simp [hp]
 simp only [Int.toNat_natCast]
 rw [e]
 simp only [rawInt]
 unfold setNextDrawn
 refine wpAny_bind (wpAny_bind (wpAny_setState_of hS hd hf ?_))
 dsimp only
 rw [if_neg (by simp),Int.toNat_natCast,getElem?_pos es p hlt]
 refine wpAny_pure ?_
 refine wpAny_bind (wpAny_setField ho hdI (by simp) (wpAny_pure ⟨_,rfl,wpAny_pure (hQ _ (IsIt.up ho hc hdI) (Heap.SameBut.update s.heap I _))⟩))
theorem qN4 {T:Addr}{ps:List Nat}{ot:Obj}{m:Nat}(hh:A.handled=none)(hit:IsIt s.heap I (.ref T) i S es.size ep)(hT:s.heap.get? T=some ot)(hdT:ot.data= .seq (ps.map fun(i:Nat)=>rawInt i).toArray m)(hp:ps[i]? =none)
 (hQ:∀ h',Heap.ExtBut I s.heap h'→Q none {s with heap:=h'}):wpAny (model prog w) A (pyNext (.ref I)) Q E s:=by
 obtain⟨o,ho,hc,hdI⟩:=id hit
 unfold pyNext
 refine wpAny_bind (wpAny_attempt (wpAny_callSpecial?_slot (name:=Str.ofString "__next__") hit.typ s_next (wpAny_call_entry s_next hit.typ qGo ?_ (qGl _))))
 refine wpAny_bind (wpAny_pure ?_)
 refine wpAny_bind (wpAny_fieldsOf ho hdI ?_)
 dsimp only
 refine wpAny_bind (wpAny_setEntries_of hS hd hf ?_)
 rw [if_neg (by simp)]
 refine wpAny_bind (wpAny_seqItems hT hdT ?_)
 have e:(ps.map fun(i:Nat)=>rawInt i).toArray[i]? =none:=by simpa using hp
 simp only [Int.toNat_natCast,e]
 refine wpAny_bind (wpAny_setField ho hdI (by simp) ?_)
 obtain⟨o1,ho1,hc1,hd1⟩:=IsIt.set (i:=i) (f':=rawInt 0) ho hc hdI
 refine wpAny_bind (wpAny_setField ho1 hd1 (by simp) ?_)
 exact qA3 hS hd hf hh hQ ((Heap.SameBut.update s.heap I _).trans (Heap.SameBut.update _ I _))
end
end
end WS
set_option maxRecDepth 100000
namespace WS
open PySem PySem.Spec PyProof.Rows
theorem qE5 {α:Type}(next:Nat→Nat):∀ (f k:Nat) (left:List α) (out:Array α),left.length=f→(pickOrder.go next f k left out).size=out.size+f∧∀ x,x∈(pickOrder.go next f k left out).toList→x∈out.toList∨x∈left
 | 0,k,left,out,h=>by unfold pickOrder.go;exact⟨rfl,fun x hx=>.inl hx⟩
 | f+1,k,left,out,h=>by
  have hlt:next k % left.length < left.length:=Nat.mod_lt _ (by omega)
  unfold pickOrder.go
  rw [List.getElem?_eq_getElem hlt]
  dsimp only
  obtain⟨h1,h2⟩:=qE5 next f (k+1) (left.eraseIdx (next k % left.length)) (out.push left[next k % left.length]) (by rw [List.length_eraseIdx_of_lt hlt];omega)
  refine⟨by rw [h1,Array.size_push];omega,fun x hx=>?_⟩
  rcases h2 x hx with hx | hx
  · rw [Array.toList_push,List.mem_append,List.mem_singleton] at hx
    rcases hx with hx | rfl
    · exact .inl hx
    · exact .inr (List.getElem_mem _)
  · exact .inr (List.mem_of_mem_eraseIdx hx)
theorem qMm {xs:Array Nat}{j p q:Nat}(h:Bl xs j p)(h':Bl xs j q):p=q:=by
 rcases Nat.lt_trichotomy p q with hl | rfl | hl
 · have a1:=h.2.2 p (Nat.le_refl _) (by have:=h'.1;omega)
   have a2:=h'.2.1 p hl
   omega
 · rfl
 · have a1:=h'.2.2 q (Nat.le_refl _) (by have:=h.1;omega)
   have a2:=h.2.1 q hl
   omega
theorem qGn {xs:Array Nat}{i:Nat}(hi:i < xs.size)(d:Nat):xs.getD i d=xs[i]:=by
 rw [Array.getD_eq_getD_getElem?,getElem?_pos xs i hi];rfl
theorem qHh {xs:Array Nat}(h:Srt xs):SetTable.below xs 0=0:=
 qMm (qB4 h) ⟨Nat.zero_le _,fun i hi=>by omega,fun i _ _=>Nat.zero_le _⟩
theorem qHf {xs:Array Nat}(h:Srt xs){i:Nat}(hi:i < xs.size):SetTable.below xs (xs[i]+1)=i+1:=by
 refine qMm (qB4 h) ⟨by omega,fun k hk=>?_,fun k hk hs=>?_⟩
 · have:=qCh h (Nat.le_of_lt_succ hk) hi (xs[i]+1)
   rw [qGn hi] at this
   omega
 · rw [qGn hs]
   have:=List.pairwise_iff_getElem.mp h i k (by simpa using hi) (by simpa using hs) (by omega)
   have h2:xs[i] < xs[k]:=by simpa using this
   omega
section
variable {prog : Program} {w : World} {A : Around} {E : Value → Shared → Prop} {s : Shared}
theorem qPv {M:Model}{α:Type}{c:Prop} [Decidable c] {m m':Sem α}{Q:α→Shared→Prop}(hc:¬ c)(h:wpAny M A m' Q E s):wpAny M A (if c then m else m') Q E s:=by
 rw [if_neg hc];exact h
section
variable {S : Addr} {k i ep : Nat} {os : Obj} {es : Array (Int × Value)} {t : SetTable} (hS : s.heap.get? S = some os) (hd : os.data = .set es ep t) (hf : t.fits es.size = true)
include hS hd hf
theorem qMh (hB:w.params.followText "set-order"=true):qCp prog w s S k i ep (((pickOrder (w.params.setOrder S ep) es)[i]?).map fun e=>(e.2,k)):=by
 intro A' E' Q' hQ
 unfold setNext
 refine wpAny_bind (wpAny_setState_of hS hd hf ?_)
 dsimp only
 unfold setsByText
 refine wpAny_bind (wpAny_bind (wpAny_askSetting (wpAny_pure ?_)))
 rw [show (model prog w).w.params.followText "set-order"=true from hB,if_pos rfl,if_neg (by simp)]
 unfold setWalk
 refine wpAny_bind (wpAny_bind (wpAny_setState_of hS hd hf ?_))
 dsimp only
 unfold setsByText
 refine wpAny_bind (wpAny_bind (wpAny_askSetting (wpAny_pure ?_)))
 rw [show (model prog w).w.params.followText "set-order"=true from hB,if_pos rfl]
 refine wpAny_bind (wpAny_askSetting (wpAny_pure ?_))
 exact wpAny_pure hQ
theorem qQ9 (hB:w.params.followText "set-order"=false)(hp:t.plain=true∨es.size≤1)(hl:t.led=true)(hb:SetTable.below t.place k=i)(hi:i < es.size)(hi':i < t.place.size):qCp prog w s S k i ep (some (es[i].2,t.place[i]+1)):=by
 intro A' E' Q' hQ
 unfold setNext
 refine wpAny_bind (wpAny_setState_of hS hd hf ?_)
 dsimp only
 unfold setsByText
 refine wpAny_bind (wpAny_bind (wpAny_askSetting (wpAny_pure ?_)))
 rw [show (model prog w).w.params.followText "set-order"=false from hB,if_neg (by simp)]
 refine qPv ?_ (wpAny_bind ?_)
 · show ¬ (!t.plain && decide (es.size > 1))=true
   rcases hp with hp | hp
   · simp [hp]
   · simp;omega
 · show wpAny _ _ (if (!t.led && !es.isEmpty)=true then unsupported _ else pure ()) _ _ _
   refine qPv (by simp [hl]) (wpAny_pure ?_)
   rw [hb,getElem?_pos es i hi,getElem?_pos t.place i hi']
   exact wpAny_pure hQ
theorem qQh (hB:w.params.followText "set-order"=false)(hp:t.plain=true∨es.size≤1)(hl:t.led=true)(hb:SetTable.below t.place k=es.size):qCp prog w s S k i ep none:=by
 intro A' E' Q' hQ
 unfold setNext
 refine wpAny_bind (wpAny_setState_of hS hd hf ?_)
 dsimp only
 unfold setsByText
 refine wpAny_bind (wpAny_bind (wpAny_askSetting (wpAny_pure ?_)))
 rw [show (model prog w).w.params.followText "set-order"=false from hB,if_neg (by simp)]
 refine qPv ?_ (wpAny_bind ?_)
 · show ¬ (!t.plain && decide (es.size > 1))=true
   rcases hp with hp | hp
   · simp [hp]
   · simp;omega
 · show wpAny _ _ (if (!t.led && !es.isEmpty)=true then unsupported _ else pure ()) _ _ _
   refine qPv (by simp [hl]) (wpAny_pure ?_)
   rw [hb,Array.getElem?_eq_none (Nat.le_refl _)]
   exact wpAny_pure hQ
end
abbrev SetAt (h:Heap)(S:Addr)(es:Array (Int × Value))(ep:Nat)(t:SetTable):Prop:=∃ o,h.get? S=some o∧o.data= .set es ep t
theorem IsIt.keep {h h':Heap}{I S:Addr}{f:Value}{i n ep:Nat}(x:IsIt h I f i S n ep)(k:∀ o,h.get? I=some o→h'.get? I=some o):IsIt h' I f i S n ep:=
 let ⟨o,ho,r⟩:=x;⟨o,k o ho,r⟩
theorem SetAt.keep {h h':Heap}{S:Addr}{es:Array (Int × Value)}{ep:Nat}{t:SetTable}(x:SetAt h S es ep t)(k:∀ o,h.get? S=some o→h'.get? S=some o):SetAt h' S es ep t:=
 let ⟨o,ho,r⟩:=x;⟨o,k o ho,r⟩
theorem qEh {I S:Addr}{f:Value}{i n ep:Nat}{Q:Value→Shared→Prop}(hit:IsIt s.heap I f i S n ep)(h:Q (.ref I) s):wpAny (model prog w) A (pyIter (.ref I)) Q E s:=by
 refine wpAny_pyIter_slot hit.typ qMv (wpAny_call_entry qMv hit.typ qPg ?_ (qOm _))
 exact wpAny_pure ⟨_,rfl,"set_iterator",_,hit.typ,s_next.lookup,h⟩
abbrev InS (es:Array (Int × Value))(_:Nat)(v:Value):Prop:=∃ e,e∈es.toList∧v=e.2
section
variable {I S : Addr} {ep : Nat} {es : Array (Int × Value)} {t : SetTable} (hf : t.fits es.size = true) (hne : S ≠ I) (hh : A.handled = none)
include hf hne hh
theorem qN2 (hB:w.params.followText "set-order"=true):Walks prog w A I [I,S] [I] es.size (InS es) (fun i h=>SetAt h S es ep t∧∃ k:Nat,IsIt h I (.int k 0) i S es.size ep) where
 sub:=fun b hb=>by simp at hb;simp [hb]
 frame:=fun _ _ _ st hk=>⟨st.1.keep fun o e=>hk S (by simp) o e,st.2.imp fun k x=>x.keep fun o e=>hk I (by simp) o e⟩
 item:=fun i s Q E hi st hQ=>by
  obtain⟨⟨os,hS,hd⟩,k,hit⟩:=st
  obtain⟨p1,p2⟩:=qE5 (w.params.setOrder S ep) es.size 0 es.toList #[] (by simp)
  have hsz:(pickOrder (w.params.setOrder S ep) es).size=es.size:=by show (pickOrder.go _ _ _ _ _).size=_;rw [p1];simp
  have hn:=qMh (prog:=prog) (k:=k) (i:=i) hS hd hf hB
  rw [getElem?_pos _ i (by rw [hsz];exact hi)] at hn
  refine qMt hS hd hf hit hn fun h' hit' hs'=>?_
  refine hQ _ h' s.toks ⟨_,?_,rfl⟩ ⟨⟨os,hs'.extBut S os hne hS,hd⟩,k,hit'⟩ fun b o hb e=>hs'.extBut b o (fun h=>hb (by simp [h])) e
  have:=p2 _ (Array.getElem_mem_toList (xs:=pickOrder (w.params.setOrder S ep) es) (i:=i) (by rw [hsz];exact hi))
  rcases this with hx | hx
  · simp at hx
  · exact hx
 done:=fun s Q E st hQ=>by
  obtain⟨⟨os,hS,hd⟩,k,hit⟩:=st
  obtain⟨p1,p2⟩:=qE5 (w.params.setOrder S ep) es.size 0 es.toList #[] (by simp)
  have hsz:(pickOrder (w.params.setOrder S ep) es).size=es.size:=by show (pickOrder.go _ _ _ _ _).size=_;rw [p1];simp
  have hn:=qMh (prog:=prog) (k:=k) (i:=es.size) hS hd hf hB
  rw [Array.getElem?_eq_none (by rw [hsz];exact Nat.le_refl _)] at hn
  exact qMi hS hd hf hh hit hn fun h' he'=>hQ h' s.toks fun b o hb e=>he' b o (fun h=>hb (by simp [h])) e
 self:=fun _ _ _ _ st hQ=>qEh st.2.choose_spec hQ
theorem qQa (hB:w.params.followText "set-order"=false)(hp:t.plain=true∨es.size≤1)(hl:t.led=true)(hs:Srt t.place):
 Walks prog w A I [I,S] [I] es.size (InS es) (fun i h=>SetAt h S es ep t∧∃ k:Nat,IsIt h I (.int k 0) i S es.size ep∧SetTable.below t.place k=i) where
 sub:=fun b hb=>by simp at hb;simp [hb]
 frame:=fun _ _ _ st hk=>⟨st.1.keep fun o e=>hk S (by simp) o e,st.2.imp fun k x=>⟨x.1.keep fun o e=>hk I (by simp) o e,x.2⟩⟩
 item:=fun i s Q E hi st hQ=>by
  obtain⟨⟨os,hS,hd⟩,k,hit,hb⟩:=st
  have hi':i < t.place.size:=by
   have:=hf
   simp only [SetTable.fits,Bool.and_eq_true,beq_iff_eq] at this
   omega
  refine qMt hS hd hf hit (qQ9 hS hd hf hB hp hl hb hi hi') fun h' hit' hs'=>?_
  exact hQ _ h' s.toks ⟨es[i],by simp,rfl⟩ ⟨⟨os,hs'.extBut S os hne hS,hd⟩,_,hit',qHf hs hi'⟩ fun b o hb e=>hs'.extBut b o (fun h=>hb (by simp [h])) e
 done:=fun s Q E st hQ=>by
  obtain⟨⟨os,hS,hd⟩,k,hit,hb⟩:=st
  exact qMi hS hd hf hh hit (qQh hS hd hf hB hp hl hb) fun h' he'=>hQ h' s.toks fun b o hb e=>he' b o (fun h=>hb (by simp [h])) e
 self:=fun _ _ _ _ st hQ=>qEh st.2.choose_spec.1 hQ
theorem qL5 {T:Addr}{ps:List Nat}(hT:T≠I)(hl:ps.length=es.size)(hps:∀ p∈ps,p < es.size):
 Walks prog w A I [I,S,T] [I] es.size (InS es) (fun i h=>SetAt h S es ep t∧IsIt h I (.ref T) i S es.size ep∧∃ o m,h.get? T=some o∧o.data= .seq (ps.map fun(i:Nat)=>rawInt i).toArray m) where
 sub:=fun b hb=>by simp at hb;simp [hb]
 frame:=fun _ _ _ st hk=>⟨st.1.keep fun o e=>hk S (by simp) o e,st.2.1.keep fun o e=>hk I (by simp) o e,by
  obtain⟨o,m,ho,hd⟩:=st.2.2
  exact⟨o,m,hk T (by simp) o ho,hd⟩⟩
 item:=fun i s Q E hi st hQ=>by
  obtain⟨⟨os,hS,hd⟩,hit,ot,m,ho,hdT⟩:=st
  have hp:ps[i]? =some ps[i]:=List.getElem?_eq_getElem (by omega)
  have hlt:=hps _ (List.getElem_mem (by omega:i < ps.length))
  refine qP7 hS hd hf hit ho hdT hp hlt fun h' hit' hs'=>?_
  exact hQ _ h' s.toks ⟨es[ps[i]],by simp,rfl⟩ ⟨⟨os,hs'.extBut S os hne hS,hd⟩,hit',ot,m,hs'.extBut T ot hT ho,hdT⟩ fun b o hb e=>hs'.extBut b o (fun h=>hb (by simp [h])) e
 done:=fun s Q E st hQ=>by
  obtain⟨⟨os,hS,hd⟩,hit,ot,m,ho,hdT⟩:=st
  exact qN4 hS hd hf hh hit ho hdT (List.getElem?_eq_none (by omega)) fun h' he'=>hQ h' s.toks fun b o hb e=>he' b o (fun h=>hb (by simp [h])) e
 self:=fun _ _ _ _ st hQ=>qEh st.2.1 hQ
end
theorem qLj {src:Source}{n:Nat}{Q:Nat→Shared→Prop}(hn:n≠0)(h:∀ i d,i < n→Q i {s with drawn:=d}):wpAny (model prog w) A (choose src n) Q E s:=
 fun Γ p hΓ=>⟨hn,h _ _ (Nat.mod_lt _ (Nat.pos_of_ne_zero hn))⟩
theorem qMj {α:Type}:∀ (f:Nat) (xs:List α) {s:Shared} {Q:List α→Shared→Prop},xs.length=f→(∀ L d,L.length=f→(∀ x∈L,x∈xs)→Q L {s with drawn:=d})→wpAny (model prog w) A (drawOrder f xs) Q E s
 | 0,xs,s,Q,h,hQ=>by
  unfold drawOrder
  exact wpAny_pure (hQ [] s.drawn rfl (fun _ hx=>by simp at hx))
 | f+1,[],s,Q,h,hQ=>by simp at h
 | f+1,x::xs,s,Q,h,hQ=>by
  unfold drawOrder
  refine wpAny_bind (qLj (by simp) fun i d hi=>?_)
  rw [List.getElem?_eq_getElem hi]
  refine wpAny_bind (qMj f _ (by rw [List.length_eraseIdx_of_lt hi];omega) fun L d' hL hm=>wpAny_pure (hQ _ d' (by rw [List.length_cons,hL]) fun y hy=>?_))
  rcases List.mem_cons.mp hy with rfl | hy
  · exact List.getElem_mem _
  · exact List.mem_of_mem_eraseIdx (hm y hy)
end
end WS
set_option maxRecDepth 100000
namespace WS
open PySem PySem.Spec PyProof.Rows
section
variable {prog : Program} {w : World} {A : Around} {E : Value → Shared → Prop} {s : Shared}
theorem qQe {M:Model}{α:Type}{c:Prop} [Decidable c] {m m':Sem α}{Q:α→Shared→Prop}(hc:c)(h:wpAny M A m Q E s):wpAny M A (if c then m else m') Q E s:=by
 rw [if_pos hc];exact h
theorem qRa {M:Model}{α:Type}{c:Prop} [Decidable c] {m m':Sem α}{Q:α→Shared→Prop}(h:c→wpAny M A m Q E s)(h':¬ c→wpAny M A m' Q E s):wpAny M A (if c then m else m') Q E s:=by
 split
 · exact h ‹_›
 · exact h' ‹_›
theorem qPh {S:Addr}{ns:List Int}{m:Nat}{Q:Value→Shared→Prop}(hS:SW prog w s.heap S ns m)(hm4:m≤4096)
 (h:∀ (I:Addr) (fp:List Addr) (es:Array (Int × Value)) (St:Nat→Heap→Prop) (h':Heap) (d:Drawn),(∀ A':Around,A'.handled=none→Walks prog w A' I fp [I] es.size (InS es) St)→
   (∀ e∈es.toList,∃ n tk,e.2= .int n tk∧n∈ns)→es.size≤m→St 0 h'→(∀ b o,s.heap.get? b=some o→h'.get? b=some o)→s.heap.objs.size≤I→s.heap.objs.size≤h'.objs.size→(∀ b∈fp,b=S∨s.heap.objs.size≤b)→I∈fp→Q (.ref I) {s with heap:=h',drawn:=d}):
 wpAny (model prog w) A (pyIter (.ref S)) Q E s:=by
 obtain⟨o,es,ep,t,ho,hx,hd,hel,hin,hsz,hf,hok⟩:=hS
 have hT:s.TypeIs (.ref S) "set":=⟨o,ho,hx.1⟩
 refine wpAny_pyIter_slot hT qJ6 (wpAny_call_entry qJ6 hT qOf ?_ (qNs _))
 unfold Builtin.«frozenset.__iter__»
 refine wpAny_bind (m:=Builtin.Frozenset.slot0 "__iter__" _) (wpAny_pure ?_)
 unfold Builtin.Frozenset.sizeOf
 refine wpAny_bind (wpAny_bind (wpAny_setEntries_of ho hd hf (wpAny_pure ?_)))
 unfold setDrawn
 refine wpAny_bind (wpAny_bind (wpAny_setState_of ho hd hf ?_))
 dsimp only
 unfold setsByText
 refine wpAny_bind (wpAny_bind (wpAny_askSetting (wpAny_pure (wpAny_pure ?_))))
 have hbig:es.size≤sizeLine:=by rw [sizeLine_eq];omega
 have hSlt:@LT.lt Nat _ S s.heap.objs.size:=Heap.lt_size ho
 refine qRa (fun hc=>?_) (fun hc=>?_)
 · refine wpAny_bind (qMj es.size _ (by simp) fun L d hL hm=>?_)
   refine wpAny_bind (wpAny_newTuple ?_ (by rw [List.length_map,hL];exact hbig))
   refine wpAny_bind (wpAny_setEpoch_of (s:={s with heap:=s.heap.push _,drawn:=d}) (Heap.get?_push_of_some _ ho) hd hf ?_)
   refine wpAny_bind (wpAny_newObj_type (wpAny_pure ⟨_,rfl,"set_iterator",_,⟨_,Heap.get?_push_size _ rfl,rfl⟩,s_next.lookup,?_⟩))
   refine h _ [_,S,s.heap.objs.size] es _ _ d (fun A' hh=>qL5 (T:=s.heap.objs.size) (ps:=L) hf ?_ hh ?_ hL (fun p hp=>by simpa using hm p hp)) hin hsz ⟨⟨o,Heap.get?_push_of_some _ (Heap.get?_push_of_some _ ho),hd⟩,⟨_,Heap.get?_push_size _ rfl,rfl,rfl⟩,_,0,Heap.get?_push_of_some _ (Heap.get?_push_size _ rfl),rfl⟩ (fun b o e=>Heap.get?_push_of_some _ (Heap.get?_push_of_some _ e)) ?_ ?_ ?_ ?_
   all_goals ((try dsimp only);(try simp only [Heap.size_push,List.mem_cons,List.not_mem_nil,or_false,forall_eq_or_imp,forall_eq,true_or]);(try (show @Ne Nat _ _));(try omega);(try (refine⟨?_,?_⟩ <;> (try refine⟨?_,?_⟩) <;> first | trivial | exact .inl rfl | exact .inr (Nat.le_refl _) | exact .inr (Nat.le_succ _))))
 · refine wpAny_bind (wpAny_pure ?_)
   refine wpAny_bind (wpAny_setEpoch_of ho hd hf ?_)
   refine wpAny_bind (wpAny_newObj_type (wpAny_pure ⟨_,rfl,"set_iterator",_,⟨_,Heap.get?_push_size _ rfl,rfl⟩,s_next.lookup,?_⟩))
   have hl:=hok.led
   cases hB:w.params.followText "set-order" with
   | true=>
    refine h _ [_,S] es _ _ s.drawn (fun A' hh=>qN2 hf ?_ hh hB) hin hsz ⟨⟨o,Heap.get?_push_of_some _ ho,hd⟩,0,_,Heap.get?_push_size _ rfl,rfl,rfl⟩ (fun b o e=>Heap.get?_push_of_some _ e) (Nat.le_refl _) ?_ ?_ ?_
    all_goals ((try dsimp only);(try simp only [Heap.size_push,List.mem_cons,List.not_mem_nil,or_false,forall_eq_or_imp,forall_eq,true_or]);(try (show @Ne Nat _ _));(try omega);(try (refine⟨?_,?_⟩ <;> (try refine⟨?_,?_⟩) <;> first | trivial | exact .inl rfl | exact .inr (Nat.le_refl _) | exact .inr (Nat.le_succ _))))
   | false=>
    rw [hB] at hl
    refine h _ [_,S] es _ _ s.drawn (fun A' hh=>qQa hf ?_ hh hB ?_ hl hok.srt) hin hsz ⟨⟨o,Heap.get?_push_of_some _ ho,hd⟩,0,⟨_,Heap.get?_push_size _ rfl,rfl,rfl⟩,qHh hok.srt⟩ (fun b o e=>Heap.get?_push_of_some _ e) (Nat.le_refl _) ?_ ?_ ?_
    case refine_2=>
     have hc':¬ (!w.params.followText "set-order" && (!t.plain && decide (es.size > 1)))=true:=hc
     rw [hB] at hc'
     cases hpl:t.plain
     · exact .inr (by simpa [hpl] using hc')
     · exact .inl rfl
    all_goals ((try dsimp only);(try simp only [Heap.size_push,List.mem_cons,List.not_mem_nil,or_false,forall_eq_or_imp,forall_eq,true_or]);(try (show @Ne Nat _ _));(try omega);(try (refine⟨?_,?_⟩ <;> (try refine⟨?_,?_⟩) <;> first | trivial | exact .inl rfl | exact .inr (Nat.le_refl _) | exact .inr (Nat.le_succ _))))
theorem qN8 {S:Addr}{ns:List Int}{m:Nat}{Q:List Value→Shared→Prop}(hh:A.handled=none)(hS:SW prog w s.heap S ns m)(hm4:m≤4096)
 (hQ:∀ (vs:List Value) (h':Heap) (d:Drawn) (tk:Nat),vs.length≤m→(∀ v∈vs,∃ n t,v= .int n t∧n∈ns)→(∀ b o,s.heap.get? b=some o→h'.get? b=some o)→s.heap.objs.size≤h'.objs.size→Q vs {s with heap:=h',drawn:=d,toks:=tk}):
 wpAny (model prog w) A (collect (.ref S)) Q E s:=by
 have hSlt:S < s.heap.objs.size:=by obtain⟨o,_,_,_,ho,_⟩:=hS;exact Heap.lt_size ho
 unfold collect
 refine wpAny_bind (wpAny_runValue (codeAny_builtin F.entry_proto_collect ?_))
 rw [Around.under_plainId F.plain_proto_collect _]
 show wpAny _ A.in1 (newList [] >>=fun l=>again (.builtin "list.__iadd__" ⟨[l,.ref S],[]⟩)) _ _ s
 refine wpAny_bind (wpAny_newObj_type ?_)
 refine wpAny_pure ⟨plainId_quiet F.plain_list_iadd _,codeAny_builtin F.entry_list_iadd ?_⟩
 rw [Around.under_plainId F.plain_list_iadd _]
 show wpAny _ A.in1 (Builtin.List.listExtendWith (.ref s.heap.objs.size) (.ref S) (.ref s.heap.objs.size)) _ _ _
 unfold Builtin.List.listExtendWith
 have hS1:SW prog w (s.heap.push {cls:=.type "list",data:=.seq ([]:List Value).toArray}) S ns m:=sw_keep (fun o e=>Heap.get?_push_of_some _ e) hS
 have hT:Shared.TypeIs {s with heap:=s.heap.push {cls:=.type "list",data:=.seq ([]:List Value).toArray}} (.ref S) "set":=by
  obtain⟨o,_,_,_,ho,hx,_⟩:=hS1
  exact⟨o,ho,hx.1⟩
 refine wpAny_bind (wpAny_typeOf hT ?_)
 have h1:Builtin.List.listSameRef (.ref s.heap.objs.size) (.ref S)=false:=by simp [Builtin.List.listSameRef,Nat.ne_of_gt hSlt]
 have h2:(Value.type "set" == Value.type "list")=false:=by decide
 have h3:(Value.type "set" == Value.type "tuple")=false:=by decide
 simp only [h1,h2,h3,Bool.or_false,Bool.false_eq_true,if_false]
 refine wpAny_bind (qPh hS1 hm4 fun I fp es St h' d W hin hsz hst old hI hsz' hfp hIf=>?_)
 refine wpAny_bind (wpAny_holding ?_)
 unfold Builtin.List.listLengthHint
 have hT':Shared.TypeIs {s with heap:=h',drawn:=d} (.ref S) "set":=by
  obtain⟨o,ho,hc⟩:=hT
  exact⟨o,old _ _ ho,hc⟩
 refine wpAny_bind (wpAny_specialOf hT' qRo ?_)
 (generalize hid:("set.__len__":String)=id0;(fail_if_success (clear hid id0));wp_delta;rw [show splitId id0=some ("set","__len__") from by subst hid;decide+kernel];subst hid)
 refine wpAny_bind (wpAny_isInstance (b:=true) hT' sub_set_self ?_)
 refine qPv (by simp) (qQe (by decide+kernel) ?_)
 refine wpAny_bind (wpAny_typeOf hT' (wpAny_pure ?_))
 refine qQe (by decide+kernel) ?_
 refine wpAny_bind (wpAny_rule ?_)
 have hL0:h'.get? s.heap.objs.size=some {cls:=.type "list",data:=.seq ([]:List Value).toArray}:=old _ _ (Heap.get?_push_size _ rfl)
 refine wpAny_bind ?_
 show wpAny _ A.in1 (updateSeq s.heap.objs.size (·.push .none) >>=fun _=>updateSeq s.heap.objs.size (·.pop)) _ _ _
 refine wpAny_bind (wpAny_updateSeq hL0 rfl ?_)
 have hL1:=Heap.get?_update_self (Obj.mapSeq (·.push Value.none)) hL0 rfl
 refine wpAny_updateSeq hL1 rfl ?_
 have hL2:=Heap.get?_update_self (Obj.mapSeq (·.pop)) hL1 rfl
 have oth:∀ b o,b≠s.heap.objs.size→h'.get? b=some o→((h'.update s.heap.objs.size (Obj.mapSeq (·.push Value.none))).update s.heap.objs.size (Obj.mapSeq (·.pop))).get? b=some o:=
  fun b o hb e=>(Heap.get?_update_other _ _ (Ne.symm hb)).trans ((Heap.get?_update_other _ _ (Ne.symm hb)).trans e)
 have hLf:s.heap.objs.size ∉ fp:=fun hm=>by
  rcases hfp _ hm with e | e
  · exact absurd e (Nat.ne_of_gt hSlt)
  · dsimp only at e
    rw [Heap.size_push] at e
    exact absurd e (Nat.not_succ_le_self _)
 have WA:=W A.in1 (by simp [hh])
 refine wpAny_pure ⟨plainId_quiet F.plain_extend_loop _,codeAny_extend_loopS WA.toS (by rw [sizeLine_eq];omega) _ hLf _ es.size 0 _ _ _ rfl (Nat.zero_le _)
  (WA.frame 0 h' _ hst fun b hb o e=>oth b o (fun h=>hLf (h ▸ hb)) e) hL2 (ItemsOf.nil _) fun s' acc' c' hm hS' hacc=>?_⟩
 obtain⟨h2,g2,d2,tk2,os2⟩:=s'
 have eg:g2=s.gens:=hm.gens
 have ed:d2=d:=hm.drawn
 have eo:os2=s.os:=hm.os
 subst eg;subst ed;subst eo
 refine wpAny_bind (m:=load s.heap.objs.size) (wpAny_load hS' (wpAny_pure (hQ acc'.toList h2 _ tk2 ?_ (fun v hv=>?_) (fun b o e=>?_) (Nat.le_of_lt (Heap.lt_size hS')))))
 · rw [Array.length_toList,hacc.1];exact hsz
 · obtain⟨j,hj⟩:=List.mem_iff_getElem?.mp hv
   obtain⟨e,he,rfl⟩:=hacc.2 j v (by rw [← Array.getElem?_toList];exact hj)
   exact hin e he
 · have hb:b < s.heap.objs.size:=Heap.lt_size e
   refine hm.heap b o ?_ (oth b o (Nat.ne_of_lt hb) (old b o (Heap.get?_push_of_some _ e)))
   simp only [List.mem_cons,List.not_mem_nil,or_false,not_or]
   refine⟨Nat.ne_of_lt hb,fun e=>?_⟩
   dsimp only at hI
   rw [Heap.size_push,← e] at hI
   exact absurd hb (Nat.not_lt.mpr (Nat.le_of_succ_le hI))
theorem qA1 {vs:List Value}{st:SortSt}{ns:List Int}(hI:∀ v∈vs,∃ n t,v= .int n t∧n∈ns)(hB:WB (pairsOf vs) st):
 ((arrOf st).map (·.2)).size=vs.length∧∀ v∈((arrOf st).map (·.2)).toList,∃ n t,v= .int n t∧n∈ns:=by
 refine⟨by rw [Array.size_map,hB.size,pairsOf_size],fun v hv=>?_⟩
 rw [Array.toList_map] at hv
 obtain⟨p,hp,rfl⟩:=List.mem_map.mp hv
 have:=hB.mem p hp
 rw [pairsOf_toList] at this
 obtain⟨e,hm⟩:=mem_zip_self this
 rw [← e]
 exact hI _ hm
theorem qPl {a:Addr}{vs:List Value}{ns:List Int}{n:Nat}{P:Fin→Shared→Prop}(ho:s.heap.get? a=some (seqObj "list" vs.toArray n))
 (hI:∀ v∈vs,∃ n t,v= .int n t∧n∈ns) (hsz:vs.length≤4096)
 (h:∀ (out:Array Value),out.size=vs.length→(∀ v∈out.toList,∃ n t,v= .int n t∧n∈ns)→P (.done (.ret .none)) {s with heap:=sortedHeap s.heap a vs out}):
 wpAny (model prog w) A (Builtin.«list.sort» ⟨[.ref a],[]⟩) P E s:=by
 rw [list_sort_plain]
 have ha:a < s.heap.objs.size:=Heap.lt_size ho
 have hln:vs.length≤sizeLine:=by rw [sizeLine_eq];omega
 have hA:IntsAre vs (vs.map numOf):=intsAre_map vs fun v hv=>by obtain⟨n,t,e,_⟩:=hI v hv;exact⟨n,t,e⟩
 refine wpAny_bind (listItems_at ho rfl ?_)
 refine wpAny_bind (listUpdate_at ho rfl ?_ (by simpa using hln))
 obtain⟨e1,ho1⟩:∃ e1,(s.heap.update a (Obj.mapSeq fun _=>#[])).get? a=some (seqObj "list" #[] e1):=⟨_,get?_update_seq ho (fun _=>#[])⟩
 refine wpAny_bind (seqEpoch_at ho1 rfl ?_)
 refine wpAny_bind (wpAny_newTuple ?_ (by simpa using hln))
 refine wpAny_bind (wpAny_newList ?_)
 refine wpAny_holding ?_
 have ho6:(((s.heap.update a (Obj.mapSeq fun _=>#[])).push (seqObj "tuple" vs.toArray 0)).push (seqObj "list" #[] 0)).get? a=some (seqObj "list" #[] e1):=
  Heap.get?_push_of_some _ (Heap.get?_push_of_some _ ho1)
 show wpAny (model prog w) A _ P E {s with heap:=((s.heap.update a (Obj.mapSeq fun _=>#[])).push (seqObj "tuple" vs.toArray 0)).push (seqObj "list" #[] 0)}
 dsimp only
 have fin:∀ st':SortSt,WB (pairsOf vs) st'→P (.done (.ret .none)) {s with heap:=sortedHeap s.heap a vs ((arrOf st').map (·.2))}:=fun st' hB=>by
  obtain⟨h1,h2⟩:=qA1 hI hB
  exact h _ h1 h2
 by_cases h2:vs.toArray.size < 2
 · rw [if_pos h2,if_pos h2]
   refine wpAny_bind (wpAny_pure ?_)
   rw [StateT.run_pure]
   refine wpAny_bind (wpAny_pure ?_)
   dsimp only
   refine wpAny_bind (seqEpoch_at ho6 rfl ?_)
   refine wpAny_bind (listUpdate_at ho6 rfl ?_ (hsz2:=by rw [Array.size_map];show (pairsOf vs).size≤_;rw [pairsOf_size];omega))
   simp only [bne_self_eq_false,Bool.false_eq_true,if_false]
   have hx:((vs.toArray.zip vs.toArray).map (·.2)).size=vs.length∧∀ v∈((vs.toArray.zip vs.toArray).map (·.2)).toList,∃ n t,v= .int n t∧n∈ns:=by
    have:=qA1 (st:=SortSt.mk' oneType' (vs.toArray.zip vs.toArray) #[] 7 none) hI ⟨rfl,fun _ h=>h,rfl,rfl⟩
    exact this
   exact wpAny_pure (h _ hx.1 hx.2)
 · rw [if_neg h2,if_neg h2]
   have hsz':vs.toArray.size=vs.length:=by simp
   obtain⟨v₁,v₂,rest,rfl⟩:∃ v₁ v₂ rest,vs=v₁::v₂::rest:=by
    match vs,hsz',h2 with
    | [],_,h2=>simp at h2
    | [_],_,h2=>simp at h2
    | v₁::v₂::rest,_,_=>exact⟨v₁,v₂,rest,rfl⟩
   rw [keyKind_ints hA]
   refine wpAny_bind (wpAny_pure ?_)
   refine wpAny_bind (wpAny_mono (qHe (a₀:=pairsOf (v₁::v₂::rest)) (st:=SortSt.mk' oneType' ((v₁::v₂::rest).toArray.zip (v₁::v₂::rest).toArray) #[] 7 none)
    (Q:=fun _ st'=>WB (pairsOf (v₁::v₂::rest)) st') hA.intKeys ⟨rfl,fun _ h=>h,rfl,rfl⟩ rfl (by rw [pairsOf_size];simp) fun st' hB=>hB) ?_ fun _ _ e=>e)
   rintro ⟨⟨⟩,st'⟩ s' ⟨rfl,hB⟩
   dsimp only
   refine wpAny_bind (seqEpoch_at ho6 rfl ?_)
   refine wpAny_bind (listUpdate_at ho6 rfl ?_ (hsz2:=by refine Nat.le_trans (Nat.le_of_eq ((Array.size_map ..).trans (hB.size.trans (pairsOf_size _)))) ?_;omega))
   have hfl:=hB.failed
   rw [hfl]
   simp only [bne_self_eq_false,Bool.false_eq_true,if_false]
   exact wpAny_pure (fin st' hB)
theorem qAn {h:Heap}{a b:Addr}{vs:List Value}{out:Array Value}{o:Obj}(hb:b≠a)(e:h.get? b=some o):(sortedHeap h a vs out).get? b=some o:=by
 unfold sortedHeap
 exact(Heap.get?_update_other _ _ (Ne.symm hb)).trans (Heap.get?_push_of_some _ (Heap.get?_push_of_some _ ((Heap.get?_update_other _ _ (Ne.symm hb)).trans e)))
theorem qBg {h:Heap}{a:Addr}{vs:List Value}{out:Array Value}{n:Nat}(e:h.get? a=some (seqObj "list" vs.toArray n)):∃ k,(sortedHeap h a vs out).get? a=some (seqObj "list" out k):=by
 unfold sortedHeap
 have e1:=Heap.get?_push_of_some (seqObj "list" #[] 0) (Heap.get?_push_of_some (seqObj "tuple" vs.toArray 0) (get?_update_seq e (fun _=>#[])))
 exact⟨_,get?_update_seq e1 fun _=>out⟩
theorem sorted_set {S:Addr}{ns:List Int}{m:Nat}{Q:Value→Shared→Prop}(hh:A.handled=none)(hS:SW prog w s.heap S ns m)(hm4:m≤4096)
 (h:∀ (L:Addr) (out:Array Value) (k:Nat) (h':Heap) (d:Drawn) (tk:Nat),out.size≤m→(∀ v∈out.toList,∃ n t,v= .int n t∧n∈ns)→h'.get? L=some (seqObj "list" out k)→s.heap.objs.size≤L→(∀ b o,s.heap.get? b=some o→h'.get? b=some o)→Q (.ref L) {s with heap:=h',drawn:=d,toks:=tk}):
 wpAny (model prog w) A (call (.builtin "sorted") [.ref S]) Q E s:=by
 refine Calls.call_function_entry kind_sorted plain_sorted entry_sorted (args_sorted1 _) ?_
 unfold Builtin.«sorted»
 refine wpAny_bind (m:=checkCount "sorted" 1 1 _) (wpAny_pure ?_)
 refine wpAny_bind (qN8 (by simp [hh]) hS hm4 fun vs h' d tk hl hv old hsz=>?_)
 refine wpAny_bind (wpAny_newList ?_ (by rw [sizeLine_eq];omega))
 have hoL:(h'.push (seqObj "list" vs.toArray 0)).get? h'.objs.size=some (seqObj "list" vs.toArray 0):=Heap.get?_push_size _ rfl
 refine wpAny_bind (wpAny_holding (wpAny_call_entry slot_list_sort ⟨_,hoL,rfl⟩ entry_list_sort (qPl hoL hv (by omega) fun out h1 h2=>⟨_,rfl,?_⟩) (args_list_sort _)))
 obtain⟨k,hk⟩:=qBg (out:=out) hoL
 exact wpAny_pure ⟨_,rfl,h _ out k _ d tk (by omega) h2 hk hsz fun b o e=>qAn (Nat.ne_of_lt (Nat.lt_of_lt_of_le (Heap.lt_size e) hsz)) (Heap.get?_push_of_some _ (old b o e))⟩
end
end WS
set_option maxRecDepth 100000
namespace L3
open PySem PySem.Spec PyProof.Rows L2
abbrev qQ0 (X:Cx)(a:Addr)(ns:List Int)(m:Nat):HO:=.ext fun h=>WS.SW X.prog X.w h a ns m
theorem qIo {X:Cx}{pins:List (Addr × Obj)}{σ:L2.St}{H:Hp}{s:Shared}(I:Inv X pins σ H s)(d:Drawn):Inv X pins σ H {s with drawn:=d}:=
 ⟨I.ok,I.os,I.bare,I.base,I.loc,I.cell,I.free,I.freeC,I.pin,I.hok,I.len⟩
theorem qI3 {X:Cx}(hc:X.calm=true):xX X (.type "set") (fun xs H Q=>∃ (p:Addr) (ns:List Int),xs=[.ref p]∧SqL X.K H p (ns.map V.int)∧ns.length < 4000∧∀ (D:Addr),H D=none→Q (.ref D) (upd H D (qQ0 X D ns ns.length))):=by
 intro pins s σ H xs us Q I r h
 obtain⟨p,ns,rfl,hq,hn,q⟩:=h
 obtain⟨u,rfl,rx⟩:=kj r
 cases rx
 obtain⟨its,rv,pl,hz⟩:=I.list hq
 have hi:=qGm rv
 have hl:=hi.length
 have hsz:its.toArray.size=ns.length:=by simp [hl]
 refine WS.sw_set (items:=its.toArray) (I.ok.hd hc) pl.isList hi (by rw [hsz];unfold scanBound;omega) fun h' tk hS old _=>?_
 rw [hsz] at hS
 refine⟨.ref s.heap.objs.size,_,I.laid (fun b o e=>old b o (Heap.lt_size e) e) (Nat.le_refl _) (show ObjOk X.prog X.w _ _ _ (qQ0 X _ ns ns.length) from ⟨hS,?_,fun h1 h2 x k=>WS.sw_keep k x⟩),rfl,q _ (I.hok.fresh (Nat.le_refl _))⟩
 obtain⟨o,_,_,_,ho,_⟩:=hS
 exact⟨o,ho⟩
theorem qC0 {X:Cx}(hc:X.calm=true):xX X (.builtin "sorted") (fun xs H Q=>∃ (p:Addr) (ns:List Int) (m:Nat),xs=[.ref p]∧H p=some (qQ0 X p ns m)∧m≤4096∧∀ (D:Addr) (ns':List Int),H D=none→(∀ x∈ns',x∈ns)→ns'.length≤m→Q (.ref D) (upd H D (.lst (ns'.map V.int)))):=by
 intro pins s σ H xs us Q I r h
 obtain⟨p,ns,m,rfl,hp,hm,q⟩:=h
 obtain⟨u,rfl,rx⟩:=kj r
 cases rx
 obtain⟨hS,_,_⟩:=I.hok p _ hp
 refine WS.sorted_set (I.ok.hd hc) hS hm fun L out k h' d tk h1 h2 h3 h4 old=>?_
 have hA:=intsAre_map out.toList fun v hv=>by obtain⟨n,t,e,_⟩:=h2 v hv;exact⟨n,t,e⟩
 have hln:(out.toList.map numOf).length≤m:=by rw [List.length_map,Array.length_toList];exact h1
 have I':Inv X pins σ (upd H L (.lst ((out.toList.map numOf).map V.int))) {s with heap:=h',toks:=tk}:=I.laid old h4 (show ObjOk X.prog X.w _ _ _ (.lst ((out.toList.map numOf).map V.int)) from ⟨by rw [List.length_map,sizeLine_eq];omega,out.toList,k,qGk hA,by simpa using h3⟩)
 refine⟨.ref L,_,qIo I' d,rfl,q L _ (I.hok.fresh h4) (fun x hx=>?_) hln⟩
 obtain⟨v,hv,rfl⟩:=List.mem_map.mp hx
 obtain⟨n,t,rfl,hn⟩:=h2 v hv
 exact hn
end L3
set_option maxRecDepth 100000
namespace L3
open PySem PySem.Spec PyProof.Rows L2
theorem qFe {X:Cx}:xX X (.type "range") (fun xs H Q=>∃ n:Int,xs=[.int n]∧∀ (D:Addr),H D=none→Q (.ref D) (upd H D (.rng 0 n))):=by
 intro pins s σ H xs us Q I r h
 obtain⟨n,rfl,q⟩:=h
 obtain⟨u,rfl,t,rfl⟩:=kj r
 refine PySem.call_range_1 ⟨.ref s.heap.objs.size,_,I.laid (fun b o e=>Heap.get?_push_of_some _ e) (Nat.le_refl _) (show ObjOk X.prog X.w _ _ _ (.rng 0 n) from ⟨_,_,_,Heap.get?_push_size _ rfl⟩),rfl,q _ (I.hok.fresh (Nat.le_refl _))⟩
abbrev upTo (n:Int):List Int:=(List.range n.toNat).map fun(i:Nat)=>(i:Int)
theorem qGz {n:Nat}{acc:Array Value}(h:ItemsOf (fun i v=>∃ t,v= .int (0+i*1) t) acc n):Vals (((List.range n).map fun(i:Nat)=>(i:Int)).map V.int) acc.toList:=by
 obtain⟨h1,h2⟩:=h
 have key:∀ (m:Nat),m≤n→Vals (((List.range m).map fun(i:Nat)=>(i:Int)).map V.int) (acc.toList.take m):=by
  intro m
  induction m with
  | zero=>intro _;exact .nil
  | succ m ih=>
   intro hm
   have hlt:m < acc.toList.length:=by rw [Array.length_toList,h1];omega
   obtain⟨t,e⟩:=h2 m acc.toList[m] (by rw [← Array.getElem?_toList,List.getElem?_eq_getElem hlt])
   rw [List.range_succ,List.map_append,List.map_append,List.take_add_one,List.getElem?_eq_getElem hlt]
   refine Vals.append (ih (by omega)) (.cons ⟨t,?_⟩ .nil)
   rw [e]
   simp
 have:=key n (Nat.le_refl _)
 rwa [List.take_of_length_le (by rw [Array.length_toList,h1];exact Nat.le_refl _)] at this
theorem qHc {X:Cx}(hc:X.calm=true):xX X (.type "list") (fun xs H Q=>∃ (p:Addr) (n:Int),xs=[.ref p]∧H p=some (.rng 0 n)∧0≤n∧n≤10000∧∀ (D:Addr),H D=none→Q (.ref D) (upd H D (.lst ((upTo n).map V.int)))):=by
 intro pins s σ H xs us Q I r h
 obtain⟨p,n,rfl,hp,n0,n1,q⟩:=h
 obtain⟨u,rfl,rx⟩:=kj r
 cases rx
 obtain⟨t,u,v,ho⟩:=I.hok p _ hp
 refine PySem.call_list_range (n:=n.toNat) (I.ok.hd hc) ho (small_one (by decide) (by decide) (by omega) (by omega)) ?_ (by omega) fun h' tk acc c old hl hit=>?_
 · rw [rangeSize_one]
   split <;> omega
 refine⟨.ref s.heap.objs.size,_,I.laid old (Nat.le_refl _) (show ObjOk X.prog X.w _ _ _ (.lst ((upTo n).map V.int)) from ⟨?_,acc.toList,c,qGz hit,by simpa using hl⟩),rfl,q _ (I.hok.fresh (Nat.le_refl _))⟩
 rw [List.length_map,List.length_map,List.length_range,sizeLine_eq]
 omega
end L3
set_option maxRecDepth 100000
namespace Lw
open PySem L2 L3 Mt
seal L2.PSs L2.PS L2.PE L2.PA L2.PT L2.PW L2.PC L2.PI L2.PG L2.PGs L2.PO
def top (i:Nat):Stmt:=PySem.Challenge.pw_reelcut_k61_flat_one_table.main.body.getD i (.Pass ⟨0,0,0,0⟩)
theorem scA {N P:List Str}{sc:Scope}(h1:sc.kind= .function:=by rfl)(h2:sc.isCoroutine=false:=by rfl)(h3:sc.isGenerator=false:=by rfl)(h4:N.Nodup:=by decide+kernel)(h5:N.take P.length=P:=by rfl)(h6:∀ x∈P,sc.names.lookup x=some .local∨sc.names.lookup x=some .cell:=by decide+kernel)(h7:∀ y∈sc.names,y.2≠ .free:=by decide+kernel):qO N P sc:=⟨h1,h2,h3,h4,h5,h6,h7⟩
abbrev vY:Stmt:=top 6
abbrev j5:Stmt:=top 7
abbrev vi:Stmt:=top 8
abbrev qBs:Stmt:=top 9
abbrev wv:Stmt:=top 10
abbrev vc:Stmt:=top 11
abbrev vd:Stmt:=top 12
abbrev kH:Stmt:=top 13
abbrev vt:Stmt:=top 14
abbrev vQ:Stmt:=top 18
abbrev ze:Stmt:=top 19
abbrev vw:Stmt:=top 20
abbrev xK:Stmt:=top 21
abbrev kC:Stmt:=top 22
abbrev kS:Stmt:=top 23
abbrev zX:Stmt:=top 25
abbrev kR:Stmt:=top 26
abbrev qAc:Stmt:=top 27
abbrev wX:Stmt:=top 28
abbrev xr:Stmt:=top 29
abbrev xL:Stmt:=top 30
abbrev ju:Stmt:=top 31
abbrev zS:Stmt:=top 33
abbrev xz:Stmt:=top 34
abbrev kK:Stmt:=top 35
abbrev zh:Stmt:=top 36
abbrev qCi:Stmt:=top 37
abbrev xy:Stmt:=top 38
abbrev j7:Stmt:=top 39
abbrev xc:Stmt:=top 40
abbrev vT:Stmt:=top 41
abbrev wc:Stmt:=top 44
abbrev ke:Stmt:=top 45
abbrev qEl:Stmt:=top 49
abbrev zC:Stmt:=top 50
abbrev zg:Stmt:=top 51
abbrev zP:Stmt:=top 52
abbrev xp:Stmt:=top 53
abbrev xx:Stmt:=top 54
abbrev qBz:Stmt:=top 55
abbrev qCg:Stmt:=top 56
abbrev kN:Stmt:=top 57
abbrev qBc:Stmt:=top 58
abbrev kJ:Stmt:=top 59
abbrev kP:Stmt:=top 60
abbrev xZ:Stmt:=top 62
abbrev zk:Stmt:=top 63
abbrev xN:Stmt:=top 64
abbrev zO:Stmt:=top 65
abbrev kO:Stmt:=top 66
abbrev j6:Stmt:=top 67
abbrev zQ:Stmt:=top 68
abbrev jl:Stmt:=top 69
abbrev zU:Stmt:=top 70
abbrev xY:Stmt:=top 71
abbrev vf:Stmt:=top 72
abbrev qM9:Stmt:=top 73
theorem qEm:qO ["x"] ["x"] (qH vY):=scA
theorem jX:qO ["one","other","rest"] ["one","other"] (qH j5):=scA
theorem kB:qO ["top","bottom","divisor"] ["top","bottom"] (qH vi):=scA
theorem qJ2:qO ["one","other"] ["one","other"] (qH qBs):=scA
theorem qGy:qO ["one","other"] ["one","other"] (qH wv):=scA
theorem qEi:qO ["one","other"] ["one","other"] (qH vc):=scA
theorem qE0:qO ["one","other"] ["one","other"] (qH vd):=scA
theorem qC9:qO ["one","other"] ["one","other"] (qH kH):=scA
theorem qEw:qO ["one"] ["one"] (qH vt):=scA
theorem qEz:qO ["clip","k"] ["clip","k"] (qH vQ):=scA
theorem qBn:qO ["clip","k"] ["clip","k"] (qH ze):=scA
theorem qE7:qO ["picture","many"] ["picture","many"] (qH vw):=scA
theorem xA:qO ["first","step","many","room"] ["first","step","many"] (qH xK):=scA
theorem qD4:qO ["clip","reels"] ["clip","reels"] (qH kC):=scA
theorem qD1:qO ["clip","reels"] ["clip","reels"] (qH kS):=scA
theorem qA8:qO ["item"] ["item"] (qH zX):=scA
theorem qCx:qO ["track"] ["track"] (qH kR):=scA
theorem xG:qO ["track","moment","begin","place","item","end"] ["track","moment"] (qH qAc):=scA
theorem qHl:qO ["track","place"] ["track","place"] (qH wX):=scA
theorem qAr:qO ["track","place"] ["track","place"] (qH xr):=scA
theorem zD:qO ["track","moment","found"] ["track","moment"] (qH xL):=scA
theorem xW:qO ["track","moment","places"] ["track","moment"] (qH ju):=scA
theorem qB9:qO ["length"] ["length"] (qH zS):=scA
theorem qAv:qO ["length"] ["length"] (qH xz):=scA
theorem jy:qO ["track","spans","border","item"] ["track"] (qH kK):=scA
theorem qBb:qO ["length","j"] ["length","j"] (qH zh):=scA
theorem vN:qO ["track","moment","places","place","span"] ["track","moment"] (qH qCi):=scA
theorem qz:qO ["track","place","j","length","ahead","behind","shares","from_border","first","second"] ["track","place","j"] (qH xy):=scA
theorem vy:qO ["track","place"] ["track","place"] (qH j7):=scA
theorem wq:qO ["track","place"] ["track","place"] (qH xc):=scA
theorem jr:qO ["track","moment","reels","places","ahead","behind","most_ahead","most_behind"] ["track","moment","reels"] (qH vT):=scA
theorem zn:qO ["track","moment","room","mixed","found","item"] ["track","moment","room"] (qH wc):=scA
theorem xh:qO ["room","name","moment","tracks","track","told"] ["room","name","moment"] (qH ke):=scA
theorem qK9:qO ["first","step","k"] ["first","step","k"] (qH qEl):=scA
theorem qAo:qO ["parts","k"] ["parts","k"] (qH zC):=scA
theorem zA:qO ["run","low","high","begin","ends"] ["run","low","high"] (qH zg):=scA
theorem jI:qO ["track","place","begin","length","ahead","behind","shares","from_border","first","second"] ["track","place","begin"] (qH zP):=scA
theorem jv:qO ["track","place","begin","clip","low","high"] ["track","place","begin"] (qH xp):=scA
theorem jw:qO ["room","nest","begin","how_far","known","inner","later","end"] ["room","nest","begin","how_far","known"] (qH xx):=scA
theorem zT:qO ["room","track","moment","known","mixed","found","item","begin"] ["room","track","moment","known"] (qH qBz):=scA
theorem vH:qO ["room","name","moment","known","run","track"] ["room","name","moment","known"] (qH qCg):=scA
theorem jg:qO ["runs","moment","low","high","middle"] ["runs","moment"] (qH kN):=scA
theorem zN:qO ["room","name","moment","known","runs","place","run"] ["room","name","moment","known"] (qH qBc):=scA
theorem jU:qO ["room","name","end","known","pieces","moment","run"] ["room","name"] (qH kJ):=scA
theorem jh:qO ["pieces","moment","begin","length","parts","there"] ["pieces","moment"] (qH kP):=scA
theorem wy:qO ["_law_script","_law_k"] ["_law_script","_law_k"] (qH xZ):=scA
theorem vE:qO ["_law_cell","_law_k","_law_number"] ["_law_cell","_law_k"] (qH zk):=scA
theorem jc:qO ["_law_top","_law_bottom","_law_one","_law_other"] ["_law_top","_law_bottom"] (qH xN):=scA
theorem kq:qO ["_law_clip_here","_law_k","_law_reels","_law_value"] ["_law_clip_here","_law_k","_law_reels"] (qH zO):=scA
theorem jN:qO ["_law_number","_law_reels","_law_most","_law_names","_law_name","_law_step","_law_bottom","_law_start","_law_length"] ["_law_number","_law_reels","_law_most"] (qH kO):=scA
theorem jA:qO ["_law_track","_law_cell","_law_reels","_law_begin","_law_found","_law_k","_law_most"] ["_law_track","_law_cell","_law_reels"] (qH j6):=scA
theorem jW:qO ["_law_cell","_law_reels","_law_names","_law_most","_law_track","_law_k","_law_number","_law_name"] ["_law_cell","_law_reels","_law_names","_law_most"] (qH zQ):=scA
theorem xP:qO ["_law_one","_law_part"] ["_law_one"] (qH jl):=scA
theorem vA:qO ["_law_piece_here","_law_part"] ["_law_piece_here"] (qH zU):=scA
theorem qp:qO ["_law_tracks","_law_end_here","_law_found","_law_track","_law_begin","_law_item","_law_more"] ["_law_tracks","_law_end_here"] (qH xY):=scA
theorem qFf:qO ["_law_tracks"] ["_law_tracks"] (qH vf):=scA
theorem z8:qO ["_law_script","_law_reels","_law_tracks","_law_room","_law_pieces","_law_end_here","_law_moment","_law_found","_law_copy"] ["_law_script"] (qH qM9):=scA
set_option genInjectivity false
set_option genSizeOf false
structure Ads where
 A0:Addr
 B0:FuncData
 A1:Addr
 B1:FuncData
 A2:Addr
 B2:FuncData
 A3:Addr
 B3:FuncData
 A4:Addr
 B4:FuncData
 A5:Addr
 B5:FuncData
 A6:Addr
 B6:FuncData
 A7:Addr
 B7:FuncData
 A8:Addr
 B8:FuncData
 A9:Addr
 B9:FuncData
 A10:Addr
 B10:FuncData
 A11:Addr
 B11:FuncData
 A12:Addr
 B12:FuncData
 A13:Addr
 B13:FuncData
 A14:Addr
 B14:FuncData
 A15:Addr
 B15:FuncData
 A16:Addr
 B16:FuncData
 A17:Addr
 B17:FuncData
 A18:Addr
 B18:FuncData
 A19:Addr
 B19:FuncData
 A20:Addr
 B20:FuncData
 A21:Addr
 B21:FuncData
 A22:Addr
 B22:FuncData
 A23:Addr
 B23:FuncData
 A24:Addr
 B24:FuncData
 A25:Addr
 B25:FuncData
 A26:Addr
 B26:FuncData
 A27:Addr
 B27:FuncData
 A28:Addr
 B28:FuncData
 A29:Addr
 B29:FuncData
 A30:Addr
 B30:FuncData
 A31:Addr
 B31:FuncData
 A32:Addr
 B32:FuncData
 A33:Addr
 B33:FuncData
 A34:Addr
 B34:FuncData
 A35:Addr
 B35:FuncData
 A36:Addr
 B36:FuncData
 A37:Addr
 B37:FuncData
 A38:Addr
 B38:FuncData
 A39:Addr
 B39:FuncData
 A40:Addr
 B40:FuncData
 A41:Addr
 B41:FuncData
 A42:Addr
 B42:FuncData
 A43:Addr
 B43:FuncData
 A44:Addr
 B44:FuncData
 A45:Addr
 B45:FuncData
 A46:Addr
 B46:FuncData
 A47:Addr
 B47:FuncData
 A48:Addr
 B48:FuncData
 A49:Addr
 B49:FuncData
 A50:Addr
 B50:FuncData
 A51:Addr
 B51:FuncData
 A52:Addr
 B52:FuncData
 A53:Addr
 B53:FuncData
 A54:Addr
 B54:FuncData
 A55:Addr
 B55:FuncData
 A56:Addr
 B56:FuncData
 k_CutError:Addr
 k_NoNumber:Addr
 k_NoPlace:Addr
 k_TooMuch:Addr
 t_MOST_ROOM:Tok
 n_NOUGHT:Addr
 n_WHOLE_SHARE:Addr
 t_MOST_PIECES:Tok
 n_NOTHING:Addr
 n_NOTHING_2:Addr
structure Tx (K:PySem.W.Frag)(mg:Str→Option Value)(a:Ads):Prop where
 D0:L3.Def K mg "is_whole" vY ["x"] a.A0 a.B0
 D1:L3.Def K mg "common_divisor" j5 ["one","other"] a.A1 a.B1
 D2:L3.Def K mg "fraction" vi ["top","bottom"] a.A2 a.B2
 D3:L3.Def K mg "sum_of" qBs ["one","other"] a.A3 a.B3
 D4:L3.Def K mg "less_by" wv ["one","other"] a.A4 a.B4
 D5:L3.Def K mg "times_of" vc ["one","other"] a.A5 a.B5
 D6:L3.Def K mg "quotient" vd ["one","other"] a.A6 a.B6
 D7:L3.Def K mg "is_before" kH ["one","other"] a.A7 a.B7
 D8:L3.Def K mg "floor_of" vt ["one"] a.A8 a.B8
 D9:L3.Def K mg "place_at" vQ ["clip","k"] a.A9 a.B9
 D10:L3.Def K mg "picture_at" ze ["clip","k"] a.A10 a.B10
 D11:L3.Def K mg "is_there" vw ["picture","many"] a.A11 a.B11
 D12:L3.Def K mg "moments_there" xK ["first","step","many"] a.A12 a.B12
 D13:L3.Def K mg "head_room" kC ["clip","reels"] a.A13 a.B13
 D14:L3.Def K mg "tail_room" kS ["clip","reels"] a.A14 a.B14
 D15:L3.Def K mg "moments_of" zX ["item"] a.A15 a.B15
 D16:L3.Def K mg "length_of" kR ["track"] a.A16 a.B16
 D17:L3.Def K mg "item_at" qAc ["track","moment"] a.A17 a.B17
 D18:L3.Def K mg "kind_at" wX ["track","place"] a.A18 a.B18
 D19:L3.Def K mg "place_ahead" xr ["track","place"] a.A19 a.B19
 D20:L3.Def K mg "neighbours_at" xL ["track","moment"] a.A20 a.B20
 D21:L3.Def K mg "clips_at_border" ju ["track","moment"] a.A21 a.B21
 D22:L3.Def K mg "part_ahead" zS ["length"] a.A22 a.B22
 D23:L3.Def K mg "part_behind" xz ["length"] a.A23 a.B23
 D24:L3.Def K mg "mix_spans" kK ["track"] a.A24 a.B24
 D25:L3.Def K mg "mix_shares" zh ["length","j"] a.A25 a.B25
 D26:L3.Def K mg "mix_at" qCi ["track","moment"] a.A26 a.B26
 D27:L3.Def K mg "told_in_mix" xy ["track","place","j"] a.A27 a.B27
 D28:L3.Def K mg "taken_at_begin" j7 ["track","place"] a.A28 a.B28
 D29:L3.Def K mg "taken_at_end" xc ["track","place"] a.A29 a.B29
 D30:L3.Def K mg "most_mix" vT ["track","moment","reels"] a.A30 a.B30
 D31:L3.Def K mg "told_on" wc ["track","moment","room"] a.A31 a.B31
 D32:L3.Def K mg "told_at" ke ["room","name","moment"] a.A32 a.B32
 D33:L3.Def K mg "after" qEl ["first","step","k"] a.A33 a.B33
 D34:L3.Def K mg "parts_later" zC ["parts","k"] a.A34 a.B34
 D35:L3.Def K mg "run_within" zg ["run","low","high"] a.A35 a.B35
 D36:L3.Def K mg "run_of_mix" zP ["track","place","begin"] a.A36 a.B36
 D37:L3.Def K mg "run_of_clip" xp ["track","place","begin"] a.A37 a.B37
 D38:L3.Def K mg "run_of_nest" xx ["room","nest","begin","how_far","known"] a.A38 a.B38
 D39:L3.Def K mg "run_on" qBz ["room","track","moment","known"] a.A39 a.B39
 D40:L3.Def K mg "walked" qCg ["room","name","moment","known"] a.A40 a.B40
 D41:L3.Def K mg "place_for" kN ["runs","moment"] a.A41 a.B41
 D42:L3.Def K mg "run_at" qBc ["room","name","moment","known"] a.A42 a.B42
 D43:L3.Def K mg "laid_flat" kJ ["room","name"] a.A43 a.B43
 D44:L3.Def K mg "told_flat" kP ["pieces","moment"] a.A44 a.B44
 D45:L3.Def K mg "_law_cell_at" xZ ["_law_script","_law_k"] a.A45 a.B45
 D46:L3.Def K mg "_law_mixed" zk ["_law_cell","_law_k"] a.A46 a.B46
 D47:L3.Def K mg "_law_fraction" xN ["_law_top","_law_bottom"] a.A47 a.B47
 D48:L3.Def K mg "_law_there" zO ["_law_clip_here","_law_k","_law_reels"] a.A48 a.B48
 D49:L3.Def K mg "_law_clip" kO ["_law_number","_law_reels","_law_most"] a.A49 a.B49
 D50:L3.Def K mg "_law_mixes_put" j6 ["_law_track","_law_cell","_law_reels"] a.A50 a.B50
 D51:L3.Def K mg "_law_items" zQ ["_law_cell","_law_reels","_law_names","_law_most"] a.A51 a.B51
 D52:L3.Def K mg "_law_is_fraction" jl ["_law_one"] a.A52 a.B52
 D53:L3.Def K mg "_law_piece" zU ["_law_piece_here"] a.A53 a.B53
 D54:L3.Def K mg "_law_moments" xY ["_law_tracks","_law_end_here"] a.A54 a.B54
 D55:L3.Def K mg "_law_end" vf ["_law_tracks"] a.A55 a.B55
 D56:L3.Def K mg "law" qM9 ["_law_script"] a.A56 a.B56
 c_CutError:mg "CutError"=some (.ref a.k_CutError)
 c_NoNumber:mg "NoNumber"=some (.ref a.k_NoNumber)
 c_NoPlace:mg "NoPlace"=some (.ref a.k_NoPlace)
 c_TooMuch:mg "TooMuch"=some (.ref a.k_TooMuch)
 b_isinstance:mg "isinstance"=none
 b_int:mg "int"=none
 b_bool:mg "bool"=none
 b_abs:mg "abs"=none
 b_min:mg "min"=none
 b_sum:mg "sum"=none
 b_enumerate:mg "enumerate"=none
 b_len:mg "len"=none
 b_zip:mg "zip"=none
 b_max:mg "max"=none
 b_tuple:mg "tuple"=none
 b_list:mg "list"=none
 b_range:mg "range"=none
 b_all:mg "all"=none
 b_str:mg "str"=none
 b_sorted:mg "sorted"=none
 b_set:mg "set"=none
 b_dict:mg "dict"=none
 g_MOST_ROOM:mg "MOST_ROOM"=some (.int 1000000 a.t_MOST_ROOM)
 g_NOUGHT:mg "NOUGHT"=some (.ref a.n_NOUGHT)
 sq_NOUGHT:∀ H,SqT K H a.n_NOUGHT [.int 0,.int 1]
 g_WHOLE_SHARE:mg "WHOLE_SHARE"=some (.ref a.n_WHOLE_SHARE)
 sq_WHOLE_SHARE:∀ H,SqT K H a.n_WHOLE_SHARE [.int 1,.int 1]
 g_MOST_PIECES:mg "MOST_PIECES"=some (.int 400 a.t_MOST_PIECES)
 g_NOTHING:mg "NOTHING"=some (.ref a.n_NOTHING)
 sq_NOTHING:∀ H,SqT K H a.n_NOTHING [.int 0,.non,.ref a.n_NOTHING_2]
 sq_NOTHING_2:∀ H,SqT K H a.n_NOTHING_2 []
inductive qKu (K:PySem.W.Frag)(vs:List V)(H:Hp)(Q:VK)(_:XK):Prop
| mk (a:Addr) (ns:List Int) (_:vs=[.ref a]) (_:SqL K H a (ns.map V.int)) (_:ns.length≤63) (_:∀ H',Q (.bl true) H')
def qKx (H:Hp)(Q:VK)(p q:Int):Prop:=∀ z,H z=none→Q (.ref z) (upd H z (.tup [.int p,.int q]))
theorem jq {CX:CXT}{P:Program}{w:World}{K:PySem.W.Frag}{mg:Str→Option Value}{base:Heap}{ns:List Str}{n:Str}{sc:Scope}{ad:Addr}{cdv:Value}{A:Around}{outer:List Env}{s:Shared}{H:Hp}{E:XK}:(qKh CX P w K mg base ns n sc ad cdv A outer s H E).K=K:=rfl
theorem qk {CX:CXT}{P:Program}{w:World}{K:PySem.W.Frag}{mg:Str→Option Value}{base:Heap}{ns:List Str}{n:Str}{sc:Scope}{ad:Addr}{cdv:Value}{A:Around}{outer:List Env}{s:Shared}{H:Hp}{E:XK}:(qKh CX P w K mg base ns n sc ad cdv A outer s H E).nox.K=K:=rfl
theorem sL0:(0:Nat)≤sizeLine:=by decide
theorem sL1:(1:Nat)≤sizeLine:=by decide
theorem sL2:(2:Nat)≤sizeLine:=by decide
theorem sL3:(3:Nat)≤sizeLine:=by decide
theorem sL4:(4:Nat)≤sizeLine:=by decide
theorem sL5:(5:Nat)≤sizeLine:=by decide
theorem glt {α:Type}{xs:List α}{i:Nat}{x:α}(h:xs[i]? =some x):i < xs.length:=(List.getElem?_eq_some_iff.mp h).1
theorem ixT {K:PySem.W.Frag}{σ:St}{H:Hp}{p:Addr}{xs:List V}{i:Int}{v:V}{Q:VK}(h:SqT K H p xs)(a:atI xs i=some v)(q:Q v H):tC (.int i) σ H (fun y H2=>qOk K (.ref p) y H2 Q):=⟨p,xs,i,v,rfl,rfl,h,a,q⟩
theorem zL {K:PySem.W.Frag}{σ:St}{H:Hp}{p:Addr}{xs:List V}{i:Int}{v:V}{Q:VK}{j:Nat}(e:σ[j]? =some (some (.ref p)))(h:SqT K H p xs)(a:atI xs i=some v)(q:Q v H):tOp (qOk K) (qQl j) (tC (.int i)) σ H Q:=⟨.ref p,e,p,xs,i,v,rfl,rfl,h,a,q⟩
theorem ixO {K:PySem.W.Frag}{σ:St}{H:Hp}{p:Addr}{xs:List V}{i:Int}{v:V}{Q:VK}{j:Nat}(h:H p=some (.tup xs))(a:atI xs i=some v)(q:Q v H)(e:σ[j]? =some (some (.ref p)):=by rfl):tOp (qOk K) (qQl j) (tC (.int i)) σ H Q:=zL e (SqT.of h) a q
section
variable {P : Program} {w : World} {K : W.Frag} {mg : Str → Option Value} {base : Heap} {a : Ads}
inductive qE8 (vs:List V)(H:Hp)(Q:VK)(_:XK):Prop
| mk (i:Int) (_:vs=[.int i]) (_:Q (.bl true) H)
theorem kQ (T:Tx K mg a):FnOk P w K mg base CX0 1 a.A0 a.B0 ["x"] qE8:=by
 refine T.D0.F.ok qEm (fun vs H Q E h=>?_) (fun cdv A outer s H vs Q E hr h=>?_)
 · obtain⟨i,rfl,_⟩:=h
   rfl
 refine qJ fun _ Y=>?_
 obtain⟨i,rfl,q⟩:=h
 apply Y
 refine⟨_,(qG (qN (qIw (qQ jP rfl T.b_isinstance rfl (qA (pv 0) (qA (vj rfl T.b_int rfl) qB))) (qI4 (qPy (qQ jP rfl T.b_isinstance rfl (qA (pv 0) (qA (vj rfl T.b_bool rfl) qB)))))))),?_⟩
 try dsimp only [jq,qk]
 refine⟨_,rfl,_,_,_,true,rfl,.int i,⟨_,.inl ⟨rfl,rfl⟩⟩,true,rfl,wN ?_⟩
 refine⟨_,rfl,_,_,_,false,rfl,.int i,⟨_,.inl ⟨rfl,by kernel_rfl⟩⟩,false,rfl,?_⟩
 exact q
inductive vg (vs:List V)(H:Hp)(Q:VK)(_:XK):Prop
| mk (i j:Int) (_:vs=[.int i,.int j]) (_:Q (.int ((Int.gcd i j:Nat):Int)) H)
theorem vx (T:Tx K mg a):FnOk P w K mg base CX0 1 a.A1 a.B1 ["one","other"] vg:=by
 refine T.D1.F.ok jX (fun vs H Q E h=>?_) (fun cdv A outer s H vs Q E hr h=>?_)
 · obtain⟨i,j,rfl,_⟩:=h
   rfl
 refine qJ fun _ Y=>?_
 obtain⟨i,j,rfl,q⟩:=h
 apply Y
 refine⟨_,(qC (vO PassesOwn.never (qP km (pv 1) qF (qR _)) (qC (qS 2 jX.nd (qL jH (pv 0) (pv 1)))
  (qC (qS 0 jX.nd (pv 1))
  (qG (qS 1 jX.nd (pv 2))))))
  (qG (qN (qQ qF7 rfl T.b_abs rfl (qA (pv 0) qB))))),?_⟩
 try dsimp only [jq,qk]
 refine vJ (fun σ H'=>H'=H∧∃ (x y:Int) (v:Option V),σ=[some (.int x),some (.int y),v]∧Int.gcd x y=Int.gcd i j)
  (fun σ _=>match σ with | [_,some (.int y),_]=>y.natAbs | _=>0) ⟨rfl,i,j,none,rfl,rfl⟩ ?_ ?_
 · rintro σ H1 ⟨rfl,x,y,v,rfl,e⟩
   refine⟨_,rfl,rfl,_,rfl,?_⟩
   refine jp (fun c=>?_) (fun c=>?_)
   · have hy:y≠0:=by simpa using c
     refine⟨_,rfl,_,rfl,_,_,rfl,rfl,hy,_,rfl,_,rfl,⟨rfl,y,x.fmod y,_,rfl,?_⟩,?_⟩
     · rw [qGa];exact e
     · exact qIh x y hy
   · have hy:y=0:=by simpa using c
     subst hy
     refine⟨_,rfl,x,rfl,?_⟩
     have e2:(if x < 0 then -x else x)=((Int.gcd i j:Nat):Int):=by
      rw [← e,Int.gcd_zero_right]
      split <;> omega
     rw [e2]
     exact q
 · rintro σ H1 Q1 Q2 hq h
   refine qJ fun _ Y=>?_
   obtain⟨v,e,s,k,hk,z⟩:=h
   apply Y
   exact⟨v,e,s,k,hk,hq _ _ z⟩
theorem qFm {t b:Int}(h:b≠0)(hb:b.natAbs < 2 ^ 8000):CDivB t (sg t b)∧CDivB b (sg t b):=by
 have h1:=qRr (t:=t) h
 have h2:(sg t b).natAbs < 2 ^ 8000:=by
  rw [qGh]
  exact Nat.lt_of_le_of_lt (Nat.le_of_dvd (by omega) (Int.gcd_dvd_natAbs_right ..)) hb
 exact⟨⟨h1,h2⟩,⟨h1,h2⟩⟩
inductive qFb (vs:List V)(H:Hp)(Q:VK)(_:XK):Prop
| mk (t b:Int) (_:vs=[.int t,.int b]) (_:b≠0) (_:b.natAbs < 2 ^ 8000) (_:qKx H Q (qt t b) (qj t b))
theorem jB (T:Tx K mg a):FnOk P w K mg base CX0 2 a.A2 a.B2 ["top","bottom"] qFb:=by
 refine T.D2.F.ok kB (fun vs H Q E h=>?_) (fun cdv A outer s H vs Q E hr h=>?_)
 · obtain⟨t,b,rfl,_⟩:=h
   rfl
 refine qJ fun _ Y=>?_
 obtain⟨t,b,rfl,hb,hs,q⟩:=h
 apply Y
 refine⟨_,(qC (qv (PW.pt (zJ (xH (jk (qI T.D0 (kQ T) hr rfl (qA (pv 0) qB)))) (xn (xH (jk (qI T.D0 (kQ T) hr rfl (qA (pv 1) qB))))))) vM qU)
  (qC (qv (qP zG (pv 1) qF (qR _)) vM qU)
  (qC (qS 2 kB.nd (qI T.D1 (vx T) hr rfl (qA (pv 0) (qA (pv 1) qB))))
  (qC (qv (qP kX (pv 1) qF (qR _)) (qG (qS 2 kB.nd (kU xJ (pv 2)))) qU)
  (qG (qN (qZ (qA (qL qm (pv 0) (pv 2)) (qA (qL qm (pv 1) (pv 2)) qB))))))))),?_⟩
 try dsimp only [jq,qk]
 refine⟨_,rfl,t,rfl,true,rfl,xf ?_⟩
 refine⟨_,rfl,b,rfl,true,rfl,xf ?_⟩
 refine⟨_,rfl,rfl,_,rfl,?_⟩
 refine jp (fun c=>absurd (by simpa using c) hb) (fun _=>?_)
 refine⟨_,rfl,_,rfl,t,b,rfl,?_⟩
 refine⟨_,rfl,_,_,rfl,rfl,_,rfl,?_⟩
 obtain⟨d1,d2⟩:=qFm (t:=t) hb hs
 refine jp (fun c=>?_) (fun c=>?_)
 · have c':b < 0:=by simpa using c
   have e:-((Int.gcd t b:Nat):Int)=sg t b:=by unfold sg;rw [if_pos c']
   have q':qKx H Q (t.fdiv (-((Int.gcd t b:Nat):Int))) (b.fdiv (-((Int.gcd t b:Nat):Int))):=by rw [e];exact q
   exact⟨_,rfl,_,rfl,_,rfl,_,rfl,_,_,rfl,rfl,(by rw [e];exact d1),_,rfl,_,rfl,_,_,rfl,rfl,(by rw [e];exact d2),sL2,q'⟩
 · have c':¬ b < 0:=by simpa using c
   have e:((Int.gcd t b:Nat):Int)=sg t b:=by unfold sg;rw [if_neg c']
   have q':qKx H Q (t.fdiv ((Int.gcd t b:Nat):Int)) (b.fdiv ((Int.gcd t b:Nat):Int)):=by rw [e];exact q
   exact⟨_,rfl,_,rfl,_,_,rfl,rfl,(by rw [e];exact d1),_,rfl,_,rfl,_,_,rfl,rfl,(by rw [e];exact d2),sL2,q'⟩
def Pr (K:W.Frag)(H:Hp)(v:V)(p q:Int):Prop:=∃ z,v= .ref z∧SqT K H z [.int p,.int q]
theorem Pr.same {H H':Hp}{v:V}{p q:Int}(e:Same H H')(h:Pr K H v p q):Pr K H' v p q:=let ⟨z,h1,h2⟩:=h;⟨z,h1,L3.Same.tup e h2⟩
def Sm (i:Int):Prop:=i.natAbs < 2 ^ 3000
theorem Sm.mul {i j:Int}(h1:Sm i)(h2:Sm j):CMulB i j:=by
 unfold Sm at h1 h2
 have:(2:Nat) ^ 3000≤2 ^ 60000:=Nat.pow_le_pow_right (by decide) (by decide)
 exact .inr ⟨by omega,by omega⟩
theorem Sm.prod {i j:Int}(h1:Sm i)(h2:Sm j):(i*j).natAbs < 2 ^ 8000:=by
 unfold Sm at h1 h2
 rw [Int.natAbs_mul]
 have h3:i.natAbs*j.natAbs < 2 ^ 3000*2 ^ 3000:=Nat.mul_lt_mul'' h1 h2
 rw [← Nat.pow_add] at h3
 exact Nat.lt_of_lt_of_le h3 (Nat.pow_le_pow_right (by decide) (by decide))
theorem at0 {x y:V}:atI [x,y] 0=some x:=rfl
theorem at1 {x y:V}:atI [x,y] 1=some y:=rfl
inductive qJt (K:W.Frag)(vs:List V)(H:Hp)(Q:VK)(_:XK):Prop
| mk (x y:V) (p q r s:Int) (_:vs=[x,y]) (_:Pr K H x p q) (_:Pr K H y r s) (_:q≠0) (_:s≠0) (_:Sm p) (_:Sm q) (_:Sm r) (_:Sm s) (_:qKx H Q (qt (p*s+r*q) (q*s)) (qj (p*s+r*q) (q*s)))
theorem qDh (T:Tx K mg a):FnOk P w K mg base CX0 3 a.A3 a.B3 ["one","other"] (qJt K):=by
 refine T.D3.F.ok qJ2 (fun vs H Q E h=>?_) (fun cdv A outer s H vs Q E hr h=>?_)
 · obtain⟨x,y,p,q,r,s,rfl,_⟩:=h
   rfl
 refine qJ fun _ Y=>?_
 obtain⟨x,y,p,q,r,s',rfl,⟨z1,rfl,h1⟩,⟨z2,rfl,h2⟩,hq,hs,bp,bq,br,bs,k⟩:=h
 apply Y
 refine⟨_,(qG (qN (qI T.D2 (jB T) hr rfl (qA (qL qc (qL jG (qK (pv 0)) (qK (pv 1))) (qL jG (qK (pv 1)) (qK (pv 0)))) (qA (qL jG (qK (pv 0)) (qK (pv 1))) qB))))),?_⟩
 try dsimp only [jq,qk]
 refine(zL rfl h1 at0 (zL rfl h2 at1 ⟨_,_,rfl,rfl,bp.mul bs,?_⟩))
 refine(zL rfl h2 at0 (zL rfl h1 at1 ⟨_,_,rfl,rfl,br.mul bq,_,_,rfl,rfl,?_⟩))
 refine(zL rfl h1 at1 (zL rfl h2 at1 ⟨_,_,rfl,rfl,bq.mul bs,?_⟩))
 exact⟨_,_,rfl,Int.mul_ne_zero hq hs,bq.prod bs,k⟩
inductive qEd (K:W.Frag)(vs:List V)(H:Hp)(Q:VK)(_:XK):Prop
| mk (x:V) (p q:Int) (_:vs=[x]) (_:Pr K H x p q) (_:q≠0) (_:q.natAbs < 2 ^ 8000) (_:Q (.int (p.fdiv q)) H)
theorem xI (T:Tx K mg a):FnOk P w K mg base CX0 1 a.A8 a.B8 ["one"] (qEd K):=by
 refine T.D8.F.ok qEw (fun vs H Q E h=>?_) (fun cdv A outer s H vs Q E hr h=>?_)
 · obtain⟨x,p,q,rfl,_⟩:=h
   rfl
 refine qJ fun _ Y=>?_
 obtain⟨x,p,q,rfl,⟨z1,rfl,h1⟩,hq,bq,k⟩:=h
 apply Y
 refine⟨_,(qG (qN (qL qm (qK (pv 0)) (qK (pv 0))))),?_⟩
 try dsimp only [jq,qk]
 exact(zL rfl h1 at0 (zL rfl h1 at1 ⟨_,_,rfl,rfl,⟨hq,bq⟩,k⟩))
theorem nz {j:Int}(h:j≠0:=by decide):j≠0:=h
theorem cdB {i j:Int}(h0:j≠0)(h:j.natAbs < 18446744073709551616):CDivB i j:=
 ⟨h0,Nat.lt_of_lt_of_le h (Nat.le_trans (by decide:18446744073709551616≤2 ^ 64) (Nat.pow_le_pow_right (by decide) (by decide)))⟩
theorem cmR {i j:Int}(h1:-(18446744073709551616:Int) < j)(h2:j < 18446744073709551616):CMulB i j:=.inl (.inr ⟨h1,h2⟩)
theorem cmL {i j:Int}(h1:-(18446744073709551616:Int) < i)(h2:i < 18446744073709551616):CMulB i j:=.inl (.inl ⟨h1,h2⟩)
theorem at3 {x y z:V}{i:Int}(h0:0≤i)(h1:i < 3):∃ v,atI [x,y,z] i=some v∧(v=x∨v=y∨v=z):=by
 have:i=0∨i=1∨i=2:=by omega
 rcases this with rfl | rfl | rfl
 · exact⟨x,rfl,.inl rfl⟩
 · exact⟨y,rfl,.inr (.inl rfl)⟩
 · exact⟨z,rfl,.inr (.inr rfl)⟩
theorem fm (i:Int){j:Int}(h:0 < j):0≤i.fmod j∧i.fmod j < j:=⟨Int.fmod_nonneg_of_pos i h,Int.fmod_lt_of_pos i h⟩
def Good (n:Nat)(p q:Int):Prop:=0 < q∧Int.gcd p q=1∧p.natAbs < 2 ^ n∧q.natAbs < 2 ^ n
theorem Good.mono {n m:Nat}{p q:Int}(h:Good n p q)(l:n≤m):Good m p q:=⟨h.1,h.2.1,Nat.lt_of_lt_of_le h.2.2.1 (Nat.pow_le_pow_right (by decide) l),Nat.lt_of_lt_of_le h.2.2.2 (Nat.pow_le_pow_right (by decide) l)⟩
theorem Sm.of200 {i:Int}(h:i.natAbs < 2 ^ 200):Sm i:=Nat.lt_of_lt_of_le h (Nat.pow_le_pow_right (by decide) (by decide))
theorem qL2 {n:Nat}{t b:Int}(hb:0 < b)(h1:t.natAbs < 2 ^ n)(h2:b.natAbs < 2 ^ n):Good n (qt t b) (qj t b):=
 ⟨jD (by omega),xO (by omega),Nat.lt_of_le_of_lt (zo (by omega)) h1,Nat.lt_of_le_of_lt (xD (by omega)) h2⟩
inductive qEr (K:W.Frag)(vs:List V)(H:Hp)(Q:VK)(_:XK):Prop
| mk (x y:V) (p q r s:Int) (_:vs=[x,y]) (_:Pr K H x p q) (_:Pr K H y r s) (_:q≠0) (_:s≠0) (_:Sm p) (_:Sm q) (_:Sm r) (_:Sm s) (_:qKx H Q (qt (p*r) (q*s)) (qj (p*r) (q*s)))
theorem wg (T:Tx K mg a):FnOk P w K mg base CX0 3 a.A5 a.B5 ["one","other"] (qEr K):=by
 refine T.D5.F.ok qEi (fun vs H Q E h=>?_) (fun cdv A outer s H vs Q E hr h=>?_)
 · obtain⟨x,y,p,q,r,s,rfl,_⟩:=h
   rfl
 refine qJ fun _ Y=>?_
 obtain⟨x,y,p,q,r,s',rfl,⟨z1,rfl,h1⟩,⟨z2,rfl,h2⟩,hq,hs,bp,bq,br,bs,k⟩:=h
 apply Y
 refine⟨_,(qG (qN (qI T.D2 (jB T) hr rfl (qA (qL jG (qK (pv 0)) (qK (pv 1))) (qA (qL jG (qK (pv 0)) (qK (pv 1))) qB))))),?_⟩
 try dsimp only [jq,qk]
 refine(zL rfl h1 at0 (zL rfl h2 at0 ⟨_,_,rfl,rfl,bp.mul br,?_⟩))
 refine(zL rfl h1 at1 (zL rfl h2 at1 ⟨_,_,rfl,rfl,bq.mul bs,?_⟩))
 exact⟨_,_,rfl,Int.mul_ne_zero hq hs,bq.prod bs,k⟩
inductive qGx (K:W.Frag)(vs:List V)(H:Hp)(Q:VK)(_:XK):Prop
| mk (x y:V) (p q r s:Int) (_:vs=[x,y]) (_:Pr K H x p q) (_:Pr K H y r s) (_:q≠0) (_:s≠0) (_:Sm p) (_:Sm q) (_:Sm r) (_:Sm s) (_:qKx H Q (qt (p*s - r*q) (q*s)) (qj (p*s - r*q) (q*s)))
theorem vP (T:Tx K mg a):FnOk P w K mg base CX0 3 a.A4 a.B4 ["one","other"] (qGx K):=by
 refine T.D4.F.ok qGy (fun vs H Q E h=>?_) (fun cdv A outer s H vs Q E hr h=>?_)
 · obtain⟨x,y,p,q,r,s,rfl,_⟩:=h
   rfl
 refine qJ fun _ Y=>?_
 obtain⟨x,y,p,q,r,s',rfl,⟨z1,rfl,h1⟩,⟨z2,rfl,h2⟩,hq,hs,bp,bq,br,bs,k⟩:=h
 apply Y
 refine⟨_,(qG (qN (qI T.D2 (jB T) hr rfl (qA (qL jL (qL jG (qK (pv 0)) (qK (pv 1))) (qL jG (qK (pv 1)) (qK (pv 0)))) (qA (qL jG (qK (pv 0)) (qK (pv 1))) qB))))),?_⟩
 try dsimp only [jq,qk]
 refine(zL rfl h1 at0 (zL rfl h2 at1 ⟨_,_,rfl,rfl,bp.mul bs,?_⟩))
 refine(zL rfl h2 at0 (zL rfl h1 at1 ⟨_,_,rfl,rfl,br.mul bq,_,_,rfl,rfl,?_⟩))
 refine(zL rfl h1 at1 (zL rfl h2 at1 ⟨_,_,rfl,rfl,bq.mul bs,?_⟩))
 exact⟨_,_,rfl,Int.mul_ne_zero hq hs,bq.prod bs,k⟩
inductive qEg (K:W.Frag)(vs:List V)(H:Hp)(Q:VK)(_:XK):Prop
| mk (x y:V) (p q r s:Int) (_:vs=[x,y]) (_:Pr K H x p q) (_:Pr K H y r s) (_:q≠0) (_:r≠0) (_:Sm p) (_:Sm q) (_:Sm r) (_:Sm s) (_:qKx H Q (qt (p*s) (q*r)) (qj (p*s) (q*r)))
theorem wx (T:Tx K mg a):FnOk P w K mg base CX0 3 a.A6 a.B6 ["one","other"] (qEg K):=by
 refine T.D6.F.ok qE0 (fun vs H Q E h=>?_) (fun cdv A outer s H vs Q E hr h=>?_)
 · obtain⟨x,y,p,q,r,s,rfl,_⟩:=h
   rfl
 refine qJ fun _ Y=>?_
 obtain⟨x,y,p,q,r,s',rfl,⟨z1,rfl,h1⟩,⟨z2,rfl,h2⟩,hq,hr',bp,bq,br,bs,k⟩:=h
 apply Y
 refine⟨_,(qG (qN (qI T.D2 (jB T) hr rfl (qA (qL jG (qK (pv 0)) (qK (pv 1))) (qA (qL jG (qK (pv 0)) (qK (pv 1))) qB))))),?_⟩
 try dsimp only [jq,qk]
 refine(zL rfl h1 at0 (zL rfl h2 at1 ⟨_,_,rfl,rfl,bp.mul bs,?_⟩))
 refine(zL rfl h1 at1 (zL rfl h2 at0 ⟨_,_,rfl,rfl,bq.mul br,?_⟩))
 exact⟨_,_,rfl,Int.mul_ne_zero hq hr',bq.prod br,k⟩
inductive NoW (H:Hp):V→Prop where
 | non:NoW H .non
 | bl (b:Bool):NoW H (.bl b)
 | str (z:Str):NoW H (.str z)
 | lst {a:Addr} {xs:List V} (e:H a=some (.lst xs)):NoW H (.ref a)
 | tup {a:Addr} {xs:List V} (e:H a=some (.tup xs)):NoW H (.ref a)
def WhB (H:Hp)(x:V)(b:Bool):Prop:=(∃ i:Int,x= .int i∧b=true)∨(NoW H x∧b=false)
theorem WhB.int {H:Hp}(i:Int):WhB H (.int i) true:=.inl ⟨i,rfl,rfl⟩
theorem WhB.no {H:Hp}{x:V}(h:NoW H x):WhB H x false:=.inr ⟨h,rfl⟩
theorem WhB.ty {H:Hp}{x:V}{b:Bool}(h:WhB H x b):∃ t i c,qFr K H x t∧W.kitOne K t (.type "int")=some i∧W.kitOne K t (.type "bool")=some c∧b=(i && !c):=by
 rcases h with ⟨i,rfl,rfl⟩ | ⟨h,rfl⟩
 · exact⟨_,true,false,.int i,by kernel_rfl,by kernel_rfl,rfl⟩
 · cases h with
   | non=>exact⟨_,false,false,.non,by kernel_rfl,by kernel_rfl,rfl⟩
   | bl b=>exact⟨_,true,true,.bl b,by kernel_rfl,by kernel_rfl,rfl⟩
   | str z=>exact⟨_,false,false,.str z,by kernel_rfl,by kernel_rfl,rfl⟩
   | lst e=>exact⟨_,false,false,.lst e,by kernel_rfl,by kernel_rfl,rfl⟩
   | tup e=>exact⟨_,false,false,.tup e,by kernel_rfl,by kernel_rfl,rfl⟩
inductive qDj (K:W.Frag)(vs:List V)(H:Hp)(Q:VK)(_:XK):Prop
| mk (x y:V) (p q r s:Int) (_:vs=[x,y]) (_:Pr K H x p q) (_:Pr K H y r s) (_:Sm p) (_:Sm q) (_:Sm r) (_:Sm s) (_:Q (.bl (decide (p*s < r*q))) H)
theorem qD0 (T:Tx K mg a):FnOk P w K mg base CX0 1 a.A7 a.B7 ["one","other"] (qDj K):=by
 refine T.D7.F.ok qC9 (fun vs H Q E h=>?_) (fun cdv A outer s H vs Q E hr h=>?_)
 · obtain⟨x,y,p,q,r,s,rfl,_⟩:=h
   rfl
 refine qJ fun _ Y=>?_
 obtain⟨x,y,p,q,r,s',rfl,⟨z1,rfl,h1⟩,⟨z2,rfl,h2⟩,bp,bq,br,bs,k⟩:=h
 apply Y
 refine⟨_,(qG (qN (vo kX (qL jG (qK (pv 0)) (qK (pv 1))) (qL jG (qK (pv 1)) (qK (pv 0))) (qR _)))),?_⟩
 try dsimp only [jq,qk]
 refine(zL rfl h1 at0 (zL rfl h2 at1 ⟨_,_,rfl,rfl,bp.mul bs,?_⟩))
 exact(zL rfl h2 at0 (zL rfl h1 at1 ⟨_,_,rfl,rfl,br.mul bq,_,_,rfl,rfl,k⟩))
structure Cp (K:W.Frag)(H:Hp)(v:V)(n:Str)(p q r s len:Int):Prop where
 ex:∃ z z1 z2,v= .ref z∧SqT K H z [.str "clip",.str n,.ref z1,.ref z2,.int len]∧SqT K H z1 [.int p,.int q]∧SqT K H z2 [.int r,.int s]
theorem Cp.same {H H':Hp}{v:V}{n:Str}{p q r s len:Int}(e:Same H H')(h:Cp K H v n p q r s len):Cp K H' v n p q r s len:=
 let ⟨z,z1,z2,h1,h2,h3,h4⟩:=h.ex;⟨z,z1,z2,h1,L3.Same.tup e h2,L3.Same.tup e h3,L3.Same.tup e h4⟩
theorem qLo {x0 x1 x2 x3 x4:V}:atI [x0,x1,x2,x3,x4] 2=some x2:=rfl
theorem qAp {x0 x1 x2 x3 x4:V}:atI [x0,x1,x2,x3,x4] 3=some x3:=rfl
theorem qF1 {p q r s k:Int}(hq:0 < q)(hs:0 < s):
 qt (p*qj (k*r) (1*s)+qt (k*r) (1*s)*q) (q*qj (k*r) (1*s))=qt (p*s+k*r*q) (q*s)∧
 qj (p*qj (k*r) (1*s)+qt (k*r) (1*s)*q) (q*qj (k*r) (1*s))=qj (p*s+k*r*q) (q*s):=by
 rw [Int.one_mul]
 have c:=jo (k*r) s
 have n0:=jD (t:=k*r) (b:=s) (by omega)
 generalize qt (k*r) s=m at c ⊢
 generalize qj (k*r) s=n at c n0 ⊢
 have b1:q*s≠0:=Int.mul_ne_zero (by omega) (by omega)
 have b2:q*n≠0:=Int.mul_ne_zero (by omega) (by omega)
 refine qCm b2 (jD b1) (xO b1) ?_
 have e:=jo (p*s+k*r*q) (q*s)
 generalize qt (p*s+k*r*q) (q*s)=u at e ⊢
 generalize qj (p*s+k*r*q) (q*s)=v at e ⊢
 have h:(u*(q*n))*s=((p*n+m*q)*v)*s:=by
  calc (u*(q*n))*s=(u*(q*s))*n:=by rw [Int.mul_assoc,Int.mul_assoc,Int.mul_assoc,Int.mul_assoc,Int.mul_comm n s]
   _=((p*s+k*r*q)*v)*n:=by rw [e]
   _=(p*n*s+(k*r*n)*q)*v:=by
    have h1:(p*s+k*r*q)*v*n=(p*s+k*r*q)*n*v:=by rw [Int.mul_assoc,Int.mul_comm v n,← Int.mul_assoc]
    have h2:(p*s+k*r*q)*n=p*n*s+k*r*n*q:=by
     rw [Int.add_mul,Int.mul_assoc p s n,Int.mul_comm s n,← Int.mul_assoc,Int.mul_assoc (k*r) q n,Int.mul_comm q n,← Int.mul_assoc]
    rw [h1,h2]
   _=(p*n*s+(m*s)*q)*v:=by rw [← c]
   _=((p*n+m*q)*v)*s:=by
    have h3:p*n*s+m*s*q=(p*n+m*q)*s:=by rw [Int.add_mul,Int.mul_assoc m s q,Int.mul_comm s q,← Int.mul_assoc]
    rw [h3,Int.mul_assoc,Int.mul_comm s v,← Int.mul_assoc]
 exact Int.eq_of_mul_eq_mul_right (by omega) h
def Sm2 (i:Int):Prop:=i.natAbs < 2 ^ 700
theorem Sm2.sm {i:Int}(h:Sm2 i):Sm i:=Nat.lt_of_lt_of_le h (Nat.pow_le_pow_right (by decide) (by decide))
theorem qi {i j:Int}{n m:Nat}(h1:i.natAbs < 2 ^ n)(h2:j.natAbs < 2 ^ m):(i*j).natAbs < 2 ^ (n+m):=by
 rw [Int.natAbs_mul,Nat.pow_add]
 exact Nat.mul_lt_mul'' h1 h2
inductive qFc (K:W.Frag)(vs:List V)(H:Hp)(Q:VK)(_:XK):Prop
| mk (v:V) (n:Str) (p q r s len k:Int) (_:vs=[v,.int k]) (_:Cp K H v n p q r s len) (_:0 < q) (_:0 < s) (_:Sm2 p) (_:Sm2 q) (_:Sm2 r) (_:Sm2 s) (_:Sm2 k) (_:∀ z H',Same H H'→H' z=some (.tup [.int (qt (p*s+k*r*q) (q*s)),.int (qj (p*s+k*r*q) (q*s))])→Q (.ref z) H')
theorem jt (T:Tx K mg a):FnOk P w K mg base CX0 4 a.A9 a.B9 ["clip","k"] (qFc K):=by
 refine T.D9.F.ok qEz (fun vs H Q E h=>?_) (fun cdv A outer s H vs Q E hr h=>?_)
 · obtain⟨v,n,p,q,r,s,len,k,rfl,_⟩:=h
   rfl
 refine qJ fun _ Y=>?_
 obtain⟨v,n,p,q,r,s',len,k,rfl,⟨z,z1,z2,rfl,hc,h1,h2⟩,hq,hs,bp,bq,br,bs,bk,kk⟩:=h
 apply Y
 refine⟨_,(qG (qN (qI T.D3 (qDh T) hr rfl (qA (qK (pv 0)) (qA (qI T.D5 (wg T) hr rfl (qA (qI T.D2 (jB T) hr rfl (qA (pv 1) (qA qF qB))) (qA (qK (pv 0)) qB))) qB))))),?_⟩
 try dsimp only [jq,qk]
 refine⟨_,rfl,z,_,_,_,rfl,rfl,hc,qLo,_,rfl,k,1,rfl,by decide,Nat.lt_of_lt_of_le (m:=2 ^ 1) (by decide) (Nat.pow_le_pow_right (by decide) (by decide)),fun y hy=>?_⟩
 have s1:=qE hy (.tup [.int (qt k 1),.int (qj k 1)])
 obtain⟨l1,l2⟩:=wP (p:=k) (q:=1) (by decide) (Int.gcd_one_right ..)
 refine⟨_,rfl,z,_,_,_,rfl,rfl,L3.Same.tup s1 hc,qAp,?_⟩
 have one:Sm 1:=Nat.lt_of_lt_of_le (m:=2 ^ 1) (by decide) (Nat.pow_le_pow_right (by decide) (by decide))
 refine⟨_,_,k,1,r,s',rfl,⟨y,rfl,?_⟩,⟨z2,rfl,L3.Same.tup s1 h2⟩,by decide,by omega,bk.sm,one,br.sm,bs.sm,fun x hx=>?_⟩
 · have e:SqT K (upd H y (.tup [.int (qt k 1),.int (qj k 1)])) y [.int (qt k 1),.int (qj k 1)]:=SqT.of qD
   rw [l1,l2] at e ⊢
   exact e
 have s2:=s1.trans (qE hx (.tup [.int (qt (k*r) (1*s')),.int (qj (k*r) (1*s'))]))
 have b1:(1*s')≠0:=by omega
 have n0:=jD (t:=k*r) b1
 have bm:Sm (qt (k*r) (1*s')):=by
  refine Nat.lt_of_le_of_lt (zo b1) (Nat.lt_of_lt_of_le (qi bk br) (Nat.pow_le_pow_right (by decide) (by decide)))
 have bn:Sm (qj (k*r) (1*s')):=by
  refine Nat.lt_of_le_of_lt (xD b1) ?_
  rw [Int.one_mul]
  exact bs.sm
 refine⟨_,_,p,q,_,_,rfl,⟨z1,rfl,L3.Same.tup s2 h1⟩,⟨x,rfl,SqT.of qD⟩,by omega,by omega,bp.sm,bq.sm,bm,bn,fun u hu=>?_⟩
 obtain⟨e1,e2⟩:=qF1 (p:=p) (r:=r) (k:=k) hq hs
 refine kk u _ (s2.trans (qE hu _)) ?_
 rw [qD,e1,e2]
theorem wt {t b:Int}(hb:0 < b):(qt t b).fdiv (qj t b)=t.fdiv b:=by
 have e1:=qK5 t b
 have e2:=qJe t b
 have sp:0 < sg t b:=by
  have g:=vh (t:=t) (b:=b) (by omega)
  unfold sg
  rw [if_neg (by omega)]
  omega
 have q0:=jD (t:=t) (b:=b) (by omega)
 obtain⟨h1,h2⟩:=qr (p:=qt t b) q0
 obtain⟨h3,h4⟩:=qr (p:=t) hb
 generalize (qt t b).fdiv (qj t b)=f at h1 h2 ⊢
 generalize t.fdiv b=g at h3 h4 ⊢
 generalize qt t b=u at e1 h1 h2
 generalize qj t b=v at e2 h1 h2 q0
 generalize sg t b=w at e1 e2 sp
 subst e1 e2
 have k1:g*v≤u:=by
  rw [← Int.mul_assoc] at h3
  exact Int.le_of_mul_le_mul_right h3 sp
 have k2:u < (g+1)*v:=by
  rw [← Int.mul_assoc] at h4
  exact Int.lt_of_mul_lt_mul_right h4 (by omega)
 have k3:f < g+1:=Int.lt_of_mul_lt_mul_right (a:=v) (by omega) (by omega)
 have k4:g < f+1:=Int.lt_of_mul_lt_mul_right (a:=v) (by omega) (by omega)
 omega
inductive qCb (K:W.Frag)(vs:List V)(H:Hp)(Q:VK)(_:XK):Prop
| mk (v:V) (n:Str) (p q r s len k:Int) (_:vs=[v,.int k]) (_:Cp K H v n p q r s len) (_:0 < q) (_:0 < s) (_:Sm2 p) (_:Sm2 q) (_:Sm2 r) (_:Sm2 s) (_:Sm2 k) (_:∀ H',Same H H'→Q (.int ((p*s+k*r*q).fdiv (q*s))) H')
theorem xw (T:Tx K mg a):FnOk P w K mg base CX0 5 a.A10 a.B10 ["clip","k"] (qCb K):=by
 refine T.D10.F.ok qBn (fun vs H Q E h=>?_) (fun cdv A outer s H vs Q E hr h=>?_)
 · obtain⟨v,n,p,q,r,s,len,k,rfl,_⟩:=h
   rfl
 refine qJ fun _ Y=>?_
 obtain⟨v,n,p,q,r,s',len,k,rfl,hc,hq,hs,bp,bq,br,bs,bk,kk⟩:=h
 apply Y
 refine⟨_,(qG (qN (qI T.D8 (xI T) hr rfl (qA (qI T.D9 (jt T) hr rfl (qA (pv 0) (qA (pv 1) qB))) qB)))),?_⟩
 try dsimp only [jq,qk]
 refine⟨_,rfl,_,rfl,v,n,p,q,r,s',len,k,rfl,hc,hq,hs,bp,bq,br,bs,bk,fun z H' sH hz=>?_⟩
 have b1:q*s'≠0:=Int.mul_ne_zero (by omega) (by omega)
 refine⟨_,_,_,rfl,⟨z,rfl,SqT.of hz⟩,?_,?_,?_⟩
 · have:=jD (t:=p*s'+k*r*q) b1;omega
 · exact Nat.lt_of_le_of_lt (xD b1) (Nat.lt_of_lt_of_le (qi bq bs) (Nat.pow_le_pow_right (by decide) (by decide)))
 · rw [wt (Int.mul_pos hq hs)]
   exact kk H' sH
theorem qAi {x0 x1 x2 x3 x4:V}:atI [x0,x1,x2,x3,x4] 1=some x1:=rfl
theorem qHa {x0 x1 x2 x3 x4:V}:atI [x0,x1,x2,x3,x4] 4=some x4:=rfl
theorem eq2 (a b c d:Int):qG5 [.int a,.int b] [.int c,.int d]=(a == c && b == d):=by
 simp [qG5,eqV,List.range_succ]
structure Bn (n:Nat)(p q r s:Int):Prop where
 q0:0 < q
 s0:0 < s
 bp:p.natAbs < 2 ^ n
 bq:q.natAbs < 2 ^ n
 br:r.natAbs < 2 ^ n
 bs:s.natAbs < 2 ^ n
theorem zw {i:Int}{n m:Nat}(h:i.natAbs < 2 ^ n)(l:n≤m:=by decide):i.natAbs < 2 ^ m:=Nat.lt_of_lt_of_le h (Nat.pow_le_pow_right (by decide) l)
theorem Bn.mono {n m:Nat}{p q r s:Int}(h:Bn n p q r s)(l:n≤m:=by decide):Bn m p q r s:=⟨h.q0,h.s0,zw h.bp l,zw h.bq l,zw h.br l,zw h.bs l⟩
theorem Bn.part {p q r s k:Int}(h:Bn 110 p q r s)(hk:k.natAbs < 2 ^ 30):Bn 340 (plP p q r s k) (plQ p q r s k) r s:=by
 obtain⟨hq,hs,bp,bq,br,bs⟩:=h
 refine⟨ki hq hs,hs,Nat.lt_of_le_of_lt (qH0 hq hs) ?_,Nat.lt_of_le_of_lt (qJn hq hs) (zw (qi bq bs)),zw br,zw bs⟩
 have h1:=qi bp bs
 have h2:=qi (qi hk br) bq
 have e:(2:Nat) ^ (110+110)+2 ^ (30+110+110)≤2 ^ 340:=by decide
 omega
inductive wF (vs:List V)(H:Hp)(Q:VK)(_:XK):Prop
| mk (t b:Int) (_:vs=[.int t,.int b]) (_:0 < b) (_:b.natAbs < 2 ^ 8000) (_:qKx H Q (qt t b) (qj t b))
theorem zE (T:Tx K mg a):FnOk P w K mg base CX0 1 a.A47 a.B47 ["_law_top","_law_bottom"] wF:=by
 refine T.D47.F.ok jc (fun vs H Q E h=>?_) (fun cdv A outer s H vs Q E hr h=>?_)
 · obtain⟨t,b,rfl,_⟩:=h
   rfl
 refine qJ fun _ Y=>?_
 obtain⟨t,b,rfl,hb,hb2,k⟩:=h
 apply Y
 refine⟨_,(qC (qS 2 jc.nd (qQ qF7 rfl T.b_abs rfl (qA (pv 0) qB)))
  (qC (qS 3 jc.nd (pv 1))
  (qC (vO PassesOwn.never (qP km (pv 3) qF (qR _)) (qG (qPm (i:=2) (j:=3) rfl jc.nd rfl rfl (by decide) rfl rfl (qA (pv 3) (qA (qL jH (pv 2) (pv 3)) qB)) rfl)))
  (qG (qN (qZ (qA (qL qm (pv 0) (pv 2)) (qA (qL qm (pv 1) (pv 2)) qB)))))))),?_⟩
 try dsimp only [jq,qk]
 refine⟨_,rfl,t,rfl,_,rfl,?_⟩
 refine vJ (fun σ H'=>H'=H∧∃ x y:Int,σ=[some (.int t),some (.int b),some (.int x),some (.int y)]∧0≤x∧0≤y∧Int.gcd x y=Int.gcd t b)
  (fun σ _=>match σ with | [_,_,_,some (.int y)]=>y.natAbs | _=>0) ⟨rfl,_,_,rfl,?_,by omega,?_⟩ ?_ ?_
 · split <;> omega
 · have e1:(if t < 0 then -t else t)=((t.natAbs:Nat):Int):=by split <;> omega
   rw [e1]
   rfl
 · rintro σ H1 ⟨rfl,x,y,rfl,h0,h1,e⟩
   refine⟨_,rfl,rfl,_,rfl,?_⟩
   refine jp (fun c=>?_) (fun c=>?_)
   · have hy:y≠0:=by simpa using c
     refine⟨_,rfl,_,rfl,_,rfl,_,_,rfl,rfl,hy,_,_,rfl,⟨rfl,y,x.fmod y,rfl,h1,Int.fmod_nonneg_of_pos x (by omega),?_⟩,?_⟩
     · rw [qGa];exact e
     · exact qIh x y hy
   · have hy:y=0:=by simpa using c
     refine qJ fun _ Y=>?_
     subst hy
     have e2:x=sg t b:=by
      unfold sg
      rw [if_neg (by omega),← e,Int.gcd_zero_right]
      omega
     obtain⟨d1,d2⟩:=qFm (t:=t) (b:=b) (by omega) hb2
     apply Y
     have q':qKx H1 Q (t.fdiv x) (b.fdiv x):=by rw [e2];exact k
     exact⟨_,rfl,_,rfl,_,_,rfl,rfl,(by rw [e2];exact d1),_,rfl,_,rfl,_,_,rfl,rfl,(by rw [e2];exact d2),sL2,q'⟩
 · rintro σ H1 Q1 Q2 hq h
   refine qJ fun _ Y=>?_
   obtain⟨v,e,s,k,hk,z⟩:=h
   apply Y
   exact⟨v,e,s,k,hk,hq _ _ z⟩
theorem qAk {i:Int}{n:Nat}(h:i.natAbs < 2 ^ n)(l:n≤8000:=by decide):i.natAbs < 2 ^ 8000:=zw h l
inductive wp (K:W.Frag)(vs:List V)(H:Hp)(Q:VK)(_:XK):Prop
| mk (z:Addr) (ns:List Int) (i:Int) (_:vs=[.ref z,.int i]) (_:SqL K H z (ns.map V.int)) (_:ns.length≤63) (_:0≤i) (_:∀ c:Int,Q (.int c) H)
theorem ji (T:Tx K mg a):FnOk P w K mg base CX0 1 a.A45 a.B45 ["_law_script","_law_k"] (wp K):=by
 refine T.D45.F.ok wy (fun vs H Q E h=>?_) (fun cdv A outer s H vs Q E hr h=>?_)
 · obtain⟨z,ns,i,rfl,_⟩:=h
   rfl
 refine qJ fun _ Y=>?_
 obtain⟨z,ns,i,rfl,hS,hl,h0,k⟩:=h
 apply Y
 refine⟨_,(qC (qv (qP kX (pv 1) (qQ qo rfl T.b_len rfl (qA (pv 0) qB)) (qR _)) (qG (qN (jK qf (pv 0) (pv 1) (fun _ _=>rfl)))) qU)
  (qG (qN qF))),?_⟩
 try dsimp only [jq,qk]
 have hml:(ns.map V.int).length=ns.length:=List.length_map _
 refine⟨_,rfl,_,rfl,z,_,rfl,.inl hS,_,_,rfl,rfl,_,rfl,?_⟩
 refine jp (fun c=>?_) (fun _=>?_)
 · have c':i < ((ns.map V.int).length:Int):=of_decide_eq_true c
   rw [hml] at c'
   have hi:i.toNat < ns.length:=by omega
   have e:i=((i.toNat:Nat):Int):=by omega
   have hat:atI (ns.map V.int) ((i.toNat:Nat):Int)=some (.int ns[i.toNat]):=jC (by rw [List.getElem?_map,List.getElem?_eq_getElem hi];rfl)
   rw [← e] at hat
   exact⟨_,rfl,_,rfl,z,_,_,.int ns[i.toNat],rfl,rfl,hS,hat,k _⟩
 · exact k 0
inductive qBw (vs:List V)(H:Hp)(Q:VK)(_:XK):Prop
| mk (c i:Int) (_:vs=[.int c,.int i]) (_:-1000≤i) (_:i≤1000) (_:∀ n:Int,0≤n→n < 2147483647→Q (.int n) H)
theorem jY (T:Tx K mg a):FnOk P w K mg base CX0 1 a.A46 a.B46 ["_law_cell","_law_k"] qBw:=by
 refine T.D46.F.ok vE (fun vs H Q E h=>?_) (fun cdv A outer s H vs Q E hr h=>?_)
 · obtain⟨c,i,rfl,_⟩:=h
   rfl
 refine qJ fun _ Y=>?_
 obtain⟨c,i,rfl,h0,h1,k⟩:=h
 apply Y
 refine⟨_,(qC (qS 2 vE.nd (qL jH (qL jG (qL qc (qL qc (pv 0) (qL jG qF (pv 1))) qF) qF) qF))
  (qG (qN (qL jH (qL jG (pv 2) (qL qc (qL qm (pv 2) qF) qF)) qF)))),?_⟩
 try dsimp only [jq,qk]
 refine⟨_,rfl,_,rfl,_,_,rfl,rfl,cmL (by decide) (by decide),_,_,rfl,rfl,_,_,rfl,rfl,_,_,rfl,rfl,cmR (by decide) (by decide),_,_,rfl,rfl,nz,?_⟩
 have f:=fm ((c+7919*i+1)*48271) (show (0:Int) < 2147483647 by decide)
 refine⟨_,rfl,_,rfl,_,_,rfl,rfl,cdB (by decide) (by decide),_,_,rfl,rfl,_,_,rfl,rfl,cmL (by omega) (by omega),_,_,rfl,rfl,nz,?_⟩
 have g:=fm ((((c+7919*i+1)*48271).fmod 2147483647)*((((c+7919*i+1)*48271).fmod 2147483647).fdiv 1009+69621)) (show (0:Int) < 2147483647 by decide)
 exact k _ g.1 g.2
def thB (i m:Int):Bool:=decide (0≤i) && decide (i < m)
theorem qIb {N D m:Int}(hD:0 < D):thB (N.fdiv D) m=true↔InR N D m:=by
 rw [qNz hD]
 simp [thB]
inductive qEf (vs:List V)(H:Hp)(Q:VK)(_:XK):Prop
| mk (i m:Int) (_:vs=[.int i,.int m]) (_:Q (.bl (thB i m)) H)
theorem qEt (T:Tx K mg a):FnOk P w K mg base CX0 1 a.A11 a.B11 ["picture","many"] qEf:=by
 refine T.D11.F.ok qE7 (fun vs H Q E h=>?_) (fun cdv A outer s H vs Q E hr h=>?_)
 · obtain⟨i,m,rfl,_⟩:=h
   rfl
 refine qJ fun _ Y=>?_
 obtain⟨i,m,rfl,q⟩:=h
 apply Y
 refine⟨_,(qG (qN (qIw (vo qHp qF (pv 0) (qR _)) (qI4 (vo kX (pv 0) (pv 1) (qR _)))))),?_⟩
 try dsimp only [jq,qk]
 refine⟨_,rfl,_,_,rfl,rfl,_,rfl,?_⟩
 unfold thB at q
 by_cases h0:0≤i
 · rw [decide_eq_true h0] at q ⊢
   exact wN ⟨_,rfl,_,rfl,_,_,rfl,rfl,q⟩
 · rw [decide_eq_false h0] at q ⊢
   exact xf q
theorem qBl {c d:Int}(hd:0 < d)(g:Int.gcd c d=1):qt (0*d - c*1) (1*d)= -c∧qj (0*d - c*1) (1*d)=d:=by
 refine qCm (by omega) hd (by rw [Int.neg_gcd];exact g) ?_
 grind
inductive wH (K:W.Frag)(vs:List V)(H:Hp)(Q:VK)(_:XK):Prop
| mk (x y:V) (A B c d m:Int) (_:vs=[x,y,.int m]) (_:Pr K H x A B) (_:Pr K H y c d) (_:0 < B) (_:0 < d) (_:Int.gcd c d=1) (_:A.natAbs < 2 ^ 700) (_:B.natAbs < 2 ^ 700) (_:c.natAbs < 2 ^ 700) (_:d.natAbs < 2 ^ 700) (_:m.natAbs < 2 ^ 700) (_:∀ H',Same H H'→Q (.int (wM (A*d) (c*B) (B*d) m)) H')
theorem zF (T:Tx K mg a):FnOk P w K mg base CX0 4 a.A12 a.B12 ["first","step","many"] (wH K):=by
 refine T.D12.F.ok xA (fun vs H Q E h=>?_) (fun cdv A outer s H vs Q E hr h=>?_)
 · obtain⟨x,y,A,B,c,d,m,rfl,_⟩:=h
   rfl
 refine qJ fun _ Y=>?_
 obtain⟨x,y,A',B,c,d,m,rfl,⟨z1,rfl,h1⟩,⟨z2,rfl,h2⟩,hB,hd,hg,bA,bB,bc,bd,bm,kk⟩:=h
 apply Y
 have hu:=hr.units0
 refine⟨_,(qC (qv (qP (qMw hu) (pv 1) (xR (v:=.ref a.n_NOUGHT) rfl T.g_NOUGHT rfl) (qR _)) (qG (qN (xR (v:=.int 1000000) rfl T.g_MOST_ROOM ⟨_,rfl⟩))) qU)
  (qC (qv (xH (jk (qI T.D11 (qEt T) hr rfl (qA (qI T.D8 (xI T) hr rfl (qA (pv 0) qB)) (qA (pv 2) qB))))) (qG (qN qF)) qU)
  (qC (vW (qv (jk (qI T.D7 (qD0 T) hr rfl (qA (pv 1) (qA (xR (v:=.ref a.n_NOUGHT) rfl T.g_NOUGHT rfl) qB)))) (qG (qS 3 xA.nd (qL qc (qI T.D8 (xI T) hr rfl (qA (qI T.D6 (wx T) hr rfl (qA (pv 0) (qA (qI T.D4 (vP T) hr rfl (qA (xR (v:=.ref a.n_NOUGHT) rfl T.g_NOUGHT rfl) (qA (pv 1) qB))) qB))) qB)) qF))) (qG (qS 3 xA.nd (kU xJ (qI T.D8 (xI T) hr rfl (qA (qI T.D6 (wx T) hr rfl (qA (qI T.D4 (vP T) hr rfl (qA (pv 0) (qA (qI T.D2 (jB T) hr rfl (qA (pv 2) (qA qF qB))) qB))) (qA (pv 1) qB))) qB)))))))
  (qG (qN (qQ (kz rfl) rfl T.b_min rfl (qA (pv 3) (qA (xR (v:=.int 1000000) rfl T.g_MOST_ROOM ⟨_,rfl⟩) qB)))))))),?_⟩
 try dsimp only [jq,qk]
 have S:∀ {i:Int},i.natAbs < 2 ^ 700→Sm i:=fun h=>zw h
 have one:Sm 1:=Sm.of200 (by decide)
 have nul:Sm 0:=Sm.of200 (by decide)
 have hBd:=Int.mul_pos hB hd
 have H1:∀ {H':Hp},Same H H'→SqT K H' z1 [.int A',.int B]:=fun e=>L3.Same.tup e h1
 have H2:∀ {H':Hp},Same H H'→SqT K H' z2 [.int c,.int d]:=fun e=>L3.Same.tup e h2
 refine⟨_,rfl,_,_,_,_,rfl,rfl,h2,T.sq_NOUGHT _,rfl,rfl,_,rfl,?_⟩
 rw [if_neg (by decide:¬ (false=true)),eq2]
 by_cases hc:c=0
 · have d1:d=1:=by
    subst hc
    rw [Int.gcd_zero_left] at hg
    omega
   rw [show (c == 0 && d == 1)=true by simp [hc,d1]]
   refine wN ?_
   have:=kk H (Same.refl _)
   unfold wM at this
   rw [if_pos (by rw [hc,Int.zero_mul])] at this
   exact this
 rw [show (c == 0 && d == 1)=false by simp [hc]]
 refine xf ?_
 have hcB:¬ (c*B=0):=Int.mul_ne_zero hc (by omega)
 have ef:A'.fdiv B=(A'*d).fdiv (B*d):=vX hB hBd (by grind)
 refine⟨_,rfl,_,A',B,rfl,⟨z1,rfl,h1⟩,by omega,qAk bB,_,rfl,_,_,rfl,_,rfl,?_⟩
 by_cases ht:0≤A'.fdiv B∧A'.fdiv B < m
 rotate_left
 · rw [show thB (A'.fdiv B) m=false by unfold thB;rw [Bool.eq_false_iff];simpa using ht]
   refine wN ?_
   have:=kk H (Same.refl _)
   unfold wM at this
   rw [if_neg hcB,if_pos (by rw [← ef];exact ht)] at this
   exact this
 rw [show thB (A'.fdiv B) m=true by simp [thB,ht]]
 refine xf ?_
 have res:∀ H',Same H H'→Q (.int (if 1000000 < (if c*B < 0 then (A'*d).fdiv (-(c*B))+1 else -((A'*d - m*(B*d)).fdiv (c*B))) then 1000000 else (if c*B < 0 then (A'*d).fdiv (-(c*B))+1 else -((A'*d - m*(B*d)).fdiv (c*B))))) H':=fun H' e=>by
  have:=kk H' e
  unfold wM at this
  rw [if_neg hcB,if_neg (by rw [← ef];simpa using ht)] at this
  exact this
 generalize hgg:(if c*B < 0 then (A'*d).fdiv (-(c*B))+1 else -((A'*d - m*(B*d)).fdiv (c*B)))=g at res
 refine⟨fun σ' H'=>σ'=[some (.ref z1),some (.ref z2),some (.int m),some (.int g)]∧Same H H',?_,?_⟩
 · refine⟨_,rfl,_,_,c,d,0,1,rfl,⟨z2,rfl,h2⟩,⟨_,rfl,T.sq_NOUGHT _⟩,S bc,S bd,nul,one,_,rfl,?_⟩
   by_cases hn:c*1 < 0*d
   · rw [decide_eq_true hn]
     refine wN ?_
     have c0:c < 0:=by omega
     refine⟨_,rfl,_,rfl,_,_,0,1,c,d,rfl,⟨_,rfl,T.sq_NOUGHT _⟩,⟨z2,rfl,h2⟩,by decide,by omega,nul,one,S bc,S bd,fun u hu'=>?_⟩
     rw [(qBl hd hg).1,(qBl hd hg).2]
     have w1:=qE hu' (.tup [.int (-c),.int d])
     have bnc:(-c).natAbs < 2 ^ 700:=by rw [Int.natAbs_neg];exact bc
     have hpos:0 < B*(-c):=Int.mul_pos hB (by omega)
     refine⟨_,_,A',B,-c,d,rfl,⟨z1,rfl,H1 w1⟩,⟨u,rfl,SqT.of qD⟩,by omega,by omega,S bA,S bB,S bnc,S bd,fun v hv=>?_⟩
     have w2:=w1.trans (qE hv (.tup [.int (qt (A'*d) (B*(-c))),.int (qj (A'*d) (B*(-c)))]))
     have lq:=jD (t:=A'*d) (b:=B*(-c)) (by omega)
     refine⟨_,_,_,rfl,⟨v,rfl,SqT.of qD⟩,by omega,Nat.lt_of_le_of_lt (xD (by omega)) (qAk (qi bB bnc)),?_⟩
     rw [wt hpos]
     refine⟨_,_,rfl,rfl,?_,w2⟩
     have e:g=(A'*d).fdiv (B* -c)+1:=by
      rw [← hgg,if_pos (by have:=Int.mul_neg_of_neg_of_pos c0 hB;exact this)]
      rw [show -(c*B)=B* -c by grind]
     rw [e]
     rfl
   · rw [decide_eq_false hn]
     refine xf ?_
     have c0:0 < c:=by omega
     obtain⟨l1,l2⟩:=wP (p:=m) (q:=1) (by decide) (Int.gcd_one_right ..)
     refine⟨_,rfl,_,rfl,m,1,rfl,by decide,qAk (n:=1) (by decide),fun u hu'=>?_⟩
     rw [l1,l2]
     have w1:=qE hu' (.tup [.int m,.int 1])
     refine⟨_,_,A',B,m,1,rfl,⟨z1,rfl,H1 w1⟩,⟨u,rfl,SqT.of qD⟩,by omega,by decide,S bA,S bB,S bm,one,fun v hv=>?_⟩
     have hb1:B*1≠0:=by omega
     have cr:=jo (A'*1 - m*B) (B*1)
     have lq:=jD (t:=A'*1 - m*B) hb1
     have aP:=zo (t:=A'*1 - m*B) hb1
     have aQ:=xD (t:=A'*1 - m*B) hb1
     have w2:=w1.trans (qE hv (.tup [.int (qt (A'*1 - m*B) (B*1)),.int (qj (A'*1 - m*B) (B*1))]))
     have ev:=qD (H:=upd H u (.tup [.int m,.int 1])) (a:=v) (o:=.tup [.int (qt (A'*1 - m*B) (B*1)),.int (qj (A'*1 - m*B) (B*1))])
     generalize upd (upd H u (.tup [.int m,.int 1])) v (.tup [.int (qt (A'*1 - m*B) (B*1)),.int (qj (A'*1 - m*B) (B*1))])=H3 at w2 ev ⊢
     generalize qt (A'*1 - m*B) (B*1)=P' at cr aP ev ⊢
     generalize qj (A'*1 - m*B) (B*1)=Q' at cr aQ lq ev ⊢
     have sP:Sm P':=by
      have t:=qi bm bB
      have:(A'*1 - m*B).natAbs < 2 ^ 1500:=by
       have e:(2:Nat) ^ 700+2 ^ (700+700)≤2 ^ 1500:=by decide
       rw [Int.mul_one]
       exact Nat.lt_of_lt_of_le (Nat.lt_of_le_of_lt (Int.natAbs_sub_le _ _) (Nat.add_lt_add bA t)) e
      exact Nat.lt_of_le_of_lt aP (zw this)
     have bQ:Q'.natAbs < 2 ^ 700:=by rw [Int.mul_one] at aQ;omega
     refine⟨_,rfl,_,_,P',Q',c,d,rfl,⟨v,rfl,SqT.of ev⟩,⟨z2,rfl,H2 w2⟩,by omega,hc,sP,S bQ,S bc,S bd,fun x hx=>?_⟩
     have hpos:0 < Q'*c:=Int.mul_pos lq c0
     have w3:=w2.trans (qE hx (.tup [.int (qt (P'*d) (Q'*c)),.int (qj (P'*d) (Q'*c))]))
     have lq2:=jD (t:=P'*d) (b:=Q'*c) (by omega)
     refine⟨_,_,_,rfl,⟨x,rfl,SqT.of qD⟩,by omega,Nat.lt_of_le_of_lt (xD (by omega)) (qAk (qi bQ bc)),?_⟩
     rw [wt hpos]
     refine⟨_,rfl,?_,w3⟩
     have e:g= -(P'*d).fdiv (Q'*c):=by
      have hcB':=Int.mul_pos c0 hB
      rw [← hgg,if_neg (by omega)]
      rw [vX hcB' hpos (by grind:(A'*d - m*(B*d))*(Q'*c)=P'*d*(c*B))]
     rw [e]
     rfl
 rintro σ' H' ⟨rfl,sH⟩
 exact⟨_,rfl,_,_,rfl,res H' sH⟩
theorem qFa {H H':Hp}(e:Same H H'){a:Addr}{u:HO}(h:Rd H a u):Rd H' a u:=by
 rcases h with h | ⟨o,h⟩
 · exact .inl (e _ _ h)
 · exact .inr ⟨o,e _ _ h⟩
def Reel (H:Hp)(rd:Addr)(n:Str)(m:Int):Prop:=∃ kvs,Rd H rd (.dK kvs)∧j3 kvs (Sum.inr n)=some (.int m)
theorem Reel.same {H H':Hp}{rd:Addr}{n:Str}{m:Int}(e:Same H H')(h:Reel H rd n m):Reel H' rd n m:=let ⟨k,h1,h2⟩:=h;⟨k,qFa e h1,h2⟩
theorem Reel.get {H:Hp}{rd:Addr}{n:Str}{m:Int}(h:Reel H rd n m):DGet H rd (.str n) (some (.int m)):=let ⟨k,h1,h2⟩:=h;.inl ⟨k,Sum.inr n,h1,rfl,h2.symm⟩
def Vk (p q r s k:Int):Int:=p*s+k*r*q
structure Ch (H:Hp)(z:Addr)(n:Str)(p q r s len:Int):Prop where
 ex:∃ z1 z2,H z=some (.tup [.str "clip",.str n,.ref z1,.ref z2,.int len])∧H z1=some (.tup [.int p,.int q])∧H z2=some (.tup [.int r,.int s])
inductive qCn (K:W.Frag)(vs:List V)(H:Hp)(Q:VK)(_:XK):Prop
| mk (v:V) (n:Str) (p q r s len m:Int) (rd:Addr) (_:vs=[v,.ref rd]) (_:Cp K H v n p q r s len) (_:Good 110 p q) (_:Good 110 r s) (_:Reel H rd n m) (_:m.natAbs < 2 ^ 700) (_:∀ H',Same H H'→Q (.int (wM (plP p q r s (-1)*s) (-1*r*plQ p q r s (-1)) (plQ p q r s (-1)*s) m)) H')
theorem qC2 (T:Tx K mg a):FnOk P w K mg base CX0 5 a.A13 a.B13 ["clip","reels"] (qCn K):=by
 refine T.D13.F.ok qD4 (fun vs H Q E h=>?_) (fun cdv A outer s H vs Q E hr h=>?_)
 · obtain⟨v,n,p,q,r,s,len,m,rd,rfl,_⟩:=h
   rfl
 refine qJ fun _ Y=>?_
 obtain⟨v,n,p,q,r,s',len,m,rd,rfl,hc,g1,g2,hrd,bm,kk⟩:=h
 apply Y
 have hu1:=vB hr
 refine⟨_,(qG (qN (qI T.D12 (zF T) hr rfl (qA (qI T.D9 (jt T) hr rfl (qA (pv 0) (qA (kU xJ qF) qB))) (qA (qI T.D4 (vP T) hr rfl (qA (xR (v:=.ref a.n_NOUGHT) rfl T.g_NOUGHT rfl) (qA (qK (pv 0)) qB))) (qA (kM hu1 (pv 1) (qK (pv 0)) (fun _ _=>rfl)) qB)))))),?_⟩
 try dsimp only [jq,qk]
 have hb:Bn 110 p q r s':=⟨g1.1,g2.1,g1.2.2.1,g1.2.2.2,g2.2.2.1,g2.2.2.2⟩
 have hb7:=hb.mono (m:=700)
 have hp:=(hb.part (k:=-1) (by decide)).mono (m:=700)
 refine⟨_,rfl,_,rfl,v,n,p,q,r,s',len,-1,rfl,hc,hb7.q0,hb7.s0,hb7.bp,hb7.bq,hb7.br,hb7.bs,zw (n:=30) (by decide),fun y H1 s1 e1=>?_⟩
 refine qJ fun _ Y=>?_
 obtain⟨z,z1,z2,e,h0,h1,h2⟩:=(hc.same s1).ex
 subst e
 apply Y
 have S:∀ {i:Int},i.natAbs < 2 ^ 700→Sm i:=fun h=>zw h
 refine(zL rfl h0 qAp ?_)
 refine⟨_,_,0,1,r,s',rfl,⟨_,rfl,T.sq_NOUGHT _⟩,⟨z2,rfl,h2⟩,by decide,by have:=hb.s0;omega,Sm.of200 (by decide),Sm.of200 (by decide),S hb7.br,S hb7.bs,fun u hu'=>?_⟩
 rw [(qBl hb.s0 g2.2.1).1,(qBl hb.s0 g2.2.1).2]
 have w1:=qE hu' (.tup [.int (-r),.int s'])
 refine⟨_,rfl,_,rfl,z,_,_,_,rfl,rfl,L3.Same.tup w1 h0,qAi,rd,_,rfl,(hrd.same (s1.trans w1)).get,?_⟩
 refine⟨_,_,_,_,-r,s',m,rfl,⟨y,rfl,SqT.of (w1 _ _ e1)⟩,⟨u,rfl,SqT.of qD⟩,hp.q0,hb.s0,by rw [Int.neg_gcd];exact g2.2.1,hp.bp,hp.bq,by rw [Int.natAbs_neg];exact hb7.br,hb7.bs,bm,fun H' sH=>?_⟩
 have:=kk H' (s1.trans (w1.trans sH))
 rw [show -1*r*plQ p q r s' (-1)= -r*plQ p q r s' (-1) by grind] at this
 exact this
inductive qDy (K:W.Frag)(vs:List V)(H:Hp)(Q:VK)(_:XK):Prop
| mk (v:V) (n:Str) (p q r s len m:Int) (rd:Addr) (_:vs=[v,.ref rd]) (_:Cp K H v n p q r s len) (_:Good 110 p q) (_:Good 110 r s) (_:len.natAbs < 2 ^ 30) (_:Reel H rd n m) (_:m.natAbs < 2 ^ 700) (_:∀ H',Same H H'→Q (.int (wM (plP p q r s len*s) (1*r*plQ p q r s len) (plQ p q r s len*s) m)) H')
theorem qCt (T:Tx K mg a):FnOk P w K mg base CX0 5 a.A14 a.B14 ["clip","reels"] (qDy K):=by
 refine T.D14.F.ok qD1 (fun vs H Q E h=>?_) (fun cdv A outer s H vs Q E hr h=>?_)
 · obtain⟨v,n,p,q,r,s,len,m,rd,rfl,_⟩:=h
   rfl
 refine qJ fun _ Y=>?_
 obtain⟨v,n,p,q,r,s',len,m,rd,rfl,hc,g1,g2,bl,hrd,bm,kk⟩:=h
 apply Y
 have hu1:=vB hr
 refine⟨_,(qG (qN (qI T.D12 (zF T) hr rfl (qA (qI T.D9 (jt T) hr rfl (qA (pv 0) (qA (qK (pv 0)) qB))) (qA (qK (pv 0)) (qA (kM hu1 (pv 1) (qK (pv 0)) (fun _ _=>rfl)) qB)))))),?_⟩
 try dsimp only [jq,qk]
 have hb:Bn 110 p q r s':=⟨g1.1,g2.1,g1.2.2.1,g1.2.2.2,g2.2.2.1,g2.2.2.2⟩
 have hb7:=hb.mono (m:=700)
 have hp:=(hb.part (k:=len) bl).mono (m:=700)
 have hc0:=hc
 refine qJ fun _ Y=>?_
 obtain⟨z,z1,z2,e,h0,h1,h2⟩:=hc0.ex
 subst e
 apply Y
 refine⟨_,rfl,zL rfl h0 qHa ⟨_,n,p,q,r,s',len,len,rfl,hc,hb7.q0,hb7.s0,hb7.bp,hb7.bq,hb7.br,hb7.bs,zw bl,fun y H1 s1 e1=>?_⟩⟩
 refine⟨_,rfl,z,_,_,_,rfl,rfl,L3.Same.tup s1 h0,qAp,?_⟩
 refine⟨_,rfl,_,rfl,z,_,_,_,rfl,rfl,L3.Same.tup s1 h0,qAi,rd,_,rfl,(hrd.same s1).get,?_⟩
 refine⟨_,_,_,_,r,s',m,rfl,⟨y,rfl,SqT.of e1⟩,⟨z2,rfl,L3.Same.tup s1 h2⟩,hp.q0,hb.s0,g2.2.1,hp.bp,hp.bq,hb7.br,hb7.bs,bm,fun H' sH=>?_⟩
 have:=kk H' (s1.trans sH)
 rw [Int.one_mul] at this
 exact this
theorem qL8 (ns:List Int)(lo hi:Option Int):∃ ms:List Int,qEc (ns.map V.int) lo hi=ms.map V.int∧ms.length≤ns.length:=by
 refine⟨(ns.drop (HT.sIx (ns.map V.int).length 0 lo)).take (HT.sIx (ns.map V.int).length (ns.map V.int).length hi - HT.sIx (ns.map V.int).length 0 lo),?_,?_⟩
 · unfold qEc
   rw [List.map_take,List.map_drop]
 · rw [List.length_take,List.length_drop];omega
theorem qKs {c A B:Prop} [Decidable c] (hc:¬ c)(h:A):if (!decide c)=true then A else B:=by
 rw [decide_eq_false hc]
 exact wN h
inductive Im where
 | clip (n:Str) (p q r s l:Int)
 | nest (n:Str) (b l:Int)
 | gap (l:Int)
 | mix (l:Int)
def Im.d:Im→D
 | .clip n p q r s l=>.tup [.leaf (.str "clip"),.leaf (.str n),.tup [.leaf (.int p),.leaf (.int q)],.tup [.leaf (.int r),.leaf (.int s)],.leaf (.int l)]
 | .nest n b l=>.tup [.leaf (.str "nest"),.leaf (.str n),.leaf (.int b),.leaf (.int l)]
 | .gap l=>.tup [.leaf (.str "gap"),.leaf (.int l)]
 | .mix l=>.tup [.leaf (.str "mix"),.leaf (.int l)]
def Im.wd:Im→Str
 | .clip .. =>"clip"
 | .nest .. =>"nest"
 | .gap _=>"gap"
 | .mix _=>"mix"
def Im.l:Im→Int
 | .clip _ _ _ _ _ l=>l
 | .nest _ _ l=>l
 | .gap l=>l
 | .mix l=>l
def TS (H H':Hp):Prop:=∀ b xs,H b=some (.tup xs)→H' b=some (.tup xs)
theorem TS.trans {H H1 H2:Hp}(a:TS H H1)(b:TS H1 H2):TS H H2:=fun c o h=>b c o (a c o h)
theorem qM {H H':Hp}(e:Same H H'):TS H H':=fun _ _ h=>e _ _ h
theorem j4 {H:Hp}{l:Addr}{xs:List V}{o:HO}(h:H l=some (.lst xs)):TS H (upd H l o):=fun b ys hb=>by
 rw [qX (qQ2 hb h (by intro z;cases z))];exact hb
theorem jR {H H':Hp}{y:Addr}{o:HO}(e:Same H H')(h:H y=none):Same H (upd H' y o):=fun b u hb=>by
 rw [qX (qg hb h)];exact e b u hb
def IsI (H:Hp):Im→V→Prop
 | .clip n p q r s l,v=>∃ z x y:Addr,v= .ref z∧H z=some (.tup [.str "clip",.str n,.ref x,.ref y,.int l])∧H x=some (.tup [.int p,.int q])∧H y=some (.tup [.int r,.int s])
 | .nest n b l,v=>∃ z:Addr,v= .ref z∧H z=some (.tup [.str "nest",.str n,.int b,.int l])
 | .gap l,v=>∃ z:Addr,v= .ref z∧H z=some (.tup [.str "gap",.int l])
 | .mix l,v=>∃ z:Addr,v= .ref z∧H z=some (.tup [.str "mix",.int l])
theorem isG {H:Hp}{z:Addr}{l:Int}(h:H z=some (.tup [.str "gap",.int l])):IsI H (.gap l) (.ref z):=⟨z,rfl,h⟩
theorem isM {H:Hp}{z:Addr}{l:Int}(h:H z=some (.tup [.str "mix",.int l])):IsI H (.mix l) (.ref z):=⟨z,rfl,h⟩
theorem isN {H:Hp}{z:Addr}{n:Str}{b l:Int}(h:H z=some (.tup [.str "nest",.str n,.int b,.int l])):IsI H (.nest n b l) (.ref z):=⟨z,rfl,h⟩
theorem IsI.ts {H H':Hp}(e:TS H H'):∀ {m:Im} {v:V},IsI H m v→IsI H' m v
 | .clip ..,_,⟨z,x,y,h,hz,hx,hy⟩=>⟨z,x,y,h,e _ _ hz,e _ _ hx,e _ _ hy⟩
 | .nest ..,_,⟨z,h,hz⟩=>⟨z,h,e _ _ hz⟩
 | .gap _,_,⟨z,h,hz⟩=>⟨z,h,e _ _ hz⟩
 | .mix _,_,⟨z,h,hz⟩=>⟨z,h,e _ _ hz⟩
theorem IsI.opn {H:Hp}{m:Im}{v:V}(h:IsI H m v):∃ (z:Addr) (xs:List V),v= .ref z∧H z=some (.tup xs)∧atI xs 0=some (.str m.wd)∧atI xs (-1)=some (.int m.l):=by
 cases m with
 | clip n p q r s l=>obtain⟨z,x,y,h,hz,_⟩:=h;exact⟨z,_,h,hz,rfl,rfl⟩
 | nest n b l=>obtain⟨z,h,hz⟩:=h;exact⟨z,_,h,hz,rfl,rfl⟩
 | gap l=>obtain⟨z,h,hz⟩:=h;exact⟨z,_,h,hz,rfl,rfl⟩
 | mix l=>obtain⟨z,h,hz⟩:=h;exact⟨z,_,h,hz,rfl,rfl⟩
theorem zv {H:Hp}:∀ {xs:List V},xs.all vK=true→Reps K H (xs.map D.leaf) xs
 | [],_=>by simp [Reps]
 | x::xs,h=>by
  rw [List.all_cons,Bool.and_eq_true] at h
  rw [List.map_cons];unfold Reps Rep
  exact⟨⟨rfl,h.1⟩,zv h.2⟩
theorem vC {H:Hp}{z:Addr}{xs:List V}(hz:H z=some (.tup xs))(h:xs.all vK=true):Rep K H (.tup (xs.map D.leaf)) (.ref z):=by
 unfold Rep
 exact⟨z,xs,rfl,SqT.of hz,zv h⟩
theorem IsI.rep {H:Hp}:∀ {m:Im} {v:V},IsI H m v→Rep K H m.d v
 | .clip n p q r s l,_,⟨z,x,y,h,hz,hx,hy⟩=>by
  subst h
  have h1:Rep K H (.tup [.leaf (.int p),.leaf (.int q)]) (.ref x):=vC hx rfl
  have h2:Rep K H (.tup [.leaf (.int r),.leaf (.int s)]) (.ref y):=vC hy rfl
  unfold Im.d Rep
  refine⟨z,_,rfl,SqT.of hz,?_⟩
  unfold Reps Reps Reps Reps Reps Reps
  refine⟨?_,?_,h1,h2,?_,trivial⟩
  · unfold Rep;exact⟨rfl,rfl⟩
  · unfold Rep;exact⟨rfl,rfl⟩
  · unfold Rep;exact⟨rfl,rfl⟩
 | .nest n b l,_,⟨z,h,hz⟩=>by subst h;exact vC hz rfl
 | .gap l,_,⟨z,h,hz⟩=>by subst h;exact vC hz rfl
 | .mix l,_,⟨z,h,hz⟩=>by subst h;exact vC hz rfl
theorem qL1 (m:Im):eqD m.d m.d=true:=by
 cases m <;> simp [Im.d,eqD,xB,eqV]
theorem qQp (m:Im):dep m.d≤2:=by
 cases m <;> simp [Im.d,dep,xk]
def IsIs (H:Hp):List Im→List V→Prop
 | [],[]=>True
 | m::ms,v::vs=>IsI H m v∧IsIs H ms vs
 | _,_=>False
theorem IsIs.len {H:Hp}:∀ {ms:List Im} {vs:List V},IsIs H ms vs→vs.length=ms.length
 | [],[],_=>rfl
 | _::_,_::_,h=>by rw [List.length_cons,List.length_cons,IsIs.len h.2]
 | [],_::_,h=>h.elim
 | _::_,[],h=>h.elim
theorem IsIs.ts {H H':Hp}(e:TS H H'):∀ {ms:List Im} {vs:List V},IsIs H ms vs→IsIs H' ms vs
 | [],[],_=>trivial
 | _::_,_::_,h=>⟨IsI.ts e h.1,IsIs.ts e h.2⟩
 | [],_::_,h=>h.elim
 | _::_,[],h=>h.elim
theorem IsIs.get {H:Hp}:∀ {ms:List Im} {vs:List V} {i:Nat} {v:V},IsIs H ms vs→vs[i]? =some v→∃ m,ms[i]? =some m∧IsI H m v
 | [],[],_,_,_,h=>by simp at h
 | m::_,x::_,0,v,h,e=>by
  have e':x=v:=by simpa using e
  subst e'
  exact⟨m,rfl,h.1⟩
 | _::ms,_::vs,i+1,v,h,e=>by
  obtain⟨m,h1,h2⟩:=IsIs.get (i:=i) h.2 (by simpa using e)
  exact⟨m,by simpa using h1,h2⟩
 | [],_::_,_,_,h,_=>h.elim
 | _::_,[],_,_,h,_=>h.elim
theorem IsIs.get' {H:Hp}{ms:List Im}{vs:List V}{i:Nat}{m:Im}(h:IsIs H ms vs)(e:ms[i]? =some m):∃ v,vs[i]? =some v∧IsI H m v:=by
 have hi:i < vs.length:=by rw [h.len];exact(glt e)
 have ev:vs[i]? =some vs[i]:=List.getElem?_eq_getElem hi
 obtain⟨m',h1,h2⟩:=h.get ev
 rw [e] at h1
 cases h1
 exact⟨_,ev,h2⟩
theorem IsIs.app {H:Hp}:∀ {ms:List Im} {vs:List V} {ms':List Im} {vs':List V},IsIs H ms vs→IsIs H ms' vs'→IsIs H (ms++ms') (vs++vs')
 | [],[],_,_,_,h'=>h'
 | _::_,_::_,_,_,h,h'=>⟨h.1,h.2.app h'⟩
 | [],_::_,_,_,h,_=>h.elim
 | _::_,[],_,_,h,_=>h.elim
theorem IsIs.one {H:Hp}{m:Im}{v:V}(h:IsI H m v):IsIs H [m] [v]:=⟨h,trivial⟩
theorem IsIs.rep {H:Hp}:∀ {ms:List Im} {vs:List V},IsIs H ms vs→Reps K H (ms.map Im.d) vs
 | [],[],_=>by unfold List.map Reps;trivial
 | _::_,_::_,h=>by unfold List.map Reps;exact⟨h.1.rep,h.2.rep⟩
 | [],_::_,h=>h.elim
 | _::_,[],h=>h.elim
theorem wl:∀ ms:List Im,xB (ms.map Im.d) (ms.map Im.d)=true
 | []=>by simp [xB]
 | m::ms=>by unfold List.map xB;rw [qL1,wl ms];rfl
theorem qC4:∀ ms:List Im,xk (ms.map Im.d)≤2
 | []=>by simp [xk]
 | m::ms=>by
  have h1:=qQp m
  have h2:=qC4 ms
  unfold List.map xk
  omega
def Tr (H:Hp)(z:Addr)(ms:List Im):Prop:=∃ vs,H z=some (.lst vs)∧IsIs H ms vs
theorem Tr.same {H H':Hp}{z:Addr}{ms:List Im}(e:Same H H')(h:Tr H z ms):Tr H' z ms:=let ⟨vs,h1,h2⟩:=h;⟨vs,e _ _ h1,h2.ts (qM e)⟩
theorem Tr.rep {H:Hp}{z:Addr}{ms:List Im}(h:Tr H z ms):Rep K H (.lst (ms.map Im.d)) (.ref z):=by
 obtain⟨vs,h1,h2⟩:=h
 unfold Rep
 exact⟨z,vs,rfl,SqL.of h1,h2.rep⟩
theorem eqTr {H:Hp}{x y:Addr}{ms:List Im}{Q:VK}(h1:Tr H x ms)(h2:Tr H y ms)(q:Q (.bl true) H):qHs K false (.ref x) (.ref y) H Q:=by
 refine⟨_,_,h1.rep,h2.rep,rfl,by have:=qC4 ms;unfold dep;omega,?_⟩
 have e:eqD (.lst (ms.map Im.d)) (.lst (ms.map Im.d))=true:=by unfold eqD;exact wl ms
 rw [e]
 exact q
theorem qRt {H:Hp}{x y:Addr}{ms:List Im}{Q:VK}(h1:Tr H x ms)(h2:H y=some (.lst []))(q:Q (.bl ms.isEmpty) H):qHs K false (.ref x) (.ref y) H Q:=by
 refine⟨_,.lst [],h1.rep,?_,rfl,by have:=qC4 ms;unfold dep;omega,?_⟩
 · unfold Rep;exact⟨y,[],rfl,SqL.of h2,by unfold Reps;trivial⟩
 · have e:eqD (.lst (ms.map Im.d)) (.lst [])=ms.isEmpty:=by cases ms <;> simp [eqD,xB]
   rw [e]
   exact q
theorem qRm {H:Hp}{x y:Addr}{ms:List Im}{Q:VK}(h1:Tr H x ms)(h2:H y=some (.lst []))(q:Q (.bl (!ms.isEmpty)) H):qHs K true (.ref x) (.ref y) H Q:=by
 refine⟨_,.lst [],h1.rep,?_,rfl,by have:=qC4 ms;unfold dep;omega,?_⟩
 · unfold Rep;exact⟨y,[],rfl,SqL.of h2,by unfold Reps;trivial⟩
 · have e:eqD (.lst (ms.map Im.d)) (.lst [])=ms.isEmpty:=by cases ms <;> simp [eqD,xB]
   rw [e]
   exact q
theorem qLi {H:Hp}{x:Addr}{ns:List Int}(h:H x=some (.lst (ns.map V.int))):Rep K H (.lst ((ns.map V.int).map D.leaf)) (.ref x):=by
 unfold Rep
 exact⟨x,_,rfl,SqL.of h,zv (by rw [List.all_map,List.all_eq_true];intro _ _;rfl)⟩
theorem qF3:∀ ns:List Int,xB ((ns.map V.int).map D.leaf) ((ns.map V.int).map D.leaf)=true
 | []=>by simp [xB]
 | n::ns=>by
  have ih:=qF3 ns
  simp only [List.map_cons]
  unfold xB
  rw [ih]
  simp [eqD,eqV]
theorem wW:∀ vs:List V,xk (vs.map D.leaf)=0
 | []=>by simp [xk]
 | n::ns=>by
  have ih:=wW ns
  simp only [List.map_cons]
  unfold xk
  rw [ih]
  simp [dep]
theorem IsIs.dl {H:Hp}:∀ {ms:List Im} {vs:List V},IsIs H ms vs→IsIs H ms.dropLast vs.dropLast
 | [],[],_=>trivial
 | [_],[_],_=>trivial
 | _::_::_,_::_::_,h=>⟨h.1,IsIs.dl h.2⟩
 | [],_::_,h=>h.elim
 | _::_,[],h=>h.elim
 | [_],_::_::_,h=>h.2.elim
 | _::_::_,[_],h=>h.2.elim
theorem IsIs.last {H:Hp}{ms:List Im}{vs:List V}(h:IsIs H ms vs)(hne:ms≠[]):∃ v m,vs[vs.length - 1]? =some v∧ms.getLast?=some m∧m∈ms∧IsI H m v:=by
 have hl:0 < ms.length:=List.length_pos_iff.mpr hne
 have hi:vs.length - 1 < vs.length:=by rw [h.len];omega
 have ev:vs[vs.length - 1]? =some vs[vs.length - 1]:=List.getElem?_eq_getElem hi
 obtain⟨m,h1,h2⟩:=h.get ev
 refine⟨_,m,ev,?_,List.mem_of_getElem? h1,h2⟩
 rw [h.len] at h1
 rw [List.getLast?_eq_getElem?]
 exact h1
def Im.mo:Im→Int
 | .mix _=>0
 | .clip _ _ _ _ _ l=>l
 | .nest _ _ l=>l
 | .gap l=>l
theorem qBt {α:Type}{xs:List α}{v:α}(h:xs[xs.length - 1]? =some v):atI xs (-1)=some v:=by
 have hl:0 < xs.length:=by
  have:=(glt h)
  omega
 have e:ixN xs.length (-1)=some (xs.length - 1):=by
  unfold ixN
  rw [if_neg (by decide),if_pos (by omega)]
  congr 1
  omega
 unfold atI;rw [e];exact h
theorem qAw {m:Im}(h:m.wd="mix"):∃ l,m= .mix l:=by
 cases m with
 | mix l=>exact⟨l,rfl⟩
 | clip=>exact absurd (show ("clip":Str)="mix" from h) (by decide+kernel)
 | nest=>exact absurd (show ("nest":Str)="mix" from h) (by decide+kernel)
 | gap=>exact absurd (show ("gap":Str)="mix" from h) (by decide+kernel)
theorem qSm {m:Im}(h:m.wd≠"mix"):m.mo=m.l:=by
 cases m with
 | mix l=>exact absurd rfl h
 | _=>rfl
theorem qMa {x y:Str}:decide (V.str x=V.str y)=decide (x=y):=by
 rw [Bool.eq_iff_iff];simp
inductive qBf (vs:List V)(H:Hp)(Q:VK)(_:XK):Prop
| mk (v:V) (m:Im) (_:vs=[v]) (_:IsI H m v) (_:Q (.int m.mo) H)
theorem xE (T:Tx K mg a):FnOk P w K mg base CX0 1 a.A15 a.B15 ["item"] qBf:=by
 refine T.D15.F.ok qA8 (fun vs H Q E h=>?_) (fun cdv A outer s H vs Q E hr h=>?_)
 · obtain⟨v,m,rfl,_⟩:=h
   rfl
 refine qJ fun _ Y=>?_
 obtain⟨v,m,rfl,hI,kk⟩:=h
 apply Y
 refine⟨_,(qG (qN (wQ (qP zG (qK (pv 0)) qx (qR _)) qF (jK qDc (pv 0) (kU xJ qF) (fun _ _=>rfl))))),?_⟩
 try dsimp only [jq,qk]
 refine qJ fun _ Y=>?_
 obtain⟨z,xs,rfl,hz,h0,h1⟩:=hI.opn
 apply Y
 refine⟨_,rfl,z,xs,_,_,rfl,rfl,SqT.of hz,h0,rfl,_,rfl,jp (fun c=>?_) (fun c=>?_)⟩
 · obtain⟨l,rfl⟩:=qAw (by simpa using c)
   exact kk
 · rw [qSm (by simpa using c)] at kk
   exact⟨_,rfl,_,rfl,z,xs,_,_,rfl,rfl,SqT.of hz,h1,kk⟩
inductive qC8 (vs:List V)(H:Hp)(Q:VK)(_:XK):Prop
| mk (z:Addr) (ms:List Im) (_:vs=[.ref z]) (_:Tr H z ms) (_:ms.length≤300) (_:∀ H',Same H H'→Q (.int (ms.map Im.mo).sum) H')
theorem wD (T:Tx K mg a):FnOk P w K mg base CX0 3 a.A16 a.B16 ["track"] qC8:=by
 refine T.D16.F.ok qCx (fun vs H Q E h=>?_) (fun cdv A outer s H vs Q E hr h=>?_)
 · obtain⟨z,ms,rfl,_⟩:=h
   rfl
 refine qJ fun _ Y=>?_
 obtain⟨z,ms,rfl,⟨xs,hz,his⟩,hl,kk⟩:=h
 apply Y
 refine⟨_,(qG (qN (qQ (qAb rfl) rfl T.b_sum rfl (qA (zW [] [] rfl (jf (pv 0)) (fun _ _ _ _=>(qI T.D15 (xE T) hr rfl (qA (pv 0) qB)))) qB)))),?_⟩
 try dsimp only [jq,qk]
 refine⟨_,rfl,z,rfl,⟨_,SqL.of hz⟩,xM (K:=K) (a:=z) (xs:=xs) (fun i acc H'=>H'=H∧acc=((ms.take i).map Im.mo).map V.int) ⟨rfl,rfl⟩ ?_ ?_ ?_⟩
 · rintro i acc H' hi ⟨rfl,rfl⟩
   exact⟨SqL.of hz,qW (by simp;omega)⟩
 · rintro i x acc H' hi hx ⟨rfl,rfl⟩
   refine qJ fun _ Y=>?_
   obtain⟨m,hm,hI⟩:=his.get hx
   apply Y
   refine⟨_,rfl,x,m,rfl,hI,Nxt.mk hi ⟨rfl,?_⟩⟩
   rw [List.take_add_one,hm]
   simp
 · rintro acc H' ⟨rfl,rfl⟩ d hd
   refine⟨d,(ms.map Im.mo),rfl,?_,kk _ (qE hd _)⟩
   rw [his.len,List.take_length]
   exact SqL.of qD
def jO:Int→Nat→List Im→Int→Option (Nat × Int)
 | _,_,[],_=>none
 | b,i,m::ms,t=>if b≤t∧t < b+m.mo then some (i,t - b) else jO (b+m.mo) (i+1) ms t
def AtR (H:Hp)(Q:VK)(r:Option (Nat × Int)):Prop:=match r with
 | none=>∀ H',Same H H'→Q .non H'
 | some (i,d)=>∀ (p:Addr) (H':Hp),Same H H'→H' p=some (.tup [.int (i:Int),.int d])→Q (.ref p) H'
theorem jz {α:Type}{xs:List α}{i:Nat}{x:α}(h:xs[i]? =some x):xs.drop i=x::xs.drop (i+1):=by
 have hi:i < xs.length:=(glt h)
 rw [List.drop_eq_getElem_cons hi]
 rw [List.getElem?_eq_getElem hi] at h
 cases h
 rfl
inductive qHd (vs:List V)(H:Hp)(Q:VK)(_:XK):Prop
| mk (z:Addr) (ms:List Im) (t:Int) (_:vs=[.ref z,.int t]) (_:Tr H z ms) (_:AtR H Q (jO 0 0 ms t))
theorem vk (T:Tx K mg a):FnOk P w K mg base CX0 3 a.A17 a.B17 ["track","moment"] qHd:=by
 refine T.D17.F.ok xG (fun vs H Q E h=>?_) (fun cdv A outer s H vs Q E hr h=>?_)
 · obtain⟨z,ms,t,rfl,_⟩:=h
   rfl
 refine qJ fun _ Y=>?_
 obtain⟨z,ms,t,rfl,⟨xs,hz,his⟩,kk⟩:=h
 apply Y
 refine⟨_,(qC (qS 2 xG.nd qF)
  (qC (xV PassesOwn.never rfl (qIa rfl T.b_enumerate (qA (pv 0) qB)) (qDv rfl (jV (ql (i:=3) xG.nd rfl (Or.inl rfl)) (jV (ql (i:=4) xG.nd rfl (Or.inl rfl)) qAa))) (qC (qS 5 xG.nd (qL qc (pv 2) (qI T.D15 (xE T) hr rfl (qA (pv 4) qB))))
  (qC (qv (PW.pt (zy (qP qHp (pv 2) (pv 1) (qR _)) (zf (qP kX (pv 1) (pv 5) (qR _))))) (qG (qN (qZ (qA (pv 3) (qA (qL jL (pv 1) (pv 2)) qB))))) qU)
  (qG (qS 2 xG.nd (pv 5))))))
  (qG (qN vz)))),?_⟩
 try dsimp only [jq,qk]
 refine⟨_,rfl,z,rfl,⟨_,SqL.of hz⟩,qLs (K:=K) (a:=z) (xs:=xs) (fun i σ H'=>∃ (b:Int) (o1 o2 o3:Option V),σ=[some (.ref z),some (.int t),some (.int b),o1,o2,o3]∧jO b i (ms.drop i) t=jO 0 0 ms t∧Same H H')
  ⟨0,none,none,none,rfl,rfl,Same.refl _⟩ ?_ ?_ ?_⟩
 · rintro i σ H' hi ⟨b,o1,o2,o3,rfl,_,e⟩
   exact SqL.of (e _ _ hz)
 · rintro i x σ H' p hx ⟨b,o1,o2,o3,rfl,hap,e⟩ hp
   refine qJ fun _ Y=>?_
   obtain⟨m,hm,hIx⟩:=his.get hx
   apply Y
   have w1:=qE hp (.tup [.int (i:Int),x])
   have e1:=e.trans w1
   have hI:=hIx.ts (qM e1)
   rw [jz hm,jO] at hap
   refine⟨p,_,rfl,SqT.of qD,rfl,_,_,rfl,_,_,rfl,rfl,?_⟩
   generalize upd H' p (.tup [.int (i:Int),x])=H1 at e1 hI ⊢
   refine⟨_,rfl,_,rfl,x,m,rfl,hI,_,_,rfl,rfl,?_⟩
   refine⟨_,rfl,_,rfl,_,_,rfl,rfl,_,rfl,?_⟩
   refine jp (fun c1=>?_) (fun c1=>?_)
   · refine⟨_,rfl,_,rfl,_,_,rfl,rfl,_,rfl,?_⟩
     refine jp (fun c2=>?_) (fun c2=>?_)
     · rw [if_pos ⟨by simpa using c1,by simpa using c2⟩] at hap
       rw [← hap] at kk
       refine⟨_,rfl,_,rfl,_,rfl,_,_,rfl,rfl,sL2,fun q hq=>?_⟩
       exact kk q _ (e1.trans (qE hq _)) qD
     · rw [if_neg (fun c=>c2 (by simpa using c.2))] at hap
       exact⟨_,rfl,_,_,_,_,rfl,hap,e1⟩
   · rw [if_neg (fun c=>c1 (by simpa using c.1))] at hap
     exact xf ⟨_,rfl,_,_,_,_,rfl,hap,e1⟩
 · rintro σ H' ⟨b,o1,o2,o3,rfl,hap,e⟩
   rw [his.len,List.drop_length,jO] at hap
   rw [← hap] at kk
   exact kk H' e
def Sh (H:Hp)(z:Addr)(p q r s:Int):Prop:=∃ x y:Addr,H z=some (.tup [.ref x,.ref y])∧H x=some (.tup [.int p,.int q])∧H y=some (.tup [.int r,.int s])
inductive qCd (vs:List V)(H:Hp)(Q:VK)(_:XK):Prop
| mk (l j:Int) (_:vs=[.int l,.int j]) (_:0≤j) (_:j < l) (_:l < 2 ^ 60) (_:∀ (z:Addr) (H':Hp),Same H H'→Sh H' z (qt (l - j) (l+1)) (qj (l - j) (l+1)) (qt (j+1) (l+1)) (qj (j+1) (l+1))→Q (.ref z) H')
theorem p60 {b:Int}(h0:0 < b)(h:b < 2 ^ 61):b.natAbs < 2 ^ 8000:=by
 have e:b.natAbs < 2 ^ 61:=by omega
 exact Nat.lt_of_lt_of_le e (Nat.pow_le_pow_right (by decide) (by decide))
theorem kh (T:Tx K mg a):FnOk P w K mg base CX0 3 a.A25 a.B25 ["length","j"] qCd:=by
 refine T.D25.F.ok qBb (fun vs H Q E h=>?_) (fun cdv A outer s H vs Q E hr h=>?_)
 · obtain⟨l,j,rfl,_⟩:=h
   rfl
 refine qJ fun _ Y=>?_
 obtain⟨l,j,rfl,j0,j1,l1,kk⟩:=h
 apply Y
 refine⟨_,(qG (qN (qZ (qA (qI T.D2 (jB T) hr rfl (qA (qL jL (pv 0) (pv 1)) (qA (qL qc (pv 0) qF) qB))) (qA (qI T.D2 (jB T) hr rfl (qA (qL qc (pv 1) qF) (qA (qL qc (pv 0) qF) qB))) qB))))),?_⟩
 try dsimp only [jq,qk]
 refine⟨_,rfl,_,rfl,_,_,rfl,rfl,_,rfl,_,_,rfl,rfl,_,_,rfl,by omega,p60 (by omega) (by omega),fun x hx=>?_⟩
 refine⟨_,rfl,_,_,rfl,rfl,_,rfl,_,_,rfl,rfl,_,_,rfl,by omega,p60 (by omega) (by omega),fun y hy=>?_⟩
 refine⟨sL2,fun z hz=>?_⟩
 have w1:=qE hx (.tup [.int (qt (l - j) (l+1)),.int (qj (l - j) (l+1))])
 have w2:=qE hy (.tup [.int (qt (j+1) (l+1)),.int (qj (j+1) (l+1))])
 have w3:=qE hz (.tup [.ref x,.ref y])
 exact kk z _ ((w1.trans w2).trans w3) ⟨x,y,qD,w3 _ _ (w2 _ _ qD),w3 _ _ qD⟩
def xC (ms:List Im)(i:Int):Str:=if i < 0 then "" else match ms[i.toNat]? with
 | some m=>m.wd
 | none=>""
theorem zY {ms:List Im}{i:Nat}{m:Im}(h:ms[i]? =some m){k:Int}(hk:k=(i:Int)):xC ms k=m.wd:=by
 subst hk
 unfold xC
 rw [if_neg (by omega)]
 have e:((i:Int)).toNat=i:=by omega
 rw [e,h]
inductive qHo (vs:List V)(H:Hp)(Q:VK)(_:XK):Prop
| mk (z:Addr) (ms:List Im) (i:Int) (_:vs=[.ref z,.int i]) (_:Tr H z ms) (_:Q (.str (xC ms i)) H)
theorem xo (T:Tx K mg a):FnOk P w K mg base CX0 1 a.A18 a.B18 ["track","place"] qHo:=by
 refine T.D18.F.ok qHl (fun vs H Q E h=>?_) (fun cdv A outer s H vs Q E hr h=>?_)
 · obtain⟨z,ms,i,rfl,_⟩:=h
   rfl
 refine qJ fun _ Y=>?_
 obtain⟨z,ms,i,rfl,⟨vs,hz,his⟩,q⟩:=h
 apply Y
 refine⟨_,(qC (qv (PW.pt (zJ (qP kX (pv 1) qF (qR _)) (xn (qP qRf (pv 1) (qQ qo rfl T.b_len rfl (qA (pv 0) qB)) (qR _))))) (qG (qN qx)) qU)
  (qG (qN (qK (jK qf (pv 0) (pv 1) (fun _ _=>rfl)))))),?_⟩
 try dsimp only [jq,qk]
 have hl:=his.len
 refine⟨_,rfl,_,_,rfl,rfl,_,rfl,?_⟩
 by_cases h0:i < 0
 · rw [decide_eq_true h0]
   have e:xC ms i="":=by unfold xC;rw [if_pos h0]
   rw [e] at q
   exact wN (wN q)
 rw [decide_eq_false h0]
 refine xf ⟨_,rfl,_,rfl,z,_,rfl,.inl (SqL.of hz),_,_,rfl,rfl,_,rfl,?_⟩
 by_cases h1:((vs.length:Nat):Int)≤i
 · rw [decide_eq_true (show i ≥ ((vs.length:Nat):Int) from h1)]
   have e:xC ms i="":=by
    unfold xC
    rw [if_neg h0,List.getElem?_eq_none (by omega)]
   rw [e] at q
   exact wN q
 · rw [decide_eq_false (show ¬ i ≥ ((vs.length:Nat):Int) from h1)]
   refine xf ?_
   have hi:i.toNat < ms.length:=by omega
   have hm:ms[i.toNat]? =some ms[i.toNat]:=List.getElem?_eq_getElem hi
   refine qJ fun _ Y=>?_
   obtain⟨v,hv,hI⟩:=his.get' hm
   obtain⟨zi,xi,rfl,hzi,q0,_⟩:=hI.opn
   apply Y
   have ei:i=((i.toNat:Nat):Int):=by omega
   have hat:atI vs i=some (.ref zi):=by
    rw [ei];exact jC hv
   have e:xC ms i=ms[i.toNat].wd:=zY hm ei
   rw [e] at q
   exact⟨_,rfl,_,rfl,z,_,_,_,rfl,rfl,SqL.of hz,hat,zi,xi,_,_,rfl,rfl,SqT.of hzi,q0,q⟩
def qY (ms:List Im)(i:Nat):Int:=((ms.take i).map Im.mo).sum
theorem wA:∀ (xs:List Im) (b:Int) (i0:Nat) (m:Im) (ys:List Im),(∀ x∈xs,0≤x.mo)→0 < m.mo→jO b i0 (xs++m::ys) (b+(xs.map Im.mo).sum)=some (i0+xs.length,0)
 | [],b,i0,m,ys,_,hm=>by
  rw [List.nil_append,jO,if_pos (by simp;omega)]
  simp
 | x::xs,b,i0,m,ys,hx,hm=>by
  have h0:=hx x (by simp)
  have hs:0≤(xs.map Im.mo).sum:=by
   have:∀ (zs:List Im),(∀ z∈zs,0≤z.mo)→0≤(zs.map Im.mo).sum:=fun zs=>by
    induction zs with
    | nil=>intro _;simp
    | cons z zs ih=>intro h;have:=ih fun y hy=>h y (by simp [hy]);have:=h z (by simp);rw [List.map_cons,List.sum_cons];omega
   exact this xs fun y hy=>hx y (by simp [hy])
  have ih:=wA xs (b+x.mo) (i0+1) m ys (fun y hy=>hx y (by simp [hy])) hm
  rw [List.cons_append,jO,List.map_cons,List.sum_cons,if_neg (by omega)]
  have e:b+(x.mo+(xs.map Im.mo).sum)=b+x.mo+(xs.map Im.mo).sum:=by omega
  rw [e,ih,List.length_cons]
  congr 2
  omega
inductive qAm (vs:List V)(H:Hp)(Q:VK)(_:XK):Prop
| mk (z:Addr) (ms:List Im) (i:Int) (_:vs=[.ref z,.int i]) (_:Tr H z ms) (_:Q (.int (if xC ms (i - 1)="mix" then i - 2 else i - 1)) H)
theorem qAq (T:Tx K mg a):FnOk P w K mg base CX0 2 a.A19 a.B19 ["track","place"] qAm:=by
 refine T.D19.F.ok qAr (fun vs H Q E h=>?_) (fun cdv A outer s H vs Q E hr h=>?_)
 · obtain⟨z,ms,i,rfl,_⟩:=h
   rfl
 refine qJ fun _ Y=>?_
 obtain⟨z,ms,i,rfl,tT,q⟩:=h
 apply Y
 refine⟨_,(qG (qN (wQ (qP zG (qI T.D18 (xo T) hr rfl (qA (pv 0) (qA (qL jL (pv 1) qF) qB))) qx (qR _)) (qL jL (pv 1) qF) (qL jL (pv 1) qF)))),?_⟩
 try dsimp only [jq,qk]
 refine⟨_,rfl,_,rfl,_,_,rfl,rfl,z,ms,_,rfl,tT,rfl,_,rfl,jp (fun c=>?_) (fun c=>?_)⟩
 · rw [if_pos (by simpa using c)] at q
   exact⟨_,rfl,_,_,rfl,rfl,q⟩
 · rw [if_neg (by simpa using c)] at q
   exact⟨_,rfl,_,_,rfl,rfl,q⟩
def nbF (ms:List Im)(t:Int):Option (Int × Int):=match jO 0 0 ms t with
 | some (i,d)=>if d≠0∨(i:Int)=0 then none else some (if xC ms ((i:Int) - 1)="mix" then (i:Int) - 2 else (i:Int) - 1,(i:Int))
 | none=>none
def cbF (ms:List Im)(t:Int):Option (Int × Int):=match nbF ms t with
 | some (i,j)=>if xC ms i="clip"∧xC ms j="clip" then some (i,j) else none
 | none=>none
def PrR (H:Hp)(Q:VK)(r:Option (Int × Int)):Prop:=match r with
 | none=>∀ H',Same H H'→Q .non H'
 | some (i,j)=>∀ (p:Addr) (H':Hp),Same H H'→H' p=some (.tup [.int i,.int j])→Q (.ref p) H'
inductive wL (vs:List V)(H:Hp)(Q:VK)(_:XK):Prop
| mk (z:Addr) (ms:List Im) (t:Int) (_:vs=[.ref z,.int t]) (_:Tr H z ms) (_:PrR H Q (nbF ms t))
theorem wG (T:Tx K mg a):FnOk P w K mg base CX0 4 a.A20 a.B20 ["track","moment"] wL:=by
 refine T.D20.F.ok zD (fun vs H Q E h=>?_) (fun cdv A outer s H vs Q E hr h=>?_)
 · obtain⟨z,ms,t,rfl,_⟩:=h
   rfl
 refine qJ fun _ Y=>?_
 obtain⟨z,ms,t,rfl,tT,kk⟩:=h
 apply Y
 refine⟨_,(qC (qS 2 zD.nd (qI T.D17 (vk T) hr rfl (qA (pv 0) (qA (pv 1) qB))))
  (qC (qv (PW.pt (zJ (zz (qA6 (pv 2))) (zJ (qP km (qK (pv 2)) qF (qR _)) (xn (qP zG (qK (pv 2)) qF (qR _)))))) (qG (qN vz)) qU)
  (qG (qN (qZ (qA (qI T.D19 (qAq T) hr rfl (qA (pv 0) (qA (qK (pv 2)) qB))) (qA (qK (pv 2)) qB))))))),?_⟩
 try dsimp only [jq,qk]
 refine⟨_,rfl,_,rfl,z,ms,_,rfl,tT,?_⟩
 unfold nbF at kk
 cases hit:jO 0 0 ms t with
 | none=>
  rw [hit] at kk
  intro H1 e1
  exact⟨_,rfl,_,rfl,wN (kk H1 e1)⟩
 | some x=>
  obtain⟨i,d⟩:=x
  rw [hit] at kk
  dsimp only at kk
  intro p H1 e1 hp
  refine⟨_,rfl,_,rfl,jp (fun c=>absurd c (by simp)) (fun _=>?_)⟩
  refine(ixO hp at1 ?_)
  refine⟨rfl,_,rfl,jp (fun c=>?_) (fun c=>?_)⟩
  · rw [if_pos (.inl (by simpa using c))] at kk
    exact kk H1 e1
  · refine(ixO hp at0 ?_)
    refine⟨rfl,_,rfl,jp (fun c2=>?_) (fun c2=>?_)⟩
    · rw [if_pos (.inr (by simpa using c2))] at kk
      exact kk H1 e1
    · rw [if_neg (fun z=>z.elim (fun z=>c (by simpa using z)) (fun z=>c2 (by simpa using z)))] at kk
      refine⟨_,rfl,ixO hp at0 ⟨z,ms,_,rfl,tT.same e1,?_⟩⟩
      refine(ixO hp at0 ⟨sL2,fun q hq=>?_⟩)
      exact kk q _ (e1.trans (qE hq _)) qD
inductive vG (vs:List V)(H:Hp)(Q:VK)(_:XK):Prop
| mk (z:Addr) (ms:List Im) (t:Int) (_:vs=[.ref z,.int t]) (_:Tr H z ms) (_:PrR H Q (cbF ms t))
theorem vF (T:Tx K mg a):FnOk P w K mg base CX0 5 a.A21 a.B21 ["track","moment"] vG:=by
 refine T.D21.F.ok xW (fun vs H Q E h=>?_) (fun cdv A outer s H vs Q E hr h=>?_)
 · obtain⟨z,ms,t,rfl,_⟩:=h
   rfl
 refine qJ fun _ Y=>?_
 obtain⟨z,ms,t,rfl,tT,kk⟩:=h
 apply Y
 refine⟨_,(qC (qS 2 xW.nd (qI T.D20 (wG T) hr rfl (qA (pv 0) (qA (pv 1) qB))))
  (qC (qv (PW.pt (zJ (zz (qA6 (pv 2))) (zJ (qP km (qI T.D18 (xo T) hr rfl (qA (pv 0) (qA (qK (pv 2)) qB))) qx (qR _)) (xn (qP km (qI T.D18 (xo T) hr rfl (qA (pv 0) (qA (qK (pv 2)) qB))) qx (qR _)))))) (qG (qN vz)) qU)
  (qG (qN (pv 2))))),?_⟩
 try dsimp only [jq,qk]
 refine⟨_,rfl,_,rfl,z,ms,_,rfl,tT,?_⟩
 unfold cbF at kk
 cases hit:nbF ms t with
 | none=>
  rw [hit] at kk
  intro H1 e1
  exact⟨_,rfl,_,rfl,wN (kk H1 e1)⟩
 | some x=>
  obtain⟨i,j⟩:=x
  rw [hit] at kk
  dsimp only at kk
  intro p H1 e1 hp
  refine⟨_,rfl,_,rfl,jp (fun c=>absurd c (by simp)) (fun _=>?_)⟩
  refine⟨_,rfl,ixO hp at0 ⟨z,ms,_,rfl,tT.same e1,?_⟩⟩
  refine⟨rfl,_,rfl,jp (fun c=>?_) (fun c=>?_)⟩
  · rw [if_neg (fun z=>absurd c (by simpa using z.1))] at kk
    exact kk H1 e1
  · refine⟨_,rfl,ixO hp at1 ⟨z,ms,_,rfl,tT.same e1,?_⟩⟩
    refine⟨rfl,_,rfl,jp (fun c2=>?_) (fun c2=>?_)⟩
    · rw [if_neg (fun z=>absurd c2 (by simpa using z.2))] at kk
      exact kk H1 e1
    · rw [if_pos ⟨by simpa using c,by simpa using c2⟩] at kk
      exact⟨_,rfl,kk p H1 e1 hp⟩
def TrsAt (H:Hp):List (List Im)→List V→Prop
 | [],[]=>True
 | ms::r,v::vs=>(∃ z:Addr,v= .ref z∧Tr H z ms)∧TrsAt H r vs
 | _,_=>False
theorem TrsAt.same {H H':Hp}(e:Same H H'):∀ {ts:List (List Im)} {vs:List V},TrsAt H ts vs→TrsAt H' ts vs
 | [],[],_=>trivial
 | _::_,_::_,⟨⟨z,h1,h2⟩,h⟩=>⟨⟨z,h1,h2.same e⟩,TrsAt.same e h⟩
 | [],_::_,h=>h.elim
 | _::_,[],h=>h.elim
theorem TrsAt.len {H:Hp}:∀ {ts:List (List Im)} {vs:List V},TrsAt H ts vs→vs.length=ts.length
 | [],[],_=>rfl
 | _::_,_::_,h=>by rw [List.length_cons,List.length_cons,TrsAt.len h.2]
 | [],_::_,h=>h.elim
 | _::_,[],h=>h.elim
theorem TrsAt.get {H:Hp}:∀ {ts:List (List Im)} {vs:List V} {i:Nat} {v:V},TrsAt H ts vs→vs[i]? =some v→∃ (ms:List Im) (z:Addr),ts[i]? =some ms∧v= .ref z∧Tr H z ms
 | [],[],_,_,_,h=>by simp at h
 | ms::_,u::_,0,v,h,e=>by
  have e':u=v:=by simpa using e
  subst e'
  obtain⟨⟨z,h1,h2⟩,_⟩:=h
  exact⟨ms,z,rfl,h1,h2⟩
 | _::_,_::_,i+1,v,h,e=>by
  obtain⟨ms,z,h1,h2⟩:=TrsAt.get (i:=i) h.2 (by simpa using e)
  exact⟨ms,z,by simpa using h1,h2⟩
 | [],_::_,_,_,h,_=>h.elim
 | _::_,[],_,_,h,_=>h.elim
def TabAt (H:Hp)(v:V)(ts:List (List Im)):Prop:=∃ (tt tl ti:Addr) (zs:List V),v= .ref tt∧H tt=some (.tup [.ref tl,.ref ti])∧H tl=some (.lst zs)∧TrsAt H ts zs
theorem TabAt.same {H H':Hp}(e:Same H H'){v:V}{ts:List (List Im)}(h:TabAt H v ts):TabAt H' v ts:=
 let ⟨tt,tl,ti,zs,h1,h2,h3,h4⟩:=h;⟨tt,tl,ti,zs,h1,e _ _ h2,e _ _ h3,h4.same e⟩
theorem qC1 {H:Hp}{v:V}{n:Str}{p q r s l:Int}(h:IsI H (.clip n p q r s l) v):Cp K H v n p q r s l:=by
 obtain⟨z,x,y,h0,hz,hx,hy⟩:=h
 exact⟨z,x,y,h0,SqT.of hz,SqT.of hx,SqT.of hy⟩
def TabF (H:Hp)(v:V)(ts:List (List Im))(tie:List Int):Prop:=∃ (tt tl ti:Addr) (zs:List V),v= .ref tt∧H tt=some (.tup [.ref tl,.ref ti])∧H tl=some (.lst zs)∧TrsAt H ts zs∧H ti=some (.lst (tie.map V.int))
theorem TabF.tab {H:Hp}{v:V}{ts:List (List Im)}{tie:List Int}(h:TabF H v ts tie):TabAt H v ts:=let ⟨tt,tl,ti,zs,h1,h2,h3,h4,_⟩:=h;⟨tt,tl,ti,zs,h1,h2,h3,h4⟩
theorem TabF.same {H H':Hp}(e:Same H H'){v:V}{ts:List (List Im)}{tie:List Int}(h:TabF H v ts tie):TabF H' v ts tie:=
 let ⟨tt,tl,ti,zs,h1,h2,h3,h4,h5⟩:=h;⟨tt,tl,ti,zs,h1,e _ _ h2,e _ _ h3,h4.same e,e _ _ h5⟩
def qMl (ts:List (List Im))(tie:List Int):D:=.tup [.lst (ts.map fun ms=>.lst (ms.map Im.d)),.lst ((tie.map V.int).map D.leaf)]
theorem TrsAt.rep {H:Hp}:∀ {ts:List (List Im)} {vs:List V},TrsAt H ts vs→Reps K H (ts.map fun ms=>.lst (ms.map Im.d)) vs
 | [],[],_=>by unfold List.map Reps;trivial
 | _::_,_::_,⟨⟨z,h1,h2⟩,r⟩=>by unfold List.map Reps;subst h1;exact⟨h2.rep,r.rep⟩
 | [],_::_,h=>h.elim
 | _::_,[],h=>h.elim
theorem TabF.rep {H:Hp}{v:V}{ts:List (List Im)}{tie:List Int}(h:TabF H v ts tie):Rep K H (qMl ts tie) v:=by
 obtain⟨tt,tl,ti,zs,rfl,h2,h3,h4,h5⟩:=h
 unfold qMl Rep
 refine⟨tt,_,rfl,SqT.of h2,?_⟩
 unfold Reps Reps Reps
 refine⟨?_,qLi h5,trivial⟩
 unfold Rep
 exact⟨tl,zs,rfl,SqL.of h3,h4.rep⟩
theorem qFz:∀ ts:List (List Im),xB (ts.map fun ms=>.lst (ms.map Im.d)) (ts.map fun ms=>.lst (ms.map Im.d))=true
 | []=>by simp [xB]
 | ms::r=>by
  unfold List.map xB
  rw [qFz r]
  have:eqD (.lst (ms.map Im.d)) (.lst (ms.map Im.d))=true:=by unfold eqD;exact wl ms
  rw [this];rfl
theorem qEo:∀ ts:List (List Im),xk (ts.map fun ms=>.lst (ms.map Im.d))≤3
 | []=>by simp [xk]
 | ms::r=>by
  have h1:=qEo r
  have h2:dep (.lst (ms.map Im.d))≤3:=by have:=qC4 ms;unfold dep;omega
  unfold List.map xk
  omega
theorem qFl (ts:List (List Im))(tie:List Int):eqD (qMl ts tie) (qMl ts tie)=true∧dep (qMl ts tie)≤50:=by
 constructor
 · unfold qMl eqD xB xB xB
   have h1:eqD (.lst (ts.map fun ms=>.lst (ms.map Im.d))) (.lst (ts.map fun ms=>.lst (ms.map Im.d)))=true:=by unfold eqD;exact qFz ts
   have h2:eqD (.lst ((tie.map V.int).map D.leaf)) (.lst ((tie.map V.int).map D.leaf))=true:=by unfold eqD;exact qF3 tie
   rw [h1,h2];rfl
 · have h1:=qEo ts
   have h2:=wW (tie.map V.int)
   unfold qMl dep xk xk xk dep
   omega
def SB (z:Addr)(H H':Hp):Prop:=∀ b u,b≠z→H b=some u→H' b=some u
theorem SB.trans {z:Addr}{H H1 H2:Hp}(a:SB z H H1)(b:SB z H1 H2):SB z H H2:=fun c u n h=>b c u n (a c u n h)
inductive qBi (vs:List V)(H:Hp)(Q:VK)(_:XK):Prop
| mk (l:Int) (_:vs=[.int l]) (_:Q (.int (l.fdiv 2)) H)
theorem xF (T:Tx K mg a):FnOk P w K mg base CX0 1 a.A22 a.B22 ["length"] qBi:=by
 refine T.D22.F.ok qB9 (fun vs H Q E h=>?_) (fun cdv A outer s H vs Q E hr h=>?_)
 · obtain⟨l,rfl,_⟩:=h
   rfl
 refine qJ fun _ Y=>?_
 obtain⟨l,rfl,kk⟩:=h
 apply Y
 refine⟨_,(qG (qN (qL qm (pv 0) qF))),?_⟩
 try dsimp only [jq,qk]
 exact⟨_,rfl,_,_,rfl,rfl,cdB (by decide) (by decide),kk⟩
inductive qAg (vs:List V)(H:Hp)(Q:VK)(_:XK):Prop
| mk (l:Int) (_:vs=[.int l]) (_:Q (.int (l - l.fdiv 2)) H)
theorem kA (T:Tx K mg a):FnOk P w K mg base CX0 1 a.A23 a.B23 ["length"] qAg:=by
 refine T.D23.F.ok qAv (fun vs H Q E h=>?_) (fun cdv A outer s H vs Q E hr h=>?_)
 · obtain⟨l,rfl,_⟩:=h
   rfl
 refine qJ fun _ Y=>?_
 obtain⟨l,rfl,kk⟩:=h
 apply Y
 refine⟨_,(qG (qN (qL jL (pv 0) (qL qm (pv 0) qF)))),?_⟩
 try dsimp only [jq,qk]
 exact⟨_,rfl,_,rfl,_,_,rfl,rfl,cdB (by decide) (by decide),_,_,rfl,rfl,kk⟩
def zI:Int→List Im→List (Int × Int × Int)
 | _,[]=>[]
 | b,.mix l::ms=>(b - l.fdiv 2,b,b+(l - l.fdiv 2))::zI b ms
 | b,.clip _ _ _ _ _ l::ms=>zI (b+l) ms
 | b,.nest _ _ l::ms=>zI (b+l) ms
 | b,.gap l::ms=>zI (b+l) ms
theorem kW {m:Im}(h:m.wd≠"mix")(b:Int)(ms:List Im):zI b (m::ms)=zI (b+m.mo) ms:=by
 cases m with
 | mix l=>exact absurd rfl h
 | _=>rfl
def jQ:Nat→List Im→List Nat
 | _,[]=>[]
 | i,.mix _::ms=>i::jQ (i+1) ms
 | i,.clip _ _ _ _ _ _::ms=>jQ (i+1) ms
 | i,.nest _ _ _::ms=>jQ (i+1) ms
 | i,.gap _::ms=>jQ (i+1) ms
theorem jx {m:Im}(h:m.wd≠"mix")(i:Nat)(ms:List Im):jQ i (m::ms)=jQ (i+1) ms:=by
 cases m with
 | mix l=>exact absurd rfl h
 | _=>rfl
theorem ve:∀ (i:Nat) (b:Int) (ms:List Im),(jQ i ms).length=(zI b ms).length
 | _,_,[]=>rfl
 | i,b,m::ms=>by
  by_cases h:m.wd="mix"
  · obtain⟨l,rfl⟩:=qAw h
    rw [jQ,zI,List.length_cons,List.length_cons,ve (i+1) b ms]
  · rw [jx h,kW h,ve (i+1) (b+m.mo) ms]
def xS:Int→Nat→List Im→Int→Option (Nat × Int)
 | _,_,[],_=>none
 | b,i,.mix l::ms,t=>if b - l.fdiv 2≤t∧t < b+(l - l.fdiv 2) then some (i,t - (b - l.fdiv 2)) else xS b (i+1) ms t
 | b,i,.clip _ _ _ _ _ l::ms,t=>xS (b+l) (i+1) ms t
 | b,i,.nest _ _ l::ms,t=>xS (b+l) (i+1) ms t
 | b,i,.gap l::ms,t=>xS (b+l) (i+1) ms t
theorem zp {m:Im}(h:m.wd≠"mix")(b:Int)(i:Nat)(ms:List Im)(t:Int):xS b i (m::ms) t=xS (b+m.mo) (i+1) ms t:=by
 cases m with
 | mix l=>exact absurd rfl h
 | _=>rfl
def qG4:List Nat→List (Int × Int × Int)→Int→Option (Nat × Int)
 | p::ps,(x,_,z)::ss,t=>if x≤t∧t < z then some (p,t - x) else qG4 ps ss t
 | _,_,_=>none
theorem qB0:∀ (b:Int) (i:Nat) (ms:List Im) (t:Int),qG4 (jQ i ms) (zI b ms) t=xS b i ms t
 | _,_,[],_=>rfl
 | b,i,m::ms,t=>by
  by_cases h:m.wd="mix"
  · obtain⟨l,rfl⟩:=qAw h
    rw [jQ,zI,qG4,xS,qB0 b (i+1) ms t]
  · rw [jx h,kW h,zp h,qB0 _ (i+1) ms t]
theorem qBm:∀ {b:Int} {i:Nat} {ms:List Im} {t:Int} {k:Nat} {j:Int},xS b i ms t=some (k,j)→∃ l,i≤k∧ms[k - i]? =some (.mix l)∧0≤j∧j < l
 | _,_,[],_,_,_,h=>by simp [xS] at h
 | b,i,m::ms,t,k,j,h=>by
  by_cases hm:m.wd="mix"
  · obtain⟨l,rfl⟩:=qAw hm
    rw [xS] at h
    by_cases hc:b - l.fdiv 2≤t∧t < b+(l - l.fdiv 2)
    · rw [if_pos hc] at h
      cases h
      exact⟨l,Nat.le_refl _,by simp,by omega,by omega⟩
    · rw [if_neg hc] at h
      obtain⟨l',h1,h2,h3⟩:=qBm h
      have e:k - i=(k - (i+1))+1:=by omega
      exact⟨l',by omega,by rw [e,List.getElem?_cons_succ];exact h2,h3⟩
  · rw [zp hm] at h
    obtain⟨l',h1,h2,h3⟩:=qBm h
    have e:k - i=(k - (i+1))+1:=by omega
    exact⟨l',by omega,by rw [e,List.getElem?_cons_succ];exact h2,h3⟩
def SpAt (H:Hp):List (Int × Int × Int)→List V→Prop
 | [],[]=>True
 | (x,y,z)::ss,v::vs=>(∃ p:Addr,v= .ref p∧H p=some (.tup [.int x,.int y,.int z]))∧SpAt H ss vs
 | _,_=>False
theorem SpAt.len {H:Hp}:∀ {ss:List (Int × Int × Int)} {vs:List V},SpAt H ss vs→vs.length=ss.length
 | [],[],_=>rfl
 | (_,_,_)::_,_::_,h=>by rw [List.length_cons,List.length_cons,SpAt.len h.2]
 | [],_::_,h=>h.elim
 | (_,_,_)::_,[],h=>h.elim
theorem SpAt.ts {H H':Hp}(e:TS H H'):∀ {ss:List (Int × Int × Int)} {vs:List V},SpAt H ss vs→SpAt H' ss vs
 | [],[],_=>trivial
 | (_,_,_)::_,_::_,⟨⟨p,h1,h2⟩,h⟩=>⟨⟨p,h1,e _ _ h2⟩,SpAt.ts e h⟩
 | [],_::_,h=>h.elim
 | (_,_,_)::_,[],h=>h.elim
theorem SpAt.app {H:Hp}:∀ {ss:List (Int × Int × Int)} {vs:List V} {ss':List (Int × Int × Int)} {vs':List V},SpAt H ss vs→SpAt H ss' vs'→SpAt H (ss++ss') (vs++vs')
 | [],[],_,_,_,h'=>h'
 | (_,_,_)::_,_::_,_,_,h,h'=>⟨h.1,h.2.app h'⟩
 | [],_::_,_,_,h,_=>h.elim
 | (_,_,_)::_,[],_,_,h,_=>h.elim
theorem SpAt.one {H:Hp}{x y z:Int}{p:Addr}(h:H p=some (.tup [.int x,.int y,.int z])):SpAt H [(x,y,z)] [.ref p]:=⟨⟨p,rfl,h⟩,trivial⟩
theorem SpAt.get {H:Hp}:∀ {ss:List (Int × Int × Int)} {vs:List V} {i:Nat} {v:V},SpAt H ss vs→vs[i]? =some v→∃ (x y z:Int) (p:Addr),ss[i]? =some (x,y,z)∧v= .ref p∧H p=some (.tup [.int x,.int y,.int z])
 | [],[],_,_,_,h=>by simp at h
 | (x,y,z)::_,u::_,0,v,h,e=>by
  have e':u=v:=by simpa using e
  subst e'
  obtain⟨⟨p,h1,h2⟩,_⟩:=h
  exact⟨x,y,z,p,rfl,h1,h2⟩
 | (_,_,_)::ss,_::vs,i+1,v,h,e=>by
  obtain⟨x,y,z,p,h1,h2⟩:=SpAt.get (i:=i) h.2 (by simpa using e)
  exact⟨x,y,z,p,by simpa using h1,h2⟩
 | [],_::_,_,_,h,_=>h.elim
 | (_,_,_)::_,[],_,_,h,_=>h.elim
inductive qDk (vs:List V)(H:Hp)(Q:VK)(_:XK):Prop
| mk (z:Addr) (ms:List Im) (_:vs=[.ref z]) (_:Tr H z ms) (_:ms.length≤300) (_:∀ (y:Addr) (us:List V) (H':Hp),Same H H'→H y=none→H' y=some (.lst us)→SpAt H' (zI 0 ms) us→Q (.ref y) H')
theorem qDw (T:Tx K mg a):FnOk P w K mg base CX0 2 a.A24 a.B24 ["track"] qDk:=by
 refine T.D24.F.ok jy (fun vs H Q E h=>?_) (fun cdv A outer s H vs Q E hr h=>?_)
 · obtain⟨z,ms,rfl,_⟩:=h
   rfl
 refine qJ fun _ Y=>?_
 obtain⟨z,ms,rfl,⟨xs,hz,his⟩,hl,kk⟩:=h
 apply Y
 refine⟨_,(qC (qS 1 jy.nd (jM qB))
  (qC (qS 2 jy.nd qF)
  (qC (xV PassesOwn.never rfl (jf (pv 0)) (ql (i:=3) jy.nd rfl (Or.inl rfl)) (qC (qv (qP zG (qK (pv 3)) qx (qR _)) (qG (xQ (qAj F.plainAttrs_list F.slot_list_append F.type_list_append jn (pv 1) (qA (qZ (qA (qL jL (pv 2) (qI T.D22 (xF T) hr rfl (qA (qK (pv 3)) qB))) (qA (pv 2) (qA (qL qc (pv 2) (qI T.D23 (kA T) hr rfl (qA (qK (pv 3)) qB))) qB)))) qB)))) qU)
  (qG (qS 2 jy.nd (qL qc (pv 2) (qI T.D15 (xE T) hr rfl (qA (pv 3) qB)))))))
  (qG (qN (pv 1)))))),?_⟩
 try dsimp only [jq,qk]
 refine⟨sL0,fun y hy=>?_⟩
 refine⟨_,rfl,z,rfl,⟨_,SqL.of ((qE hy _) _ _ hz)⟩,xu (K:=K) (a:=z) (xs:=xs) (fun i σ H'=>∃ (b:Int) (as:List (Int × Int × Int)) (o:Option V) (us:List V),σ=[some (.ref z),some (.ref y),some (.int b),o]∧H' y=some (.lst us)∧SpAt H' as us∧as.length≤i∧as++zI b (ms.drop i)=zI 0 ms∧Same H H')
  ⟨0,[],none,[],rfl,qD,trivial,by simp,rfl,qE hy _⟩ ?_ ?_ ?_⟩
 · rintro i σ H' hi ⟨b,as,o,us,rfl,_,_,_,_,e⟩
   exact SqL.of (e _ _ hz)
 · rintro i x σ H' hx ⟨b,as,o,us,rfl,hv,hsp,hal,hap,e⟩
   refine qJ fun _ Y=>?_
   obtain⟨m,hm,hIx⟩:=his.get hx
   have hI:=hIx.ts (qM e)
   have hi:i < ms.length:=(glt hm)
   rw [jz hm] at hap
   obtain⟨zi,xi,rfl,hzi,h0,h1⟩:=hI.opn
   apply Y
   refine⟨_,rfl,zi,xi,_,_,rfl,rfl,SqT.of hzi,h0,rfl,_,rfl,jp (fun c=>?_) (fun c=>?_)⟩
   · obtain⟨l,rfl⟩:=qAw (by simpa using c)
     refine qJ fun _ Y=>?_
     obtain⟨z2,e2,hz2⟩:=id hI
     cases e2
     apply Y
     rw [zI] at hap
     refine⟨_,rfl,.inl ⟨rfl,_,SqL.of hv⟩,_,rfl,ixO hz2 at1 ⟨_,rfl,_,_,rfl,rfl,_,rfl,_,rfl,ixO hz2 at1 ⟨_,rfl,_,_,rfl,rfl,sL3,fun g hg=>?_⟩⟩⟩
     have w1:=qE hg (.tup [.int (b - l.fdiv 2),.int b,.int (b+(l - l.fdiv 2))])
     refine⟨y,_,_,rfl,rfl,w1 _ _ hv,qW (by rw [hsp.len];omega),?_⟩
     have t2:TS (upd H' g (.tup [.int (b - l.fdiv 2),.int b,.int (b+(l - l.fdiv 2))])) (upd (upd H' g (.tup [.int (b - l.fdiv 2),.int b,.int (b+(l - l.fdiv 2))])) y (.lst (us++[.ref g]))):=j4 (w1 _ _ hv)
     refine⟨_,rfl,_,rfl,_,.mix l,rfl,(hI.ts (qM w1)).ts t2,_,_,rfl,rfl,b,as++[(b - l.fdiv 2,b,b+(l - l.fdiv 2))],some (.ref zi),us++[.ref g],?_,qD,((hsp.ts (qM w1)).app (.one qD)).ts t2,by simp;omega,?_,jR (e.trans w1) hy⟩
     · show [some (V.ref z),some (V.ref y),some (V.int (b+0)),some (V.ref zi)]=_
       rw [Int.add_zero]
     · rw [← hap];simp
   · have hne:m.wd≠"mix":=by simpa using c
     rw [kW hne] at hap
     exact⟨_,rfl,_,rfl,_,m,rfl,hI,_,_,rfl,rfl,_,as,_,us,rfl,hv,hsp,by omega,hap,e⟩
 · rintro σ H' ⟨b,as,o,us,rfl,hv,hsp,hal,hap,e⟩
   rw [his.len,List.drop_length,zI,List.append_nil] at hap
   rw [hap] at hsp
   exact⟨_,rfl,kk y us H' e hy hv hsp⟩
inductive qI2 (vs:List V)(H:Hp)(Q:VK)(_:XK):Prop
| mk (z:Addr) (ms:List Im) (t:Int) (_:vs=[.ref z,.int t]) (_:Tr H z ms) (_:ms.length≤300) (_:AtR H Q (xS 0 0 ms t))
theorem kZ:∀ (i:Nat) (ms:List Im) (m:Im),jQ i (ms++[m])=jQ i ms++(if m.wd="mix" then [i+ms.length] else [])
 | i,[],m=>by
  by_cases h:m.wd="mix"
  · obtain⟨l,rfl⟩:=qAw h
    rw [if_pos h];rfl
  · rw [if_neg h,List.nil_append,jx h];rfl
 | i,m'::ms,m=>by
  have ih:=kZ (i+1) ms m
  have e:i+1+ms.length=i+(m'::ms).length:=by rw [List.length_cons];omega
  rw [e] at ih
  by_cases h:m'.wd="mix"
  · obtain⟨l,rfl⟩:=qAw h
    rw [List.cons_append,jQ,jQ,ih];rfl
  · rw [List.cons_append,jx h,jx h,ih]
theorem qC5 (T:Tx K mg a):FnOk P w K mg base CX0 4 a.A26 a.B26 ["track","moment"] qI2:=by
 refine T.D26.F.ok vN (fun vs H Q E h=>?_) (fun cdv A outer s H vs Q E hr h=>?_)
 · obtain⟨z,ms,t,rfl,_⟩:=h
   rfl
 refine qJ fun _ Y=>?_
 obtain⟨z,ms,t,rfl,⟨xs,hz,his⟩,hl,kk⟩:=h
 apply Y
 have hxl:=his.len
 refine⟨_,(qC (qK7 (i:=2) [] [] vN.nd rfl rfl rfl (qIa rfl T.b_enumerate (qA (pv 0) qB)) (fun _ _ _ _=>(qP zG (jK (kT (K:=K) rfl) (pv 1) qF (fun _ _=>rfl)) qx (qR _))) (fun _ _ _ _=>(pv 0)))
  (qC (xV PassesOwn.never rfl (qO9 rfl T.b_zip (qA (pv 2) (qA (qI T.D24 (qDw T) hr rfl (qA (pv 0) qB)) qB))) (qDv rfl (jV (ql (i:=3) vN.nd rfl (Or.inl rfl)) (jV (ql (i:=4) vN.nd rfl (Or.inl rfl)) qAa))) (qG (qv (PW.pt (zy (qP qHp (qK (pv 4)) (pv 1) (qR _)) (zf (qP kX (pv 1) (qK (pv 4)) (qR _))))) (qG (qN (qZ (qA (pv 3) (qA (qL jL (pv 1) (qK (pv 4))) qB))))) qU)))
  (qG (qN vz)))),?_⟩
 try dsimp only [jq,qk]
 refine⟨_,rfl,z,rfl,⟨_,SqL.of hz⟩,qG1 (K:=K) (a:=z) (xs:=xs) (fun i acc H'=>Same H H'∧acc=(jQ 0 (ms.take i)).map (fun(n:Nat)=>V.int (n:Int))∧acc.length≤i) ⟨Same.refl _,rfl,by simp⟩ ?_ ?_ ?_⟩
 · rintro i acc H' hi ⟨e,rfl,hal⟩
   exact⟨SqL.of (e _ _ hz),qW (by omega)⟩
 · rintro i x acc H' p hi hx ⟨e,rfl,hal⟩ hp
   refine qJ fun _ Y=>?_
   obtain⟨m,hm,hIx⟩:=his.get hx
   have w1:=qE hp (.tup [.int (i:Int),x])
   have hI:=hIx.ts (qM (e.trans w1))
   obtain⟨zi,xi,rfl,hzi,h0,h1⟩:=hI.opn
   apply Y
   have htk:ms.take (i+1)=ms.take i++[m]:=by rw [List.take_add_one,hm];rfl
   have hlt:(ms.take i).length=i:=by rw [List.length_take];omega
   refine⟨_,rfl,zi,xi,_,_,rfl,rfl,SqT.of hzi,h0,rfl,_,rfl,jp (fun c=>?_) (fun c=>?_)⟩
   · have hw:m.wd="mix":=by simpa using c
     refine⟨_,rfl,Nxt.mk hi ⟨e.trans w1,?_,by simp at hal ⊢;omega⟩⟩
     rw [htk,kZ,if_pos hw,hlt,List.map_append,Nat.zero_add];rfl
   · have hw:¬ m.wd="mix":=by simpa using c
     refine Nxt.mk hi ⟨e.trans w1,?_,by omega⟩
     rw [htk,kZ,if_neg hw,List.append_nil]
 rintro acc H1 ⟨e1,rfl,hal⟩ pl hpl
 rw [hxl,List.take_length] at*
 have w2:=qE hpl (.lst ((jQ 0 ms).map fun(n:Nat)=>V.int (n:Int)))
 have hP:(upd H1 pl (.lst ((jQ 0 ms).map fun(n:Nat)=>V.int (n:Int)))) pl=some (.lst ((jQ 0 ms).map fun(n:Nat)=>V.int (n:Int))):=qD
 have e2:=e1.trans w2
 generalize upd H1 pl (.lst ((jQ 0 ms).map fun(n:Nat)=>V.int (n:Int)))=H2 at hP e2 ⊢
 have tr2:Tr H2 z ms:=⟨xs,e2 _ _ hz,his.ts (qM e2)⟩
 refine⟨_,rfl,_,rfl,z,ms,rfl,tr2,hl,fun sp us H3 e3 _ hsp hus=>?_⟩
 have hP3:=e3 _ _ hP
 have hul:=hus.len
 refine⟨pl,sp,rfl,⟨_,SqL.of hP3⟩,⟨_,SqL.of hsp⟩,qM0 (K:=K) (a:=pl) (b:=sp) (xs:=(jQ 0 ms).map fun(n:Nat)=>V.int (n:Int)) (ys:=us) (fun i σ H'=>∃ (o1 o2:Option V),σ=[some (.ref z),some (.int t),some (.ref pl),o1,o2]∧qG4 ((jQ 0 ms).drop i) ((zI 0 ms).drop i) t=xS 0 0 ms t∧Same H3 H') ?_ ⟨none,none,rfl,qB0 0 0 ms t,Same.refl _⟩ ?_ ?_ ?_⟩
 · rw [List.length_map,hul,ve 0 0 ms]
 · rintro i σ H' hi ⟨o1,o2,rfl,_,e⟩
   exact⟨SqL.of (e _ _ hP3),SqL.of (e _ _ hsp)⟩
 · rintro i x y σ H' p hx hy ⟨o1,o2,rfl,hap,e⟩ hp
   refine qJ fun _ Y=>?_
   obtain⟨n,hn,rfl⟩:∃ n:Nat,(jQ 0 ms)[i]? =some n∧x= .int (n:Int):=by
    rw [List.getElem?_map] at hx
    cases e:(jQ 0 ms)[i]? with
    | none=>rw [e] at hx;cases hx
    | some m=>rw [e] at hx;exact⟨m,rfl,(Option.some.inj hx).symm⟩
   obtain⟨x0,y0,z0,q,hs,rfl,hq⟩:=hus.get hy
   apply Y
   have w4:=qE hp (.tup [.int (n:Int),.ref q])
   have e4:=e.trans w4
   have hq4:=e4 _ _ hq
   rw [jz hn,jz hs,qG4] at hap
   refine⟨p,_,rfl,SqT.of qD,rfl,_,_,rfl,_,_,rfl,rfl,?_⟩
   generalize upd H' p (.tup [.int (n:Int),.ref q])=H5 at e4 hq4 ⊢
   have a0:atI [V.int x0,.int y0,.int z0] 0=some (.int x0):=rfl
   have a2:atI [V.int x0,.int y0,.int z0] 2=some (.int z0):=rfl
   refine(ixO hq4 a0 ⟨_,rfl,_,_,rfl,rfl,_,rfl,?_⟩)
   refine jp (fun c1=>?_) (fun c1=>?_)
   · refine⟨_,rfl,ixO hq4 a2 ⟨_,_,rfl,rfl,_,rfl,?_⟩⟩
     refine jp (fun c2=>?_) (fun c2=>?_)
     · rw [if_pos ⟨by simpa using c1,by simpa using c2⟩] at hap
       rw [← hap] at kk
       refine⟨_,rfl,_,rfl,ixO hq4 a0 ⟨_,_,rfl,rfl,sL2,fun f hf=>?_⟩⟩
       exact kk f _ (((e2.trans e3).trans e4).trans (qE hf _)) qD
     · rw [if_neg (fun c=>c2 (by simpa using c.2))] at hap
       exact⟨_,_,rfl,hap,e4⟩
   · rw [if_neg (fun c=>c1 (by simpa using c.1))] at hap
     exact xf ⟨_,_,rfl,hap,e4⟩
 · rintro σ H' ⟨o1,o2,rfl,hap,e⟩
   rw [List.length_map,List.drop_length] at hap
   have hn:qG4 [] ((zI 0 ms).drop (jQ 0 ms).length) t=none:=by
    generalize (zI 0 ms).drop (jQ 0 ms).length=ss
    cases ss <;> rfl
   rw [hn] at hap
   rw [← hap] at kk
   exact kk H' ((e2.trans e3).trans e)
set_option genInjectivity true in
structure Te where
 n:Str
 pic:Int
 p:Int
 q:Int
def Te.d (t:Te):D:=.tup [.leaf (.str t.n),.leaf (.int t.pic),.tup [.leaf (.int t.p),.leaf (.int t.q)]]
def IsTe (K:W.Frag)(H:Hp)(t:Te)(v:V):Prop:=∃ z s:Addr,v= .ref z∧H z=some (.tup [.str t.n,.int t.pic,.ref s])∧SqT K H s [.int t.p,.int t.q]
def IsTes (K:W.Frag)(H:Hp):List Te→List V→Prop
 | [],[]=>True
 | t::ts,v::vs=>IsTe K H t v∧IsTes K H ts vs
 | _,_=>False
theorem IsTe.same {H H':Hp}(e:Same H H'){t:Te}{v:V}(h:IsTe K H t v):IsTe K H' t v:=
 let ⟨z,s,h1,h2,h3⟩:=h;⟨z,s,h1,e _ _ h2,L3.Same.tup e h3⟩
theorem IsTes.same {H H':Hp}(e:Same H H'):∀ {ts:List Te} {vs:List V},IsTes K H ts vs→IsTes K H' ts vs
 | [],[],_=>trivial
 | _::_,_::_,h=>⟨h.1.same e,IsTes.same e h.2⟩
 | [],_::_,h=>h.elim
 | _::_,[],h=>h.elim
theorem IsTes.len {H:Hp}:∀ {ts:List Te} {vs:List V},IsTes K H ts vs→vs.length=ts.length
 | [],[],_=>rfl
 | _::_,_::_,h=>by rw [List.length_cons,List.length_cons,IsTes.len h.2]
 | [],_::_,h=>h.elim
 | _::_,[],h=>h.elim
theorem IsTe.rep {H:Hp}{t:Te}{v:V}(h:IsTe K H t v):Rep K H t.d v:=by
 obtain⟨z,s,rfl,h2,h3⟩:=h
 unfold Te.d Rep
 refine⟨z,_,rfl,SqT.of h2,?_⟩
 unfold Reps Reps Reps Reps
 refine⟨?_,?_,?_,trivial⟩
 · unfold Rep;exact⟨rfl,rfl⟩
 · unfold Rep;exact⟨rfl,rfl⟩
 · unfold Rep;exact⟨s,_,rfl,h3,zv (xs:=[.int t.p,.int t.q]) rfl⟩
theorem IsTes.rep {H:Hp}:∀ {ts:List Te} {vs:List V},IsTes K H ts vs→Reps K H (ts.map Te.d) vs
 | [],[],_=>by unfold List.map Reps;trivial
 | _::_,_::_,h=>by unfold List.map Reps;exact⟨h.1.rep,h.2.rep⟩
 | [],_::_,h=>h.elim
 | _::_,[],h=>h.elim
theorem qHz (t:Te):eqD t.d t.d=true:=by simp [Te.d,eqD,xB,eqV]
theorem qAy:∀ ts:List Te,xB (ts.map Te.d) (ts.map Te.d)=true
 | []=>by simp [xB]
 | m::ms=>by unfold List.map xB;rw [qHz,qAy ms];rfl
theorem qE2:∀ ts:List Te,xk (ts.map Te.d)≤2
 | []=>by simp [xk]
 | m::ms=>by
  have h2:=qE2 ms
  have h1:dep m.d≤2:=by simp [Te.d,dep,xk]
  unfold List.map xk
  omega
def TL (K:W.Frag)(H:Hp)(z:Addr)(ts:List Te):Prop:=∃ vs,H z=some (.lst vs)∧IsTes K H ts vs
theorem TL.same {H H':Hp}{z:Addr}{ts:List Te}(e:Same H H')(h:TL K H z ts):TL K H' z ts:=let ⟨vs,h1,h2⟩:=h;⟨vs,e _ _ h1,h2.same e⟩
theorem TL.rep {H:Hp}{z:Addr}{ts:List Te}(h:TL K H z ts):Rep K H (.lst (ts.map Te.d)) (.ref z):=by
 obtain⟨vs,h1,h2⟩:=h
 unfold Rep
 exact⟨z,vs,rfl,SqL.of h1,h2.rep⟩
theorem qSb {H:Hp}{x y:Addr}{ts:List Te}{Q:VK}(h1:TL K H x ts)(h2:TL K H y ts)(q:Q (.bl false) H):qHs K true (.ref x) (.ref y) H Q:=by
 refine⟨_,_,h1.rep,h2.rep,rfl,by have:=qE2 ts;unfold dep;omega,?_⟩
 have e:eqD (.lst (ts.map Te.d)) (.lst (ts.map Te.d))=true:=by unfold eqD;exact qAy ts
 rw [e]
 exact q
theorem qNw {H:Hp}{y:Addr}(h2:H y=some (.lst [])):Rep K H (.lst []) (.ref y):=by
 unfold Rep;exact⟨y,[],rfl,SqL.of h2,by unfold Reps;trivial⟩
theorem qSf {H:Hp}{x y:Addr}{ts:List Te}{Q:VK}(h1:TL K H x ts)(h2:H y=some (.lst []))(q:Q (.bl (!ts.isEmpty)) H):qHs K true (.ref x) (.ref y) H Q:=by
 refine⟨_,.lst [],h1.rep,qNw h2,rfl,by have:=qE2 ts;unfold dep;omega,?_⟩
 have e:eqD (.lst (ts.map Te.d)) (.lst [])=ts.isEmpty:=by cases ts <;> simp [eqD,xB]
 rw [e]
 exact q
def Im.g:Im→Prop
 | .clip _ p q r s l=>0 < q∧0 < s∧p.natAbs < 2 ^ 400∧q.natAbs < 2 ^ 400∧r.natAbs < 2 ^ 400∧s.natAbs < 2 ^ 400∧1≤l∧l < 2 ^ 400
 | .nest _ b l=>0≤b∧b < 2 ^ 60∧1≤l
 | .gap l=>1≤l
 | .mix l=>1≤l∧l < 2 ^ 60
theorem Im.g_mo {m:Im}(h:m.g):0≤m.mo:=by
 cases m with
 | clip n p q r s l=>have:=h.2.2.2.2.2.2.1;show 0≤l;omega
 | nest n b l=>have:=h.2.2;show 0≤l;omega
 | gap l=>have h:1≤l:=h;show 0≤l;omega
 | mix l=>exact Int.le_refl _
def qJg (ms:List Im):Prop:=∀ (i:Nat) (l:Int),ms[i]? =some (.mix l)→1≤i∧(∃ n p q r s k,ms[i - 1]? =some (.clip n p q r s k))∧∃ n p q r s k,ms[i+1]? =some (.clip n p q r s k)
def qHi (p q r s k:Int):Int:=(p*s+k*r*q).fdiv (q*s)
def zx (ms:List Im)(i:Nat)(j:Int):List Te:=
 match ms[i]?,ms[i - 1]?,ms[i+1]? with
 | some (.mix l),some (.clip n p q r s k),some (.clip n' p' q' r' s' _)=>[⟨n,qHi p q r s (k+(j - l.fdiv 2)),qt (l - j) (l+1),qj (l - j) (l+1)⟩,⟨n',qHi p' q' r' s' (j - l.fdiv 2),qt (j+1) (l+1),qj (j+1) (l+1)⟩]
 | _,_,_=>[]
def qd (f:Str→Int→List Te)(ms:List Im)(t:Int):List Te:=
 match xS 0 0 ms t with
 | some (i,j)=>zx ms i j
 | none=>match jO 0 0 ms t with
  | none=>[]
  | some (i,d)=>match ms[i]? with
   | some (.clip n p q r s _)=>[⟨n,qHi p q r s d,1,1⟩]
   | some (.nest nm b _)=>f nm (b+d)
   | _=>[]
def ja:List (List Te)→List Te
 | []=>[]
 | x::r=>if x.isEmpty then ja r else x
abbrev Rms:=Str→Option (List (List Im))
def jE (rm:Rms):Nat→Str→Int→List Te
 | 0,_,_=>[]
 | n+1,nm,t=>ja (((rm nm).getD []).map fun ms=>qd (jE rm n) ms t)
def RoomAt (H:Hp)(rz:Addr)(rm:Rms):Prop:=∃ (re td:Addr) (kvs:List (Key × V)),H rz=some (.tup [.ref re,.ref td])∧Rd H td (.dK kvs)∧∀ nm ts,rm nm=some ts→∃ v,j3 kvs (Sum.inr nm)=some v∧TabAt H v ts
theorem RoomAt.same {H H':Hp}(e:Same H H'){rz:Addr}{rm:Rms}(h:RoomAt H rz rm):RoomAt H' rz rm:=
 let ⟨re,td,kvs,h1,h2,h3⟩:=h;⟨re,td,kvs,e _ _ h1,qFa e h2,fun nm ts q=>let ⟨v,a,b⟩:=h3 nm ts q;⟨v,a,b.same e⟩⟩
def Lv (rm:Rms):Nat→Str→Prop
 | 0,_=>False
 | n+1,nm=>∃ ts,rm nm=some ts∧ts.length≤300∧∀ ms∈ts,ms.length≤300∧qJg ms∧∀ m∈ms,m.g∧∀ nm' b l,m= .nest nm' b l→Lv rm n nm'
def LvT (rm:Rms)(n:Nat)(ms:List Im):Prop:=ms.length≤300∧qJg ms∧∀ m∈ms,m.g∧∀ nm' b l,m= .nest nm' b l→Lv rm n nm'
theorem qB6:∀ {b:Int} {i:Nat} {ms:List Im} {t:Int} {k:Nat} {d:Int},jO b i ms t=some (k,d)→(∀ m∈ms,m.g)→0≤b→0≤d∧d≤t
 | _,_,[],_,_,_,h,_,_=>by simp [jO] at h
 | b,i,m::ms,t,k,d,h,hg,hb=>by
  rw [jO] at h
  by_cases hc:b≤t∧t < b+m.mo
  · rw [if_pos hc] at h
    cases h
    omega
  · rw [if_neg hc] at h
    have:=Im.g_mo (hg m (by simp))
    exact qB6 h (fun x hx=>hg x (by simp [hx])) (by omega)
theorem kL:∀ {b:Int} {i:Nat} {ms:List Im} {t:Int} {k:Nat} {d:Int},jO b i ms t=some (k,d)→i≤k∧∃ m,ms[k - i]? =some m
 | _,_,[],_,_,_,h=>by simp [jO] at h
 | b,i,m::ms,t,k,d,h=>by
  rw [jO] at h
  by_cases hc:b≤t∧t < b+m.mo
  · rw [if_pos hc] at h
    cases h
    exact⟨Nat.le_refl _,m,by simp⟩
  · rw [if_neg hc] at h
    obtain⟨h1,m',h2⟩:=kL h
    have e:k - i=(k - (i+1))+1:=by omega
    exact⟨by omega,m',by rw [e,List.getElem?_cons_succ];exact h2⟩
theorem j9 {i:Int}(h:i.natAbs < 2 ^ 400):Sm2 i:=Nat.lt_of_lt_of_le h (Nat.pow_le_pow_right (by decide) (by decide))
inductive qAl (K:W.Frag)(vs:List V)(H:Hp)(Q:VK)(_:XK):Prop
| mk (z:Addr) (ms:List Im) (i:Nat) (j l:Int) (_:vs=[.ref z,.int (i:Int),.int j]) (_:Tr H z ms) (_:qJg ms) (_:(∀ m∈ms,m.g)) (_:ms[i]? =some (.mix l)) (_:0≤j) (_:j < l) (_:∀ (y:Addr) (H':Hp),Same H H'→H y=none→TL K H' y (zx ms i j)→Q (.ref y) H')
theorem qAu (T:Tx K mg a):FnOk P w K mg base CX0 6 a.A27 a.B27 ["track","place","j"] (qAl K):=by
 refine T.D27.F.ok qz (fun vs H Q E h=>?_) (fun cdv A outer s H vs Q E hr h=>?_)
 · obtain⟨z,ms,i,j,l,rfl,_⟩:=h
   rfl
 refine qJ fun _ Y=>?_
 obtain⟨z,ms,i,j,l,rfl,⟨xs,hz,his⟩,hok,hg,hm,j0,j1,kk⟩:=h
 apply Y
 refine⟨_,(qC (qS 3 qz.nd (qK (jK qf (pv 0) (pv 1) (fun _ _=>rfl))))
  (qC (qS 4 qz.nd (jK qf (pv 0) (qL jL (pv 1) qF) (fun _ _=>rfl)))
  (qC (qS 5 qz.nd (jK qf (pv 0) (qL qc (pv 1) qF) (fun _ _=>rfl)))
  (qC (qS 6 qz.nd (qI T.D25 (kh T) hr rfl (qA (pv 3) (qA (pv 2) qB))))
  (qC (qS 7 qz.nd (qL jL (pv 2) (qI T.D22 (xF T) hr rfl (qA (pv 3) qB))))
  (qC (qS 8 qz.nd (qZ (qA (qK (pv 4)) (qA (qI T.D10 (xw T) hr rfl (qA (pv 4) (qA (qL qc (qK (pv 4)) (pv 7)) qB))) (qA (qK (pv 6)) qB)))))
  (qC (qS 9 qz.nd (qZ (qA (qK (pv 5)) (qA (qI T.D10 (xw T) hr rfl (qA (pv 5) (qA (pv 7) qB))) (qA (qK (pv 6)) qB)))))
  (qG (qN (jM (qA (pv 8) (qA (pv 9) qB)))))))))))),?_⟩
 try dsimp only [jq,qk]
 refine qJ fun _ Y=>?_
 obtain⟨i1,⟨n,p,q,r,s1,k,ha⟩,n',p',q',r',s2,k',hb⟩:=hok i l hm
 have gm:=hg _ (List.mem_of_getElem? hm)
 have ga:=hg _ (List.mem_of_getElem? ha)
 have gb:=hg _ (List.mem_of_getElem? hb)
 have el:zx ms i j=[⟨n,qHi p q r s1 (k+(j - l.fdiv 2)),qt (l - j) (l+1),qj (l - j) (l+1)⟩,⟨n',qHi p' q' r' s2 (j - l.fdiv 2),qt (j+1) (l+1),qj (j+1) (l+1)⟩]:=by
  unfold zx;rw [hm,ha,hb]
 rw [el] at kk
 have l60:l < 2 ^ 60:=gm.2
 obtain⟨vm,hvm,Im⟩:=his.get' hm
 obtain⟨va,hva,Ia⟩:=his.get' ha
 obtain⟨vb,hvb,Ib⟩:=his.get' hb
 obtain⟨zm,rfl,hzm⟩:=id Im
 apply Y
 have am:atI xs (i:Int)=some (.ref zm):=jC hvm
 have aa:atI xs ((i:Int) - 1)=some va:=by
  have e:(i:Int) - 1=((i - 1:Nat):Int):=by omega
  rw [e];exact jC hva
 have ab:atI xs ((i:Int)+1)=some vb:=by
  have e:(i:Int)+1=((i+1:Nat):Int):=by omega
  rw [e];exact jC hvb
 have hS:=SqL.of (K:=K) hz
 refine⟨_,rfl,_,rfl,z,_,_,_,rfl,rfl,hS,am,ixT (SqT.of hzm) at1 ?_⟩
 refine⟨_,rfl,_,rfl,_,_,rfl,rfl,z,_,_,_,rfl,rfl,hS,aa,?_⟩
 refine⟨_,rfl,_,rfl,_,_,rfl,rfl,z,_,_,_,rfl,rfl,hS,ab,?_⟩
 refine⟨_,rfl,_,rfl,l,j,rfl,j0,j1,l60,fun sh H1 w1 ⟨sx,sy,hsh,hsx,hsy⟩=>?_⟩
 refine⟨_,rfl,_,rfl,l,rfl,_,_,rfl,rfl,?_⟩
 have Ia1:=Ia.ts (qM w1)
 have Ib1:=Ib.ts (qM w1)
 refine qJ fun _ Y=>?_
 obtain⟨za,xa,ya,rfl,hza,hxa,hya⟩:=id Ia1
 obtain⟨zb,xb,yb,rfl,hzb,hxb,hyb⟩:=id Ib1
 obtain⟨q0,s0,bp,bq,br,bs,k0,k1⟩:=id ga
 obtain⟨q0',s0',bp',bq',br',bs',_,_⟩:=id gb
 apply Y
 have hf:l.fdiv 2≤l∧0≤l.fdiv 2:=by
  have:=qr (p:=l) (q:=2) (by decide)
  omega
 have bk1:Sm2 (k+(j - l.fdiv 2)):=by
  have e:(2:Int) ^ 400+2 ^ 61 < 2 ^ 401:=by decide
  have:(k+(j - l.fdiv 2)).natAbs < 2 ^ 401:=by omega
  exact Nat.lt_of_lt_of_le this (Nat.pow_le_pow_right (by decide) (by decide))
 have bk2:Sm2 (j - l.fdiv 2):=by
  have:(j - l.fdiv 2).natAbs < 2 ^ 61:=by omega
  exact Nat.lt_of_lt_of_le this (Nat.pow_le_pow_right (by decide) (by decide))
 refine(ixO hza qAi ⟨_,rfl,ixO hza qHa ⟨_,rfl,_,_,rfl,rfl,?_⟩⟩)
 refine⟨_,n,p,q,r,s1,k,_,rfl,qC1 Ia1,q0,s0,j9 bp,j9 bq,j9 br,j9 bs,bk1,fun H2 w2=>?_⟩
 refine(ixO (w2 _ _ hsh) at0 ⟨sL3,fun f1 hf1=>?_⟩)
 have w3:=qE hf1 (.tup [.str n,.int ((p*s1+(k+(j - l.fdiv 2))*r*q).fdiv (q*s1)),.ref sx])
 have w23:=w2.trans w3
 refine(ixO (w23 _ _ hzb) qAi ⟨_,rfl,_,rfl,?_⟩)
 refine⟨_,n',p',q',r',s2,k',_,rfl,qC1 (Ib1.ts (qM w23)),q0',s0',j9 bp',j9 bq',j9 br',j9 bs',bk2,fun H4 w4=>?_⟩
 have w24:=w23.trans w4
 refine(ixO (w24 _ _ hsh) at1 ⟨sL3,fun f2 hf2=>?_⟩)
 have w5:=qE hf2 (.tup [.str n',.int ((p'*s2+(j - l.fdiv 2)*r'*q').fdiv (q'*s2)),.ref sy])
 refine⟨_,rfl,_,rfl,sL2,fun y hy=>?_⟩
 have w6:=qE hy (.lst [.ref f1,.ref f2])
 have w25:=(w24.trans w5).trans w6
 refine kk y _ (w1.trans w25) ((w1.trans (w24.trans w5)).free hy) ⟨_,qD,⟨f1,sx,rfl,w6 _ _ (w5 _ _ (w4 _ _ qD)),SqT.of (w25 _ _ hsx)⟩,⟨f2,sy,rfl,w6 _ _ qD,SqT.of (w25 _ _ hsy)⟩,trivial⟩
inductive xl (K:W.Frag)(n:Nat)(vs:List V)(H:Hp)(Q:VK)(_:XK):Prop
| mk (rz:Addr) (nm:Str) (t:Int) (rm:Rms) (_:vs=[.ref rz,.str nm,.int t]) (_:RoomAt H rz rm) (_:Lv rm n nm) (_:0≤t) (_:t+n*2 ^ 61 < 2 ^ 400) (_:∀ (y:Addr) (H':Hp),Same H H'→H y=none→TL K H' y (jE rm n nm t)→Q (.ref y) H')
inductive vn (K:W.Frag)(n:Nat)(vs:List V)(H:Hp)(Q:VK)(_:XK):Prop
| mk (z rz:Addr) (ms:List Im) (t:Int) (rm:Rms) (_:vs=[.ref z,.int t,.ref rz]) (_:Tr H z ms) (_:LvT rm n ms) (_:(n≠0→RoomAt H rz rm)) (_:0≤t) (_:t+n*2 ^ 61+2 ^ 60 < 2 ^ 400) (_:∀ (y:Addr) (H':Hp),Same H H'→H y=none→TL K H' y (qd (jE rm n) ms t)→Q (.ref y) H')
theorem v9 (T:Tx K mg a)(n:Nat)(IH:∀ {base:Heap},FnOk P w K mg base CX0 (2*n+7) a.A32 a.B32 ["room","name","moment"] (xl K n)):
 FnOk P w K mg base CX0 (2*n+8) a.A31 a.B31 ["track","moment","room"] (vn K n):=by
 refine T.D31.F.ok zn (fun vs H Q E h=>?_) (fun cdv A outer s H vs Q E hrn h=>?_)
 · obtain⟨z,rz,ms,t,rm,rfl,_⟩:=h
   rfl
 refine qJ fun _ Y=>?_
 obtain⟨z,rz,ms,t,rm,rfl,tT,⟨hml,hmx,hgs⟩,hrm,t0,t1,kk⟩:=h
 apply Y
 have hr:=hrn.mono (show 7≤2*n+7 by omega)
 refine⟨_,(qC (qS 3 zn.nd (qI T.D26 (qC5 T) hr rfl (qA (pv 0) (qA (pv 1) qB))))
  (qC (qv (zz (qCc (pv 3))) (qG (qN (qI T.D27 (qAu T) hr rfl (qA (pv 0) (qA (qK (pv 3)) (qA (qK (pv 3)) qB)))))) qU)
  (qC (qS 4 zn.nd (qI T.D17 (vk T) hr rfl (qA (pv 0) (qA (pv 1) qB))))
  (qC (qv (zz (qA6 (pv 4))) (qG (qN (jM qB))) qU)
  (qC (qS 5 zn.nd (jK qf (pv 0) (qK (pv 4)) (fun _ _=>rfl)))
  (qC (qv (qP zG (qK (pv 5)) qx (qR _)) (qG (qN (jM (qA (qZ (qA (qK (pv 5)) (qA (qI T.D10 (xw T) hr rfl (qA (pv 5) (qA (qK (pv 4)) qB))) (qA (xR (v:=.ref a.n_WHOLE_SHARE) rfl T.g_WHOLE_SHARE rfl) qB)))) qB)))) qU)
  (qC (qv (qP zG (qK (pv 5)) qx (qR _)) (qG (qN (qI T.D32 IH hrn rfl (qA (pv 2) (qA (qK (pv 5)) (qA (qL qc (qK (pv 5)) (qK (pv 4))) qB))) (Nat.le_refl _)))) qU)
  (qG (qN (jM qB)))))))))),?_⟩
 try dsimp only [jq,qk]
 have hg:∀ m∈ms,m.g:=fun m hm=>(hgs m hm).1
 refine qJ fun _ Y=>?_
 obtain⟨xs,hz,his⟩:=id tT
 apply Y
 refine⟨_,rfl,_,rfl,z,ms,t,rfl,tT,hml,?_⟩
 cases hmf:xS 0 0 ms t with
 | some c=>
  obtain⟨i,j⟩:=c
  intro p H1 e1 hp
  have et:qd (jE rm n) ms t=zx ms i j:=by unfold qd;rw [hmf]
  rw [et] at kk
  refine qJ fun _ Y=>?_
  obtain⟨l,_,hm,j0,j1⟩:=qBm hmf
  apply Y
  rw [Nat.sub_zero] at hm
  refine⟨_,rfl,_,rfl,qKs (by intro z;cases z) ?_⟩
  refine⟨_,rfl,ixO hp at0 (ixO hp at1 ?_)⟩
  exact⟨z,ms,i,j,l,rfl,tT.same e1,hmx,hg,hm,j0,j1,fun y H2 e2 hy ht=>kk y H2 (e1.trans e2) (e1.free hy) ht⟩
 | none=>
  intro H1 e1
  refine⟨_,rfl,_,rfl,qLu rfl ?_⟩
  refine⟨_,rfl,_,rfl,z,ms,t,rfl,tT.same e1,?_⟩
  cases hit:jO 0 0 ms t with
  | none=>
   intro H2 e2
   have et:qd (jE rm n) ms t=[]:=by unfold qd;rw [hmf,hit]
   rw [et] at kk
   refine⟨_,rfl,_,rfl,jp (fun _=>?_) (fun c=>absurd (by simp) c)⟩
   refine⟨sL0,fun y hy=>?_⟩
   exact kk y _ ((e1.trans e2).trans (qE hy _)) ((e1.trans e2).free hy) ⟨[],qD,trivial⟩
  | some c=>
   obtain⟨i,d⟩:=c
   intro p H2 e2 hp
   refine qJ fun _ Y=>?_
   obtain⟨d0,d1⟩:=qB6 hit hg (by decide)
   obtain⟨_,m,hm⟩:=kL hit
   rw [Nat.sub_zero] at hm
   obtain⟨v,hv,hI⟩:=his.get' hm
   apply Y
   have e12:=e1.trans e2
   have hI2:=hI.ts (qM e12)
   refine⟨_,rfl,_,rfl,jp (fun c=>absurd c (by simp)) (fun _=>?_)⟩
   refine⟨_,rfl,ixO hp at0 ⟨z,_,_,_,rfl,rfl,SqL.of (e12 _ _ hz),jC hv,?_⟩⟩
   refine qJ fun _ Y=>?_
   obtain⟨gm,hnest⟩:=hgs m (List.mem_of_getElem? hm)
   obtain⟨zi,xi,rfl,hzi,h0,h1⟩:=hI2.opn
   apply Y
   refine⟨_,rfl,zi,xi,_,_,rfl,rfl,SqT.of hzi,h0,rfl,_,rfl,?_⟩
   cases m with
   | clip nm p' q r s1 l=>
    have et:qd (jE rm n) ms t=[⟨nm,qHi p' q r s1 d,1,1⟩]:=by unfold qd;rw [hmf,hit];simp only [hm]
    rw [et] at kk
    refine jp (fun _=>?_) (fun c=>absurd (by show decide (V.str "clip"=V.str "clip")=true;simp) c)
    refine qJ fun _ Y=>?_
    obtain⟨q0,s0,bp,bq,br,bs,_,_⟩:=gm
    obtain⟨z2,x2,y2,e3,hz2,hx2,hy2⟩:=id hI2
    cases e3
    apply Y
    refine(ixO hz2 qAi ⟨_,rfl,ixO hp at1 ?_⟩)
    refine⟨_,nm,p',q,r,s1,l,d,rfl,qC1 hI2,q0,s0,j9 bp,j9 bq,j9 br,j9 bs,j9 (by have:(0:Int)≤n*2 ^ 61:=Int.mul_nonneg (by omega) (by decide);omega),fun H3 w3=>?_⟩
    refine⟨sL3,fun f hf=>⟨sL1,fun y hy=>?_⟩⟩
    have w4:=qE hf (.tup [.str nm,.int ((p'*s1+d*r*q).fdiv (q*s1)),.ref a.n_WHOLE_SHARE])
    have w5:=qE hy (.lst [.ref f])
    exact kk y _ (((e12.trans w3).trans w4).trans w5) (((e12.trans w3).trans w4).free hy) ⟨_,qD,⟨f,_,rfl,w5 _ _ qD,T.sq_WHOLE_SHARE _⟩,trivial⟩
   | nest nm b l=>
    have et:qd (jE rm n) ms t=jE rm n nm (b+d):=by unfold qd;rw [hmf,hit];simp only [hm]
    rw [et] at kk
    refine jp (fun c=>absurd (show decide (V.str "nest"=V.str "clip")=true from c) (by rw [qMa];decide+kernel)) (fun _=>?_)
    refine⟨_,rfl,zi,xi,_,_,rfl,rfl,SqT.of hzi,h0,rfl,_,rfl,?_⟩
    refine jp (fun _=>?_) (fun c=>absurd (by show decide (V.str "nest"=V.str "nest")=true;simp) c)
    have lv:=hnest nm b l rfl
    have n0:n≠0:=by
     intro q
     subst q
     exact lv
    refine qJ fun _ Y=>?_
    obtain⟨b0,b1,l1⟩:=gm
    obtain⟨z2,e3,hz2⟩:=id hI2
    cases e3
    apply Y
    have a1:atI [V.str "nest",.str nm,.int b,.int l] 1=some (.str nm):=rfl
    have a2:atI [V.str "nest",.str nm,.int b,.int l] 2=some (.int b):=rfl
    refine⟨_,rfl,ixO hz2 a1 (ixO hz2 a2 (ixO hp at1 ⟨_,_,rfl,rfl,?_⟩))⟩
    refine⟨rz,nm,b+d,rm,rfl,(hrm n0).same e12,lv,by omega,by omega,fun y H3 e3 hy ht=>kk y H3 (e12.trans e3) (e12.free hy) ht⟩
   | gap l=>
    have et:qd (jE rm n) ms t=[]:=by unfold qd;rw [hmf,hit];simp only [hm]
    rw [et] at kk
    refine jp (fun c=>absurd (show decide (V.str "gap"=V.str "clip")=true from c) (by rw [qMa];decide+kernel)) (fun _=>?_)
    refine⟨_,rfl,zi,xi,_,_,rfl,rfl,SqT.of hzi,h0,rfl,_,rfl,?_⟩
    refine jp (fun c=>absurd (show decide (V.str "gap"=V.str "nest")=true from c) (by rw [qMa];decide+kernel)) (fun _=>?_)
    refine⟨sL0,fun y hy=>?_⟩
    exact kk y _ (e12.trans (qE hy _)) (e12.free hy) ⟨[],qD,trivial⟩
   | mix l=>
    have et:qd (jE rm n) ms t=[]:=by unfold qd;rw [hmf,hit];simp only [hm]
    rw [et] at kk
    refine jp (fun c=>absurd (show decide (V.str "mix"=V.str "clip")=true from c) (by rw [qMa];decide+kernel)) (fun _=>?_)
    refine⟨_,rfl,zi,xi,_,_,rfl,rfl,SqT.of hzi,h0,rfl,_,rfl,?_⟩
    refine jp (fun c=>absurd (show decide (V.str "mix"=V.str "nest")=true from c) (by rw [qMa];decide+kernel)) (fun _=>?_)
    refine⟨sL0,fun y hy=>?_⟩
    exact kk y _ (e12.trans (qE hy _)) (e12.free hy) ⟨[],qD,trivial⟩
theorem wE (T:Tx K mg a):FnOk P w K mg base CX0 7 a.A32 a.B32 ["room","name","moment"] (xl K 0):=by
 refine T.D32.F.ok xh (fun vs H Q E h=>?_) (fun cdv A outer s H vs Q E hrn h=>?_)
 · obtain⟨_,_,_,_,_,_,h,_⟩:=h
   exact h.elim
 · obtain⟨_,_,_,_,_,_,h,_⟩:=h
   exact h.elim
theorem qDn (T:Tx K mg a)(n:Nat)(IH:∀ {base:Heap},FnOk P w K mg base CX0 (2*n+8) a.A31 a.B31 ["track","moment","room"] (vn K n)):
 FnOk P w K mg base CX0 (2*n+9) a.A32 a.B32 ["room","name","moment"] (xl K (n+1)):=by
 refine T.D32.F.ok xh (fun vs H Q E h=>?_) (fun cdv A outer s H vs Q E hrn h=>?_)
 · obtain⟨rz,nm,t,rm,rfl,_⟩:=h
   rfl
 refine qJ fun _ Y=>?_
 obtain⟨rz,nm,t,rm,rfl,hR,⟨ts,hts,htl,hlv⟩,t0,t1,kk⟩:=h
 apply Y
 have hu:=hrn.units
 have hu1:(A.deeper (PyProof.Rows.envOfC (Str.ofString "told_at") (qH ke) s.heap.objs.size a.A32 cdv)).units+1 < cLine:=by omega
 refine⟨_,(qC (qS 3 xh.nd (qK (kM hu1 (qK (pv 0)) (pv 1) (fun _ _=>rfl))))
  (qC (xV PassesOwn.never rfl (jf (pv 3)) (ql (i:=4) xh.nd rfl (Or.inl rfl)) (qC (qS 5 xh.nd (qI T.D31 IH hrn rfl (qA (pv 4) (qA (pv 2) (qA (pv 0) qB))) (Nat.le_refl _)))
  (qG (qv (qP (qDu hu) (pv 5) (jM qB) (qR _)) (qG (qN (pv 5))) qU))))
  (qG (qN (jM qB))))),?_⟩
 try dsimp only [jq,qk]
 have et:jE rm (n+1) nm t=ja (ts.map fun ms=>qd (jE rm n) ms t):=by rw [jE,hts];rfl
 rw [et] at kk
 refine qJ fun _ Y=>?_
 obtain⟨re,td,kvs,h1,h2,h3⟩:=id hR
 obtain⟨v,hv,tt,tl,ti,zs,rfl,h4,h5,h6⟩:=h3 nm ts hts
 apply Y
 refine(ixO h1 at1 ⟨_,rfl,td,_,rfl,.inl ⟨kvs,Sum.inr nm,h2,rfl,hv.symm⟩,ixT (SqT.of h4) at0 ?_⟩)
 refine⟨_,rfl,tl,rfl,⟨_,SqL.of h5⟩,xu (K:=K) (a:=tl) (xs:=zs) (fun i σ H'=>∃ (o1 o2:Option V),σ=[some (.ref rz),some (.str nm),some (.int t),some (.ref tl),o1,o2]∧ja ((ts.drop i).map fun ms=>qd (jE rm n) ms t)=ja (ts.map fun ms=>qd (jE rm n) ms t)∧Same H H') ⟨none,none,rfl,rfl,Same.refl _⟩ ?_ ?_ ?_⟩
 · rintro i σ H' hi ⟨o1,o2,rfl,_,e⟩
   exact SqL.of (e _ _ h5)
 · rintro i x σ H' hx ⟨o1,o2,rfl,hap,e⟩
   refine qJ fun _ Y=>?_
   obtain⟨ms,z,hms,rfl,hT⟩:=h6.get hx
   apply Y
   rw [jz hms,List.map_cons,ja] at hap
   refine⟨_,rfl,_,rfl,_,rfl,z,rz,ms,t,rm,rfl,hT.same e,hlv ms (List.mem_of_getElem? hms),fun _=>hR.same e,t0,?_,fun y H1 e1 hy ht=>?_⟩
   · have e1:((n+1:Nat):Int)=(n:Int)+1:=by omega
     rw [e1,Int.add_mul] at t1
     omega
   refine⟨_,rfl,sL0,fun en hen=>qSf (ht.same (qE hen _)) qD ⟨_,rfl,?_⟩⟩
   have w2:=qE hen (.lst [])
   cases hq:(qd (jE rm n) ms t).isEmpty with
   | true=>
    rw [hq,if_pos rfl] at hap
    exact xf ⟨_,_,rfl,hap,(e.trans e1).trans w2⟩
   | false=>
    rw [hq,if_neg (by decide)] at hap
    rw [← hap] at kk
    exact wN ⟨_,rfl,kk y _ ((e.trans e1).trans w2) (e.free hy) (ht.same w2)⟩
 · rintro σ H' ⟨o1,o2,rfl,hap,e⟩
   rw [h6.len,List.drop_length] at hap
   have hn:ja ([].map fun ms=>qd (jE rm n) ms t)=[]:=rfl
   rw [hn] at hap
   rw [← hap] at kk
   refine⟨sL0,fun y hy=>?_⟩
   exact kk y _ (e.trans (qE hy _)) (e.free hy) ⟨[],qD,trivial⟩
theorem qIi (T:Tx K mg a):∀ (n:Nat),(∀ {base:Heap},FnOk P w K mg base CX0 (2*n+7) a.A32 a.B32 ["room","name","moment"] (xl K n))∧(∀ {base:Heap},FnOk P w K mg base CX0 (2*n+8) a.A31 a.B31 ["track","moment","room"] (vn K n))
 | 0=>⟨wE T,v9 T 0 (wE T)⟩
 | n+1=>by
  have ih:=qIi T n
  have h1:∀ {base:Heap},FnOk P w K mg base CX0 (2*(n+1)+7) a.A32 a.B32 ["room","name","moment"] (xl K (n+1)):=qDn T n ih.2
  exact⟨h1,v9 T (n+1) h1⟩
theorem qJ3 (ms:List Im)(i:Nat)(j:Int):(zx ms i j).length≤2:=by
 unfold zx
 split <;> simp
theorem qAz {f:Str→Int→List Te}(hf:∀ nm t,(f nm t).length≤2)(ms:List Im)(t:Int):(qd f ms t).length≤2:=by
 unfold qd
 split
 · exact qJ3 _ _ _
 · split
   · simp
   · split
     · simp
     · exact hf _ _
     · simp
theorem qDz:∀ {xs:List (List Te)},(∀ x∈xs,x.length≤2)→(ja xs).length≤2
 | [],_=>by simp [ja]
 | x::xs,h=>by
  rw [ja]
  split
  · exact qDz fun y hy=>h y (by simp [hy])
  · exact h x (by simp)
theorem vZ (rm:Rms):∀ (n:Nat) (nm:Str) (t:Int),(jE rm n nm t).length≤2
 | 0,_,_=>by simp [jE]
 | n+1,nm,t=>by
  rw [jE]
  refine qDz fun x hx=>?_
  obtain⟨ms,_,rfl⟩:=List.mem_map.mp hx
  exact qAz (vZ rm n) ms t
abbrev Rls:=Str→Option Int
def qKd (H:Hp)(rd:Addr)(rl:Rls):Prop:=∀ n N,rl n=some N→Reel H rd n N
def qN9 (p q r s l N:Int):Int:=wM (plP p q r s l*s) (1*r*plQ p q r s l) (plQ p q r s l*s) N
def qNy (p q r s N:Int):Int:=wM (plP p q r s (-1)*s) (-1*r*plQ p q r s (-1)) (plQ p q r s (-1)*s) N
structure Rc (n:Str)(p q r s l:Int)(rl:Rls)(N:Int):Prop where
 g1:Good 110 p q
 g2:Good 110 r s
 bl:l.natAbs < 2 ^ 30
 l1:1≤l
 rn:rl n=some N
 bN:N.natAbs < 2 ^ 700
theorem Rc.bn {n:Str}{p q r s l N:Int}{rl:Rls}(h:Rc n p q r s l rl N):Bn 110 p q r s:=⟨h.g1.1,h.g2.1,h.g1.2.2.1,h.g1.2.2.2,h.g2.2.2.1,h.g2.2.2.2⟩
theorem qCo {ms:List Im}{x:Int}(h:xC ms x="clip"):∃ (i:Nat) (n:Str) (p q r s l:Int),x=(i:Int)∧ms[i]? =some (.clip n p q r s l):=by
 unfold xC at h
 split at h
 · exact absurd h (by decide+kernel)
 · rename_i h0
   cases hm:ms[x.toNat]? with
   | none=>rw [hm] at h;exact absurd h (by decide+kernel)
   | some m=>
    rw [hm] at h
    dsimp only at h
    cases m with
    | clip n p q r s l=>exact⟨x.toNat,n,p,q,r,s,l,by omega,hm⟩
    | gap=>exact absurd (show ("gap":Str)="clip" from h) (by decide+kernel)
    | nest=>exact absurd (show ("nest":Str)="clip" from h) (by decide+kernel)
    | mix=>exact absurd (show ("mix":Str)="clip" from h) (by decide+kernel)
def z7 (ms:List Im)(x:Int):Im:=(ms[x.toNat]?).getD (.gap 0)
def ItR (rl:Rls)(m:Im):Prop:=∀ n p q r s l,m= .clip n p q r s l→∃ N,Rc n p q r s l rl N
def tbF (ms:List Im)(k:Nat):Int:=if k=0 then 0 else match ms[k - 1]? with
 | some (.mix l)=>l - l.fdiv 2
 | _=>0
def teF (ms:List Im)(k:Nat):Int:=match ms[k+1]? with
 | some (.mix l)=>l.fdiv 2
 | _=>0
theorem qCu {ms:List Im}{k:Int}(h:xC ms k="mix"):∃ l,0≤k∧ms[k.toNat]? =some (.mix l):=by
 unfold xC at h
 by_cases h0:k < 0
 · rw [if_pos h0] at h
   exact absurd h (by decide+kernel)
 · rw [if_neg h0] at h
   cases hm:ms[k.toNat]? with
   | none=>rw [hm] at h;exact absurd h (by decide+kernel)
   | some m=>
    rw [hm] at h
    obtain⟨l,rfl⟩:=qAw h
    exact⟨l,by omega,rfl⟩
inductive vv (vs:List V)(H:Hp)(Q:VK)(_:XK):Prop
| mk (z:Addr) (ms:List Im) (k:Nat) (_:vs=[.ref z,.int (k:Int)]) (_:Tr H z ms) (_:Q (.int (tbF ms k)) H)
theorem xg (T:Tx K mg a):FnOk P w K mg base CX0 2 a.A28 a.B28 ["track","place"] vv:=by
 refine T.D28.F.ok vy (fun vs H Q E h=>?_) (fun cdv A outer s H vs Q E hr h=>?_)
 · obtain⟨z,ms,k,rfl,_⟩:=h
   rfl
 refine qJ fun _ Y=>?_
 obtain⟨z,ms,k,rfl,tT,q⟩:=h
 apply Y
 refine⟨_,(qC (qv (qP km (qI T.D18 (xo T) hr rfl (qA (pv 0) (qA (qL jL (pv 1) qF) qB))) qx (qR _)) (qG (qN qF)) qU)
  (qG (qN (qI T.D23 (kA T) hr rfl (qA (qK (jK qf (pv 0) (qL jL (pv 1) qF) (fun _ _=>rfl))) qB))))),?_⟩
 try dsimp only [jq,qk]
 refine⟨_,rfl,_,rfl,_,_,rfl,rfl,z,ms,_,rfl,tT,rfl,_,rfl,jp (fun c=>?_) (fun c=>?_)⟩
 · have hn:xC ms ((k:Int) - 1)≠"mix":=by simpa using c
   have e:tbF ms k=0:=by
    unfold tbF
    by_cases k0:k=0
    · rw [if_pos k0]
    · rw [if_neg k0]
      split
      · next l hl=>exact absurd (zY hl (by omega)) hn
      · rfl
   rw [e] at q
   exact q
 · have hk:xC ms ((k:Int) - 1)="mix":=by simpa using c
   refine qJ fun _ Y=>?_
   obtain⟨l,k1,hl⟩:=qCu hk
   have ek:((k:Int) - 1).toNat=k - 1:=by omega
   rw [ek] at hl
   have e:tbF ms k=l - l.fdiv 2:=by
    unfold tbF
    rw [if_neg (by omega),hl]
   rw [e] at q
   obtain⟨vs,hz,his⟩:=tT
   obtain⟨v,hv,hI⟩:=his.get' hl
   obtain⟨zi,rfl,hzi⟩:=hI
   apply Y
   have hat:atI vs ((k:Int) - 1)=some (.ref zi):=by
    have e:(k:Int) - 1=((k - 1:Nat):Int):=by omega
    rw [e];exact jC hv
   exact⟨_,rfl,_,rfl,_,_,rfl,rfl,z,_,_,_,rfl,rfl,SqL.of hz,hat,ixT (SqT.of hzi) at1 ⟨l,rfl,q⟩⟩
inductive wZ (vs:List V)(H:Hp)(Q:VK)(_:XK):Prop
| mk (z:Addr) (ms:List Im) (k:Nat) (_:vs=[.ref z,.int (k:Int)]) (_:Tr H z ms) (_:Q (.int (teF ms k)) H)
theorem zV (T:Tx K mg a):FnOk P w K mg base CX0 2 a.A29 a.B29 ["track","place"] wZ:=by
 refine T.D29.F.ok wq (fun vs H Q E h=>?_) (fun cdv A outer s H vs Q E hr h=>?_)
 · obtain⟨z,ms,k,rfl,_⟩:=h
   rfl
 refine qJ fun _ Y=>?_
 obtain⟨z,ms,k,rfl,tT,q⟩:=h
 apply Y
 refine⟨_,(qC (qv (qP km (qI T.D18 (xo T) hr rfl (qA (pv 0) (qA (qL qc (pv 1) qF) qB))) qx (qR _)) (qG (qN qF)) qU)
  (qG (qN (qI T.D22 (xF T) hr rfl (qA (qK (jK qf (pv 0) (qL qc (pv 1) qF) (fun _ _=>rfl))) qB))))),?_⟩
 try dsimp only [jq,qk]
 refine⟨_,rfl,_,rfl,_,_,rfl,rfl,z,ms,_,rfl,tT,rfl,_,rfl,jp (fun c=>?_) (fun c=>?_)⟩
 · have hn:xC ms ((k:Int)+1)≠"mix":=by simpa using c
   have e:teF ms k=0:=by
    unfold teF
    split
    · next l hl=>exact absurd (zY hl (by omega)) hn
    · rfl
   rw [e] at q
   exact q
 · have hk:xC ms ((k:Int)+1)="mix":=by simpa using c
   refine qJ fun _ Y=>?_
   obtain⟨l,k1,hl⟩:=qCu hk
   have ek:((k:Int)+1).toNat=k+1:=by omega
   rw [ek] at hl
   have e:teF ms k=l.fdiv 2:=by
    unfold teF
    rw [hl]
   rw [e] at q
   obtain⟨vs,hz,his⟩:=tT
   obtain⟨v,hv,hI⟩:=his.get' hl
   obtain⟨zi,rfl,hzi⟩:=hI
   apply Y
   have hat:atI vs ((k:Int)+1)=some (.ref zi):=by
    have e:(k:Int)+1=((k+1:Nat):Int):=by omega
    rw [e];exact jC hv
   exact⟨_,rfl,_,rfl,_,_,rfl,rfl,z,_,_,_,rfl,rfl,SqL.of hz,hat,ixT (SqT.of hzi) at1 ⟨l,rfl,q⟩⟩
def qOl (x y:Int):Int:=if y < x then y else x
def qQo (x y:Int):Int:=if y > x then y else x
def mmV (A B:Int):Int:=if B > A then qQo (2*A+1) 0 else qQo (2*B) 0
def mmF (rl:Rls)(ms:List Im)(t:Int):Option Int:=match cbF ms t with
 | none=>none
 | some (i,j)=>match z7 ms i,z7 ms j with
  | .clip n p q r s l,.clip n' p' q' r' s' l'=>(match rl n,rl n' with
   | some N,some N'=>some (mmV (qOl (l - tbF ms i.toNat) (qNy p' q' r' s' N')) (qOl (l' - teF ms j.toNat) (qN9 p q r s l N)))
   | _,_=>none)
  | _,_=>none
theorem qLl {ms:List Im}{t:Int}{i j:Int}(h:cbF ms t=some (i,j)):xC ms i="clip"∧xC ms j="clip":=by
 unfold cbF at h
 cases hn:nbF ms t with
 | none=>rw [hn] at h;cases h
 | some r=>
  obtain⟨x,y⟩:=r
  rw [hn] at h
  dsimp only at h
  split at h
  · rename_i c;cases h;exact c
  · cases h
inductive qEs (vs:List V)(H:Hp)(Q:VK)(_:XK):Prop
| mk (z rd:Addr) (ms:List Im) (t M:Int) (rl:Rls) (_:vs=[.ref z,.int t,.ref rd]) (_:Tr H z ms) (_:(∀ m∈ms,ItR rl m)) (_:qKd H rd rl) (_:mmF rl ms t=some M) (_:∀ H',Same H H'→Q (.int M) H')
theorem qE6 (T:Tx K mg a):FnOk P w K mg base CX0 6 a.A30 a.B30 ["track","moment","reels"] qEs:=by
 refine T.D30.F.ok jr (fun vs H Q E h=>?_) (fun cdv A outer s H vs Q E hr h=>?_)
 · obtain⟨z,rd,ms,t,M,rl,rfl,_⟩:=h
   rfl
 refine qJ fun _ Y=>?_
 obtain⟨z,rd,ms,t,M,rl,rfl,tT,hit,hrl,hM,kg⟩:=h
 apply Y
 refine⟨_,(qC (qS 3 jr.nd (wQ (jk (qI T.D0 (kQ T) hr rfl (qA (pv 1) qB))) (qI T.D21 (vF T) hr rfl (qA (pv 0) (qA (pv 1) qB))) vz))
  (qC (qv (zz (qA6 (pv 3))) vM qU)
  (qC (qS 4 jr.nd (jK qf (pv 0) (qK (pv 3)) (fun _ _=>rfl)))
  (qC (qS 5 jr.nd (jK qf (pv 0) (qK (pv 3)) (fun _ _=>rfl)))
  (qC (qS 6 jr.nd (qQ (kz rfl) rfl T.b_min rfl (qA (qL jL (qK (pv 4)) (qI T.D28 (xg T) hr rfl (qA (pv 0) (qA (qK (pv 3)) qB)))) (qA (qI T.D13 (qC2 T) hr rfl (qA (pv 5) (qA (pv 2) qB))) qB))))
  (qC (qS 7 jr.nd (qQ (kz rfl) rfl T.b_min rfl (qA (qL jL (qK (pv 5)) (qI T.D29 (zV T) hr rfl (qA (pv 0) (qA (qK (pv 3)) qB)))) (qA (qI T.D14 (qCt T) hr rfl (qA (pv 4) (qA (pv 2) qB))) qB))))
  (qC (qv (qP qKt (pv 7) (pv 6) (qR _)) (qG (qN (qQ (zZ rfl) rfl T.b_max rfl (qA (qL qc (qL jG qF (pv 6)) qF) (qA qF qB))))) qU)
  (qG (qN (qQ (zZ rfl) rfl T.b_max rfl (qA (qL jG qF (pv 7)) (qA qF qB)))))))))))),?_⟩
 try dsimp only [jq,qk]
 refine⟨_,rfl,_,rfl,true,rfl,wN ?_⟩
 refine⟨_,rfl,_,rfl,z,ms,_,rfl,tT,?_⟩
 unfold mmF at hM
 cases hcb:cbF ms t with
 | none=>
  rw [hcb] at hM
  cases hM
 | some r=>
 refine qJ fun _ Y=>?_
 obtain⟨ii,jj⟩:=r
 rw [hcb] at hM
 obtain⟨hk1,hk2⟩:=qLl hcb
 obtain⟨i,n,p,q,r,s1,l,rfl,hi⟩:=qCo hk1
 obtain⟨j,n',p',q',r',s2,l',rfl,hj⟩:=qCo hk2
 obtain⟨N,c1⟩:=hit _ (List.mem_of_getElem? hi) _ _ _ _ _ _ rfl
 obtain⟨N',c2⟩:=hit _ (List.mem_of_getElem? hj) _ _ _ _ _ _ rfl
 apply Y
 have ei:z7 ms (i:Int)= .clip n p q r s1 l:=by unfold z7;rw [Int.toNat_natCast,hi];rfl
 have ej:z7 ms (j:Int)= .clip n' p' q' r' s2 l':=by unfold z7;rw [Int.toNat_natCast,hj];rfl
 dsimp only at hM
 rw [ei,ej] at hM
 dsimp only at hM
 rw [c1.rn,c2.rn,Int.toNat_natCast,Int.toNat_natCast] at hM
 cases hM
 intro pp H1 e1 hpp
 refine⟨_,rfl,_,rfl,jp (fun c=>absurd c (by simp)) (fun _=>?_)⟩
 refine qJ fun _ Y=>?_
 obtain⟨vs,hz,his⟩:=tT.same e1
 obtain⟨va,hva,Ia⟩:=his.get' hi
 obtain⟨vb,hvb,Ib⟩:=his.get' hj
 apply Y
 refine⟨_,rfl,ixO hpp at0 ⟨z,_,_,_,rfl,rfl,SqL.of hz,jC hva,?_⟩⟩
 refine⟨_,rfl,ixO hpp at1 ⟨z,_,_,_,rfl,rfl,SqL.of hz,jC hvb,?_⟩⟩
 refine qJ fun _ Y=>?_
 obtain⟨za,xa,ya,rfl,hza,hxa,hya⟩:=id Ia
 obtain⟨zb,xb,yb,rfl,hzb,hxb,hyb⟩:=id Ib
 apply Y
 have tT1:Tr H1 z ms:=⟨vs,hz,his⟩
 refine(ixO hza qHa ⟨_,rfl,ixO hpp at0 ⟨z,ms,i,rfl,tT1,_,_,rfl,rfl,?_⟩⟩)
 refine⟨_,rfl,_,rfl,_,n',p',q',r',s2,l',N',rd,rfl,qC1 Ib,c2.g1,c2.g2,(hrl _ _ c2.rn).same e1,c2.bN,fun H2 e2=>?_⟩
 refine⟨_,_,rfl,?_⟩
 refine(ixO (e2 _ _ hzb) qHa ⟨_,rfl,ixO (e2 _ _ hpp) at1 ⟨z,ms,j,rfl,tT1.same e2,_,_,rfl,rfl,?_⟩⟩)
 refine⟨_,rfl,_,rfl,_,n,p,q,r,s1,l,N,rd,rfl,qC1 (Ia.ts (qM e2)),c1.g1,c1.g2,c1.bl,(hrl _ _ c1.rn).same (e1.trans e2),c1.bN,fun H3 e3=>?_⟩
 refine⟨_,_,rfl,?_⟩
 have kk':=kg H3 ((e1.trans e2).trans e3)
 unfold mmV qOl at kk'
 unfold qNy qN9 at kk'
 dsimp only
 generalize (if wM (plP p' q' r' s2 (-1)*s2) (-1*r'*plQ p' q' r' s2 (-1)) (plQ p' q' r' s2 (-1)*s2) N' < l - tbF ms i then wM (plP p' q' r' s2 (-1)*s2) (-1*r'*plQ p' q' r' s2 (-1)) (plQ p' q' r' s2 (-1)*s2) N' else l - tbF ms i)=MA at kk' ⊢
 generalize (if wM (plP p q r s1 l*s1) (1*r*plQ p q r s1 l) (plQ p q r s1 l*s1) N < l' - teF ms j then wM (plP p q r s1 l*s1) (1*r*plQ p q r s1 l) (plQ p q r s1 l*s1) N else l' - teF ms j)=MB at kk' ⊢
 refine⟨_,rfl,_,rfl,_,_,rfl,rfl,_,rfl,jp (fun c=>?_) (fun c=>?_)⟩
 · have c':MB > MA:=by simpa using c
   rw [if_pos c'] at kk'
   exact⟨_,rfl,_,_,rfl,rfl,cmL (by decide) (by decide),_,_,rfl,rfl,_,_,rfl,kk'⟩
 · have c':¬ MB > MA:=by simpa using c
   rw [if_neg c'] at kk'
   exact⟨_,rfl,_,_,rfl,rfl,cmL (by decide) (by decide),_,_,rfl,kk'⟩
def jS (ms:List Im):Int:=(ms.map Im.mo).sum
theorem zc (m:Im)(ms:List Im):jS (m::ms)=m.mo+jS ms:=by simp [jS]
theorem qLk:jS []=0:=rfl
def Nn (ms:List Im):Prop:=∀ m∈ms,0≤m.mo
theorem Nn.tail {m:Im}{ms:List Im}(h:Nn (m::ms)):Nn ms:=fun x hx=>h x (by simp [hx])
theorem Nn.len:∀ {ms:List Im},Nn ms→0≤jS ms
 | [],_=>Int.le_refl _
 | m::ms,h=>by
  have h1:=h m (by simp)
  have h2:=Nn.len h.tail
  rw [zc]
  omega
def Wf (m:Im):Prop:=match m with
 | .clip _ p q r s l=>0 < q∧0 < s∧Int.gcd p q=1∧1≤l
 | .nest _ _ l=>1≤l
 | .gap l=>1≤l
 | .mix l=>1≤l
theorem Wf.mo {m:Im}(h:Wf m):0≤m.mo:=by
 cases m with
 | clip n p q r s l=>have:1≤l:=h.2.2.2;show 0≤l;omega
 | nest n b l=>have h:1≤l:=h;show 0≤l;omega
 | gap l=>have h:1≤l:=h;show 0≤l;omega
 | mix l=>exact Int.le_refl _
theorem bs0 (ms:List Im):qY ms 0=0:=by unfold qY;rw [List.take_zero];rfl
theorem bsC (x:Im)(ms:List Im)(k:Nat):qY (x::ms) (k+1)=x.mo+qY ms k:=by
 unfold qY;rw [List.take_succ_cons,List.map_cons,List.sum_cons]
theorem bsS {ms:List Im}{i:Nat}{m:Im}(h:ms[i]? =some m):qY ms (i+1)=qY ms i+m.mo:=by
 unfold qY
 rw [List.take_add_one,h,List.map_append,List.sum_append]
 show _+(m.mo+0)=_
 omega
theorem bsM {ms:List Im}(h:Nn ms){i j:Nat}(hij:i≤j):qY ms i≤qY ms j:=by
 induction hij with
 | refl=>exact Int.le_refl _
 | @step j _ ih=>
  cases hm:ms[j]? with
  | none=>
   have hl:=List.getElem?_eq_none_iff.mp hm
   have e:qY ms (j+1)=qY ms j:=by
    unfold qY
    rw [List.take_of_length_le (by omega),List.take_of_length_le hl]
   show qY ms i≤qY ms (j+1)
   omega
  | some m=>
   have:=bsS hm
   have:=h m (List.mem_of_getElem? hm)
   show qY ms i≤qY ms (j+1)
   omega
theorem bsL (ms:List Im):qY ms ms.length=jS ms:=by
 unfold qY jS;rw [List.take_length]
theorem xt:∀ {ms:List Im} {b:Int} {i0 k:Nat} {t d:Int},jO b i0 ms t=some (k,d)→i0≤k∧∃ m,ms[k - i0]? =some m∧b+qY ms (k - i0)≤t∧t < b+qY ms (k - i0)+m.mo∧d=t - (b+qY ms (k - i0))
 | [],_,_,_,_,_,h=>by simp [jO] at h
 | m::ms,b,i0,k,t,d,h=>by
  rw [jO] at h
  by_cases hc:b≤t∧t < b+m.mo
  · rw [if_pos hc] at h
    cases h
    refine⟨Nat.le_refl _,m,by rw [Nat.sub_self];rfl,?_⟩
    rw [Nat.sub_self,bs0]
    omega
  · rw [if_neg hc] at h
    obtain⟨h1,x,h2,h3,h4,h5⟩:=xt h
    have e:k - i0=(k - (i0+1))+1:=by omega
    refine⟨by omega,x,by rw [e,List.getElem?_cons_succ];exact h2,?_⟩
    rw [e,bsC]
    omega
theorem qGs:∀ {ms:List Im} {b:Int} {i0 k:Nat} {m:Im} {t:Int},Nn ms→ms[k]? =some m→b+qY ms k≤t→t < b+qY ms k+m.mo→jO b i0 ms t=some (i0+k,t - (b+qY ms k))
 | x::ms,b,i0,0,m,t,hp,hk,h1,h2=>by
  obtain rfl:x=m:=by simpa using hk
  rw [bs0] at h1 h2 ⊢
  rw [jO,if_pos ⟨by omega,by omega⟩,Nat.add_zero,Int.add_zero]
 | x::ms,b,i0,k+1,m,t,hp,hk,h1,h2=>by
  rw [bsC] at h1 h2 ⊢
  have n:=bsM hp.tail (Nat.zero_le k)
  rw [bs0] at n
  have ih:=qGs (ms:=ms) (b:=b+x.mo) (i0:=i0+1) (k:=k) (m:=m) (t:=t) hp.tail (by simpa using hk) (by omega) (by omega)
  rw [jO,if_neg (by omega),ih]
  have e1:i0+1+k=i0+(k+1):=by omega
  have e2:t - (b+x.mo+qY ms k)=t - (b+(x.mo+qY ms k)):=by omega
  rw [e1,e2]
 | [],_,_,_,_,_,_,hk,_,_=>by simp at hk
theorem qJj:∀ {ms:List Im} {b:Int} {i0:Nat} {t:Int},Nn ms→jO b i0 ms t=none→b≤t→b+jS ms≤t
 | [],b,_,t,_,_,h=>by rw [qLk];omega
 | x::ms,b,i0,t,hp,h,hb=>by
  rw [jO] at h
  by_cases hc:b≤t∧t < b+x.mo
  · rw [if_pos hc] at h;cases h
  · rw [if_neg hc] at h
    have:=qJj hp.tail h (by omega)
    rw [zc];omega
theorem qE1 {ms:List Im}{t:Int}(hp:Nn ms)(h:jS ms≤t):jO 0 0 ms t=none:=by
 cases hi:jO 0 0 ms t with
 | none=>rfl
 | some r=>
  obtain⟨k,d⟩:=r
  obtain⟨_,m,h1,h2,h3,_⟩:=xt hi
  rw [Nat.sub_zero] at h1 h2 h3
  have hk:=(glt h1)
  have:=bsM hp (show k+1≤ms.length by omega)
  rw [bsS h1,bsL] at this
  omega
theorem qGc {ms:List Im}{k k':Nat}{m m':Im}{t:Int}(hp:Nn ms)(h:ms[k]? =some m)(h':ms[k']? =some m')(h1:qY ms k≤t)(h2:t < qY ms k+m.mo)(h1':qY ms k'≤t)(h2':t < qY ms k'+m'.mo):k=k':=by
 have a:=qGs (b:=0) (i0:=0) (t:=t) hp h (by omega) (by omega)
 have b:=qGs (b:=0) (i0:=0) (t:=t) hp h' (by omega) (by omega)
 rw [a] at b
 have:=(Prod.mk.inj (Option.some.inj b)).1
 omega
theorem jb:∀ {ms:List Im} {b:Int} {i0 k:Nat} {t j:Int},xS b i0 ms t=some (k,j)→i0≤k∧∃ l,ms[k - i0]? =some (.mix l)∧b+qY ms (k - i0) - l.fdiv 2≤t∧t < b+qY ms (k - i0)+(l - l.fdiv 2)∧j=t - (b+qY ms (k - i0) - l.fdiv 2)
 | [],_,_,_,_,_,h=>by simp [xS] at h
 | m::ms,b,i0,k,t,j,h=>by
  have up:∀ {b':Int},b'=b+m.mo→xS b' (i0+1) ms t=some (k,j)→i0≤k∧∃ l,(m::ms)[k - i0]? =some (.mix l)∧b+qY (m::ms) (k - i0) - l.fdiv 2≤t∧t < b+qY (m::ms) (k - i0)+(l - l.fdiv 2)∧j=t - (b+qY (m::ms) (k - i0) - l.fdiv 2):=fun {b'} hb h=>by
   obtain⟨h1,l,h2,h3⟩:=jb h
   have e:k - i0=(k - (i0+1))+1:=by omega
   refine⟨by omega,l,by rw [e,List.getElem?_cons_succ];exact h2,?_⟩
   rw [e,bsC]
   omega
  by_cases hm:m.wd="mix"
  · obtain⟨l,rfl⟩:=qAw hm
    rw [xS] at h
    by_cases hc:b - l.fdiv 2≤t∧t < b+(l - l.fdiv 2)
    · rw [if_pos hc] at h
      cases h
      refine⟨Nat.le_refl _,l,by rw [Nat.sub_self];rfl,?_⟩
      rw [Nat.sub_self,bs0]
      omega
    · rw [if_neg hc] at h
      exact up (by show b=b+0;omega) h
  · rw [zp hm] at h
    exact up rfl h
theorem qDx:∀ {ms:List Im} {b:Int} {i0 k:Nat} {t l:Int},xS b i0 ms t=none→ms[k]? =some (.mix l)→¬ (b+qY ms k - l.fdiv 2≤t∧t < b+qY ms k+(l - l.fdiv 2))
 | [],_,_,_,_,_,_,h=>by simp at h
 | m::ms,b,i0,k,t,l,h,hk=>by
  by_cases hm:m.wd="mix"
  · obtain⟨l',rfl⟩:=qAw hm
    rw [xS] at h
    by_cases hc:b - l'.fdiv 2≤t∧t < b+(l' - l'.fdiv 2)
    · rw [if_pos hc] at h;cases h
    · rw [if_neg hc] at h
      cases k with
      | zero=>
       have e:l'=l:=by
        have:=Option.some.inj (show some (Im.mix l')=some (.mix l) from hk)
        cases this;rfl
       subst e
       rw [bs0]
       intro q
       exact hc ⟨by omega,by omega⟩
      | succ k=>
       have:=qDx h (show ms[k]? =some (.mix l) from hk)
       rw [bsC]
       have e0:(Im.mix l').mo=0:=rfl
       intro q
       exact this ⟨by omega,by omega⟩
  · rw [zp hm] at h
    cases k with
    | zero=>
     have:=Option.some.inj (show some m=some (.mix l) from hk)
     subst this
     exact absurd rfl hm
    | succ k=>
     have:=qDx h (show ms[k]? =some (.mix l) from hk)
     rw [bsC]
     intro q
     exact this ⟨by omega,by omega⟩
structure Geo (ms:List Im):Prop where
 wf:∀ m∈ms,Wf m
 mx:qJg ms
 fit:∀ i n p q r s k,ms[i]? =some (.clip n p q r s k)→tbF ms i+teF ms i≤k
theorem Geo.nn {ms:List Im}(h:Geo ms):Nn ms:=fun m hm=>(h.wf m hm).mo
theorem hlf {l:Int}(h:1≤l):0≤l.fdiv 2∧l.fdiv 2≤l:=by
 have:=qr (p:=l) (q:=2) (by decide)
 omega
theorem qHw {ms:List Im}(hw:∀ m∈ms,Wf m)(k:Nat):0≤tbF ms k:=by
 unfold tbF
 split
 · omega
 · split
   · rename_i l hl
     have:1≤l:=hw _ (List.mem_of_getElem? hl)
     have:=hlf this
     omega
   · omega
theorem qKa {ms:List Im}(hw:∀ m∈ms,Wf m)(k:Nat):0≤teF ms k:=by
 unfold teF
 split
 · rename_i l hl
   have:1≤l:=hw _ (List.mem_of_getElem? hl)
   have:=hlf this
   omega
 · omega
theorem qJ1 {ms:List Im}{k:Nat}{l:Int}(h:ms[k]? =some (.mix l)):tbF ms (k+1)=l - l.fdiv 2:=by
 unfold tbF
 rw [if_neg (by omega),Nat.add_sub_cancel,h]
theorem qH3 {ms:List Im}{k:Nat}{l:Int}(h:ms[k+1]? =some (.mix l)):teF ms k=l.fdiv 2:=by
 unfold teF
 rw [h]
structure MxA (ms:List Im)(i:Nat)(l:Int)(k k':Int):Prop where
 l1:1≤l
 left:∃ n p q r s,ms[i]? =some (.clip n p q r s k)
 right:∃ n p q r s,ms[i+2]? =some (.clip n p q r s k')
 b1:qY ms (i+1)=qY ms i+k
 b2:qY ms (i+2)=qY ms i+k
 b3:qY ms (i+3)=qY ms i+k+k'
 f1:l.fdiv 2≤k
 f2:l - l.fdiv 2≤k'
theorem Geo.mix {ms:List Im}(h:Geo ms){i:Nat}{l:Int}(hi:ms[i]? =some (.mix l)):∃ j k k',i=j+1∧MxA ms j l k k':=by
 obtain⟨i1,⟨n,p,q,r,s,k,ha⟩,n',p',q',r',s',k',hb⟩:=h.mx i l hi
 obtain⟨j,rfl⟩:∃ j,i=j+1:=⟨i - 1,by omega⟩
 have ha:ms[j]? =some (.clip n p q r s k):=ha
 have hb:ms[j+2]? =some (.clip n' p' q' r' s' k'):=hb
 have e1:=bsS ha
 have e2:=bsS hi
 have e3:=bsS hb
 have m1:(Im.clip n p q r s k).mo=k:=rfl
 have m2:(Im.mix l).mo=0:=rfl
 have m3:(Im.clip n' p' q' r' s' k').mo=k':=rfl
 have c1:=h.fit j _ _ _ _ _ _ ha
 have c2:=h.fit (j+2) _ _ _ _ _ _ hb
 have t1:=qH3 hi
 have t2:=qJ1 hi
 have t3:=qHw h.wf j
 have t4:=qKa h.wf (j+2)
 have q1:qY ms (j+2)=qY ms (j+1+1):=rfl
 have q2:qY ms (j+3)=qY ms (j+2+1):=rfl
 have q3:tbF ms (j+2)=tbF ms (j+1+1):=rfl
 exact⟨j,k,k',rfl,h.wf _ (List.mem_of_getElem? hi),⟨n,p,q,r,s,ha⟩,⟨n',p',q',r',s',hb⟩,by omega,by omega,by omega,by omega,by omega⟩
theorem Geo.side {ms:List Im}(h:Geo ms){i k:Nat}{l t:Int}{m:Im}(hi:ms[i]? =some (.mix l))(t1:qY ms i - l.fdiv 2≤t)(t2:t < qY ms i+(l - l.fdiv 2))(hk:ms[k]? =some m)(k1:qY ms k≤t)(k2:t < qY ms k+m.mo):(i=k+1∨k=i+1)∧m.wd="clip":=by
 obtain⟨j,c,c',rfl,M⟩:=h.mix hi
 obtain⟨n,p,q,r,s,ha⟩:=M.left
 obtain⟨n',p',q',r',s',hb⟩:=M.right
 have b1:=M.b1
 have b2:=M.b2
 have f1:=M.f1
 have f2:=M.f2
 by_cases ht:t < qY ms (j+1)
 · have e:=qGc h.nn hk ha k1 k2 (by omega) (by show t < qY ms j+c;omega)
   subst e
   rw [ha] at hk
   cases hk
   exact⟨.inl rfl,rfl⟩
 · have e:=qGc h.nn hk hb k1 k2 (by omega) (by show t < qY ms (j+2)+c';omega)
   subst e
   rw [hb] at hk
   cases hk
   exact⟨.inr rfl,rfl⟩
theorem Geo.lt {ms:List Im}(h:Geo ms){i:Nat}{l t:Int}(hi:ms[i]? =some (.mix l))(t1:qY ms i - l.fdiv 2≤t)(t2:t < qY ms i+(l - l.fdiv 2)):0≤t∧t < jS ms:=by
 obtain⟨j,c,c',rfl,M⟩:=h.mix hi
 obtain⟨n',p',q',r',s',hb⟩:=M.right
 have hl:=(glt hb)
 have b0:=bsM h.nn (Nat.zero_le j)
 have b4:=bsM h.nn (show j+3≤ms.length by omega)
 rw [bsL] at b4
 rw [bs0] at b0
 have b1:=M.b1
 have b3:=M.b3
 have f1:=M.f1
 have f2:=M.f2
 omega
theorem Geo.one {ms:List Im}(h:Geo ms){i i':Nat}{l l' t:Int}(hi:ms[i]? =some (.mix l))(t1:qY ms i - l.fdiv 2≤t)(t2:t < qY ms i+(l - l.fdiv 2))(hi':ms[i']? =some (.mix l'))(t1':qY ms i' - l'.fdiv 2≤t)(t2':t < qY ms i'+(l' - l'.fdiv 2)):i=i':=by
 have key:∀ {i i':Nat} {l l':Int},ms[i]? =some (.mix l)→t < qY ms i+(l - l.fdiv 2)→ms[i']? =some (.mix l')→qY ms i' - l'.fdiv 2≤t→¬ i < i':=fun {i i' l l'} hi t2 hi' t1' hlt=>by
  obtain⟨j,c,c',rfl,M⟩:=h.mix hi
  obtain⟨j',d,d',rfl,M'⟩:=h.mix hi'
  obtain⟨n',p',q',r',s',hb⟩:=M.right
  obtain⟨n2,p2,q2,r2,s2,ha⟩:=M'.left
  have b1:=M.b1
  have b2:=M.b2
  have b3:=M.b3
  have f2:=M.f2
  have c1:=M'.b1
  have g1:=M'.f1
  have ne:j'≠j+1:=fun e=>by
   subst e
   rw [hi] at ha
   cases ha
  by_cases e:j'=j+2
  · subst e
    rw [hb] at ha
    cases ha
    have hf:=h.fit (j+2) _ _ _ _ _ _ hb
    have x1:=qJ1 hi
    have x2:=qH3 hi'
    have q3:tbF ms (j+2)=tbF ms (j+1+1):=rfl
    omega
  · have:=bsM h.nn (show j+3≤j' by omega)
    omega
 have a:=key hi t2 hi' t1'
 have b:=key hi' t2' hi t1
 omega
theorem Geo.at {ms:List Im}(h:Geo ms){i:Nat}{l t:Int}(hi:ms[i]? =some (.mix l))(t1:qY ms i - l.fdiv 2≤t)(t2:t < qY ms i+(l - l.fdiv 2)):xS 0 0 ms t=some (i,t - (qY ms i - l.fdiv 2)):=by
 cases hm:xS 0 0 ms t with
 | none=>exact absurd ⟨by omega,by omega⟩ (qDx hm hi)
 | some r=>
  obtain⟨k,j⟩:=r
  obtain⟨_,l',h1,h2,h3,h4⟩:=jb hm
  rw [Nat.sub_zero] at h1 h2 h3 h4
  have e:=h.one hi t1 t2 h1 (by omega) (by omega)
  subst e
  rw [hi] at h1
  cases h1
  rw [h4]
  congr 2
  omega
structure Pt where
 n:Str
 p:Int
 q:Int
 r:Int
 s:Int
 a:Int
 b:Int
 c:Int
 d:Int
structure PtG (x:Pt):Prop where
 q0:0 < x.q
 s0:0 < x.s
 g1:Int.gcd x.p x.q=1
 b0:0 < x.b
 d0:0 < x.d
 g2:Int.gcd x.a x.b=1
def Pt.later (k:Int)(x:Pt):Pt:=⟨x.n,plP x.p x.q x.r x.s k,plQ x.p x.q x.r x.s k,x.r,x.s,plP x.a x.b x.c x.d k,plQ x.a x.b x.c x.d k,x.c,x.d⟩
def Pt.tell (x:Pt):Te:=⟨x.n,x.p.fdiv x.q,x.a,x.b⟩
theorem PtG.later {x:Pt}(h:PtG x)(k:Int):PtG (x.later k):=⟨ki h.q0 h.s0,h.s0,qD7 h.q0 h.s0,ki h.b0 h.d0,h.d0,qD7 h.b0 h.d0⟩
theorem PtG.add {x:Pt}(h:PtG x)(j k:Int):(x.later j).later k=x.later (j+k):=by
 obtain⟨e1,e2⟩:=vR (p:=x.p) (r:=x.r) (lo:=j) (k:=k) h.q0 h.s0
 obtain⟨e3,e4⟩:=vR (p:=x.a) (r:=x.c) (lo:=j) (k:=k) h.b0 h.d0
 unfold Pt.later
 dsimp only
 rw [e1,e2,e3,e4]
theorem qQc {ps:List Pt}(h:∀ x∈ps,PtG x)(k:Int):∀ x∈ps.map (Pt.later k),PtG x:=fun x hx=>by
 obtain⟨y,hy,rfl⟩:=List.mem_map.mp hx
 exact(h y hy).later k
structure Rn where
 b:Int
 e:Option Int
 ps:List Pt
def Rn.has (r:Rn)(t:Int):Prop:=r.b≤t∧∀ e,r.e=some e→t < e
def mxI (i j:Int):Int:=if j > i then j else i
def mnO:Option Int→Option Int→Option Int
 | none,y=>y
 | some x,none=>some x
 | some x,some y=>some (if y < x then y else x)
def Rn.within (r:Rn)(lo:Int)(hi:Option Int):Rn:=⟨mxI lo r.b,mnO r.e hi,r.ps.map (Pt.later (mxI lo r.b - r.b))⟩
theorem qPa {x y:Option Int}{t:Int}:(∀ e,mnO x y=some e→t < e)↔(∀ e,x=some e→t < e)∧∀ e,y=some e→t < e:=by
 cases x with
 | none=>exact⟨fun h=>⟨fun e q=>(by cases q),h⟩,fun h=>h.2⟩
 | some a=>
  cases y with
  | none=>exact⟨fun h=>⟨h,fun e q=>(by cases q)⟩,fun h=>h.1⟩
  | some b=>
   constructor
   · intro h
     have:=h _ rfl
     refine⟨fun e q=>?_,fun e q=>?_⟩ <;> cases q <;> split at this <;> omega
   · rintro ⟨h1,h2⟩ e q
     have a1:=h1 _ rfl
     have a2:=h2 _ rfl
     cases q
     split <;> omega
theorem qMk {i j t:Int}:mxI i j≤t↔i≤t∧j≤t:=by
 unfold mxI
 split <;> omega
theorem within_has {r:Rn}{lo t:Int}{hi:Option Int}:(r.within lo hi).has t↔r.has t∧lo≤t∧∀ e,hi=some e→t < e:=by
 unfold Rn.has Rn.within
 dsimp only
 rw [qMk,qPa]
 constructor
 · rintro ⟨⟨h1,h2⟩,h3,h4⟩
   exact⟨⟨h2,h3⟩,h1,h4⟩
 · rintro ⟨⟨h1,h2⟩,h3,h4⟩
   exact⟨⟨h3,h1⟩,h2,h4⟩
structure qKi (g:Int→Rn)(T:Int→List Te):Prop where
 has:∀ t,0≤t→(g t).has t
 b0:∀ t,0≤t→0≤(g t).b
 pg:∀ t,0≤t→∀ x∈(g t).ps,PtG x
 tell:∀ t,0≤t→(g t).ps.map (fun x=>(x.later (t - (g t).b)).tell)=T t
 same:∀ t t',0≤t→(g t).has t'→g t'=g t
def qFo (ms:List Im)(i:Nat)(b0:Int):Rn:=match ms[i]?,ms[i - 1]?,ms[i+1]? with
 | some (.mix l),some (.clip n p q r s k),some (.clip n' p' q' r' s' _)=>
  ⟨b0,some (b0+l),[⟨n,plP p q r s (k+ -l.fdiv 2),plQ p q r s (k+ -l.fdiv 2),r,s,qt (l - 0) (l+1),qj (l - 0) (l+1),qt (-1) (l+1),qj (-1) (l+1)⟩,
    ⟨n',plP p' q' r' s' (-l.fdiv 2),plQ p' q' r' s' (-l.fdiv 2),r',s',qt (0+1) (l+1),qj (0+1) (l+1),qt 1 (l+1),qj 1 (l+1)⟩]⟩
 | _,_,_=>⟨0,none,[]⟩
def zK (ms:List Im)(i:Nat)(b0:Int):Rn:=match ms[i]? with
 | some (.clip n p q r s l)=>⟨b0+tbF ms i,some (b0+(l - teF ms i)),[⟨n,plP p q r s (tbF ms i),plQ p q r s (tbF ms i),r,s,1,1,0,1⟩]⟩
 | _=>⟨0,none,[]⟩
def wI (x:Rn)(b l b0:Int):Rn:=(⟨x.b+(b0 - b),x.e.map (fun e=>e+(b0 - b)),x.ps⟩:Rn).within b0 (some (b0+l))
def qQr (f:Str→Int→Rn)(ms:List Im)(i:Nat)(m:Im)(d b0:Int):Rn:=match m with
 | .clip .. =>zK ms i b0
 | .nest nm b l=>wI (f nm (b+d)) b l b0
 | m=>⟨b0,some (b0+m.mo),[]⟩
def qV (f:Str→Int→Rn)(ms:List Im)(t:Int):Rn:=match xS 0 0 ms t with
 | some (i,j)=>qFo ms i (t - j)
 | none=>match jO 0 0 ms t with
  | none=>⟨jS ms,none,[]⟩
  | some (i,d)=>match ms[i]? with
   | some m=>qQr f ms i m d (t - d)
   | none=>⟨0,none,[]⟩
def qSk (F:Str→Int→List Te)(m:Im)(d:Int):List Te:=match m with
 | .clip n p q r s _=>[⟨n,qHi p q r s d,1,1⟩]
 | .nest nm b _=>F nm (b+d)
 | _=>[]
theorem qK8 {F:Str→Int→List Te}{ms:List Im}{t d:Int}{i:Nat}{m:Im}(hm:xS 0 0 ms t=none)(hit:jO 0 0 ms t=some (i,d))(hi:ms[i]? =some m):qd F ms t=qSk F m d:=by
 unfold qd
 rw [hm,hit]
 simp only [hi]
 cases m <;> rfl
theorem kG {f:Str→Int→Rn}{ms:List Im}{t d:Int}{i:Nat}{m:Im}(hm:xS 0 0 ms t=none)(hit:jO 0 0 ms t=some (i,d))(hi:ms[i]? =some m):qV f ms t=qQr f ms i m d (t - d):=by
 unfold qV
 rw [hm,hit]
 simp only [hi]
theorem qF9 {a c d k:Int}(hd:0 < d):plP (qt a d) (qj a d) (qt c d) (qj c d) k=qt (a+k*c) d∧plQ (qt a d) (qj a d) (qt c d) (qj c d) k=qj (a+k*c) d:=by
 have c1:=jo a d
 have c2:=jo c d
 have p1:=jD (t:=a) (Int.ne_of_gt hd)
 have p2:=jD (t:=c) (Int.ne_of_gt hd)
 show qt (qt a d*qj c d+k*qt c d*qj a d) (qj a d*qj c d)=_∧qj (qt a d*qj c d+k*qt c d*qj a d) (qj a d*qj c d)=_
 generalize qt a d=u at c1 ⊢
 generalize qj a d=v at c1 p1 ⊢
 generalize qt c d=x at c2 ⊢
 generalize qj c d=y at c2 p2 ⊢
 refine qF2 (Int.ne_of_gt (Int.mul_pos p1 p2)) (Int.ne_of_gt hd) ?_
 grind
theorem qNi (p q r s k:Int):(plP p q r s k).fdiv (plQ p q r s k)=qHi p q r s k∨¬ (0 < q∧0 < s):=by
 by_cases h:0 < q∧0 < s
 · left
   unfold qHi
   have c:=qGp p q r s k
   have hp:=ki (p:=p) (r:=r) (k:=k) h.1 h.2
   refine vX hp (Int.mul_pos h.1 h.2) ?_
   rw [c]
 · exact .inr h
theorem qJ8 {p q r s k:Int}(hq:0 < q)(hs:0 < s):(plP p q r s k).fdiv (plQ p q r s k)=qHi p q r s k:=by
 rcases qNi p q r s k with h | h
 · exact h
 · exact absurd ⟨hq,hs⟩ h
theorem qKk (k:Int):plP 1 1 0 1 k=1∧plQ 1 1 0 1 k=1:=by
 show qt (1*1+k*0*1) (1*1)=1∧qj (1*1+k*0*1) (1*1)=1
 have e:(1:Int)*1+k*0*1=1:=by omega
 rw [e]
 decide
theorem qJw {ms:List Im}(hG:Geo ms){k:Nat}{m:Im}{t:Int}(hk:ms[k]? =some m)(hm:m.wd≠"clip")(k1:qY ms k≤t)(k2:t < qY ms k+m.mo):xS 0 0 ms t=none:=by
 cases h:xS 0 0 ms t with
 | none=>rfl
 | some r=>
  obtain⟨i,j⟩:=r
  obtain⟨_,l,h1,h2,h3,_⟩:=jb h
  rw [Nat.sub_zero] at h1 h2 h3
  exact absurd (hG.side h1 (by omega) (by omega) hk k1 k2).2 hm
theorem qFp {ms:List Im}(hG:Geo ms){k:Nat}{n:Str}{p q r s l t:Int}(hk:ms[k]? =some (.clip n p q r s l))(k1:qY ms k≤t)(k2:t < qY ms k+l):xS 0 0 ms t=none↔qY ms k+tbF ms k≤t∧t < qY ms k+(l - teF ms k):=by
 have e1:=bsS hk
 have em:(Im.clip n p q r s l).mo=l:=rfl
 constructor
 · intro h
   constructor
   · unfold tbF
     split
     · omega
     · rename_i hk0
       obtain⟨j,rfl⟩:∃ j,k=j+1:=⟨k - 1,by omega⟩
       rw [Nat.add_sub_cancel]
       split
       · rename_i l' hl'
         have hno:=qDx h hl'
         have e2:=bsS hl'
         have e0:(Im.mix l').mo=0:=rfl
         have:=hlf (show 1≤l' from hG.wf _ (List.mem_of_getElem? hl'))
         by_cases hc:qY ms (j+1)+(l' - l'.fdiv 2)≤t
         · exact hc
         · exact absurd ⟨by omega,by omega⟩ hno
       · omega
   · unfold teF
     split
     · rename_i l' hl'
       have hno:=qDx h hl'
       have:=hlf (show 1≤l' from hG.wf _ (List.mem_of_getElem? hl'))
       by_cases hc:t < qY ms k+(l - l'.fdiv 2)
       · exact hc
       · exact absurd ⟨by omega,by omega⟩ hno
     · omega
 · rintro ⟨h1,h2⟩
   cases h:xS 0 0 ms t with
   | none=>rfl
   | some x=>
    obtain⟨i,j⟩:=x
    obtain⟨_,l',h3,h4,h5,_⟩:=jb h
    rw [Nat.sub_zero] at h3 h4 h5
    rcases (hG.side h3 (by omega) (by omega) hk k1 k2).1 with e | e
    · subst e
      rw [qH3 h3] at h2
      omega
    · subst e
      rw [qJ1 h3] at h1
      have e2:=bsS h3
      have e0:(Im.mix l').mo=0:=rfl
      omega
theorem qO0 {f:Str→Int→Rn}{F:Str→Int→List Te}{ms:List Im}(hG:Geo ms)(hN:∀ nm b l,Im.nest nm b l∈ms→0≤b∧qKi (f nm) (F nm)):qKi (qV f ms) (qd F ms):=by
 have nn:∀ k,0≤qY ms k:=fun k=>by have:=bsM hG.nn (Nat.zero_le k);rw [bs0] at this;exact this
 have key:∀ t,0≤t→(qV f ms t).has t∧0≤(qV f ms t).b∧(∀ x∈(qV f ms t).ps,PtG x)∧(qV f ms t).ps.map (fun x=>(x.later (t - (qV f ms t).b)).tell)=qd F ms t∧∀ t',(qV f ms t).has t'→qV f ms t'=qV f ms t:=by
  intro t t0
  cases hm:xS 0 0 ms t with
  | some x=>
   obtain⟨i,j⟩:=x
   obtain⟨_,l,hi,h2,h3,h4⟩:=jb hm
   rw [Nat.sub_zero] at hi h2 h3 h4
   obtain⟨i1,⟨n,p,q,r,s,k,ha⟩,n',p',q',r',s',k',hb⟩:=hG.mx i l hi
   have wa:=hG.wf _ (List.mem_of_getElem? ha)
   have wb:=hG.wf _ (List.mem_of_getElem? hb)
   have l1:1≤l:=hG.wf _ (List.mem_of_getElem? hi)
   obtain⟨i2,kk,kk',ei,M⟩:=hG.mix hi
   have hb0:0≤qY ms i - l.fdiv 2:=by
    have:=M.b1
    have:=M.f1
    have:=nn i2
    rw [ei]
    omega
   have ej:t - j=qY ms i - l.fdiv 2:=by omega
   have eR:qV f ms t=qFo ms i (qY ms i - l.fdiv 2):=by
    unfold qV
    rw [hm]
    dsimp only
    rw [ej]
   have eT:qd F ms t=zx ms i j:=by unfold qd;rw [hm]
   have eM:zx ms i j=[⟨n,qHi p q r s (k+(j - l.fdiv 2)),qt (l - j) (l+1),qj (l - j) (l+1)⟩,⟨n',qHi p' q' r' s' (j - l.fdiv 2),qt (j+1) (l+1),qj (j+1) (l+1)⟩]:=by
    unfold zx;rw [hi,ha,hb]
   have eX:qFo ms i (qY ms i - l.fdiv 2)=⟨qY ms i - l.fdiv 2,some (qY ms i - l.fdiv 2+l),[⟨n,plP p q r s (k+ -l.fdiv 2),plQ p q r s (k+ -l.fdiv 2),r,s,qt (l - 0) (l+1),qj (l - 0) (l+1),qt (-1) (l+1),qj (-1) (l+1)⟩,
    ⟨n',plP p' q' r' s' (-l.fdiv 2),plQ p' q' r' s' (-l.fdiv 2),r',s',qt (0+1) (l+1),qj (0+1) (l+1),qt 1 (l+1),qj 1 (l+1)⟩]⟩:=by
    unfold qFo;rw [hi,ha,hb]
   have hl1:(l+1:Int)≠0:=by omega
   rw [eR,eX,eT,eM]
   refine⟨⟨by show qY ms i - l.fdiv 2≤t;omega,fun e q=>by cases q;omega⟩,hb0,fun x hx=>?_,?_,fun t' ht'=>?_⟩
   · rcases List.mem_cons.mp hx with rfl | hx
     · exact⟨ki wa.1 wa.2.1,wa.2.1,qD7 wa.1 wa.2.1,jD hl1,jD hl1,xO hl1⟩
     · rw [List.mem_singleton] at hx
       subst hx
       exact⟨ki wb.1 wb.2.1,wb.2.1,qD7 wb.1 wb.2.1,jD hl1,jD hl1,xO hl1⟩
   · have ej':t - (qY ms i - l.fdiv 2)=j:=by omega
     show [Pt.tell (Pt.later (t - (qY ms i - l.fdiv 2)) _),Pt.tell (Pt.later (t - (qY ms i - l.fdiv 2)) _)]=_
     rw [ej']
     unfold Pt.later Pt.tell
     dsimp only
     obtain⟨a1,a2⟩:=vR (p:=p) (r:=r) (lo:=k+ -l.fdiv 2) (k:=j) wa.1 wa.2.1
     obtain⟨b1,b2⟩:=vR (p:=p') (r:=r') (lo:=-l.fdiv 2) (k:=j) wb.1 wb.2.1
     obtain⟨c1,c2⟩:=qF9 (a:=l - 0) (c:=-1) (d:=l+1) (k:=j) (by omega)
     obtain⟨d1,d2⟩:=qF9 (a:=0+1) (c:=1) (d:=l+1) (k:=j) (by omega)
     rw [a1,a2,b1,b2,c1,c2,d1,d2,qJ8 wa.1 wa.2.1,qJ8 wb.1 wb.2.1]
     have x1:k+ -l.fdiv 2+j=k+(j - l.fdiv 2):=by omega
     have x2:-l.fdiv 2+j=j - l.fdiv 2:=by omega
     have x3:l - 0+j* -1=l - j:=by omega
     have x4:0+1+j*1=j+1:=by omega
     rw [x1,x2,x3,x4]
   · obtain⟨g1,g2⟩:=ht'
     have g1:qY ms i - l.fdiv 2≤t':=g1
     have g2:=g2 _ rfl
     have hm':=hG.at hi g1 (by omega)
     have ej2:t' - (t' - (qY ms i - l.fdiv 2))=qY ms i - l.fdiv 2:=by omega
     unfold qV
     rw [hm']
     dsimp only
     rw [ej2,eX]
  | none=>
  cases hit:jO 0 0 ms t with
  | none=>
   have hl:=qJj hG.nn hit t0
   have eR:qV f ms t=⟨jS ms,none,[]⟩:=by unfold qV;rw [hm,hit]
   have eT:qd F ms t=[]:=by unfold qd;rw [hm,hit]
   rw [eR,eT]
   refine⟨⟨by show jS ms≤t;omega,fun e q=>by cases q⟩,Nn.len hG.nn,(fun x hx=>by cases hx),rfl,fun t' ht'=>?_⟩
   have hl':jS ms≤t':=ht'.1
   have m':xS 0 0 ms t'=none:=by
    cases h:xS 0 0 ms t' with
    | none=>rfl
    | some r=>
     obtain⟨i,j⟩:=r
     obtain⟨_,l,h1,h2,h3,_⟩:=jb h
     rw [Nat.sub_zero] at h1 h2 h3
     have:=(hG.lt h1 (t:=t') (by omega) (by omega)).2
     omega
   unfold qV
   rw [m',qE1 hG.nn hl']
  | some x=>
  obtain⟨i,d⟩:=x
  obtain⟨_,m,hi,h2,h3,h4⟩:=xt hit
  rw [Nat.sub_zero] at hi h2 h3 h4
  have ed:t - d=qY ms i:=by omega
  have eRn:=kG (f:=f) hm hit hi
  have eTn:=qK8 (F:=F) hm hit hi
  rw [ed] at eRn
  have other:∀ t',qY ms i≤t'→t' < qY ms i+m.mo→xS 0 0 ms t'=none→qV f ms t'=qQr f ms i m (t' - qY ms i) (qY ms i):=fun t' a1 a2 a3=>by
   have it':=qGs (b:=0) (i0:=0) hG.nn hi (show 0+qY ms i≤t' by omega) (by omega)
   rw [Nat.zero_add,Int.zero_add] at it'
   have e2:t' - (t' - qY ms i)=qY ms i:=by omega
   rw [kG a3 it' hi,e2]
  clear hit
  have wm:=hG.wf _ (List.mem_of_getElem? hi)
  cases m with
  | mix l=>
   have h3:t < 0+qY ms i+0:=h3
   omega
  | clip n p q r s l=>
   have h3:t < 0+qY ms i+l:=h3
   obtain⟨w1,w2⟩:=(qFp hG hi (by omega) (by omega)).mp hm
   have eX:zK ms i (qY ms i)=⟨qY ms i+tbF ms i,some (qY ms i+(l - teF ms i)),[⟨n,plP p q r s (tbF ms i),plQ p q r s (tbF ms i),r,s,1,1,0,1⟩]⟩:=by unfold zK;rw [hi]
   have eRn:qV f ms t=zK ms i (qY ms i):=eRn
   have eTn:qd F ms t=[⟨n,qHi p q r s d,1,1⟩]:=eTn
   rw [eRn,eX,eTn]
   have tb0:=qHw hG.wf i
   have te0:=qKa hG.wf i
   refine⟨⟨w1,fun e q=>by cases q;exact w2⟩,by show 0≤qY ms i+tbF ms i;have:=nn i;omega,fun x hx=>?_,?_,fun t' ht'=>?_⟩
   · rw [List.mem_singleton] at hx
     subst hx
     exact⟨ki wm.1 wm.2.1,wm.2.1,qD7 wm.1 wm.2.1,(by show (0:Int) < 1;decide),(by show (0:Int) < 1;decide),(by show Int.gcd 1 1=1;decide)⟩
   · show [Pt.tell (Pt.later (t - (qY ms i+tbF ms i)) _)]=_
     unfold Pt.later Pt.tell
     dsimp only
     obtain⟨a1,a2⟩:=vR (p:=p) (r:=r) (lo:=tbF ms i) (k:=t - (qY ms i+tbF ms i)) wm.1 wm.2.1
     obtain⟨b1,b2⟩:=qKk (t - (qY ms i+tbF ms i))
     rw [a1,a2,b1,b2,qJ8 wm.1 wm.2.1]
     have x1:tbF ms i+(t - (qY ms i+tbF ms i))=d:=by omega
     rw [x1]
   · obtain⟨g1,g2⟩:=ht'
     have g1:qY ms i+tbF ms i≤t':=g1
     have g2:=g2 _ rfl
     have m':=(qFp hG hi (t:=t') (by omega) (by omega)).mpr ⟨g1,g2⟩
     rw [other t' (by omega) (by show t' < qY ms i+l;omega) m']
     show zK ms i (qY ms i)=_
     exact eX
  | nest nm b l=>
   have h3:t < 0+qY ms i+l:=h3
   obtain⟨hb,hP⟩:=hN nm b l (List.mem_of_getElem? hi)
   have eRn:qV f ms t=wI (f nm (b+d)) b l (qY ms i):=eRn
   have eTn:qd F ms t=F nm (b+d):=eTn
   have t1:0≤b+d:=by omega
   have hx:=hP.has _ t1
   have hpg:=hP.pg _ t1
   have htl:=hP.tell _ t1
   have hsm:=fun t'=>hP.same (b+d) t' t1
   generalize hX:f nm (b+d)=x at eRn hx hpg htl hsm
   rw [eRn,eTn]
   have nm':(Im.nest nm b l).wd≠"clip":=by show ("nest":Str)≠"clip";decide+kernel
   have hasN:∀ t',(wI x b l (qY ms i)).has t'↔x.has (b+(t' - qY ms i))∧qY ms i≤t'∧t' < qY ms i+l:=fun t'=>by
    unfold wI
    rw [within_has]
    constructor
    · rintro ⟨⟨q1,q2⟩,q3,q4⟩
      have q1:x.b+(qY ms i - b)≤t':=q1
      refine⟨⟨by omega,fun e q=>?_⟩,q3,q4 _ rfl⟩
      have:=q2 (e+(qY ms i - b)) (by show x.e.map _=_;rw [q];rfl)
      omega
    · rintro ⟨⟨q1,q2⟩,q3,q4⟩
      refine⟨⟨by show x.b+(qY ms i - b)≤t';omega,fun e q=>?_⟩,q3,fun e q=>by cases q;exact q4⟩
      have q:x.e.map (fun e=>e+(qY ms i - b))=some e:=q
      cases hx':x.e with
      | none=>rw [hx'] at q;cases q
      | some e'=>
       rw [hx'] at q
       have:=q2 e' hx'
       have q:some (e'+(qY ms i - b))=some e:=q
       cases q
       omega
   have ed':b+(t - qY ms i)=b+d:=by omega
   refine⟨(hasN t).mpr ⟨by rw [ed'];exact hx,by omega,by omega⟩,?_,?_,?_,fun t' ht'=>?_⟩
   · show 0≤mxI (qY ms i) (x.b+(qY ms i - b))
     have:=nn i
     have:=(qMk (i:=qY ms i) (j:=x.b+(qY ms i - b)) (t:=mxI (qY ms i) (x.b+(qY ms i - b)))).mp (Int.le_refl _)
     omega
   · exact qQc hpg _
   · have eb:(wI x b l (qY ms i)).b=mxI (qY ms i) (x.b+(qY ms i - b)):=rfl
     have ep:(wI x b l (qY ms i)).ps=x.ps.map (Pt.later (mxI (qY ms i) (x.b+(qY ms i - b)) - (x.b+(qY ms i - b)))):=rfl
     rw [eb,ep,List.map_map,← htl]
     refine List.map_congr_left fun y hy=>?_
     show Pt.tell (Pt.later _ (Pt.later _ y))=_
     rw [(hpg y hy).add]
     congr 2
     omega
   · obtain⟨g1,g2,g3⟩:=(hasN t').mp ht'
     have m':=qJw hG hi nm' g2 g3
     rw [other t' g2 g3 m']
     show wI (f nm (b+(t' - qY ms i))) b l (qY ms i)=wI x b l (qY ms i)
     rw [hsm _ g1]
  | gap l=>
   have h3:t < 0+qY ms i+l:=h3
   have nm':(Im.gap l).wd≠"clip":=by show ("gap":Str)≠"clip";decide+kernel
   have eRn:qV f ms t=⟨qY ms i,some (qY ms i+(Im.gap l).mo),[]⟩:=eRn
   have eTn:qd F ms t=[]:=eTn
   have el:(Im.gap l).mo=l:=rfl
   rw [eRn,eTn]
   refine⟨⟨by show qY ms i≤t;omega,fun e q=>by cases q;omega⟩,nn i,(fun x hx=>by cases hx),rfl,fun t' ht'=>?_⟩
   have g1:qY ms i≤t':=ht'.1
   have g2:=ht'.2 _ rfl
   exact other t' g1 g2 (qJw hG hi nm' g1 g2)
 exact⟨fun t h=>(key t h).1,fun t h=>(key t h).2.1,fun t h=>(key t h).2.2.1,fun t h=>(key t h).2.2.2.1,fun t t' h hh=>(key t h).2.2.2.2 t' hh⟩
def zR:Rn:=⟨0,none,[]⟩
def wlk (f:Str→Int→Rn)(t:Int):Rn→List (List Im)→Rn
 | r,[]=>r
 | r,ms::rest=>if ((qV f ms t).within r.b r.e).ps.isEmpty then wlk f t ((qV f ms t).within r.b r.e) rest else (qV f ms t).within r.b r.e
theorem qI9 (i j:Int):i≤mxI i j∧j≤mxI i j:=by
 unfold mxI
 split <;> omega
theorem qJh {f:Str→Int→Rn}{F:Str→Int→List Te}{ms:List Im}(hP:qKi (qV f ms) (qd F ms)){t lo:Int}(t0:0≤t)(hi:Option Int):((qV f ms t).within lo hi).ps.map (fun x=>(x.later (t - ((qV f ms t).within lo hi).b)).tell)=qd F ms t:=by
 have hpg:=hP.pg t t0
 rw [← hP.tell t t0]
 generalize qV f ms t=x at hpg ⊢
 have eb:(x.within lo hi).b=mxI lo x.b:=rfl
 have ep:(x.within lo hi).ps=x.ps.map (Pt.later (mxI lo x.b - x.b)):=rfl
 rw [eb,ep,List.map_map]
 refine List.map_congr_left fun y hy=>?_
 show Pt.tell (Pt.later _ (Pt.later _ y))=_
 rw [(hpg y hy).add]
 congr 2
 omega
structure WkP (r:Rn)(g:Int→Rn)(T:List Te)(t:Int):Prop where
 has:(g t).has t
 b0:0≤(g t).b
 pg:∀ x∈(g t).ps,PtG x
 tell:(g t).ps.map (fun x=>(x.later (t - (g t).b)).tell)=T
 sub:∀ t',(g t).has t'→r.has t'
 same:∀ t',(g t).has t'→g t'=g t
theorem qH4 {f:Str→Int→Rn}{F:Str→Int→List Te}:∀ (ts:List (List Im)) (r:Rn) (t:Int),(∀ ms∈ts,qKi (qV f ms) (qd F ms))→0≤t→r.has t→0≤r.b→r.ps=[]→WkP r (fun t=>wlk f t r ts) (ja (ts.map fun ms=>qd F ms t)) t
 | [],r,t,_,t0,h1,h2,h3=>by
  refine⟨h1,h2,?_,?_,fun _ h=>h,fun _ _=>rfl⟩
  · show ∀ x∈r.ps,PtG x
    rw [h3]
    intro x hx
    cases hx
  · show r.ps.map _=[]
    rw [h3]
    rfl
 | ms::rest,r,t,hP,t0,h1,h2,h3=>by
  have P:=hP ms (List.mem_cons_self ..)
  have hx:=P.has t t0
  have hpg:=P.pg t t0
  have hsm:=fun t'=>P.same t t' t0
  have htl:=qJh (lo:=r.b) P t0 r.e
  have hw:((qV f ms t).within r.b r.e).has t:=within_has.mpr ⟨hx,h1.1,h1.2⟩
  have hb:0≤((qV f ms t).within r.b r.e).b:=by
   have:=(qI9 r.b (qV f ms t).b).1
   show 0≤mxI r.b (qV f ms t).b
   omega
  have hg:∀ x∈((qV f ms t).within r.b r.e).ps,PtG x:=qQc hpg _
  have ew:∀ t',wlk f t' r (ms::rest)=if ((qV f ms t').within r.b r.e).ps.isEmpty then wlk f t' ((qV f ms t').within r.b r.e) rest else (qV f ms t').within r.b r.e:=fun _=>rfl
  have sm:∀ t',((qV f ms t).within r.b r.e).has t'→qV f ms t'=qV f ms t:=fun t' h=>hsm t' (within_has.mp h).1
  have hsub:∀ t',((qV f ms t).within r.b r.e).has t'→r.has t':=fun t' h=>(within_has.mp h).2
  rw [List.map_cons,ja]
  cases hps:((qV f ms t).within r.b r.e).ps.isEmpty with
  | true=>
   have he:((qV f ms t).within r.b r.e).ps=[]:=List.isEmpty_iff.mp hps
   have hT:(qd F ms t).isEmpty=true:=by rw [← htl,he];rfl
   rw [if_pos hT]
   have ih:=qH4 rest ((qV f ms t).within r.b r.e) t (fun m hm=>hP m (List.mem_cons_of_mem _ hm)) t0 hw hb he
   have e1:wlk f t r (ms::rest)=wlk f t ((qV f ms t).within r.b r.e) rest:=by rw [ew,if_pos hps]
   refine⟨?_,?_,?_,?_,fun t' h=>?_,fun t' h=>?_⟩
   · show (wlk f t r (ms::rest)).has t
     rw [e1];exact ih.has
   · show 0≤(wlk f t r (ms::rest)).b
     rw [e1];exact ih.b0
   · show ∀ x∈(wlk f t r (ms::rest)).ps,PtG x
     rw [e1];exact ih.pg
   · show (wlk f t r (ms::rest)).ps.map (fun x=>(x.later (t - (wlk f t r (ms::rest)).b)).tell)=_
     rw [e1];exact ih.tell
   · have h:(wlk f t r (ms::rest)).has t':=h
     rw [e1] at h
     exact hsub t' (ih.sub t' h)
   · have h:(wlk f t r (ms::rest)).has t':=h
     show wlk f t' r (ms::rest)=wlk f t r (ms::rest)
     rw [e1] at h ⊢
     rw [ew,sm t' (ih.sub t' h),if_pos hps]
     exact ih.same t' h
  | false=>
   have hT:¬ (qd F ms t).isEmpty=true:=by
    rw [← htl,List.isEmpty_map,hps]
    decide
   rw [if_neg hT]
   have e1:wlk f t r (ms::rest)=(qV f ms t).within r.b r.e:=by rw [ew,hps,if_neg (by decide)]
   refine⟨?_,?_,?_,?_,fun t' h=>?_,fun t' h=>?_⟩
   · show (wlk f t r (ms::rest)).has t
     rw [e1];exact hw
   · show 0≤(wlk f t r (ms::rest)).b
     rw [e1];exact hb
   · show ∀ x∈(wlk f t r (ms::rest)).ps,PtG x
     rw [e1];exact hg
   · show (wlk f t r (ms::rest)).ps.map (fun x=>(x.later (t - (wlk f t r (ms::rest)).b)).tell)=_
     rw [e1];exact htl
   · have h:(wlk f t r (ms::rest)).has t':=h
     rw [e1] at h
     exact hsub t' h
   · have h:(wlk f t r (ms::rest)).has t':=h
     show wlk f t' r (ms::rest)=wlk f t r (ms::rest)
     rw [e1] at h ⊢
     rw [ew,sm t' h,hps,if_neg (by decide)]
def qh (rm:Rms):Nat→Str→Int→Rn
 | 0,_,_=>zR
 | n+1,nm,t=>wlk (qh rm n) t zR ((rm nm).getD [])
def qNt (rm:Rms):Nat→Str→Prop
 | 0,_=>False
 | n+1,nm=>∃ ts,rm nm=some ts∧∀ ms∈ts,Geo ms∧∀ nm' b l,Im.nest nm' b l∈ms→0≤b∧qNt rm n nm'
theorem qN0 (rm:Rms):∀ (n:Nat) (nm:Str),qNt rm n nm→qKi (qh rm n nm) (jE rm n nm)
 | 0,_,h=>h.elim
 | n+1,nm,⟨ts,hts,h⟩=>by
  have ih:∀ ms∈ts,qKi (qV (qh rm n) ms) (qd (jE rm n) ms):=fun ms hm=>qO0 (h ms hm).1 fun nm' b l hn=>⟨((h ms hm).2 nm' b l hn).1,qN0 rm n nm' ((h ms hm).2 nm' b l hn).2⟩
  have e1:∀ t,qh rm (n+1) nm t=wlk (qh rm n) t zR ts:=fun t=>by rw [qh,hts];rfl
  have e2:∀ t,jE rm (n+1) nm t=ja (ts.map fun ms=>qd (jE rm n) ms t):=fun t=>by rw [jE,hts];rfl
  have w:∀ t,0≤t→WkP zR (fun t=>wlk (qh rm n) t zR ts) (ja (ts.map fun ms=>qd (jE rm n) ms t)) t:=fun t t0=>qH4 ts zR t ih t0 ⟨t0,fun e q=>by cases q⟩ (by decide) rfl
  refine⟨fun t t0=>?_,fun t t0=>?_,fun t t0=>?_,fun t t0=>?_,fun t t' t0 h=>?_⟩
  · rw [e1];exact(w t t0).has
  · rw [e1];exact(w t t0).b0
  · rw [e1];exact(w t t0).pg
  · rw [e1,e2];exact(w t t0).tell
  · rw [e1] at h ⊢
    rw [e1]
    exact(w t t0).same t' h
theorem qL4 {f f':Str→Int→Rn}{ms:List Im}(h:∀ nm b l,Im.nest nm b l∈ms→f nm=f' nm)(t:Int):qV f ms t=qV f' ms t:=by
 unfold qV
 split
 · rfl
 · split
   · rfl
   · split
     · rename_i m hm
       cases m with
       | nest nm b l=>
        show wI (f nm _) b l _=wI (f' nm _) b l _
        rw [h nm b l (List.mem_of_getElem? hm)]
       | clip=>rfl
       | gap=>rfl
       | mix=>rfl
     · rfl
theorem qA7 {f f':Str→Int→Rn}(t:Int):∀ {ts:List (List Im)} {r:Rn},(∀ ms∈ts,∀ nm b l,Im.nest nm b l∈ms→f nm=f' nm)→wlk f t r ts=wlk f' t r ts
 | [],_,_=>rfl
 | ms::rest,r,h=>by
  rw [wlk,wlk,qL4 (h ms (List.mem_cons_self ..)) t,qA7 t fun m hm=>h m (List.mem_cons_of_mem _ hm)]
theorem qBe (rm:Rms):∀ (n:Nat) (nm:Str),qNt rm n nm→∀ m,n≤m→qh rm m nm=qh rm n nm
 | 0,_,h,_,_=>h.elim
 | n+1,nm,⟨ts,hts,h⟩,m,hm=>by
  obtain⟨k,rfl⟩:∃ k,m=k+1:=⟨m - 1,by omega⟩
  funext t
  rw [qh,qh,hts]
  refine qA7 t fun ms hms nm' b l hn=>?_
  exact qBe rm n nm' ((h ms hms).2 nm' b l hn).2 k (by omega)
theorem qMr {rm:Rms}{N n:Nat}{nm:Str}(h:qNt rm n nm)(hn:n≤N)(t:Int):qh rm N nm t=wlk (qh rm N) t zR ((rm nm).getD []):=by
 have e1:=qBe rm n nm h N hn
 have e2:=qBe rm n nm h (N+1) (by omega)
 rw [e1,← e2]
 rfl
def FB (W p q r s:Int):Prop:=∃ p0 q0 k:Int,0 < q0∧0 < s∧p0.natAbs < 2 ^ 110∧q0.natAbs < 2 ^ 110∧r.natAbs < 2 ^ 110∧s.natAbs < 2 ^ 110∧p=plP p0 q0 r s k∧q=plQ p0 q0 r s k∧-2 ^ 61≤k∧k+W≤2 ^ 62
theorem FB.later {W p q r s j:Int}(h:FB W p q r s)(hj:0≤j):FB (W - j) (plP p q r s j) (plQ p q r s j) r s:=by
 obtain⟨p0,q0,k,h1,h2,h3,h4,h5,h6,rfl,rfl,h7,h8⟩:=h
 obtain⟨e1,e2⟩:=vR (p:=p0) (r:=r) (lo:=k) (k:=j) h1 h2
 exact⟨p0,q0,k+j,h1,h2,h3,h4,h5,h6,e1,e2,by omega,by omega⟩
theorem FB.sub {W W' p q r s:Int}(h:FB W p q r s)(hw:W'≤W):FB W' p q r s:=by
 obtain⟨p0,q0,k,h1,h2,h3,h4,h5,h6,e1,e2,h7,h8⟩:=h
 exact⟨p0,q0,k,h1,h2,h3,h4,h5,h6,e1,e2,h7,by omega⟩
theorem FB.sm {W p q r s:Int}(h:FB W p q r s)(hw:0≤W):0 < q∧0 < s∧Sm2 p∧Sm2 q∧Sm2 r∧Sm2 s:=by
 obtain⟨p0,q0,k,h1,h2,h3,h4,h5,h6,rfl,rfl,h7,h8⟩:=h
 have up:∀ {x:Int} {n:Nat},n≤700→x.natAbs < 2 ^ n→Sm2 x:=fun hn h=>Nat.lt_of_lt_of_le h (Nat.pow_le_pow_right (by decide) hn)
 have a1:=qi h3 h6
 have hk:k.natAbs < 2 ^ 63:=by omega
 have a2:=qi (qi hk h5) h4
 have a3:(p0*s+k*r*q0).natAbs < 2 ^ 284:=by
  have:(2:Nat) ^ (110+110) < 2 ^ 283:=Nat.pow_lt_pow_right (by decide) (by decide)
  have:(2:Nat) ^ 284=2 ^ 283+2 ^ 283:=by decide
  have:(2:Nat) ^ (63+110+110)=2 ^ 283:=rfl
  omega
 exact⟨ki h1 h2,h2,up (n:=284) (by decide) (Nat.lt_of_le_of_lt (qH0 h1 h2) a3),up (n:=220) (by decide) (Nat.lt_of_le_of_lt (qJn h1 h2) (qi h4 h6)),up (n:=110) (by decide) h5,up (n:=110) (by decide) h6⟩
theorem FB.one {W p q r s:Int}(hq:0 < q)(hs:0 < s)(g:Int.gcd p q=1)(h1:p.natAbs < 2 ^ 110)(h2:q.natAbs < 2 ^ 110)(h3:r.natAbs < 2 ^ 110)(h4:s.natAbs < 2 ^ 110)(hw:W≤2 ^ 62):FB W p q r s:=by
 obtain⟨e1,e2⟩:=qN5 (r:=r) (s:=s) hq hs g
 exact⟨p,q,0,hq,hs,h1,h2,h3,h4,e1.symm,e2.symm,by omega,by omega⟩
def PB (W:Int)(x:Pt):Prop:=FB W x.p x.q x.r x.s∧FB W x.a x.b x.c x.d
def Rn.bd (r:Rn):Prop:=∀ x∈r.ps,∃ e,r.e=some e∧PB (e - r.b) x
theorem qFx {b:Int}{e:Option Int}:(⟨b,e,[]⟩:Rn).bd:=fun x hx=>by cases hx
theorem qEa {r:Rn}(h:r.bd)(lo:Int)(hi:Option Int):(r.within lo hi).bd:=fun y hy=>by
 obtain⟨x,hx,rfl⟩:=List.mem_map.mp (show y∈r.ps.map (Pt.later (mxI lo r.b - r.b)) from hy)
 obtain⟨e,he,f1,f2⟩:=h x hx
 have hj:=(qI9 lo r.b).2
 have eb:(r.within lo hi).b=mxI lo r.b:=rfl
 have ee:(r.within lo hi).e=mnO (some e) hi:=by show mnO r.e hi=_;rw [he]
 obtain⟨e',h1,h2⟩:∃ e',mnO (some e) hi=some e'∧e'≤e:=by
  cases hi with
  | none=>exact⟨e,rfl,Int.le_refl _⟩
  | some y=>
   refine⟨_,rfl,?_⟩
   split <;> omega
 refine⟨e',by rw [ee,h1],?_,?_⟩
 · exact(f1.later (j:=mxI lo r.b - r.b) (by omega)).sub (by rw [eb];omega)
 · exact(f2.later (j:=mxI lo r.b - r.b) (by omega)).sub (by rw [eb];omega)
def Im.s:Im→Prop
 | .clip _ p q r s l=>0 < q∧0 < s∧p.natAbs < 2 ^ 110∧q.natAbs < 2 ^ 110∧r.natAbs < 2 ^ 110∧s.natAbs < 2 ^ 110∧1≤l∧l < 2 ^ 60
 | .nest _ b l=>0≤b∧b < 2 ^ 60∧1≤l∧l < 2 ^ 60
 | .gap l=>1≤l∧l < 2 ^ 60
 | .mix l=>1≤l∧l < 2 ^ 60
theorem qNr {x:Rn}(h:x.bd)(b l b0:Int):(wI x b l b0).bd:=by
 refine qEa (fun y hy=>?_) _ _
 obtain⟨e,he,f⟩:=h y hy
 refine⟨e+(b0 - b),by show x.e.map _=_;rw [he];rfl,?_⟩
 have:e+(b0 - b) - (x.b+(b0 - b))=e - x.b:=by omega
 show PB (e+(b0 - b) - (x.b+(b0 - b))) y
 rw [this]
 exact f
theorem qPe {f:Str→Int→Rn}{ms:List Im}(hG:Geo ms)(hs:∀ m∈ms,m.s){t:Int}(t0:0≤t)(hN:∀ nm b l d,Im.nest nm b l∈ms→0≤d→(f nm (b+d)).bd):(qV f ms t).bd:=by
 cases hm:xS 0 0 ms t with
 | some x=>
  obtain⟨i,j⟩:=x
  obtain⟨_,l,hi,h2,h3,h4⟩:=jb hm
  rw [Nat.sub_zero] at hi h2 h3 h4
  obtain⟨i1,⟨n,p,q,r,s,k,ha⟩,n',p',q',r',s',k',hb⟩:=hG.mx i l hi
  have l1:1≤l∧l < 2 ^ 60:=hs _ (List.mem_of_getElem? hi)
  obtain⟨c1,c2,c3,c4,c5,c6,c7,c8⟩:=hs _ (List.mem_of_getElem? ha)
  obtain⟨d1,d2,d3,d4,d5,d6,d7,d8⟩:=hs _ (List.mem_of_getElem? hb)
  have hl:=hlf l1.1
  have eR:qV f ms t=qFo ms i (t - j):=by
   unfold qV
   rw [hm]
  rw [eR]
  have hl1:(l+1:Int)≠0:=by omega
  have up:∀ {x:Int} {n:Nat},n≤110→x.natAbs < 2 ^ n→x.natAbs < 2 ^ 110:=fun hn h=>Nat.lt_of_lt_of_le h (Nat.pow_le_pow_right (by decide) hn)
  have lw:∀ x:Int,x.natAbs < 2 ^ 61→(qt x (l+1)).natAbs < 2 ^ 110∧(qj x (l+1)).natAbs < 2 ^ 110:=fun x hx=>⟨up (n:=61) (by decide) (Nat.lt_of_le_of_lt (zo hl1) hx),up (n:=61) (by decide) (Nat.lt_of_le_of_lt (xD hl1) (by omega))⟩
  unfold qFo
  rw [hi,ha,hb]
  refine fun y hy=>⟨t - j+l,rfl,?_⟩
  have ew:t - j+l - (t - j)=l:=by omega
  show PB (t - j+l - (t - j)) y
  rw [ew]
  rcases List.mem_cons.mp hy with rfl | hy
  · exact⟨⟨p,q,k+ -l.fdiv 2,c1,c2,c3,c4,c5,c6,rfl,rfl,by omega,by omega⟩,FB.one (jD hl1) (jD hl1) (xO hl1) (lw _ (by omega)).1 (lw _ (by omega)).2 (lw _ (by omega)).1 (lw _ (by omega)).2 (by omega)⟩
  · rw [List.mem_singleton] at hy
    subst hy
    exact⟨⟨p',q',-l.fdiv 2,d1,d2,d3,d4,d5,d6,rfl,rfl,by omega,by omega⟩,FB.one (jD hl1) (jD hl1) (xO hl1) (lw _ (by omega)).1 (lw _ (by omega)).2 (lw _ (by omega)).1 (lw _ (by omega)).2 (by omega)⟩
 | none=>
 cases hit:jO 0 0 ms t with
 | none=>
  have eR:qV f ms t=⟨jS ms,none,[]⟩:=by unfold qV;rw [hm,hit]
  rw [eR]
  exact qFx
 | some x=>
  obtain⟨i,d⟩:=x
  obtain⟨_,m,hi,h2,h3,h4⟩:=xt hit
  rw [Nat.sub_zero] at hi h2 h3 h4
  rw [kG hm hit hi]
  have hsm:=hs _ (List.mem_of_getElem? hi)
  cases m with
  | clip n p q r s l=>
   obtain⟨c1,c2,c3,c4,c5,c6,c7,c8⟩:=hsm
   show (zK ms i (t - d)).bd
   unfold zK
   rw [hi]
   refine fun y hy=>⟨t - d+(l - teF ms i),rfl,?_⟩
   rw [List.mem_singleton] at hy
   subst hy
   have tb0:=qHw hG.wf i
   have te0:=qKa hG.wf i
   have hf:=hG.fit i n p q r s l hi
   have ew:t - d+(l - teF ms i) - (t - d+tbF ms i)=l - teF ms i - tbF ms i:=by omega
   show PB (t - d+(l - teF ms i) - (t - d+tbF ms i)) _
   rw [ew]
   exact⟨⟨p,q,tbF ms i,c1,c2,c3,c4,c5,c6,rfl,rfl,by omega,by omega⟩,FB.one (p:=1) (q:=1) (r:=0) (s:=1) (by decide) (by decide) (by decide) (by decide) (by decide) (by decide) (by decide) (by omega)⟩
  | nest nm b l=>exact qNr (hN nm b l d (List.mem_of_getElem? hi) (by omega)) _ _ _
  | gap l=>exact qFx
  | mix l=>exact qFx
theorem qH2 {f:Str→Int→Rn}{t:Int}:∀ (ts:List (List Im)) (r:Rn),(∀ ms∈ts,(qV f ms t).bd)→r.bd→(wlk f t r ts).bd
 | [],_,_,h=>h
 | ms::rest,r,h,hr=>by
  have h1:=qEa (h ms (List.mem_cons_self ..)) r.b r.e
  rw [wlk]
  split
  · exact qH2 rest _ (fun m hm=>h m (List.mem_cons_of_mem _ hm)) h1
  · exact h1
def SmL (rm:Rms):Nat→Str→Prop
 | 0,_=>False
 | n+1,nm=>∃ ts,rm nm=some ts∧ts.length≤300∧∀ ms∈ts,ms.length≤300∧Geo ms∧(∀ m∈ms,m.s)∧∀ nm' b l,Im.nest nm' b l∈ms→SmL rm n nm'
theorem SmL.geo (rm:Rms):∀ (n:Nat) (nm:Str),SmL rm n nm→qNt rm n nm
 | 0,_,h=>h
 | n+1,nm,⟨ts,hts,_,h⟩=>⟨ts,hts,fun ms hm=>⟨(h ms hm).2.1,fun nm' b l hn=>⟨((h ms hm).2.2.1 _ hn).1,SmL.geo rm n nm' ((h ms hm).2.2.2 nm' b l hn)⟩⟩⟩
theorem Im.s_g {m:Im}(h:m.s):m.g:=by
 have up:∀ {x:Int},x.natAbs < 2 ^ 110→x.natAbs < 2 ^ 400:=fun h=>Nat.lt_of_lt_of_le h (Nat.pow_le_pow_right (by decide) (by decide))
 cases m with
 | clip n p q r s l=>exact⟨h.1,h.2.1,up h.2.2.1,up h.2.2.2.1,up h.2.2.2.2.1,up h.2.2.2.2.2.1,h.2.2.2.2.2.2.1,by have:=h.2.2.2.2.2.2.2;omega⟩
 | nest n b l=>exact⟨h.1,h.2.1,h.2.2.1⟩
 | gap l=>exact h.1
 | mix l=>exact h
theorem SmL.lv (rm:Rms):∀ (n:Nat) (nm:Str),SmL rm n nm→Lv rm n nm
 | 0,_,h=>h
 | n+1,nm,⟨ts,hts,hl,h⟩=>⟨ts,hts,hl,fun ms hm=>⟨(h ms hm).1,(h ms hm).2.1.mx,fun m hm'=>⟨Im.s_g ((h ms hm).2.2.1 m hm'),fun nm' b l e=>by subst e;exact SmL.lv rm n nm' ((h ms hm).2.2.2 nm' b l hm')⟩⟩⟩
theorem qO4 (rm:Rms):∀ (n:Nat) (nm:Str),SmL rm n nm→∀ t,0≤t→(qh rm n nm t).bd
 | 0,_,h,_,_=>h.elim
 | n+1,nm,⟨ts,hts,_,h⟩,t,t0=>by
  rw [qh,hts]
  refine qH2 ts _ (fun ms hm=>?_) qFx
  obtain⟨_,hG,hs,hN⟩:=h ms hm
  refine qPe hG hs t0 fun nm' b l d hn hd=>qO4 rm n nm' (hN nm' b l hn) _ ?_
  have:=(hs _ hn).1
  omega
theorem qMb {f:Str→Int→Rn}{ms:List Im}(hG:Geo ms){t:Int}(t0:0≤t)(h:t < jS ms):∃ e,(qV f ms t).e=some e∧e≤jS ms:=by
 cases hm:xS 0 0 ms t with
 | some x=>
  obtain⟨i,j⟩:=x
  obtain⟨_,l,hi,h2,h3,h4⟩:=jb hm
  rw [Nat.sub_zero] at hi h2 h3 h4
  obtain⟨i1,⟨n,p,q,r,s,k,ha⟩,n',p',q',r',s',k',hb⟩:=hG.mx i l hi
  have eR:qV f ms t=qFo ms i (t - j):=by
   unfold qV
   rw [hm]
  rw [eR]
  unfold qFo
  rw [hi,ha,hb]
  refine⟨t - j+l,rfl,?_⟩
  have l1:1≤l:=hG.wf _ (List.mem_of_getElem? hi)
  have:=hlf l1
  have:=(hG.lt hi (t:=qY ms i+(l - l.fdiv 2) - 1) (by omega) (by omega)).2
  omega
 | none=>
 cases hit:jO 0 0 ms t with
 | none=>have:=qJj hG.nn hit t0;omega
 | some x=>
  obtain⟨i,d⟩:=x
  obtain⟨_,m,hi,h2,h3,h4⟩:=xt hit
  rw [Nat.sub_zero] at hi h2 h3 h4
  rw [kG hm hit hi]
  have hk:=(glt hi)
  have hb:=bsM hG.nn (show i+1≤ms.length by omega)
  rw [bsS hi,bsL] at hb
  cases m with
  | clip n p q r s l=>
   show ∃ e,(zK ms i (t - d)).e=some e∧e≤jS ms
   unfold zK
   rw [hi]
   have te0:=qKa hG.wf i
   have hb:qY ms i+l≤jS ms:=hb
   exact⟨_,rfl,by omega⟩
  | nest nm b l=>
   have hb:qY ms i+l≤jS ms:=hb
   show ∃ e,mnO (Option.map _ (f nm (b+d)).e) (some (t - d+l))=some e∧e≤jS ms
   cases (f nm (b+d)).e with
   | none=>exact⟨_,rfl,by omega⟩
   | some y=>
    refine⟨_,rfl,?_⟩
    split <;> omega
  | gap l=>exact⟨_,rfl,by omega⟩
  | mix l=>exact⟨_,rfl,by omega⟩
theorem qIl {f:Str→Int→Rn}{ms:List Im}(hG:Geo ms){t:Int}(h:jS ms≤t):qV f ms t=⟨jS ms,none,[]⟩:=by
 have m':xS 0 0 ms t=none:=by
  cases h':xS 0 0 ms t with
  | none=>rfl
  | some r=>
   obtain⟨i,j⟩:=r
   obtain⟨_,l,h1,h2,h3,_⟩:=jb h'
   rw [Nat.sub_zero] at h1 h2 h3
   have:=(hG.lt h1 (t:=t) (by omega) (by omega)).2
   omega
 unfold qV
 rw [m',qE1 hG.nn h]
theorem qL7 {F:Str→Int→List Te}{ms:List Im}(hG:Geo ms){t:Int}(h:jS ms≤t):qd F ms t=[]:=by
 have m':xS 0 0 ms t=none:=by
  cases h':xS 0 0 ms t with
  | none=>rfl
  | some r=>
   obtain⟨i,j⟩:=r
   obtain⟨_,l,h1,h2,h3,_⟩:=jb h'
   rw [Nat.sub_zero] at h1 h2 h3
   have:=(hG.lt h1 (t:=t) (by omega) (by omega)).2
   omega
 unfold qd
 rw [m',qE1 hG.nn h]
theorem qF4 {f:Str→Int→Rn}{t M:Int}(t0:0≤t):∀ (ts:List (List Im)) (r:Rn),(∀ ms∈ts,Geo ms∧jS ms≤M)→(∀ e,r.e=some e→e≤M)→(∀ e,(wlk f t r ts).e=some e→e≤M)∧((wlk f t r ts).e=none→r.e=none∧∀ ms∈ts,jS ms≤t)
 | [],r,_,h=>⟨h,fun h=>⟨h,fun m hm=>by cases hm⟩⟩
 | ms::rest,r,h,hr=>by
  obtain⟨hG,hM⟩:=h ms (List.mem_cons_self ..)
  have he:∀ e,((qV f ms t).within r.b r.e).e=some e→e≤M:=fun e q=>by
   have q:mnO (qV f ms t).e r.e=some e:=q
   have key:∀ e,(qV f ms t).e=some e→e≤M:=fun e q=>by
    by_cases hl:t < jS ms
    · obtain⟨e',h1,h2⟩:=qMb (f:=f) hG t0 hl
      rw [h1] at q
      cases q
      omega
    · rw [qIl hG (by omega)] at q
      cases q
   cases h1:(qV f ms t).e with
   | none=>rw [h1] at q;exact hr e q
   | some x=>
    have:=key x h1
    rw [h1] at q
    cases h2:r.e with
    | none=>rw [h2] at q;cases q;exact this
    | some y=>
     have:=hr y h2
     rw [h2] at q
     cases q
     split <;> omega
  have hn:((qV f ms t).within r.b r.e).e=none→r.e=none∧jS ms≤t:=fun q=>by
   have q:mnO (qV f ms t).e r.e=none:=q
   by_cases hl:t < jS ms
   · obtain⟨e',h1,h2⟩:=qMb (f:=f) hG t0 hl
     rw [h1] at q
     cases h3:r.e with
     | none=>rw [h3] at q;cases q
     | some y=>rw [h3] at q;cases q
   · rw [qIl hG (by omega)] at q
     exact⟨q,by omega⟩
  rw [wlk]
  split
  · obtain⟨i1,i2⟩:=qF4 (f:=f) t0 rest ((qV f ms t).within r.b r.e) (fun m hm=>h m (List.mem_cons_of_mem _ hm)) he
    refine⟨i1,fun q=>?_⟩
    obtain⟨j1,j2⟩:=i2 q
    obtain⟨k1,k2⟩:=hn j1
    refine⟨k1,fun m hm=>?_⟩
    rcases List.mem_cons.mp hm with rfl | hm
    · exact k2
    · exact j2 m hm
  · rename_i hps
    refine⟨he,fun q=>?_⟩
    obtain⟨k1,k2⟩:=hn q
    refine absurd ?_ hps
    show ((qV f ms t).ps.map _).isEmpty=true
    rw [qIl hG k2]
    rfl
theorem qPb {rm:Rms}{N n:Nat}{nm:Str}{ts:List (List Im)}{t M:Int}(h:qNt rm n nm)(hn:n≤N)(hts:rm nm=some ts)(t0:0≤t)(hM:∀ ms∈ts,jS ms≤M)(ht:∃ ms∈ts,t < jS ms):∃ e,(qh rm N nm t).e=some e∧e≤M:=by
 obtain⟨n,rfl⟩:∃ k,n=k+1:=by
  cases n with
  | zero=>exact h.elim
  | succ k=>exact⟨k,rfl⟩
 obtain⟨ts',hts',hg⟩:=id h
 rw [hts] at hts'
 cases hts'
 rw [qMr h hn,hts]
 obtain⟨w1,w2⟩:=qF4 (f:=qh rm N) t0 ts zR (fun ms hm=>⟨(hg ms hm).1,hM ms hm⟩) (fun e q=>by cases q)
 show ∃ e,(wlk (qh rm N) t zR ts).e=some e∧e≤M
 cases he:(wlk (qh rm N) t zR ts).e with
 | none=>
  obtain⟨ms,hm,hl⟩:=ht
  have:=(w2 he).2 ms hm
  omega
 | some e=>exact⟨e,rfl,w1 e he⟩
theorem qD8:∀ {xs:List (List Te)},(∀ x∈xs,x=[])→ja xs=[]
 | [],_=>rfl
 | x::r,h=>by
  rw [ja,h x (List.mem_cons_self ..),qD8 fun y hy=>h y (List.mem_cons_of_mem _ hy)]
  rfl
theorem qO5 {rm:Rms}{n:Nat}{nm:Str}{ts:List (List Im)}{t:Int}(h:qNt rm n nm)(hts:rm nm=some ts)(ht:∀ ms∈ts,jS ms≤t):jE rm n nm t=[]:=by
 obtain⟨n,rfl⟩:∃ k,n=k+1:=by
  cases n with
  | zero=>exact h.elim
  | succ k=>exact⟨k,rfl⟩
 obtain⟨ts',hts',hg⟩:=id h
 rw [hts] at hts'
 cases hts'
 rw [jE,hts]
 refine qD8 fun x hx=>?_
 obtain⟨ms,hm,rfl⟩:=List.mem_map.mp hx
 exact qL7 (hg ms hm).1 (ht ms hm)
abbrev Pc:=Int × List Pt
def Chn (g:Int→Rn):Int→List Pc→Int→Prop
 | b,[],e=>b=e
 | b,x::r,e=>1≤x.1∧g b=⟨b,some (b+x.1),x.2⟩∧Chn g (b+x.1) r e
theorem qFq {g:Int→Rn}:∀ {L:List Pc} {b e e':Int} {ps:List Pt},Chn g b L e→g e=⟨e,some e',ps⟩→e < e'→Chn g b (L++[(e' - e,ps)]) e'
 | [],b,e,e',ps,h,h1,h2=>by
  have h:b=e:=h
  subst h
  have e1:b+(e' - b)=e':=by omega
  refine⟨by show 1≤e' - b;omega,?_,?_⟩
  · show g b=⟨b,some (b+(e' - b)),ps⟩
    rw [e1];exact h1
  · show b+(e' - b)=e'
    exact e1
 | x::r,b,e,e',ps,⟨h3,h4,h5⟩,h1,h2=>⟨h3,h4,qFq h5 h1 h2⟩
theorem vp {g:Int→Rn}:∀ {L:List Pc} {b e:Int},Chn g b L e→(L.map Prod.fst).sum=e - b∧(L.length:Int)≤e - b∧∀ x∈L,1≤x.1
 | [],b,e,h=>by
  have h:b=e:=h
  subst h
  refine⟨by rw [Int.sub_self];rfl,by rw [Int.sub_self];exact Int.le_refl 0,fun x hx=>by cases hx⟩
 | x::r,b,e,⟨h1,h2,h3⟩=>by
  obtain⟨a1,a2,a3⟩:=vp h3
  refine⟨?_,?_,?_⟩
  · rw [List.map_cons,List.sum_cons,a1];omega
  · rw [List.length_cons];omega
  · intro y hy
    rcases List.mem_cons.mp hy with rfl | hy
    · exact h1
    · exact a3 y hy
theorem qPj {g:Int→Rn}{T:Int→List Te}(hP:qKi g T){t e:Int}{r:Rn}(t0:0≤t)(h:g t=r)(he:r.e=some e):(g e).b=e∧t < e:=by
 subst h
 have h1:=hP.has t t0
 have te:=h1.2 e he
 have h2:=hP.has e (by omega)
 refine⟨?_,te⟩
 by_cases hb:(g e).b≤e - 1
 · have h3:(g e).has (e - 1):=⟨hb,fun e' q=>by have:=h2.2 e' q;omega⟩
   have h4:(g t).has (e - 1):=⟨by have:=h1.1;omega,fun e' q=>by rw [he] at q;cases q;omega⟩
   have e1:=hP.same e (e - 1) (by omega) h3
   have e2:=hP.same t (e - 1) t0 h4
   have e3:g e=g t:=by rw [← e1,e2]
   have:=h2.2 e (by rw [e3];exact he)
   omega
 · have:=h2.1
   omega
theorem qPr {g:Int→Rn}{T:Int→List Te}(hP:qKi g T):(g 0).b=0:=by
 have h1:=(hP.has 0 (by decide)).1
 have h2:=hP.b0 0 (by decide)
 omega
def qDb:List Pc→Int→Int→List Te
 | [],_,_=>[]
 | x::r,b,t=>if t < b+x.1 then x.2.map (fun y=>(y.later (t - b)).tell) else qDb r (b+x.1) t
theorem qFs {g:Int→Rn}{T:Int→List Te}(hP:qKi g T):∀ {L:List Pc} {b e t:Int},Chn g b L e→0≤b→b≤t→qDb L b t=if t < e then T t else []
 | [],b,e,t,h,b0,h1=>by
  have h:b=e:=h
  subst h
  rw [if_neg (by omega)]
  rfl
 | x::r,b,e,t,⟨h1,h2,h3⟩,b0,hb=>by
  rw [qDb]
  have a2:=(vp h3).2.1
  split
  · rename_i ht
    have hh:(g b).has t:=by
     rw [h2]
     exact⟨hb,fun e' q=>by cases q;exact ht⟩
    have e1:=hP.same b t b0 hh
    have e2:=hP.tell t (by omega)
    rw [e1,h2] at e2
    rw [if_pos (by omega),← e2]
  · exact qFs hP h3 (by omega) (by omega)
def Tq (K:W.Frag)(H:Hp)(z:Addr)(xs:List V):Prop:=H z=some (.tup xs)∨SqT K (fun _=>none) z xs
theorem Tq.sq {H:Hp}{z:Addr}{xs:List V}(h:Tq K H z xs):SqT K H z xs:=by
 rcases h with h | ((h | ⟨_,h⟩) | h)
 · exact SqT.of h
 · cases h
 · cases h
 · exact .inr h
theorem j8 {H H':Hp}(e:TS H H'){z:Addr}{xs:List V}(h:Tq K H z xs):Tq K H' z xs:=h.imp (e _ _) id
def IsPt (K:W.Frag)(H:Hp)(x:Pt)(v:V):Prop:=∃ z s1 s2 s3 s4:Addr,v= .ref z∧Tq K H z [.str x.n,.ref s1,.ref s2,.ref s3,.ref s4]∧Tq K H s1 [.int x.p,.int x.q]∧Tq K H s2 [.int x.r,.int x.s]∧Tq K H s3 [.int x.a,.int x.b]∧Tq K H s4 [.int x.c,.int x.d]
theorem IsPt.ts {H H':Hp}(e:TS H H'){x:Pt}{v:V}(h:IsPt K H x v):IsPt K H' x v:=
 let ⟨z,s1,s2,s3,s4,h0,h1,h2,h3,h4,h5⟩:=h;⟨z,s1,s2,s3,s4,h0,j8 e h1,j8 e h2,j8 e h3,j8 e h4,j8 e h5⟩
def IsPts (K:W.Frag)(H:Hp):List Pt→List V→Prop
 | [],[]=>True
 | x::xs,v::vs=>IsPt K H x v∧IsPts K H xs vs
 | _,_=>False
theorem IsPts.ts {H H':Hp}(e:TS H H'):∀ {xs:List Pt} {vs:List V},IsPts K H xs vs→IsPts K H' xs vs
 | [],[],_=>trivial
 | _::_,_::_,h=>⟨h.1.ts e,IsPts.ts e h.2⟩
 | [],_::_,h=>h.elim
 | _::_,[],h=>h.elim
theorem IsPts.len {H:Hp}:∀ {xs:List Pt} {vs:List V},IsPts K H xs vs→vs.length=xs.length
 | [],[],_=>rfl
 | _::_,_::_,h=>by rw [List.length_cons,List.length_cons,IsPts.len h.2]
 | [],_::_,h=>h.elim
 | _::_,[],h=>h.elim
theorem IsPts.get {H:Hp}:∀ {xs:List Pt} {vs:List V} {i:Nat} {v:V},IsPts K H xs vs→vs[i]? =some v→∃ x,xs[i]? =some x∧IsPt K H x v
 | [],[],_,_,_,h=>by simp at h
 | x::_,u::_,0,v,h,e=>by
  have e':u=v:=by simpa using e
  subst e'
  exact⟨x,rfl,h.1⟩
 | _::_,_::_,i+1,v,h,e=>by
  obtain⟨x,h1,h2⟩:=IsPts.get (i:=i) h.2 (by simpa using e)
  exact⟨x,by simpa using h1,h2⟩
 | [],_::_,_,_,h,_=>h.elim
 | _::_,[],_,_,h,_=>h.elim
theorem IsPts.app {H:Hp}:∀ {xs:List Pt} {vs:List V} {x:Pt} {v:V},IsPts K H xs vs→IsPt K H x v→IsPts K H (xs++[x]) (vs++[v])
 | [],[],_,_,_,h=>⟨h,trivial⟩
 | _::_,_::_,_,_,h,h'=>⟨h.1,IsPts.app h.2 h'⟩
 | [],_::_,_,_,h,_=>h.elim
 | _::_,[],_,_,h,_=>h.elim
def eV:Option Int→V
 | none=>.non
 | some e=>.int e
def IsRn (K:W.Frag)(H:Hp)(r:Rn)(v:V):Prop:=∃ (z pz:Addr) (pvs:List V),v= .ref z∧Tq K H z [.int r.b,eV r.e,.ref pz]∧Tq K H pz pvs∧IsPts K H r.ps pvs
theorem IsRn.ts {H H':Hp}(e:TS H H'){r:Rn}{v:V}(h:IsRn K H r v):IsRn K H' r v:=
 let ⟨z,pz,pvs,h0,h1,h2,h3⟩:=h;⟨z,pz,pvs,h0,j8 e h1,j8 e h2,h3.ts e⟩
theorem qHg {x y z:V}:atI [x,y,z] 0=some x:=rfl
theorem qDa {x y z:V}:atI [x,y,z] 1=some y:=rfl
theorem qKp {x y z:V}:atI [x,y,z] 2=some z:=rfl
inductive qLw (K:W.Frag)(vs:List V)(H:Hp)(Q:VK)(_:XK):Prop
| mk (x y:V) (p q r s k:Int) (_:vs=[x,y,.int k]) (_:Pr K H x p q) (_:Pr K H y r s) (_:0 < q) (_:0 < s) (_:Sm2 p) (_:Sm2 q) (_:Sm2 r) (_:Sm2 s) (_:Sm2 k) (_:∀ z H',Same H H'→H' z=some (.tup [.int (plP p q r s k),.int (plQ p q r s k)])→Q (.ref z) H')
theorem qF0 (T:Tx K mg a):FnOk P w K mg base CX0 4 a.A33 a.B33 ["first","step","k"] (qLw K):=by
 refine T.D33.F.ok qK9 (fun vs H Q E h=>?_) (fun cdv A outer s H vs Q E hr h=>?_)
 · obtain⟨x,y,p,q,r,s,k,rfl,_⟩:=h
   rfl
 refine qJ fun _ Y=>?_
 obtain⟨x,y,p,q,r,s',k,rfl,h1,h2,hq,hs,bp,bq,br,bs,bk,kk⟩:=h
 apply Y
 refine⟨_,(qG (qN (qI T.D3 (qDh T) hr rfl (qA (pv 0) (qA (qI T.D5 (wg T) hr rfl (qA (qI T.D2 (jB T) hr rfl (qA (pv 2) (qA qF qB))) (qA (pv 1) qB))) qB))))),?_⟩
 try dsimp only [jq,qk]
 refine⟨_,rfl,_,rfl,k,1,rfl,by decide,Nat.lt_of_lt_of_le (m:=2 ^ 1) (by decide) (Nat.pow_le_pow_right (by decide) (by decide)),fun u hu=>?_⟩
 have s1:=qE hu (.tup [.int (qt k 1),.int (qj k 1)])
 obtain⟨l1,l2⟩:=wP (p:=k) (q:=1) (by decide) (Int.gcd_one_right ..)
 have one:Sm 1:=Nat.lt_of_lt_of_le (m:=2 ^ 1) (by decide) (Nat.pow_le_pow_right (by decide) (by decide))
 refine⟨_,rfl,_,_,k,1,r,s',rfl,⟨u,rfl,?_⟩,h2.same s1,by decide,by omega,bk.sm,one,br.sm,bs.sm,fun x' hx=>?_⟩
 · have e:SqT K (upd H u (.tup [.int (qt k 1),.int (qj k 1)])) u [.int (qt k 1),.int (qj k 1)]:=SqT.of qD
   rw [l1,l2] at e ⊢
   exact e
 have s2:=s1.trans (qE hx (.tup [.int (qt (k*r) (1*s')),.int (qj (k*r) (1*s'))]))
 have b1:(1*s')≠0:=by omega
 have n0:=jD (t:=k*r) b1
 have bm:Sm (qt (k*r) (1*s')):=by
  refine Nat.lt_of_le_of_lt (zo b1) (Nat.lt_of_lt_of_le (qi bk br) (Nat.pow_le_pow_right (by decide) (by decide)))
 have bn:Sm (qj (k*r) (1*s')):=by
  refine Nat.lt_of_le_of_lt (xD b1) ?_
  rw [Int.one_mul]
  exact bs.sm
 refine⟨_,_,p,q,_,_,rfl,h1.same s2,⟨x',rfl,SqT.of qD⟩,by omega,by omega,bp.sm,bq.sm,bm,bn,fun u hu=>?_⟩
 obtain⟨e1,e2⟩:=qF1 (p:=p) (r:=r) (k:=k) hq hs
 refine kk u _ (s2.trans (qE hu _)) ?_
 rw [qD,e1,e2]
 rfl
def PtS (x:Pt):Prop:=0 < x.q∧0 < x.s∧Sm2 x.p∧Sm2 x.q∧Sm2 x.r∧Sm2 x.s∧0 < x.b∧0 < x.d∧Sm2 x.a∧Sm2 x.b∧Sm2 x.c∧Sm2 x.d
theorem PB.s {W:Int}{x:Pt}(h:PB W x)(hw:0≤W):PtS x:=by
 obtain⟨h1,h2⟩:=h
 obtain⟨a1,a2,a3,a4,a5,a6⟩:=h1.sm hw
 obtain⟨b1,b2,b3,b4,b5,b6⟩:=h2.sm hw
 exact⟨a1,a2,a3,a4,a5,a6,b1,b2,b3,b4,b5,b6⟩
inductive qAt (K:W.Frag)(vs:List V)(H:Hp)(Q:VK)(_:XK):Prop
| mk (pz:Addr) (pvs:List V) (ps:List Pt) (k:Int) (_:vs=[.ref pz,.int k]) (_:Tq K H pz pvs) (_:IsPts K H ps pvs) (_:ps.length≤2) (_:Sm2 k) (_:(∀ x∈ps,PtS x)) (_:∀ (z:Addr) (us:List V) (H':Hp),Same H H'→H' z=some (.tup us)→IsPts K H' (ps.map (Pt.later k)) us→Q (.ref z) H')
theorem z9 (T:Tx K mg a):FnOk P w K mg base CX0 5 a.A34 a.B34 ["parts","k"] (qAt K):=by
 refine T.D34.F.ok qAo (fun vs H Q E h=>?_) (fun cdv A outer s H vs Q E hr h=>?_)
 · obtain⟨pz,pvs,ps,k,rfl,_⟩:=h
   rfl
 refine qJ fun _ Y=>?_
 obtain⟨pz,pvs,ps,k,rfl,hpz,hps,hl,bk,hS,kk⟩:=h
 apply Y
 refine⟨_,(qG (qN (jm qCk rfl T.b_tuple rfl (qA (qKz ["k"] [1] rfl (qA4 (pv 0)) (fun _ _ _ _=>(qZ (qA (pv 0) (qA (qI T.D33 (qF0 T) hr rfl (qA (pv 1) (qA (pv 2) (qA (pv 5) qB)))) (qA (pv 2) (qA (qI T.D33 (qF0 T) hr rfl (qA (pv 3) (qA (pv 4) (qA (pv 5) qB)))) (qA (pv 4) qB)))))))) qB)))),?_⟩
 try dsimp only [jq,qk]
 have hpl:=hps.len
 refine⟨_,rfl,pz,rfl,⟨_,hpz.sq⟩,qIt (K:=K) (a:=pz) (xs:=pvs) (fun i acc H'=>Same H H'∧IsPts K H' ((ps.take i).map (Pt.later k)) acc∧acc.length=i) ⟨Same.refl _,trivial,rfl⟩ ?_ ?_ ?_⟩
 · rintro i acc H' hi ⟨e,hA,hal⟩
   exact⟨(j8 (qM e) hpz).sq,qW (by omega)⟩
 · rintro i v acc H' hi hv ⟨e,hA,hal⟩
   refine qJ fun _ Y=>?_
   obtain⟨x,hx,z,s1,s2,s3,s4,rfl,h0,h1,h2,h3,h4⟩:=(hps.ts (qM e)).get hv
   obtain⟨a1,a2,a3,a4,a5,a6,b1,b2,b3,b4,b5,b6⟩:=hS x (List.mem_of_getElem? hx)
   apply Y
   refine⟨z,_,_,_,_,_,rfl,h0.sq,?_⟩
   refine⟨_,rfl,_,rfl,_,rfl,_,rfl,_,_,x.p,x.q,x.r,x.s,k,rfl,⟨s1,rfl,h1.sq⟩,⟨s2,rfl,h2.sq⟩,a1,a2,a3,a4,a5,a6,bk,fun u1 H1 e1 k1=>?_⟩
   refine⟨_,rfl,_,rfl,_,rfl,_,rfl,_,_,x.a,x.b,x.c,x.d,k,rfl,⟨s3,rfl,(j8 (qM e1) h3).sq⟩,⟨s4,rfl,(j8 (qM e1) h4).sq⟩,b1,b2,b3,b4,b5,b6,bk,fun u2 H2 e2 k2=>?_⟩
   refine⟨_,rfl,sL5,fun f hf=>?_⟩
   have w3:=qE hf (.tup [.str x.n,.ref u1,.ref s2,.ref u2,.ref s4])
   have e3:=(e1.trans e2).trans w3
   refine Nxt.mk hi ⟨e.trans e3,?_,by simp [hal]⟩
   have ht:ps.take (i+1)=ps.take i++[x]:=by rw [List.take_add_one,hx];rfl
   rw [ht,List.map_append]
   exact(hA.ts (qM e3)).app ⟨f,u1,s2,u2,s4,rfl,.inl qD,.inl ((e2.trans w3) _ _ k1),j8 (qM e3) h2,.inl (w3 _ _ k2),j8 (qM e3) h4⟩
 rintro acc H1 ⟨e,hA,hal⟩ l hl'
 have w1:=qE hl' (.lst acc)
 refine⟨l,acc,rfl,.inl ⟨SqL.of qD,fun t ht=>?_⟩⟩
 rw [hpl,List.take_length] at hA
 have w2:=qE ht (.tup acc)
 exact kk t acc _ ((e.trans w1).trans w2) qD (hA.ts (qM (w1.trans w2)))
theorem mn_of {x y:Option Int}:((([x,y]:List (Option Int)).filterMap id)=[]→mnO x y=none)∧∀ m∈(([x,y]:List (Option Int)).filterMap id),(∀ n∈(([x,y]:List (Option Int)).filterMap id),m≤n)→mnO x y=some m:=by
 cases x with
 | none=>
  cases y with
  | none=>exact⟨fun _=>rfl,fun m hm=>by simp at hm⟩
  | some y=>
   refine⟨fun h=>by simp at h,fun m hm _=>?_⟩
   have:m=y:=by simpa using hm
   subst this;rfl
 | some x=>
  cases y with
  | none=>
   refine⟨fun h=>by simp at h,fun m hm _=>?_⟩
   have:m=x:=by simpa using hm
   subst this;rfl
  | some y=>
   refine⟨fun h=>by simp at h,fun m hm hn=>?_⟩
   have h1:=hn x (by simp)
   have h2:=hn y (by simp)
   have:m=x∨m=y:=by simpa using hm
   show some (if y < x then y else x)=some m
   congr 1
   split <;> omega
inductive qBk (K:W.Frag)(vs:List V)(H:Hp)(Q:VK)(_:XK):Prop
| mk (v:V) (r:Rn) (lo:Int) (hi:Option Int) (_:vs=[v,.int lo,eV hi]) (_:IsRn K H r v) (_:r.ps.length≤2) (_:(∀ x∈r.ps,PtS x)) (_:Sm2 (mxI lo r.b - r.b)) (_:∀ (v':V) (H':Hp),Same H H'→IsRn K H' (r.within lo hi) v'→Q v' H')
theorem vL (T:Tx K mg a):FnOk P w K mg base CX0 6 a.A35 a.B35 ["run","low","high"] (qBk K):=by
 refine T.D35.F.ok zA (fun vs H Q E h=>?_) (fun cdv A outer s H vs Q E hr h=>?_)
 · obtain⟨v,r,lo,hi,rfl,_⟩:=h
   rfl
 refine qJ fun _ Y=>?_
 obtain⟨v,r,lo,hi,rfl,⟨z,pz,pvs,rfl,hz,hpz,hps⟩,hl,hS,bk,kk⟩:=h
 apply Y
 refine⟨_,(qC (qS 3 zA.nd (qQ (zZ rfl) rfl T.b_max rfl (qA (pv 1) (qA (qK (pv 0)) qB))))
  (qC (qKy (i:=4) [] [] zA.nd rfl rfl rfl (qA4 (qZ (qA (qK (pv 0)) (qA (pv 2) qB)))) (fun _ _ _ _=>(zz (qCc (pv 0)))) (fun _ _ _ _=>(pv 0)))
  (qG (qN (qZ (qA (pv 3) (qA (qNl rfl rfl T.b_min (qA (pv 4) qB) vz) (qA (qI T.D34 (z9 T) hr rfl (qA (qK (pv 0)) (qA (qL jL (pv 3) (qK (pv 0))) qB))) qB)))))))),?_⟩
 try dsimp only [jq,qk]
 refine⟨_,rfl,_,rfl,z,_,_,_,rfl,rfl,hz.sq,qHg,_,_,rfl,?_⟩
 refine⟨_,rfl,z,_,_,_,rfl,rfl,hz.sq,qDa,_,rfl,sL2,fun tz htz=>?_⟩
 have w1:=qE htz (.tup [eV r.e,eV hi])
 have kt:upd H tz (.tup [eV r.e,eV hi]) tz=some (.tup [eV r.e,eV hi]):=qD
 generalize upd H tz (.tup [eV r.e,eV hi])=H1 at w1 kt ⊢
 refine⟨tz,rfl,⟨_,SqT.of kt⟩,qJr (K:=K) (a:=tz) (xs:=[eV r.e,eV hi]) (fun i acc H'=>H'=H1∧acc=(((([r.e,hi]:List (Option Int)).take i).filterMap id).map V.int)∧acc.length≤i) ⟨rfl,rfl,Nat.le_refl _⟩ ?_ ?_ ?_⟩
 · rintro i acc H' hi' ⟨rfl,rfl,hal⟩
   have hi':i≤2:=hi'
   exact⟨SqT.of kt,qW (by omega)⟩
 · rintro i x acc H' hi' hx ⟨rfl,rfl,hal⟩
   refine qJ fun _ Y=>?_
   obtain⟨o,ho,rfl⟩:∃ o,([r.e,hi]:List (Option Int))[i]? =some o∧x=eV o:=by
    have e:([eV r.e,eV hi]:List V)=([r.e,hi]:List (Option Int)).map eV:=rfl
    rw [e,List.getElem?_map] at hx
    cases hq:([r.e,hi]:List (Option Int))[i]? with
    | none=>rw [hq] at hx;cases hx
    | some o=>rw [hq] at hx;exact⟨o,rfl,(Option.some.inj hx).symm⟩
   apply Y
   have et:(([r.e,hi]:List (Option Int)).take (i+1))=([r.e,hi]:List (Option Int)).take i++[o]:=by rw [List.take_add_one,ho];rfl
   cases o with
   | none=>
    refine⟨_,rfl,_,rfl,qLu rfl (Nxt.mk hi' ⟨rfl,?_,by omega⟩)⟩
    rw [et,List.filterMap_append]
    simp
   | some e=>
    refine⟨_,rfl,_,rfl,qKs (by intro z;cases z) ⟨_,rfl,Nxt.mk hi' ⟨rfl,?_,by simp at hal ⊢;omega⟩⟩⟩
    rw [et,List.filterMap_append,List.map_append]
    rfl
 rintro acc H2 ⟨rfl,rfl,hal⟩ l hl'
 have e2:(([r.e,hi]:List (Option Int)).take [eV r.e,eV hi].length)=[r.e,hi]:=rfl
 rw [e2] at hal ⊢
 have w2:=qE hl' (.lst ((([r.e,hi]:List (Option Int)).filterMap id).map V.int))
 have kl:upd H2 l (.lst ((([r.e,hi]:List (Option Int)).filterMap id).map V.int)) l=some (.lst ((([r.e,hi]:List (Option Int)).filterMap id).map V.int)):=qD
 generalize upd H2 l (.lst ((([r.e,hi]:List (Option Int)).filterMap id).map V.int))=H3 at w2 kl ⊢
 have w3:=w1.trans w2
 refine⟨_,rfl,_,rfl,l,_,rfl,SqL.of kl,eV (mnO r.e hi),(fun h=>by rw [mn_of.1 h];rfl),(fun m hm hn=>by rw [mn_of.2 m hm hn];rfl),?_⟩
 refine⟨_,rfl,z,_,_,_,rfl,rfl,(j8 (qM w3) hz).sq,qKp,_,rfl,_,rfl,z,_,_,_,rfl,rfl,(j8 (qM w3) hz).sq,qHg,_,_,rfl,rfl,?_⟩
 refine⟨pz,pvs,r.ps,_,rfl,j8 (qM w3) hpz,hps.ts (qM w3),hl,bk,hS,fun u us H4 w4 ku hu=>?_⟩
 refine⟨sL3,fun f hf=>?_⟩
 have w5:=qE hf (.tup [.int (mxI lo r.b),eV (mnO r.e hi),.ref u])
 exact kk _ _ ((w3.trans w4).trans w5) ⟨f,u,us,rfl,.inl qD,.inl (w5 _ _ ku),hu.ts (qM w5)⟩
inductive qBy (K:W.Frag)(vs:List V)(H:Hp)(Q:VK)(_:XK):Prop
| mk (z:Addr) (ms:List Im) (i:Nat) (b0 l:Int) (_:vs=[.ref z,.int (i:Int),.int b0]) (_:Tr H z ms) (_:qJg ms) (_:(∀ m∈ms,m.s)) (_:ms[i]? =some (.mix l)) (_:∀ (v:V) (H':Hp),Same H H'→IsRn K H' (qFo ms i b0) v→Q v H')
theorem qA9 (T:Tx K mg a):FnOk P w K mg base CX0 6 a.A36 a.B36 ["track","place","begin"] (qBy K):=by
 refine T.D36.F.ok jI (fun vs H Q E h=>?_) (fun cdv A outer s H vs Q E hr h=>?_)
 · obtain⟨z,ms,i,b0,l,rfl,_⟩:=h
   rfl
 refine qJ fun _ Y=>?_
 obtain⟨z,ms,i,b0,l,rfl,⟨xs,hz,his⟩,hok,hs,hm,kk⟩:=h
 apply Y
 refine⟨_,(qC (qS 3 jI.nd (qK (jK qf (pv 0) (pv 1) (fun _ _=>rfl))))
  (qC (qS 4 jI.nd (jK qf (pv 0) (qL jL (pv 1) qF) (fun _ _=>rfl)))
  (qC (qS 5 jI.nd (jK qf (pv 0) (qL qc (pv 1) qF) (fun _ _=>rfl)))
  (qC (qS 6 jI.nd (qI T.D25 (kh T) hr rfl (qA (pv 3) (qA qF qB))))
  (qC (qS 7 jI.nd (kU xJ (qI T.D22 (xF T) hr rfl (qA (pv 3) qB))))
  (qC (qS 8 jI.nd (qZ (qA (qK (pv 4)) (qA (qI T.D9 (jt T) hr rfl (qA (pv 4) (qA (qL qc (qK (pv 4)) (pv 7)) qB))) (qA (qK (pv 4)) (qA (qK (pv 6)) (qA (qI T.D2 (jB T) hr rfl (qA (kU xJ qF) (qA (qL qc (pv 3) qF) qB))) qB)))))))
  (qC (qS 9 jI.nd (qZ (qA (qK (pv 5)) (qA (qI T.D9 (jt T) hr rfl (qA (pv 5) (qA (pv 7) qB))) (qA (qK (pv 5)) (qA (qK (pv 6)) (qA (qI T.D2 (jB T) hr rfl (qA qF (qA (qL qc (pv 3) qF) qB))) qB)))))))
  (qG (qN (qZ (qA (pv 2) (qA (qL qc (pv 2) (pv 3)) (qA (qZ (qA (pv 8) (qA (pv 9) qB))) qB))))))))))))),?_⟩
 try dsimp only [jq,qk]
 refine qJ fun _ Y=>?_
 obtain⟨i1,⟨n,p,q,r,s1,k,ha⟩,n',p',q',r',s2,k',hb⟩:=hok i l hm
 obtain⟨l1,l60⟩:=hs _ (List.mem_of_getElem? hm)
 have ga:=Im.s_g (hs _ (List.mem_of_getElem? ha))
 have gb:=Im.s_g (hs _ (List.mem_of_getElem? hb))
 have el:qFo ms i b0=⟨b0,some (b0+l),[⟨n,plP p q r s1 (k+ -l.fdiv 2),plQ p q r s1 (k+ -l.fdiv 2),r,s1,qt (l - 0) (l+1),qj (l - 0) (l+1),qt (-1) (l+1),qj (-1) (l+1)⟩,
  ⟨n',plP p' q' r' s2 (-l.fdiv 2),plQ p' q' r' s2 (-l.fdiv 2),r',s2,qt (0+1) (l+1),qj (0+1) (l+1),qt 1 (l+1),qj 1 (l+1)⟩]⟩:=by
  unfold qFo;rw [hm,ha,hb]
 rw [el] at kk
 obtain⟨vm,hvm,Im⟩:=his.get' hm
 obtain⟨va,hva,Ia⟩:=his.get' ha
 obtain⟨vb,hvb,Ib⟩:=his.get' hb
 obtain⟨zm,rfl,hzm⟩:=id Im
 apply Y
 have am:atI xs (i:Int)=some (.ref zm):=jC hvm
 have aa:atI xs ((i:Int) - 1)=some va:=by
  have e:(i:Int) - 1=((i - 1:Nat):Int):=by omega
  rw [e];exact jC hva
 have ab:atI xs ((i:Int)+1)=some vb:=by
  have e:(i:Int)+1=((i+1:Nat):Int):=by omega
  rw [e];exact jC hvb
 have hS:=SqL.of (K:=K) hz
 refine⟨_,rfl,_,rfl,z,_,_,_,rfl,rfl,hS,am,ixT (SqT.of hzm) at1 ?_⟩
 refine⟨_,rfl,_,rfl,_,_,rfl,rfl,z,_,_,_,rfl,rfl,hS,aa,?_⟩
 refine⟨_,rfl,_,rfl,_,_,rfl,rfl,z,_,_,_,rfl,rfl,hS,ab,?_⟩
 refine⟨_,rfl,l,0,rfl,by decide,by omega,l60,fun sh H1 w1 ⟨sx,sy,hsh,hsx,hsy⟩=>?_⟩
 refine⟨_,rfl,l,rfl,_,rfl,?_⟩
 have Ia1:=Ia.ts (qM w1)
 have Ib1:=Ib.ts (qM w1)
 refine qJ fun _ Y=>?_
 obtain⟨za,xa,ya,rfl,hza,hxa,hya⟩:=id Ia1
 obtain⟨zb,xb,yb,rfl,hzb,hxb,hyb⟩:=id Ib1
 obtain⟨q0,s0,bp,bq,br,bs,k0,k1⟩:=id ga
 obtain⟨q0',s0',bp',bq',br',bs',_,_⟩:=id gb
 apply Y
 have hf:l.fdiv 2≤l∧0≤l.fdiv 2:=by
  have:=qr (p:=l) (q:=2) (by decide)
  omega
 have bk1:Sm2 (k+ -l.fdiv 2):=by
  have e:(2:Int) ^ 400+2 ^ 61 < 2 ^ 401:=by decide
  have:(k+ -l.fdiv 2).natAbs < 2 ^ 401:=by omega
  exact Nat.lt_of_lt_of_le this (Nat.pow_le_pow_right (by decide) (by decide))
 have bk2:Sm2 (-l.fdiv 2):=by
  have:(-l.fdiv 2).natAbs < 2 ^ 61:=by omega
  exact Nat.lt_of_lt_of_le this (Nat.pow_le_pow_right (by decide) (by decide))
 refine(ixO hza qAi ⟨_,rfl,ixO hza qHa ⟨_,rfl,_,_,rfl,rfl,?_⟩⟩)
 refine⟨_,n,p,q,r,s1,k,_,rfl,qC1 Ia1,q0,s0,j9 bp,j9 bq,j9 br,j9 bs,bk1,fun u1 H2 w2 ku1=>?_⟩
 refine(ixO (w2 _ _ hza) qAp (ixO (w2 _ _ hsh) at0 ?_))
 refine⟨_,rfl,_,rfl,_,_,rfl,rfl,_,_,rfl,by omega,p60 (by omega) (by omega),fun u2 hu2=>?_⟩
 have w3:=qE hu2 (.tup [.int (qt (-1) (l+1)),.int (qj (-1) (l+1))])
 refine⟨sL5,fun f1 hf1=>?_⟩
 have w4:=qE hf1 (.tup [.str n,.ref u1,.ref ya,.ref sx,.ref u2])
 have ku2:=w4 _ _ (show upd H2 u2 (.tup [.int (qt (-1) (l+1)),.int (qj (-1) (l+1))]) u2=some _ from qD)
 have kf1:upd (upd H2 u2 (.tup [.int (qt (-1) (l+1)),.int (qj (-1) (l+1))])) f1 (.tup [.str n,.ref u1,.ref ya,.ref sx,.ref u2]) f1=some _:=qD
 have w24:=(w2.trans w3).trans w4
 have ku1':=(w3.trans w4) _ _ ku1
 generalize upd (upd H2 u2 (.tup [.int (qt (-1) (l+1)),.int (qj (-1) (l+1))])) f1 (.tup [.str n,.ref u1,.ref ya,.ref sx,.ref u2])=H4 at ku2 kf1 w24 ku1' ⊢
 refine(ixO (w24 _ _ hzb) qAi ⟨_,rfl,_,rfl,?_⟩)
 refine⟨_,n',p',q',r',s2,k',_,rfl,qC1 (Ib1.ts (qM w24)),q0',s0',j9 bp',j9 bq',j9 br',j9 bs',bk2,fun u3 H5 w5 ku3=>?_⟩
 have w25:=w24.trans w5
 refine(ixO (w25 _ _ hzb) qAp (ixO (w25 _ _ hsh) at1 ?_))
 refine⟨_,rfl,_,_,rfl,rfl,_,_,rfl,by omega,p60 (by omega) (by omega),fun u4 hu4=>?_⟩
 have w6:=qE hu4 (.tup [.int (qt 1 (l+1)),.int (qj 1 (l+1))])
 refine⟨sL5,fun f2 hf2=>?_⟩
 have w7:=qE hf2 (.tup [.str n',.ref u3,.ref yb,.ref sy,.ref u4])
 refine⟨_,rfl,_,rfl,_,rfl,_,_,rfl,rfl,_,rfl,_,rfl,sL2,fun pz hpz=>?_⟩
 have w8:=qE hpz (.tup [.ref f1,.ref f2])
 refine⟨sL3,fun rz hrz=>?_⟩
 have w9:=qE hrz (.tup [.int b0,.int (b0+l),.ref pz])
 have w59:=((w5.trans w6).trans w7).trans (w8.trans w9)
 have w29:=w24.trans w59
 refine kk _ _ (w1.trans w29) ⟨rz,pz,[.ref f1,.ref f2],rfl,.inl qD,.inl (w9 _ _ qD),?_,?_,trivial⟩
 · exact⟨f1,u1,ya,sx,u2,rfl,.inl (w59 _ _ kf1),.inl (w59 _ _ ku1'),.inl (w29 _ _ hya),.inl (w29 _ _ hsx),.inl (w59 _ _ ku2)⟩
 · have w79:=w7.trans (w8.trans w9)
   exact⟨f2,u3,yb,sy,u4,rfl,.inl ((w8.trans w9) _ _ qD),.inl ((w6.trans w79) _ _ ku3),.inl (w29 _ _ hyb),.inl (w29 _ _ hsy),.inl (w79 _ _ qD)⟩
inductive qAs (K:W.Frag)(vs:List V)(H:Hp)(Q:VK)(_:XK):Prop
| mk (z:Addr) (ms:List Im) (i:Nat) (b0:Int) (n:Str) (p q r s l:Int) (_:vs=[.ref z,.int (i:Int),.int b0]) (_:Tr H z ms) (_:(∀ m∈ms,m.s)) (_:ms[i]? =some (.clip n p q r s l)) (_:Sm2 (tbF ms i)) (_:∀ (v:V) (H':Hp),Same H H'→IsRn K H' (zK ms i b0) v→Q v H')
theorem qAh (T:Tx K mg a):FnOk P w K mg base CX0 6 a.A37 a.B37 ["track","place","begin"] (qAs K):=by
 refine T.D37.F.ok jv (fun vs H Q E h=>?_) (fun cdv A outer s H vs Q E hr h=>?_)
 · obtain⟨z,ms,i,b0,n,p,q,r,s,l,rfl,_⟩:=h
   rfl
 refine qJ fun _ Y=>?_
 obtain⟨z,ms,i,b0,n,p,q,r,s1,l,rfl,tT,hs,hm,bt,kk⟩:=h
 obtain⟨xs,hz,his⟩:=id tT
 apply Y
 refine⟨_,(qC (qS 3 jv.nd (jK qf (pv 0) (pv 1) (fun _ _=>rfl)))
  (qC (qS 4 jv.nd (qI T.D28 (xg T) hr rfl (qA (pv 0) (qA (pv 1) qB))))
  (qC (qS 5 jv.nd (qL jL (qK (pv 3)) (qI T.D29 (zV T) hr rfl (qA (pv 0) (qA (pv 1) qB)))))
  (qG (qN (qZ (qA (qL qc (pv 2) (pv 4)) (qA (qL qc (pv 2) (pv 5)) (qA (qZ (qA (qZ (qA (qK (pv 3)) (qA (qI T.D9 (jt T) hr rfl (qA (pv 3) (qA (pv 4) qB))) (qA (qK (pv 3)) (qA (xR (v:=.ref a.n_WHOLE_SHARE) rfl T.g_WHOLE_SHARE rfl) (qA (xR (v:=.ref a.n_NOUGHT) rfl T.g_NOUGHT rfl) qB)))))) qB)) qB))))))))),?_⟩
 try dsimp only [jq,qk]
 have gm:=Im.s_g (hs _ (List.mem_of_getElem? hm))
 refine qJ fun _ Y=>?_
 obtain⟨q0,s0,bp,bq,br,bs,k0,k1⟩:=id gm
 have el:zK ms i b0=⟨b0+tbF ms i,some (b0+(l - teF ms i)),[⟨n,plP p q r s1 (tbF ms i),plQ p q r s1 (tbF ms i),r,s1,1,1,0,1⟩]⟩:=by unfold zK;rw [hm]
 rw [el] at kk
 obtain⟨vm,hvm,Im⟩:=his.get' hm
 obtain⟨zm,xm,ym,rfl,hzm,hxm,hym⟩:=id Im
 apply Y
 refine⟨_,rfl,_,rfl,z,_,_,_,rfl,rfl,SqL.of hz,jC hvm,?_⟩
 refine⟨_,rfl,_,rfl,z,ms,i,rfl,tT,?_⟩
 refine(ixO hzm qHa ⟨_,rfl,_,rfl,z,ms,i,rfl,tT,_,_,rfl,rfl,?_⟩)
 refine⟨_,rfl,_,rfl,_,_,rfl,rfl,_,rfl,_,rfl,_,_,rfl,rfl,ixO hzm qAi ⟨_,rfl,_,rfl,?_⟩⟩
 refine⟨_,n,p,q,r,s1,l,_,rfl,qC1 Im,q0,s0,j9 bp,j9 bq,j9 br,j9 bs,bt,fun u1 H2 w2 ku1=>?_⟩
 refine(ixO (w2 _ _ hzm) qAp ⟨sL5,fun f1 hf1=>?_⟩)
 have w3:=qE hf1 (.tup [.str n,.ref u1,.ref ym,.ref a.n_WHOLE_SHARE,.ref a.n_NOUGHT])
 refine⟨sL1,fun pz hpz=>?_⟩
 have w4:=qE hpz (.tup [.ref f1])
 refine⟨sL3,fun rz hrz=>?_⟩
 have w5:=qE hrz (.tup [.int (b0+tbF ms i),.int (b0+(l - teF ms i)),.ref pz])
 have w35:=(w3.trans w4).trans w5
 refine kk _ _ (w2.trans w35) ⟨rz,pz,[.ref f1],rfl,.inl qD,.inl (w5 _ _ qD),⟨f1,u1,ym,_,_,rfl,.inl ((w4.trans w5) _ _ qD),.inl (w35 _ _ ku1),.inl ((w2.trans w35) _ _ hym),.inr (T.sq_WHOLE_SHARE _),.inr (T.sq_NOUGHT _)⟩,trivial⟩
def RnsAt (K:W.Frag)(H:Hp)(R:List Rn)(rs:List V):Prop:=rs.length=R.length∧∀ (i:Nat) (r:Rn),R[i]? =some r→∃ x,rs[i]? =some x∧IsRn K H r x
theorem RnsAt.get {H:Hp}{R:List Rn}{rs:List V}(h:RnsAt K H R rs){i:Nat}{x:V}(hx:rs[i]? =some x):∃ r,R[i]? =some r∧IsRn K H r x:=by
 have hi:=(glt hx)
 obtain⟨r,hr⟩:∃ r,R[i]? =some r:=⟨_,List.getElem?_eq_getElem (by have:=h.1;omega)⟩
 obtain⟨x',h1,h2⟩:=h.2 i _ hr
 rw [hx] at h1
 cases h1
 exact⟨_,hr,h2⟩
theorem RnsAt.ts {H H':Hp}{R:List Rn}{rs:List V}(e:TS H H')(h:RnsAt K H R rs):RnsAt K H' R rs:=⟨h.1,fun i r hr=>let ⟨x,h1,h2⟩:=h.2 i r hr;⟨x,h1,h2.ts e⟩⟩
inductive qEb (K:W.Frag)(vs:List V)(H:Hp)(Q:VK)(_:XK):Prop
| mk (l:Addr) (rs:List V) (R:List Rn) (t:Int) (_:vs=[.ref l,.int t]) (_:H l=some (.lst rs)) (_:RnsAt K H R rs) (_:∀ p:Nat,p≤R.length→(∀ r,R[p]? =some r→∀ e,r.e=some e→t < e)→Q (.int (p:Int)) H)
theorem qDm (T:Tx K mg a):FnOk P w K mg base CX0 1 a.A41 a.B41 ["runs","moment"] (qEb K):=by
 refine T.D41.F.ok jg (fun vs H Q E h=>?_) (fun cdv A outer s H vs Q E hr h=>?_)
 · obtain⟨l,rs,R,t,rfl,_⟩:=h
   rfl
 refine qJ fun _ Y=>?_
 obtain⟨l,rs,R,t,rfl,hl,hR,kk⟩:=h
 apply Y
 refine⟨_,(qC (qS 2 jg.nd qF)
  (qC (qS 3 jg.nd (qQ qo rfl T.b_len rfl (qA (pv 0) qB)))
  (qC (vO PassesOwn.never (qP kX (pv 2) (pv 3) (qR _)) (qC (qS 4 jg.nd (qL qm (qL qc (pv 2) (pv 3)) qF))
  (qG (qv (PW.pt (zy (zz (qCc (qK (jK qf (pv 0) (pv 4) (fun _ _=>rfl))))) (zf (qP qHp (qK (jK qf (pv 0) (pv 4) (fun _ _=>rfl))) (pv 1) (qR _))))) (qG (qS 2 jg.nd (qL qc (pv 4) qF))) (qG (qS 3 jg.nd (pv 4)))))))
  (qG (qN (pv 2)))))),?_⟩
 try dsimp only [jq,qk]
 have hlen:=hR.1
 refine⟨_,rfl,l,_,rfl,.inl (SqL.of hl),?_⟩
 refine vJ (fun σ H'=>H'=H∧∃ (lo hi:Nat) (v:Option V),σ=[some (.ref l),some (.int t),some (.int (lo:Int)),some (.int (hi:Int)),v]∧lo≤hi∧hi≤R.length∧∀ r,R[hi]? =some r→∀ e,r.e=some e→t < e)
  (fun σ _=>match σ with | [_,_,some (.int x),some (.int y),_]=>(y - x).toNat | _=>0) ⟨rfl,0,R.length,none,by rw [hlen];rfl,Nat.zero_le _,Nat.le_refl _,fun r hr=>by rw [List.getElem?_eq_none (Nat.le_refl _)] at hr;cases hr⟩ ?_ ?_
 · rintro σ H1 ⟨rfl,lo,hi,v,rfl,h1,h2,h3⟩
   refine⟨_,rfl,_,rfl,_,_,rfl,rfl,_,rfl,jp (fun c=>?_) (fun c=>?_)⟩
   · have c:(lo:Int) < (hi:Int):=by simpa using c
     have em:((lo:Int)+(hi:Int)).fdiv 2=(((lo+hi) / 2:Nat):Int):=by
      have:=qr (p:=(lo:Int)+(hi:Int)) (q:=2) (by decide)
      omega
     refine⟨_,rfl,_,rfl,_,_,rfl,rfl,_,_,rfl,rfl,cdB (by decide) (by decide),?_⟩
     rw [em]
     generalize hmid:(lo+hi) / 2=mid
     refine qJ fun _ Y=>?_
     obtain⟨r,hr'⟩:∃ r,R[mid]? =some r:=⟨_,List.getElem?_eq_getElem (by omega)⟩
     obtain⟨x,hx,z,pz,pvs,rfl,hz,_,_⟩:=hR.2 mid r hr'
     apply Y
     have b1:(((mid:Nat):Int) - (lo:Int)).toNat < ((hi:Int) - (lo:Int)).toNat:=by omega
     have b2:((hi:Int) - (((mid:Nat):Int)+1)).toNat < ((hi:Int) - (lo:Int)).toNat:=by omega
     refine⟨_,rfl,_,rfl,l,_,_,_,rfl,rfl,SqL.of hl,jC hx,z,_,_,_,rfl,rfl,hz.sq,qDa,_,rfl,?_⟩
     cases he:r.e with
     | none=>exact qLu rfl ⟨_,rfl,⟨rfl,lo,mid,_,rfl,by omega,by omega,fun r2 h2' e q=>by rw [hr'] at h2';cases h2';rw [he] at q;cases q⟩,b1⟩
     | some e=>
      refine qKs (by intro z;cases z) ?_
      rw [he] at hz
      refine⟨_,rfl,_,rfl,l,_,_,_,rfl,rfl,SqL.of hl,jC hx,z,_,_,_,rfl,rfl,hz.sq,qDa,_,rfl,_,_,rfl,rfl,_,rfl,jp (fun c2=>?_) (fun c2=>?_)⟩
      · exact⟨_,rfl,_,_,rfl,rfl,⟨rfl,mid+1,hi,_,rfl,by omega,h2,h3⟩,b2⟩
      · have c2:¬ e≤t:=by simpa using c2
        exact⟨_,rfl,⟨rfl,lo,mid,_,rfl,by omega,by omega,fun r2 h2' e' q=>by rw [hr'] at h2';cases h2';rw [he] at q;cases q;omega⟩,b1⟩
   · have c:¬ (lo:Int) < (hi:Int):=by simpa using c
     obtain rfl:lo=hi:=by omega
     exact⟨_,rfl,kk lo h2 h3⟩
 · rintro σ H1 Q1 Q2 hq h
   refine qJ fun _ Y=>?_
   obtain⟨x,hx,y,hy,i,j,h1,h2,b,hb,z⟩:=h
   apply Y
   exact⟨x,hx,y,hy,i,j,h1,h2,b,hb,hq _ _ z⟩
theorem qQg {r:Rn}{t:Int}(hb:r.bd)(hh:r.has t):∀ x∈r.ps,PtS x:=fun x hx=>by
 obtain⟨e,he,hp⟩:=hb x hx
 have h1:=hh.1
 have h2:=hh.2 e he
 exact hp.s (by omega)
structure Kf (S S':Addr→Prop)(H H':Hp):Prop where
 keep:∀ b u,¬ S b→H b=some u→H' b=some u
 grow:∀ b,S' b→S b∨H b=none
 tup:TS H H'
theorem Kf.of {S:Addr→Prop}{H H':Hp}(e:Same H H'):Kf S S H H':=⟨fun b u _ h=>e b u h,fun _ h=>.inl h,qM e⟩
theorem Kf.trans {S S' S'':Addr→Prop}{H H' H'':Hp}(h1:Kf S S' H H')(h2:Kf S' S'' H' H''):Kf S S'' H H'':=by
 refine⟨fun b u hb h=>?_,fun b hb=>?_,fun b xs h=>h2.tup _ _ (h1.tup _ _ h)⟩
 · refine h2.keep b u (fun z=>?_) (h1.keep b u hb h)
   rcases h1.grow b z with q | q
   · exact hb q
   · rw [h] at q;cases q
 · rcases h2.grow b hb with q | q
   · exact h1.grow b q
   · by_cases hs:S b
     · exact .inl hs
     · refine .inr ?_
       cases hq:H b with
       | none=>rfl
       | some u=>
        have:=h1.keep b u hs hq
        rw [q] at this
        cases this
structure Bs (H0:Hp)(S:Addr→Prop)(H:Hp):Prop where
 same:Same H0 H
 free:∀ b,S b→H0 b=none
theorem Bs.kf {H0:Hp}{S S':Addr→Prop}{H H':Hp}(h:Bs H0 S H)(k:Kf S S' H H'):Bs H0 S' H':=by
 refine⟨fun b u hb=>k.keep b u (fun z=>?_) (h.same b u hb),fun b hb=>?_⟩
 · have:=h.free b z
   rw [hb] at this
   cases this
 · rcases k.grow b hb with q | q
   · exact h.free b q
   · cases hq:H0 b with
     | none=>rfl
     | some u=>
      have:=h.same b u hq
      rw [q] at this
      cases this
structure KnE (K:W.Frag)(f:Str→Int→Rn)(c:Nat)(S:Addr→Prop)(H:Hp)(nm:Str)(l:Addr)(rs:List V)(R:List Rn):Prop where
 sl:S l
 hl:H l=some (.lst rs)
 len:rs.length≤c
 rn:RnsAt K H R rs
 ok:∀ r∈R,∃ t0,0≤t0∧r=f nm t0
structure KnOk (K:W.Frag)(f:Str→Int→Rn)(c:Nat)(S:Addr→Prop)(kd:Addr)(kvs:List (Key × V))(H:Hp):Prop where
 hd:H kd=some (.dK kvs)
 sd:S kd
 len:kvs.length≤c
 ent:∀ nm v,j3 kvs (Sum.inr nm)=some v→∃ l rs R,v= .ref l∧KnE K f c S H nm l rs R
 inj:∀ nm nm' l,j3 kvs (Sum.inr nm)=some (.ref l)→j3 kvs (Sum.inr nm')=some (.ref l)→nm=nm'
theorem KnE.up {f:Str→Int→Rn}{c c':Nat}{S S':Addr→Prop}{H H':Hp}{nm:Str}{l:Addr}{rs:List V}{R:List Rn}(h:KnE K f c S H nm l rs R)(hc:c≤c')(hS:S l→S' l)(hl:H' l=some (.lst rs))(e:TS H H'):KnE K f c' S' H' nm l rs R:=⟨hS h.sl,hl,Nat.le_trans h.len hc,h.rn.ts e,h.ok⟩
theorem KnOk.up {f:Str→Int→Rn}{c c':Nat}{S:Addr→Prop}{kd:Addr}{kvs:List (Key × V)}{H:Hp}(h:KnOk K f c S kd kvs H)(hc:c≤c'):KnOk K f c' S kd kvs H:=⟨h.hd,h.sd,Nat.le_trans h.len hc,fun nm v q=>let ⟨l,rs,R,e,h'⟩:=h.ent nm v q;⟨l,rs,R,e,h'.up hc id h'.hl fun _ _ z=>z⟩,h.inj⟩
theorem KnOk.same {f:Str→Int→Rn}{c:Nat}{S:Addr→Prop}{kd:Addr}{kvs:List (Key × V)}{H H':Hp}(e:Same H H')(h:KnOk K f c S kd kvs H):KnOk K f c S kd kvs H':=⟨e _ _ h.hd,h.sd,h.len,fun nm v q=>let ⟨l,rs,R,e',h'⟩:=h.ent nm v q;⟨l,rs,R,e',h'.up (Nat.le_refl _) id (e _ _ h'.hl) (qM e)⟩,h.inj⟩
def KvE (kvs kvs':List (Key × V)):Prop:=∀ nm v,j3 kvs (Sum.inr nm)=some v→j3 kvs' (Sum.inr nm)=some v
theorem KnOk.put {f:Str→Int→Rn}{c:Nat}{S:Addr→Prop}{kd l:Addr}{kvs:List (Key × V)}{H:Hp}{nm:Str}(h:KnOk K f c S kd kvs H)(hl:H l=none)(hn:j3 kvs (Sum.inr nm)=none):
 KnOk K f (c+1) (fun b=>S b∨b=l) kd (wB kvs (Sum.inr nm) (.ref l)) (upd (upd H l (.lst [])) kd (.dK (wB kvs (Sum.inr nm) (.ref l))))∧Kf S (fun b=>S b∨b=l) H (upd (upd H l (.lst [])) kd (.dK (wB kvs (Sum.inr nm) (.ref l))))∧KvE kvs (wB kvs (Sum.inr nm) (.ref l))∧j3 (wB kvs (Sum.inr nm) (.ref l)) (Sum.inr nm)=some (.ref l):=by
 have nk:l≠kd:=fun e=>by rw [e,h.hd] at hl;cases hl
 have keep:∀ b u,b≠kd→H b=some u→upd (upd H l (.lst [])) kd (.dK (wB kvs (Sum.inr nm) (.ref l))) b=some u:=fun b u hb hu=>by
  have hbl:b≠l:=fun e=>by rw [e,hl] at hu;cases hu
  rw [qX hb,qX hbl]
  exact hu
 have ts:TS H (upd (upd H l (.lst [])) kd (.dK (wB kvs (Sum.inr nm) (.ref l)))):=fun b xs hb=>keep b _ (fun e=>by rw [e,h.hd] at hb;cases hb) hb
 have self:j3 (wB kvs (Sum.inr nm) (.ref l)) (Sum.inr nm)=some (.ref l):=by rw [qGd,if_pos rfl]
 have oth:∀ {m:Str},m≠nm→j3 (wB kvs (Sum.inr nm) (.ref l)) (Sum.inr m)=j3 kvs (Sum.inr m):=fun {m} hm=>by
  rw [qGd,if_neg (fun e=>hm (Sum.inr.inj e))]
 have old:∀ m l',j3 kvs (Sum.inr m)=some (.ref l')→l'≠l:=fun m l' q e=>by
  obtain⟨l2,rs,R,e2,h'⟩:=h.ent m _ q
  cases e2
  have:=h'.hl
  rw [e,hl] at this
  cases this
 refine⟨⟨qD,.inl h.sd,?_,fun m v q=>?_,fun m m' l' q q'=>?_⟩,⟨fun b u hb hu=>keep b u (fun e=>hb (e ▸ h.sd)) hu,fun b hb=>hb.imp id fun(e:b=l)=>by rw [e];exact hl,ts⟩,fun m v q=>?_,self⟩
 · have:=kI kvs (Sum.inr nm) (.ref l)
   have:=h.len
   omega
 · by_cases hm:m=nm
   · subst hm
     rw [self] at q
     cases q
     refine⟨l,[],[],rfl,.inr rfl,?_,Nat.zero_le _,⟨rfl,fun i r hr=>by simp at hr⟩,fun r hr=>by cases hr⟩
     rw [qX nk,qD]
   · rw [oth hm] at q
     obtain⟨l',rs,R,rfl,h'⟩:=h.ent m v q
     refine⟨l',rs,R,rfl,h'.up (Nat.le_succ _) .inl (keep _ _ (fun e=>?_) h'.hl) ts⟩
     have:=h'.hl
     rw [e,h.hd] at this
     cases this
 · by_cases hm:m=nm
   · by_cases hm':m'=nm
     · rw [hm,hm']
     · subst hm
       rw [self] at q
       cases q
       rw [oth hm'] at q'
       exact absurd rfl (old m' l q')
   · by_cases hm':m'=nm
     · subst hm'
       rw [self] at q'
       cases q'
       rw [oth hm] at q
       exact absurd rfl (old m l q)
     · rw [oth hm] at q
       rw [oth hm'] at q'
       exact h.inj m m' l' q q'
 · by_cases hm:m=nm
   · subst hm
     rw [hn] at q;cases q
   · rw [oth hm];exact q
theorem qOh {H:Hp}{R:List Rn}{rs:List V}{r:Rn}{v:V}(h:RnsAt K H R rs)(hv:IsRn K H r v)(i:Nat):RnsAt K H (R.take i++r::R.drop i) (rs.take i++v::rs.drop i):=by
 have hl:=h.1
 refine⟨by simp [hl],fun k x hx=>?_⟩
 by_cases h1:k < min i R.length
 · rw [List.getElem?_append_left (by rw [List.length_take];omega),List.getElem?_take_of_lt (by omega)] at hx ⊢
   exact h.2 k x hx
 · rw [List.getElem?_append_right (by rw [List.length_take];omega),List.length_take] at hx ⊢
   rw [hl]
   by_cases h2:k - min i R.length=0
   · rw [h2] at hx ⊢
     have:r=x:=by simpa using hx
     subst this
     exact⟨v,by simp,hv⟩
   · obtain⟨j,hj⟩:∃ j,k - min i R.length=j+1:=⟨k - min i R.length - 1,by omega⟩
     rw [hj,List.getElem?_cons_succ,List.getElem?_drop] at hx ⊢
     exact h.2 _ x hx
theorem KnOk.ins {f:Str→Int→Rn}{c:Nat}{S:Addr→Prop}{kd l:Addr}{kvs:List (Key × V)}{H:Hp}{nm:Str}{rs:List V}{R:List Rn}{v:V}{t:Int}(h:KnOk K f c S kd kvs H)(hv:j3 kvs (Sum.inr nm)=some (.ref l))(hE:KnE K f c S H nm l rs R)(hr:IsRn K H (f nm t) v)(t0:0≤t)(i:Nat):
 KnOk K f (c+1) S kd kvs (upd H l (.lst (rs.take i++v::rs.drop i)))∧Kf S S H (upd H l (.lst (rs.take i++v::rs.drop i))):=by
 have nk:kd≠l:=fun e=>by have:=hE.hl;rw [← e,h.hd] at this;cases this
 have ts:TS H (upd H l (.lst (rs.take i++v::rs.drop i))):=fun b xs hb=>by
  rw [qX (fun e=>by rw [e,hE.hl] at hb;cases hb)]
  exact hb
 refine⟨⟨by rw [qX nk];exact h.hd,h.sd,Nat.le_succ_of_le h.len,fun m u q=>?_,h.inj⟩,⟨fun b u hb hu=>by rw [qX (fun e:b=l=>hb (by rw [e];exact hE.sl))];exact hu,fun b hb=>.inl hb,ts⟩⟩
 obtain⟨l',rs',R',rfl,h'⟩:=h.ent m u q
 by_cases hl:l'=l
 · subst hl
   have:=h.inj m nm l' q hv
   subst this
   refine⟨l',_,R.take i++f m t::R.drop i,rfl,hE.sl,qD,?_,(qOh hE.rn hr i).ts ts,fun r hr=>?_⟩
   · have:=hE.len
     simp only [List.length_append,List.length_take,List.length_cons,List.length_drop]
     omega
   · rcases List.mem_append.mp hr with z | z
     · exact hE.ok r (List.mem_of_mem_take z)
     · rcases List.mem_cons.mp z with z | z
       · exact⟨t,t0,z⟩
       · exact hE.ok r (List.mem_of_mem_drop z)
 · exact⟨l',rs',R',rfl,h'.up (Nat.le_succ _) id (by rw [qX hl];exact h'.hl) ts⟩
def Pt.tr (x:Pt):D:=.tup [.leaf (.str x.n),.tup [.leaf (.int x.p),.leaf (.int x.q)],.tup [.leaf (.int x.r),.leaf (.int x.s)],.tup [.leaf (.int x.a),.leaf (.int x.b)],.tup [.leaf (.int x.c),.leaf (.int x.d)]]
theorem IsPt.rep {H:Hp}{x:Pt}{v:V}(h:IsPt K H x v):Rep K H x.tr v:=by
 obtain⟨z,s1,s2,s3,s4,rfl,h0,h1,h2,h3,h4⟩:=h
 have two:∀ {s:Addr} {i j:Int},Tq K H s [.int i,.int j]→Rep K H (.tup [.leaf (.int i),.leaf (.int j)]) (.ref s):=fun {s i j} h=>by
  unfold Rep;exact⟨s,_,rfl,h.sq,zv (xs:=[.int i,.int j]) rfl⟩
 unfold Pt.tr Rep
 refine⟨z,_,rfl,h0.sq,?_⟩
 unfold Reps Reps Reps Reps Reps Reps
 refine⟨?_,two h1,two h2,two h3,two h4,trivial⟩
 unfold Rep;exact⟨rfl,rfl⟩
theorem IsPts.rep {H:Hp}:∀ {xs:List Pt} {vs:List V},IsPts K H xs vs→Reps K H (xs.map Pt.tr) vs
 | [],[],_=>by unfold List.map Reps;trivial
 | _::_,_::_,h=>by unfold List.map Reps;exact⟨h.1.rep,h.2.rep⟩
 | [],_::_,h=>h.elim
 | _::_,[],h=>h.elim
theorem qJc:∀ ts:List Pt,xk (ts.map Pt.tr)≤3
 | []=>by simp [xk]
 | m::ms=>by
  have h2:=qJc ms
  have h1:dep m.tr≤3:=by simp [Pt.tr,dep,xk]
  unfold List.map xk
  omega
theorem neP {H:Hp}{x y:Addr}{pvs:List V}{ps:List Pt}{Q:VK}(h1:Tq K H x pvs)(hp:IsPts K H ps pvs)(h2:H y=some (.tup []))(q:Q (.bl (!ps.isEmpty)) H):qHs K true (.ref x) (.ref y) H Q:=by
 refine⟨.tup (ps.map Pt.tr),.tup [],?_,?_,rfl,by have:=qJc ps;unfold dep;omega,?_⟩
 · unfold Rep
   exact⟨x,pvs,rfl,h1.sq,hp.rep⟩
 · unfold Rep
   exact⟨y,[],rfl,SqT.of h2,by unfold Reps;trivial⟩
 · have e:eqD (.tup (ps.map Pt.tr)) (.tup [])=ps.isEmpty:=by cases ps <;> simp [eqD,xB]
   rw [e]
   exact q
structure Kin (K:W.Frag)(rm:Rms)(N T n c:Nat)(H0:Hp)(S:Addr→Prop)(rz kd:Addr)(kvs:List (Key × V))(H:Hp):Prop where
 room:RoomAt H0 rz rm
 bs:Bs H0 S H
 kn:KnOk K (qh rm N) c S kd kvs H
 hn:n≤N
 trs:∀ nm ts,rm nm=some ts→ts.length≤T
structure Kout (K:W.Frag)(rm:Rms)(N c':Nat)(S:Addr→Prop)(kd:Addr)(kvs:List (Key × V))(H:Hp)(S':Addr→Prop)(kvs':List (Key × V))(H':Hp):Prop where
 kf:Kf S S' H H'
 kn:KnOk K (qh rm N) c' S' kd kvs' H'
 kv:KvE kvs kvs'
theorem Kin.out {rm:Rms}{N T n n' c c':Nat}{H0:Hp}{S S':Addr→Prop}{rz kd:Addr}{kvs kvs':List (Key × V)}{H H':Hp}(h:Kin K rm N T n c H0 S rz kd kvs H)(o:Kout K rm N c' S kd kvs H S' kvs' H')(hn:n'≤N):Kin K rm N T n' c' H0 S' rz kd kvs' H':=⟨h.room,h.bs.kf o.kf,o.kn,hn,h.trs⟩
theorem Kin.same {rm:Rms}{N T n c:Nat}{H0:Hp}{S:Addr→Prop}{rz kd:Addr}{kvs:List (Key × V)}{H H':Hp}(h:Kin K rm N T n c H0 S rz kd kvs H)(e:Same H H'):Kin K rm N T n c H0 S rz kd kvs H':=⟨h.room,h.bs.kf (.of e),h.kn.same e,h.hn,h.trs⟩
theorem Kout.trans {rm:Rms}{N c1 c2:Nat}{S S1 S2:Addr→Prop}{kd:Addr}{kvs kv1 kv2:List (Key × V)}{H H1 H2:Hp}(a1:Kout K rm N c1 S kd kvs H S1 kv1 H1)(a2:Kout K rm N c2 S1 kd kv1 H1 S2 kv2 H2):Kout K rm N c2 S kd kvs H S2 kv2 H2:=⟨a1.kf.trans a2.kf,a2.kn,fun nm v q=>a2.kv nm v (a1.kv nm v q)⟩
theorem Kout.of {rm:Rms}{N T n c:Nat}{H0:Hp}{S:Addr→Prop}{rz kd:Addr}{kvs:List (Key × V)}{H H':Hp}(h:Kin K rm N T n c H0 S rz kd kvs H)(e:Same H H'):Kout K rm N c S kd kvs H S kvs H':=⟨.of e,h.kn.same e,fun _ _ q=>q⟩
theorem Kout.up {rm:Rms}{N c c':Nat}{S S':Addr→Prop}{kd:Addr}{kvs kvs':List (Key × V)}{H H':Hp}(h:Kout K rm N c S kd kvs H S' kvs' H')(hc:c≤c'):Kout K rm N c' S kd kvs H S' kvs' H':=⟨h.kf,h.kn.up hc,h.kv⟩
theorem SmL.run {rm:Rms}{N n:Nat}{nm:Str}(h:SmL rm n nm)(hn:n≤N):qKi (qh rm N nm) (jE rm n nm)∧∀ t,0≤t→(qh rm N nm t).bd∧(qh rm N nm t).ps.length≤2:=by
 have g:=SmL.geo rm n nm h
 have P:=qN0 rm n nm g
 rw [qBe rm n nm g N hn]
 refine⟨P,fun t t0=>⟨qO4 rm n nm h t t0,?_⟩⟩
 have e:=congrArg List.length (P.tell t t0)
 rw [List.length_map] at e
 rw [e]
 exact vZ rm n nm t
inductive kr (K:W.Frag)(N n:Nat)(vs:List V)(H:Hp)(Q:VK)(_:XK):Prop
| mk (rz kd:Addr) (nm:Str) (t:Int) (rm:Rms) (T c:Nat) (H0:Hp) (S:Addr→Prop) (kvs:List (Key × V)) (_:vs=[.ref rz,.str nm,.int t,.ref kd]) (_:Kin K rm N T n c H0 S rz kd kvs H) (_:SmL rm n nm) (_:0≤t) (_:t+n*2 ^ 61 < 2 ^ 400) (_:c+(T+2) ^ n≤8000000) (_:∀ (v:V) (H':Hp) (S':Addr→Prop) (kvs':List (Key × V)),Kout K rm N (c+(T+2) ^ n) S kd kvs H S' kvs' H'→IsRn K H' (qh rm N nm t) v→Q v H')
inductive z6 (K:W.Frag)(N n:Nat)(vs:List V)(H:Hp)(Q:VK)(_:XK):Prop
| mk (rz kd:Addr) (nv:V) (nm:Str) (b l b0 d:Int) (rm:Rms) (T c:Nat) (H0:Hp) (S:Addr→Prop) (kvs:List (Key × V)) (_:vs=[.ref rz,nv,.int b0,.int d,.ref kd]) (_:IsI H0 (.nest nm b l) nv) (_:Kin K rm N T n c H0 S rz kd kvs H) (_:SmL rm n nm) (_:0≤b) (_:b < 2 ^ 60) (_:0≤d) (_:b+d+n*2 ^ 61 < 2 ^ 400) (_:c+(T+2) ^ n≤8000000) (_:∀ (v:V) (H':Hp) (S':Addr→Prop) (kvs':List (Key × V)),Kout K rm N (c+(T+2) ^ n) S kd kvs H S' kvs' H'→IsRn K H' (wI (qh rm N nm (b+d)) b l b0) v→Q v H')
theorem wK (T:Tx K mg a)(N n:Nat)(IH:∀ {base:Heap},FnOk P w K mg base CX0 (4*n+6) a.A42 a.B42 ["room","name","moment","known"] (kr K N n)):
 FnOk P w K mg base CX0 (4*n+7) a.A38 a.B38 ["room","nest","begin","how_far","known"] (z6 K N n):=by
 refine T.D38.F.ok jw (fun vs H Q E h=>?_) (fun cdv A outer s H vs Q E hrn h=>?_)
 · obtain⟨rz,kd,nv,nm,b,l,b0,d,rm,T',c,H0,S,kvs,rfl,_⟩:=h
   rfl
 refine qJ fun _ Y=>?_
 obtain⟨rz,kd,nv,nm,b,l,b0,d,rm,T',c,H0,S,kvs,rfl,hI,hK,hL,hb,hb1,hd,ht,hc,kk⟩:=h
 apply Y
 have hr:=hrn.mono (show 6≤4*n+6 by omega)
 refine⟨_,(qC (qS 5 jw.nd (qI T.D42 IH hrn rfl (qA (pv 0) (qA (qK (pv 1)) (qA (qL qc (qK (pv 1)) (pv 3)) (qA (pv 4) qB)))) (Nat.le_refl _)))
  (qC (qS 6 jw.nd (qL jL (pv 2) (qK (pv 1))))
  (qC (vW (qS 7 jw.nd (wQ (zz (qA6 (qK (pv 5)))) vz (qL qc (qK (pv 5)) (pv 6)))))
  (qG (qN (qI T.D35 (vL T) hr rfl (qA (qZ (qA (qL qc (qK (pv 5)) (pv 6)) (qA (pv 7) (qA (qK (pv 5)) qB)))) (qA (pv 2) (qA (qL qc (pv 2) (qK (pv 1))) qB))))))))),?_⟩
 try dsimp only [jq,qk]
 refine qJ fun _ Y=>?_
 obtain⟨z2,rfl,hz0⟩:=id hI
 apply Y
 have hz2:=hK.bs.same _ _ hz0
 have a1:atI [V.str "nest",.str nm,.int b,.int l] 1=some (.str nm):=rfl
 have a2:atI [V.str "nest",.str nm,.int b,.int l] 2=some (.int b):=rfl
 have a3:atI [V.str "nest",.str nm,.int b,.int l] 3=some (.int l):=rfl
 refine⟨_,rfl,ixO hz2 a1 (ixO hz2 a2 ⟨_,rfl,_,_,rfl,rfl,_,rfl,?_⟩)⟩
 refine⟨rz,kd,nm,b+d,rm,T',c,H0,S,kvs,rfl,hK,hL,by omega,ht,hc,fun v H1 S1 kv1 o1 hv=>?_⟩
 refine qJ fun _ Y=>?_
 obtain⟨hP,hbd⟩:=hL.run hK.hn
 have t0:0≤b+d:=by omega
 obtain⟨bd1,pl1⟩:=hbd _ t0
 apply Y
 have hh:=hP.has _ t0
 have hb0:=hP.b0 _ t0
 have hPS:=qQg bd1 hh
 generalize qh rm N nm (b+d)=x at hv bd1 pl1 hh hb0 hPS kk
 refine qJ fun _ Y=>?_
 obtain⟨z,pz,pvs,rfl,hz,hpz,hps⟩:=hv
 apply Y
 have hz3:H1 z2=some (.tup [.str "nest",.str nm,.int b,.int l]):=o1.kf.tup _ _ hz2
 refine⟨_,rfl,ixO hz3 a2 ⟨_,_,rfl,rfl,?_⟩⟩
 refine⟨fun σ' H'=>H'=H1∧σ'=[some (.ref rz),some (.ref z2),some (.int b0),some (.int d),some (.ref kd),some (.ref z),some (.int (b0 - b)),some (eV (x.e.map fun e=>e+(b0 - b)))],?_,?_⟩
 · refine⟨_,rfl,z,_,_,_,rfl,rfl,hz.sq,qDa,_,rfl,?_⟩
   cases he:x.e with
   | none=>exact wN ⟨rfl,rfl⟩
   | some e=>
    rw [he] at hz
    exact xf ⟨_,rfl,z,_,_,_,rfl,rfl,hz.sq,qDa,_,rfl,_,_,rfl,rfl,rfl,rfl⟩
 rintro σ' H' ⟨rfl,rfl⟩
 refine⟨_,rfl,z,_,_,_,rfl,rfl,hz.sq,qHg,_,rfl,_,_,rfl,rfl,_,rfl,_,rfl,z,_,_,_,rfl,rfl,hz.sq,qKp,sL3,fun f hf=>?_⟩
 have w1:=qE hf (.tup [.int (x.b+(b0 - b)),eV (x.e.map fun e=>e+(b0 - b)),.ref pz])
 have hR:IsRn K (upd H' f (.tup [.int (x.b+(b0 - b)),eV (x.e.map fun e=>e+(b0 - b)),.ref pz])) ⟨x.b+(b0 - b),x.e.map fun e=>e+(b0 - b),x.ps⟩ (.ref f):=⟨f,pz,pvs,rfl,.inl qD,j8 (qM w1) hpz,hps.ts (qM w1)⟩
 refine⟨_,rfl,_,rfl,ixO (w1 _ _ hz3) a3 ⟨_,_,rfl,rfl,?_⟩⟩
 have bm:Sm2 (mxI b0 (x.b+(b0 - b)) - (x.b+(b0 - b))):=by
  have:(mxI b0 (x.b+(b0 - b)) - (x.b+(b0 - b))).natAbs < 2 ^ 60:=by unfold mxI;split <;> omega
  exact Nat.lt_of_lt_of_le this (Nat.pow_le_pow_right (by decide) (by decide))
 refine⟨_,⟨x.b+(b0 - b),x.e.map fun e=>e+(b0 - b),x.ps⟩,b0,some (b0+l),rfl,hR,pl1,hPS,bm,fun v' H2 w2 hv'=>?_⟩
 exact kk v' H2 S1 kv1 (o1.trans (Kout.of (hK.out o1 hK.hn) (w1.trans w2))) hv'
inductive qCz (K:W.Frag)(N n:Nat)(vs:List V)(H:Hp)(Q:VK)(_:XK):Prop
| mk (rz kd z:Addr) (ms:List Im) (t:Int) (rm:Rms) (T c:Nat) (H0:Hp) (S:Addr→Prop) (kvs:List (Key × V)) (_:vs=[.ref rz,.ref z,.int t,.ref kd]) (_:Tr H0 z ms) (_:Kin K rm N T n c H0 S rz kd kvs H) (_:ms.length≤300) (_:Geo ms) (_:(∀ m∈ms,m.s)) (_:(∀ nm b l,Im.nest nm b l∈ms→SmL rm n nm)) (_:0≤t) (_:t+n*2 ^ 61+2 ^ 60 < 2 ^ 400) (_:c+(T+2) ^ n≤8000000) (_:∀ (v:V) (H':Hp) (S':Addr→Prop) (kvs':List (Key × V)),Kout K rm N (c+(T+2) ^ n) S kd kvs H S' kvs' H'→IsRn K H' (qV (qh rm N) ms t) v→Q v H')
theorem qEu (T:Tx K mg a)(N n:Nat)(IH:∀ {base:Heap},FnOk P w K mg base CX0 (4*n+7) a.A38 a.B38 ["room","nest","begin","how_far","known"] (z6 K N n)):
 FnOk P w K mg base CX0 (4*n+8) a.A39 a.B39 ["room","track","moment","known"] (qCz K N n):=by
 refine T.D39.F.ok zT (fun vs H Q E h=>?_) (fun cdv A outer s H vs Q E hrn h=>?_)
 · obtain⟨rz,kd,z,ms,t,rm,T',c,H0,S,kvs,rfl,_⟩:=h
   rfl
 refine qJ fun _ Y=>?_
 obtain⟨rz,kd,z,ms,t,rm,T',c,H0,S,kvs,rfl,tT0,hK,hml,hG,hs,hN,t0,t1,hc,kk⟩:=h
 apply Y
 have hr:=hrn.mono (show 7≤4*n+7 by omega)
 refine⟨_,(qC (qS 4 zT.nd (qI T.D26 (qC5 T) hr rfl (qA (pv 1) (qA (pv 2) qB))))
  (qC (qv (zz (qCc (pv 4))) (qG (qN (qI T.D36 (qA9 T) hr rfl (qA (pv 1) (qA (qK (pv 4)) (qA (qL jL (pv 2) (qK (pv 4))) qB)))))) qU)
  (qC (qS 5 zT.nd (qI T.D17 (vk T) hr rfl (qA (pv 1) (qA (pv 2) qB))))
  (qC (qv (zz (qA6 (pv 5))) (qG (qN (qZ (qA (qI T.D16 (wD T) hr rfl (qA (pv 1) qB)) (qA vz (qA (qZ qB) qB)))))) qU)
  (qC (qS 6 zT.nd (jK qf (pv 1) (qK (pv 5)) (fun _ _=>rfl)))
  (qC (qS 7 zT.nd (qL jL (pv 2) (qK (pv 5))))
  (qC (qv (qP zG (qK (pv 6)) qx (qR _)) (qG (qN (qI T.D37 (qAh T) hr rfl (qA (pv 1) (qA (qK (pv 5)) (qA (pv 7) qB)))))) qU)
  (qC (qv (qP zG (qK (pv 6)) qx (qR _)) (qG (qN (qI T.D38 IH hrn rfl (qA (pv 0) (qA (pv 6) (qA (pv 7) (qA (qK (pv 5)) (qA (pv 3) qB))))) (Nat.le_refl _)))) qU)
  (qG (qN (qZ (qA (pv 7) (qA (qL qc (pv 7) (qI T.D15 (xE T) hr rfl (qA (pv 6) qB))) (qA (qZ qB) qB)))))))))))))),?_⟩
 try dsimp only [jq,qk]
 have tT:=tT0.same hK.bs.same
 refine qJ fun _ Y=>?_
 obtain⟨xs,hz,his⟩:=id tT
 apply Y
 have up:∀ {H':Hp},Same H H'→Kout K rm N (c+(T'+2) ^ n) S kd kvs H S kvs H':=fun {H'} e=>(Kout.of hK e).up (Nat.le_add_right _ _)
 refine⟨_,rfl,_,rfl,z,ms,t,rfl,tT,hml,?_⟩
 cases hmf:xS 0 0 ms t with
 | some x=>
  obtain⟨i,j⟩:=x
  intro p H1 e1 hp
  have et:qV (qh rm N) ms t=qFo ms i (t - j):=by unfold qV;rw [hmf]
  rw [et] at kk
  refine qJ fun _ Y=>?_
  obtain⟨l,_,hm,j0,j1⟩:=qBm hmf
  apply Y
  rw [Nat.sub_zero] at hm
  refine⟨_,rfl,_,rfl,qKs (by intro z;cases z) ?_⟩
  refine⟨_,rfl,ixO hp at0 ⟨_,rfl,ixO hp at1 ⟨_,_,rfl,rfl,?_⟩⟩⟩
  exact⟨z,ms,i,t - j,l,rfl,tT.same e1,hG.mx,hs,hm,fun v H2 e2 hv=>kk v H2 S kvs (up (e1.trans e2)) hv⟩
 | none=>
  intro H1 e1
  refine⟨_,rfl,_,rfl,qLu rfl ?_⟩
  refine⟨_,rfl,_,rfl,z,ms,t,rfl,tT.same e1,?_⟩
  cases hit:jO 0 0 ms t with
  | none=>
   intro H2 e2
   have e12:=e1.trans e2
   have et:qV (qh rm N) ms t=⟨jS ms,none,[]⟩:=by unfold qV;rw [hmf,hit]
   rw [et] at kk
   refine⟨_,rfl,_,rfl,jp (fun _=>?_) (fun c=>absurd (by simp) c)⟩
   refine⟨_,rfl,z,ms,rfl,tT.same e12,hml,fun H3 e3=>?_⟩
   refine⟨sL0,fun pz hpz=>⟨sL3,fun y hy=>?_⟩⟩
   have w4:=qE hpz (.tup [])
   have w5:=qE hy (.tup [.int (ms.map Im.mo).sum,.non,.ref pz])
   exact kk _ _ S kvs (up (((e12.trans e3).trans w4).trans w5)) ⟨y,pz,[],rfl,.inl qD,.inl (w5 _ _ qD),trivial⟩
  | some x=>
   obtain⟨i,d⟩:=x
   intro p H2 e2 hp
   refine qJ fun _ Y=>?_
   obtain⟨d0,d1⟩:=qB6 hit (fun m hm=>Im.s_g (hs m hm)) (by decide)
   obtain⟨_,m,hm⟩:=kL hit
   rw [Nat.sub_zero] at hm
   obtain⟨v,hv,hI⟩:=his.get' hm
   apply Y
   have e12:=e1.trans e2
   have hI2:=hI.ts (qM e12)
   rw [kG hmf hit hm] at kk
   refine⟨_,rfl,_,rfl,jp (fun c=>absurd c (by simp)) (fun _=>?_)⟩
   refine⟨_,rfl,ixO hp at0 ⟨z,_,_,_,rfl,rfl,SqL.of (e12 _ _ hz),jC hv,?_⟩⟩
   have hsm:=hs m (List.mem_of_getElem? hm)
   refine⟨_,rfl,ixO hp at1 ⟨_,_,rfl,rfl,?_⟩⟩
   refine qJ fun _ Y=>?_
   obtain⟨zi,xi,rfl,hzi,h0,h1⟩:=hI2.opn
   apply Y
   refine⟨_,rfl,zi,xi,_,_,rfl,rfl,SqT.of hzi,h0,rfl,_,rfl,?_⟩
   cases m with
   | clip nm p' q r s1 l=>
    refine jp (fun _=>?_) (fun c=>absurd (by show decide (V.str "clip"=V.str "clip")=true;simp) c)
    have hf:=hG.fit i _ _ _ _ _ _ hm
    have tb0:=qHw hG.wf i
    have te0:=qKa hG.wf i
    have bt:Sm2 (tbF ms i):=by
     have:=hsm.2.2.2.2.2.2.2
     have:(tbF ms i).natAbs < 2 ^ 60:=by omega
     exact Nat.lt_of_lt_of_le this (Nat.pow_le_pow_right (by decide) (by decide))
    refine⟨_,rfl,ixO hp at0 ⟨_,rfl,?_⟩⟩
    exact⟨z,ms,i,t - d,nm,p',q,r,s1,l,rfl,tT.same e12,hs,hm,bt,fun v H3 e3 hv=>kk v H3 S kvs (up (e12.trans e3)) hv⟩
   | nest nm b l=>
    refine jp (fun c=>absurd (show decide (V.str "nest"=V.str "clip")=true from c) (by rw [qMa];decide+kernel)) (fun _=>?_)
    refine⟨_,rfl,zi,xi,_,_,rfl,rfl,SqT.of hzi,h0,rfl,_,rfl,?_⟩
    refine jp (fun _=>?_) (fun c=>absurd (by show decide (V.str "nest"=V.str "nest")=true;simp) c)
    refine qJ fun _ Y=>?_
    obtain⟨b0,b1,l1,_⟩:=hsm
    obtain⟨xs0,hz0,his0⟩:=id tT0
    have exs:xs0=xs:=by
     have:=hK.bs.same _ _ hz0
     rw [hz] at this
     cases this;rfl
    subst exs
    obtain⟨v0,hv0,hI0⟩:=his0.get' hm
    rw [hv] at hv0
    cases hv0
    apply Y
    refine⟨_,rfl,_,rfl,_,rfl,ixO hp at1 ⟨_,rfl,?_⟩⟩
    refine⟨rz,kd,_,nm,b,l,t - d,d,rm,T',c,H0,S,kvs,rfl,hI0,hK.same e12,hN nm b l (List.mem_of_getElem? hm),b0,b1,d0,by omega,hc,fun v H3 S3 kv3 o3 hv=>?_⟩
    exact kk v H3 S3 kv3 ((Kout.of hK e12).trans o3) hv
   | gap l=>
    refine jp (fun c=>absurd (show decide (V.str "gap"=V.str "clip")=true from c) (by rw [qMa];decide+kernel)) (fun _=>?_)
    refine⟨_,rfl,zi,xi,_,_,rfl,rfl,SqT.of hzi,h0,rfl,_,rfl,?_⟩
    refine jp (fun c=>absurd (show decide (V.str "gap"=V.str "nest")=true from c) (by rw [qMa];decide+kernel)) (fun _=>?_)
    refine⟨_,rfl,_,rfl,_,rfl,_,_,rfl,hI2,_,_,rfl,rfl,sL0,fun pz hpz=>⟨sL3,fun y hy=>?_⟩⟩
    have w4:=qE hpz (.tup [])
    have w5:=qE hy (.tup [.int (t - d),.int (t - d+(Im.gap l).mo),.ref pz])
    exact kk _ _ S kvs (up ((e12.trans w4).trans w5)) ⟨y,pz,[],rfl,.inl qD,.inl (w5 _ _ qD),trivial⟩
   | mix l=>
    refine qJ fun _ Y=>?_
    obtain⟨_,m',hm',h2',h3',_⟩:=xt hit
    rw [Nat.sub_zero] at hm' h2' h3'
    rw [hm] at hm'
    cases hm'
    apply Y
    have h3':t < 0+qY ms i+0:=h3'
    omega
inductive qCw (K:W.Frag)(N n:Nat)(vs:List V)(H:Hp)(Q:VK)(_:XK):Prop
| mk (rz kd:Addr) (nm:Str) (t:Int) (rm:Rms) (T c:Nat) (H0:Hp) (S:Addr→Prop) (kvs:List (Key × V)) (_:vs=[.ref rz,.str nm,.int t,.ref kd]) (_:Kin K rm N T (n+1) c H0 S rz kd kvs H) (_:SmL rm (n+1) nm) (_:0≤t) (_:t+n*2 ^ 61+2 ^ 60 < 2 ^ 400) (_:c+T*(T+2) ^ n≤8000000) (_:∀ (v:V) (H':Hp) (S':Addr→Prop) (kvs':List (Key × V)),Kout K rm N (c+T*(T+2) ^ n) S kd kvs H S' kvs' H'→IsRn K H' (qh rm N nm t) v→Q v H')
theorem qEn (T:Tx K mg a)(N n:Nat)(IH:∀ {base:Heap},FnOk P w K mg base CX0 (4*n+8) a.A39 a.B39 ["room","track","moment","known"] (qCz K N n)):
 FnOk P w K mg base CX0 (4*n+9) a.A40 a.B40 ["room","name","moment","known"] (qCw K N n):=by
 refine T.D40.F.ok vH (fun vs H Q E h=>?_) (fun cdv A outer s H vs Q E hrn h=>?_)
 · obtain⟨rz,kd,nm,t,rm,T',c,H0,S,kvs,rfl,_⟩:=h
   rfl
 refine qJ fun _ Y=>?_
 obtain⟨rz,kd,nm,t,rm,T',c,H0,S,kvs,rfl,hK,hL,t0,t1,hc,kk⟩:=h
 apply Y
 have hr:=hrn.mono (show 8≤4*n+8 by omega)
 have hu:=hrn.units
 have hu1:=vB hr
 refine⟨_,(qC (qS 4 vH.nd (xR (v:=.ref a.n_NOTHING) rfl T.g_NOTHING rfl))
  (qC (xV PassesOwn.never rfl (jf (qK (kM hu1 (qK (pv 0)) (pv 1) (fun _ _=>rfl)))) (ql (i:=5) vH.nd rfl (Or.inl rfl)) (qC (qS 4 vH.nd (qI T.D35 (vL T) hr rfl (qA (qI T.D39 IH hrn rfl (qA (pv 0) (qA (pv 5) (qA (pv 2) (qA (pv 3) qB)))) (Nat.le_refl _)) (qA (qK (pv 4)) (qA (qK (pv 4)) qB)))))
  (qG (qv (qP (qDu hu) (qK (pv 4)) (qZ qB) (qR _)) (qG qLy) qU))))
  (qG (qN (pv 4))))),?_⟩
 try dsimp only [jq,qk]
 refine qJ fun _ Y=>?_
 obtain⟨ts,hts,htl,hlv⟩:=id hL
 apply Y
 rw [qMr (SmL.geo rm _ nm hL) hK.hn,hts] at kk
 replace kk:∀ (v:V) (H':Hp) (S':Addr→Prop) (kvs':List (Key × V)),Kout K rm N (c+T'*(T'+2) ^ n) S kd kvs H S' kvs' H'→IsRn K H' (wlk (qh rm N) t zR ts) v→Q v H':=kk
 refine qJ fun _ Y=>?_
 obtain⟨re,td,dvs,h1,h2,h3⟩:=hK.room
 obtain⟨v,hv,tt,tl,ti,zs,rfl,h4,h5,h6⟩:=h3 nm ts hts
 apply Y
 have sm:=hK.bs.same
 have hlen:=h6.len
 have hT:=hK.trs nm ts hts
 refine(ixO (sm _ _ h1) at1 ⟨_,rfl,td,_,rfl,.inl ⟨dvs,Sum.inr nm,qFa sm h2,rfl,hv.symm⟩,ixT (SqT.of (sm _ _ h4)) at0 ?_⟩)
 refine⟨tl,rfl,⟨_,SqL.of (sm _ _ h5)⟩,xu (K:=K) (a:=tl) (xs:=zs) (fun i σ H'=>∃ (o1:Option V) (v:V) (r:Rn) (S':Addr→Prop) (kvs':List (Key × V)),σ=[some (.ref rz),some (.str nm),some (.int t),some (.ref kd),some v,o1]∧Kout K rm N (c+i*(T'+2) ^ n) S kd kvs H S' kvs' H'∧IsRn K H' r v∧wlk (qh rm N) t zR ts=wlk (qh rm N) t r (ts.drop i)∧r.has t∧0≤r.b∧r.ps=[]) ⟨none,_,zR,S,kvs,rfl,(Kout.of hK (Same.refl _)).up (Nat.le_add_right _ _),⟨_,_,[],rfl,.inr (T.sq_NOTHING _),.inr (T.sq_NOTHING_2 _),trivial⟩,rfl,⟨t0,fun e q=>by cases q⟩,by decide,rfl⟩ ?_ ?_ ?_⟩
 · rintro i σ H' hi ⟨o1,v,r,S',kvs',rfl,o,_⟩
   exact SqL.of ((hK.bs.kf o.kf).same _ _ h5)
 · rintro i x σ H' hx ⟨o1,v,r,S',kvs',rfl,o,hv',hw,hh,hb,hps⟩
   refine qJ fun _ Y=>?_
   obtain⟨ms,z,hms,rfl,hTr⟩:=h6.get hx
   obtain⟨m1,m2,m3,m4⟩:=hlv ms (List.mem_of_getElem? hms)
   apply Y
   have hi:=(glt hms)
   have hK':Kin K rm N T' n (c+i*(T'+2) ^ n) H0 S' rz kd kvs' H':=hK.out o (by have:=hK.hn;omega)
   have hcc:c+i*(T'+2) ^ n+(T'+2) ^ n≤8000000:=by
    have e:(i+1)*(T'+2) ^ n≤T'*(T'+2) ^ n:=Nat.mul_le_mul_right _ (by omega)
    rw [Nat.succ_mul] at e
    omega
   have hon:=qO0 (f:=qh rm N) (F:=jE rm n) m2 fun nm' b l hn=>⟨(m3 _ hn).1,((m4 nm' b l hn).run (by have:=hK.hn;omega)).1⟩
   have hbd:=qPe (f:=qh rm N) (t:=t) m2 m3 t0 fun nm' b l d hn hd=>(((m4 nm' b l hn).run (by have:=hK.hn;omega)).2 _ (by have:=(m3 _ hn).1;omega)).1
   have hpl:(qV (qh rm N) ms t).ps.length≤2:=by
    have e:=congrArg List.length (hon.tell t t0)
    rw [List.length_map] at e
    rw [e]
    exact qAz (vZ rm n) ms t
   have hx1:=hon.has t t0
   have hx2:=hon.b0 t t0
   have hPS:=qQg hbd hx1
   have hw1:((qV (qh rm N) ms t).within r.b r.e).has t:=within_has.mpr ⟨hx1,hh.1,hh.2⟩
   have bm:Sm2 (mxI r.b (qV (qh rm N) ms t).b - (qV (qh rm N) ms t).b):=by
    have:(mxI r.b (qV (qh rm N) ms t).b - (qV (qh rm N) ms t).b).natAbs < 2 ^ 400:=by
     have h1:=hh.1
     have h2:(0:Int)≤n*2 ^ 61:=Int.mul_nonneg (by omega) (by decide)
     unfold mxI
     split <;> omega
    exact Nat.lt_of_lt_of_le this (Nat.pow_le_pow_right (by decide) (by decide))
   rw [jz hms,wlk] at hw
   refine⟨_,rfl,_,rfl,_,rfl,_,rfl,rz,kd,z,ms,t,rm,T',_,H0,S',kvs',rfl,hTr,hK',m1,m2,m3,m4,t0,t1,hcc,fun u H1 S1 kv1 o1' hu'=>?_⟩
   generalize qV (qh rm N) ms t=y at hw hon hbd hpl hx1 hx2 hPS hw1 bm hu'
   have hv1:=hv'.ts o1'.kf.tup
   refine qJ fun _ Y=>?_
   obtain⟨zr,pz,pvs,rfl,hzr,hpz,hpv⟩:=id hv1
   apply Y
   refine⟨_,rfl,zr,_,_,_,rfl,rfl,hzr.sq,qHg,_,rfl,zr,_,_,_,rfl,rfl,hzr.sq,qDa,?_⟩
   refine⟨u,y,r.b,r.e,rfl,hu',hpl,hPS,bm,fun u2 H2 e2 hu2=>?_⟩
   refine qJ fun _ Y=>?_
   obtain⟨zr2,pz2,pvs2,rfl,hzr2,hpz2,hpv2⟩:=id hu2
   apply Y
   refine⟨_,rfl,zr2,_,_,_,rfl,rfl,hzr2.sq,qKp,sL0,fun en hen=>?_⟩
   have w3:=qE hen (.tup [])
   have oo:=(o.trans o1').trans (Kout.of (hK'.out o1' hK'.hn) (e2.trans w3))
   have hb1:0≤(y.within r.b r.e).b:=by
    have:=(qI9 r.b y.b).1
    show 0≤mxI r.b y.b
    omega
   refine neP (j8 (qM w3) hpz2) (hpv2.ts (qM w3)) qD ⟨_,rfl,?_⟩
   cases hq:(y.within r.b r.e).ps.isEmpty with
   | true=>
    rw [hq,if_pos rfl] at hw
    refine xf ⟨_,_,y.within r.b r.e,S1,kv1,rfl,?_,hu2.ts (qM w3),hw,hw1,hb1,List.isEmpty_iff.mp hq⟩
    rw [Nat.succ_mul,← Nat.add_assoc]
    exact oo
   | false=>
    rw [hq,if_neg (by decide)] at hw
    rw [hw] at kk
    refine wN ⟨_,rfl,kk _ _ S1 kv1 (oo.up ?_) (hu2.ts (qM w3))⟩
    have e:(i+1)*(T'+2) ^ n≤T'*(T'+2) ^ n:=Nat.mul_le_mul_right _ (by omega)
    rw [Nat.succ_mul] at e
    omega
 · rintro σ H' ⟨o1,v,r,S',kvs',rfl,o,hv',hw,_⟩
   rw [hlen,List.drop_length] at hw
   rw [hw] at kk
   refine⟨_,rfl,kk _ _ S' kvs' (o.up ?_) hv'⟩
   rw [hlen]
   exact Nat.add_le_add_left (Nat.mul_le_mul_right _ hT) _
theorem qEj (T:Tx K mg a)(N:Nat):FnOk P w K mg base CX0 6 a.A42 a.B42 ["room","name","moment","known"] (kr K N 0):=by
 refine T.D42.F.ok zN (fun vs H Q E h=>?_) (fun cdv A outer s H vs Q E hrn h=>?_)
 · obtain⟨_,_,_,_,_,_,_,_,_,_,_,_,h,_⟩:=h
   exact h.elim
 · obtain⟨_,_,_,_,_,_,_,_,_,_,_,_,h,_⟩:=h
   exact h.elim
theorem qEp (T:Tx K mg a)(N n:Nat)(IH:∀ {base:Heap},FnOk P w K mg base CX0 (4*n+9) a.A40 a.B40 ["room","name","moment","known"] (qCw K N n)):
 FnOk P w K mg base CX0 (4*n+10) a.A42 a.B42 ["room","name","moment","known"] (kr K N (n+1)):=by
 refine T.D42.F.ok zN (fun vs H Q E h=>?_) (fun cdv A outer s H vs Q E hrn h=>?_)
 · obtain⟨rz,kd,nm,t,rm,T',c,H0,S,kvs,rfl,_⟩:=h
   rfl
 refine qJ fun _ Y=>?_
 obtain⟨rz,kd,nm,t,rm,T',c,H0,S,kvs,rfl,hK,hL,t0,t1,hc,kk⟩:=h
 apply Y
 have hr:=hrn.mono (show 9≤4*n+9 by omega)
 have hu1:=vB hr
 refine⟨_,(qC (qS 4 zN.nd (qKw (pv 3) (pv 1) (jM qB) ⟨rfl,rfl,rfl,rfl⟩))
  (qC (qS 5 zN.nd (qI T.D41 (qDm T) hr rfl (qA (pv 4) (qA (pv 2) qB))))
  (qC (qv (qDo (PW.pt (zy (qP kX (pv 5) (qQ qo rfl T.b_len rfl (qA (pv 4) qB)) (qR _)) (zf (qP qHp (qK (jK qf (pv 4) (pv 5) (fun _ _=>rfl))) (pv 2) (qR _)))))) (qG (qN (jK qf (pv 4) (pv 5) (fun _ _=>rfl)))) qU)
  (qC (qS 6 zN.nd (qI T.D40 IH hrn rfl (qA (pv 0) (qA (pv 1) (qA (pv 2) (qA (pv 3) qB)))) (Nat.le_refl _)))
  (qC (xQ (qAj F.plainAttrs_list F.slot_list_insert F.type_list_insert qHk (pv 4) (qA (pv 5) (qA (pv 6) qB))))
  (qG (qN (pv 6)))))))),?_⟩
 try dsimp only [jq,qk]
 have ep:(T'+2) ^ (n+1)=T'*(T'+2) ^ n+2*(T'+2) ^ n:=by rw [Nat.pow_succ,Nat.mul_comm,Nat.add_mul]
 have p1:1≤(T'+2) ^ n:=Nat.one_le_pow _ _ (by omega)
 rw [ep] at hc kk
 have hcG:c+1+T'*(T'+2) ^ n≤8000000:=by omega
 refine⟨_,rfl,kd,rfl,.inl ⟨_,.inl hK.kn.hd⟩,_,rfl,sL0,fun l0 hl0=>?_⟩
 have w0:=qE hl0 (.lst [])
 have hkl:=hK.kn.len
 refine qJ fun _ Y=>?_
 obtain⟨l,H4,S1,kv1,hcase,o1,hval⟩:∃ (l:Addr) (H4:Hp) (S1:Addr→Prop) (kv1:List (Key × V)),((j3 kvs (Sum.inr nm)=some (.ref l)∧H4=upd H l0 (.lst []))∨(j3 kvs (Sum.inr nm)=none∧V.ref l= .ref l0∧H4=upd (upd H l0 (.lst [])) kd (.dK (wB kvs (Sum.inr nm) (.ref l0)))))∧Kout K rm N (c+1) S kd kvs H S1 kv1 H4∧j3 kv1 (Sum.inr nm)=some (.ref l):=by
  cases hv:j3 kvs (Sum.inr nm) with
  | some v=>
   obtain⟨l,rs,R,rfl,hE⟩:=hK.kn.ent nm v hv
   exact⟨l,_,S,kvs,.inl ⟨rfl,rfl⟩,(Kout.of hK w0).up (Nat.le_succ _),hv⟩
  | none=>
   obtain⟨k1,k2,k3,k4⟩:=hK.kn.put hl0 hv
   exact⟨l0,_,_,_,.inr ⟨rfl,rfl,rfl⟩,⟨k2,k1,k3⟩,k4⟩
 apply Y
 refine⟨kvs,Sum.inr nm,w0 _ _ hK.kn.hd,rfl,Nat.le_trans (show kvs.length+1≤8000001 by omega) (by decide),.ref l,H4,hcase,?_⟩
 clear hcase
 refine qJ fun _ Y=>?_
 obtain⟨l',rs,R,e',hE⟩:=o1.kn.ent nm _ hval
 cases e'
 apply Y
 have hlen:=hE.rn.1
 have hrl:=hE.len
 refine⟨_,rfl,_,rfl,l,rs,R,t,rfl,hE.hl,hE.rn,fun p hp hpe=>?_⟩
 refine⟨fun b H'=>H'=H4∧(b=true→∃ r x,R[p]? =some r∧rs[p]? =some x∧r.b≤t),?_,?_⟩
 · refine⟨_,rfl,_,rfl,l,_,rfl,.inl (SqL.of hE.hl),_,_,rfl,rfl,_,rfl,jp (fun c1=>?_) (fun c1=>?_)⟩
   · have c1:(p:Int) < ((rs.length:Nat):Int):=by simpa using c1
     refine qJ fun _ Y=>?_
     obtain⟨r,hr'⟩:∃ r,R[p]? =some r:=⟨_,List.getElem?_eq_getElem (by omega)⟩
     obtain⟨x,hx,z,pz,pvs,rfl,hz,_,_⟩:=hE.rn.2 p r hr'
     apply Y
     refine⟨_,rfl,_,rfl,l,_,_,_,rfl,rfl,SqL.of hE.hl,jC hx,z,_,_,_,rfl,rfl,hz.sq,qHg,_,rfl,_,_,rfl,rfl,_,rfl,rfl,fun c2=>?_⟩
     exact⟨r,_,hr',hx,by simpa using c2⟩
   · exact⟨rfl,fun z=>by cases z⟩
 rintro b H' ⟨rfl,hb⟩
 obtain⟨hP,_⟩:=hL.run hK.hn
 refine jp (fun c1=>?_) (fun c1=>?_)
 · obtain⟨r,x,hr',hx,hrb⟩:=hb c1
   refine qJ fun _ Y=>?_
   obtain⟨r',h1,h2⟩:=hE.rn.get hx
   rw [hr'] at h1
   cases h1
   obtain⟨t0',h3,h4⟩:=hE.ok r (List.mem_of_getElem? hr')
   apply Y
   have hh:(qh rm N nm t0').has t:=by
    rw [← h4]
    exact⟨hrb,hpe r hr'⟩
   have e2:=hP.same t0' t h3 hh
   rw [← h4] at e2
   refine⟨_,rfl,_,rfl,l,_,_,_,rfl,rfl,SqL.of hE.hl,jC hx,kk _ _ S1 kv1 (o1.up (by omega)) ?_⟩
   rw [e2]
   exact h2
 · have ht2:t+n*2 ^ 61+2 ^ 60 < 2 ^ 400:=by
    have e1:((n+1:Nat):Int)=(n:Int)+1:=by omega
    rw [e1,Int.add_mul] at t1
    omega
   refine⟨_,rfl,_,rfl,_,rfl,_,rfl,rz,kd,nm,t,rm,T',c+1,H0,S1,kv1,rfl,hK.out o1 hK.hn,hL,t0,ht2,hcG,fun v H5 S5 kv5 o5 hv5=>?_⟩
   have hval5:=o5.kv _ _ hval
   refine qJ fun _ Y=>?_
   obtain⟨l',rs5,R5,e',hE5⟩:=o5.kn.ent nm _ hval5
   cases e'
   have hl5:=hE5.len
   obtain⟨k1,k2⟩:=o5.kn.ins hval5 hE5 hv5 t0 p
   apply Y
   refine⟨_,rfl,.inl ⟨rfl,_,SqL.of hE5.hl⟩,_,rfl,_,rfl,l,rs5,p,_,v,rfl,rfl,rfl,hE5.hl,by omega,Nat.le_trans (show rs5.length+1≤8000001 by omega) (by decide),?_⟩
   exact⟨_,rfl,kk _ _ S5 kv5 (((o1.trans o5).trans ⟨k2,k1,fun _ _ q=>q⟩).up (by omega)) (hv5.ts k2.tup)⟩
theorem qHr (T:Tx K mg a)(N:Nat):∀ (n:Nat),(∀ {base:Heap},FnOk P w K mg base CX0 (4*n+6) a.A42 a.B42 ["room","name","moment","known"] (kr K N n))
 | 0=>qEj T N
 | n+1=>qEp T N n (qEn T N n (qEu T N n (wK T N n (qHr T N n))))
def IsPc (K:W.Frag)(H:Hp)(x:Pc)(v:V):Prop:=∃ (z pz:Addr) (pvs:List V),v= .ref z∧Tq K H z [.int x.1,.ref pz]∧Tq K H pz pvs∧IsPts K H x.2 pvs
theorem IsPc.ts {H H':Hp}(e:TS H H'){x:Pc}{v:V}(h:IsPc K H x v):IsPc K H' x v:=
 let ⟨z,pz,pvs,h0,h1,h2,h3⟩:=h;⟨z,pz,pvs,h0,j8 e h1,j8 e h2,h3.ts e⟩
def IsPcs (K:W.Frag)(H:Hp):List Pc→List V→Prop
 | [],[]=>True
 | x::xs,v::vs=>IsPc K H x v∧IsPcs K H xs vs
 | _,_=>False
theorem IsPcs.ts {H H':Hp}(e:TS H H'):∀ {xs:List Pc} {vs:List V},IsPcs K H xs vs→IsPcs K H' xs vs
 | [],[],_=>trivial
 | _::_,_::_,h=>⟨h.1.ts e,IsPcs.ts e h.2⟩
 | [],_::_,h=>h.elim
 | _::_,[],h=>h.elim
theorem IsPcs.len {H:Hp}:∀ {xs:List Pc} {vs:List V},IsPcs K H xs vs→vs.length=xs.length
 | [],[],_=>rfl
 | _::_,_::_,h=>by rw [List.length_cons,List.length_cons,IsPcs.len h.2]
 | [],_::_,h=>h.elim
 | _::_,[],h=>h.elim
theorem IsPcs.get {H:Hp}:∀ {xs:List Pc} {vs:List V} {i:Nat} {v:V},IsPcs K H xs vs→vs[i]? =some v→∃ x,xs[i]? =some x∧IsPc K H x v
 | [],[],_,_,_,h=>by simp at h
 | x::_,u::_,0,v,h,e=>by
  have e':u=v:=by simpa using e
  subst e'
  exact⟨x,rfl,h.1⟩
 | _::_,_::_,i+1,v,h,e=>by
  obtain⟨x,h1,h2⟩:=IsPcs.get (i:=i) h.2 (by simpa using e)
  exact⟨x,by simpa using h1,h2⟩
 | [],_::_,_,_,h,_=>h.elim
 | _::_,[],_,_,h,_=>h.elim
theorem IsPcs.app {H:Hp}:∀ {xs:List Pc} {vs:List V} {x:Pc} {v:V},IsPcs K H xs vs→IsPc K H x v→IsPcs K H (xs++[x]) (vs++[v])
 | [],[],_,_,_,h=>⟨h,trivial⟩
 | _::_,_::_,_,_,h,h'=>⟨h.1,IsPcs.app h.2 h'⟩
 | [],_::_,_,_,h,_=>h.elim
 | _::_,[],_,_,h,_=>h.elim
theorem KnOk.upd {f:Str→Int→Rn}{c:Nat}{S:Addr→Prop}{kd pl:Addr}{kvs:List (Key × V)}{H:Hp}{us us':List V}(h:KnOk K f c S kd kvs H)(nS:¬ S pl)(hp:H pl=some (.lst us)):KnOk K f c S kd kvs (upd H pl (.lst us')):=by
 have ne:∀ {b},S b→b≠pl:=fun hb e=>nS (e ▸ hb)
 refine⟨by rw [qX (ne h.sd)];exact h.hd,h.sd,h.len,fun nm v q=>?_,h.inj⟩
 obtain⟨l,rs,R,e,h'⟩:=h.ent nm v q
 exact⟨l,rs,R,e,h'.up (Nat.le_refl _) id (by rw [qX (ne h'.sl)];exact h'.hl) (j4 hp)⟩
def Lg (ts:List (List Im))(M:Int):Prop:=(∃ ms∈ts,jS ms=M)∧∀ ms∈ts,jS ms≤M
inductive qCy (K:W.Frag)(n:Nat)(vs:List V)(H:Hp)(Q:VK)(_:XK):Prop
| mk (rz:Addr) (nm:Str) (rm:Rms) (T:Nat) (ts:List (List Im)) (M:Int) (_:vs=[.ref rz,.str nm]) (_:RoomAt H rz rm) (_:SmL rm n nm) (_:rm nm=some ts) (_:(∀ nm ts,rm nm=some ts→ts.length≤T)) (_:Lg ts M) (_:M < 2 ^ 62) (_:n≤100) (_:400*(T+2) ^ n≤8000000) (_:(∀ L e,Chn (qh rm n nm) 0 L e→e < M→L.length < 400)) (_:∀ (pl:Addr) (L:List Pc) (us:List V) (H':Hp),Same H H'→H pl=none→H' pl=some (.lst us)→IsPcs K H' L us→Chn (qh rm n nm) 0 L M→Q (.ref pl) H')
set_option maxHeartbeats 8000000 in
theorem v6 (T:Tx K mg a)(n:Nat):FnOk P w K mg base CX0 (4*n+7) a.A43 a.B43 ["room","name"] (qCy K n):=by
 refine T.D43.F.ok jU (fun vs H Q E h=>?_) (fun cdv A outer s H vs Q E hrn h=>?_)
 · obtain⟨rz,nm,rm,T',ts,M,rfl,_⟩:=h
   rfl
 refine qJ fun _ Y=>?_
 obtain⟨rz,nm,rm,T',ts,M,rfl,hR,hL,hts,hT,hM,hM1,hn1,hG,hfew,kk⟩:=h
 apply Y
 have hr:=hrn.mono (show 6≤4*n+6 by omega)
 have hu1:=vB hr
 refine⟨_,(qC (qS 2 jU.nd (qQ (qD3 rfl) rfl T.b_max rfl (qA (zW [] [] rfl (jf (qK (kM hu1 (qK (pv 0)) (pv 1) (fun _ _=>rfl)))) (fun _ _ _ _=>(qI T.D16 (wD T) hr rfl (qA (pv 0) qB)))) qB)))
  (qC (qS 3 jU.nd qLm)
  (qC (qS 4 jU.nd (jM qB))
  (qC (qS 5 jU.nd qF)
  (qC (vO PassesOwn.never (qP kX (pv 5) (pv 2) (qR _)) (qC (qv (qP zG (qQ qo rfl T.b_len rfl (qA (pv 4) qB)) (xR (v:=.int 400) rfl T.g_MOST_PIECES ⟨_,rfl⟩) (qR _)) vM qU)
  (qC (qS 6 jU.nd (qI T.D42 (qHr T n n) hrn rfl (qA (pv 0) (qA (pv 1) (qA (pv 5) (qA (pv 3) qB)))) (Nat.le_refl _)))
  (qC (xQ (qAj F.plainAttrs_list F.slot_list_append F.type_list_append jn (pv 4) (qA (qZ (qA (qL jL (qK (pv 6)) (qK (pv 6))) (qA (qK (pv 6)) qB))) qB)))
  (qG (qS 5 jU.nd (qK (pv 6))))))))
  (qG (qN (pv 4)))))))),?_⟩
 try dsimp only [jq,qk]
 refine qJ fun _ Y=>?_
 obtain⟨re,td,dvs,h1,h2,h3⟩:=id hR
 obtain⟨v,hv,tt,tl,ti,zs,rfl,h4,h5,h6⟩:=h3 nm ts hts
 apply Y
 have hlen:=h6.len
 have htl:ts.length≤300∧∀ ms∈ts,ms.length≤300∧0≤jS ms:=by
  cases n with
  | zero=>exact hL.elim
  | succ n=>
   obtain⟨ts',e,h,h'⟩:=hL
   rw [hts] at e
   cases e
   exact⟨h,fun ms hm=>⟨(h' ms hm).1,Nn.len (h' ms hm).2.1.nn⟩⟩
 refine(ixO h1 at1 ⟨_,rfl,td,_,rfl,.inl ⟨dvs,Sum.inr nm,h2,rfl,hv.symm⟩,ixT (SqT.of h4) at0 ?_⟩)
 refine⟨tl,rfl,⟨_,SqL.of h5⟩,xM (K:=K) (a:=tl) (xs:=zs) (fun i acc H'=>Same H H'∧acc=((ts.take i).map jS).map V.int∧acc.length=i) ⟨Same.refl _,rfl,rfl⟩ ?_ ?_ ?_⟩
 · rintro i acc H' hi ⟨e,_,hal⟩
   exact⟨SqL.of (e _ _ h5),qW (by omega)⟩
 · rintro i x acc H' hi hx ⟨e,rfl,hal⟩
   refine qJ fun _ Y=>?_
   obtain⟨ms,z,hms,rfl,hTr⟩:=h6.get hx
   apply Y
   refine⟨_,rfl,z,ms,rfl,hTr.same e,(htl.2 ms (List.mem_of_getElem? hms)).1,fun H1 e1=>Nxt.mk hi ⟨e.trans e1,?_,by simp at hal ⊢;omega⟩⟩
   rw [List.take_add_one,hms]
   simp [jS]
 rintro acc H1 ⟨e1,rfl,hal⟩ ml hml
 rw [hlen,List.take_length]
 rw [hlen,List.take_length] at hal
 have w1:=qE hml (.lst ((ts.map jS).map V.int))
 refine⟨ml,ts.map jS,rfl,SqL.of qD,?_,fun m hm hmax=>?_⟩
 · obtain⟨⟨ms,h,_⟩,_⟩:=hM
   intro e
   rw [List.map_eq_nil_iff] at e
   rw [e] at h
   cases h
 obtain rfl:m=M:=by
  refine qJ fun _ Y=>?_
  obtain⟨⟨ms,h,h'⟩,h''⟩:=hM
  obtain⟨ms2,h8,h9⟩:=List.mem_map.mp hm
  apply Y
  have q1:=hmax M (List.mem_map.mpr ⟨ms,h,h'⟩)
  have q2:=h'' ms2 h8
  omega
 have e2:=e1.trans w1
 generalize upd H1 ml (.lst ((ts.map jS).map V.int))=H2 at e2 ⊢
 intro kd hkd
 have w3:=qE hkd (.dK [])
 have kkd:upd H2 kd (.dK []) kd=some (.dK []):=qD
 generalize upd H2 kd (.dK [])=H3 at w3 kkd ⊢
 refine⟨sL0,fun pl hpl=>?_⟩
 have w4:=qE hpl (.lst [])
 have kpl:upd H3 pl (.lst []) pl=some (.lst []):=qD
 have kkd4:=w4 _ _ kkd
 generalize upd H3 pl (.lst [])=H4 at w4 kpl kkd4 ⊢
 have nkd:H kd=none:=e2.free hkd
 have npl:H pl=none:=(e2.trans w3).free hpl
 have nk:pl≠kd:=fun e=>by rw [e,kkd] at hpl;cases hpl
 obtain⟨hP,hbd⟩:=hL.run (Nat.le_refl n)
 have e4:=(e2.trans w3).trans w4
 have kn0:KnOk K (qh rm n) 0 (fun b=>b=kd) kd [] H4:=⟨kkd4,rfl,Nat.le_refl _,(fun nm v q=>by cases q),(fun nm nm' l q=>by cases q)⟩
 refine vJ (fun σ H'=>∃ (m':Int) (o:Option V) (L:List Pc) (us:List V) (S':Addr→Prop) (kvs':List (Key × V)),σ=[some (.ref rz),some (.str nm),some (.int m),some (.ref kd),some (.ref pl),some (.int m'),o]∧0≤m'∧m'≤m∧H' pl=some (.lst us)∧¬ S' pl∧IsPcs K H' L us∧Chn (qh rm n nm) 0 L m'∧(qh rm n nm m').b=m'∧Bs H S' H'∧KnOk K (qh rm n) (L.length*(T'+2) ^ n) S' kd kvs' H')
  (fun σ _=>match σ with | [_,_,_,_,_,some (.int x),_]=>(m - x).toNat | _=>0) ⟨0,none,[],[],_,[],rfl,by decide,?_,kpl,nk,trivial,rfl,qPr hP,⟨e4,fun b hb=>by rw [show b=kd from hb];exact nkd⟩,by rw [List.length_nil,Nat.zero_mul];exact kn0⟩ ?_ ?_
 · obtain⟨⟨ms,h,h'⟩,_⟩:=hM
   have:=(htl.2 ms h).2
   omega
 · rintro σ H' ⟨m',o,L,us,S',kvs',rfl,m0,mm,hpl',nS,hpc,hch,hb,hbs,hkn⟩
   refine⟨_,rfl,_,rfl,_,_,rfl,rfl,_,rfl,jp (fun c=>?_) (fun c=>?_)⟩
   · have c:m' < m:=by simpa using c
     have hf:=hfew L m' hch c
     have hul:=hpc.len
     refine⟨_,rfl,pl,_,rfl,.inl (SqL.of hpl'),rfl,_,rfl,jp (fun c2=>?_) (fun _=>?_)⟩
     · have c2:((us.length:Nat):Int)=400:=by simpa using c2
       omega
     have hcc:L.length*(T'+2) ^ n+(T'+2) ^ n≤8000000:=by
      have:(L.length+1)*(T'+2) ^ n≤400*(T'+2) ^ n:=Nat.mul_le_mul_right _ (by omega)
      rw [Nat.succ_mul] at this
      omega
     have hmb:m'+n*2 ^ 61 < 2 ^ 400:=by
      have a1:(n:Int)*2 ^ 61≤100*2 ^ 61:=Int.mul_le_mul_of_nonneg_right (by omega) (by decide)
      have a2:(2:Int) ^ 62+100*2 ^ 61 < 2 ^ 400:=by decide+kernel
      omega
     refine⟨_,rfl,_,rfl,_,rfl,_,rfl,rz,kd,nm,m',rm,T',_,H,S',kvs',rfl,⟨hR,hbs,hkn,Nat.le_refl n,hT⟩,hL,m0,hmb,hcc,fun v H5 S5 kv5 o5 hv5=>?_⟩
     refine qJ fun _ Y=>?_
     obtain⟨e,he,hem⟩:=qPb (SmL.geo rm n nm hL) (Nat.le_refl n) hts m0 hM.2 (by obtain⟨⟨ms,h,h'⟩,_⟩:=hM;exact⟨ms,h,by omega⟩)
     obtain⟨hb5,hlt⟩:=qPj hP m0 rfl he
     obtain⟨ps,hps⟩:∃ ps,qh rm n nm m'=⟨m',some e,ps⟩:=by
      generalize qh rm n nm m'=r at hb he
      obtain⟨b,e',ps⟩:=r
      have hb:b=m':=hb
      have he:e'=some e:=he
      subst hb he
      exact⟨ps,rfl⟩
     rw [hps] at hv5
     obtain⟨z,pz,pvs,rfl,hz,hpz,hpv⟩:=hv5
     apply Y
     have hpl5:=o5.kf.keep pl _ nS hpl'
     have nS5:¬ S5 pl:=fun q=>by
      rcases o5.kf.grow pl q with q | q
      · exact nS q
      · rw [hpl'] at q;cases q
     refine⟨_,rfl,.inl ⟨rfl,_,SqL.of hpl5⟩,_,rfl,z,_,_,_,rfl,rfl,hz.sq,qDa,_,rfl,z,_,_,_,rfl,rfl,hz.sq,qHg,_,_,rfl,rfl,_,rfl,z,_,_,_,rfl,rfl,hz.sq,qKp,sL2,fun g hg=>?_⟩
     have w6:=qE hg (.tup [.int (e - m'),.ref pz])
     have kg:upd H5 g (.tup [.int (e - m'),.ref pz]) g=some (.tup [.int (e - m'),.ref pz]):=qD
     have hpl6:=w6 _ _ hpl5
     generalize upd H5 g (.tup [.int (e - m'),.ref pz])=H6 at w6 kg hpl6 ⊢
     refine⟨pl,_,_,rfl,rfl,hpl6,qW (by omega),?_⟩
     have t7:TS H6 (upd H6 pl (.lst (us++[.ref g]))):=j4 hpl6
     have ts57:TS H5 (upd H6 pl (.lst (us++[.ref g]))):=fun b xs h=>t7 _ _ (w6 _ _ h)
     refine⟨_,rfl,z,_,_,_,rfl,rfl,(j8 ts57 hz).sq,qDa,⟨e,_,L++[(e - m',ps)],us++[.ref g],S5,kv5,rfl,by omega,hem,qD,nS5,?_,qFq hch hps hlt,hb5,?_,?_⟩,?_⟩
     · exact(hpc.ts fun b xs h=>ts57 _ _ (o5.kf.tup _ _ h)).app ⟨g,pz,pvs,rfl,.inl (t7 _ _ kg),j8 ts57 hpz,hpv.ts ts57⟩
     · have b5:=hbs.kf o5.kf
       refine⟨fun b u h=>?_,b5.free⟩
       rw [qX (qg h npl)]
       exact w6 _ _ (b5.same _ _ h)
     · rw [List.length_append,List.length_singleton,Nat.succ_mul]
       exact(o5.kn.same w6).upd nS5 hpl6
     · show (m - e).toNat < (m - m').toNat
       omega
   · have c:¬ m' < m:=by simpa using c
     obtain rfl:m'=m:=by omega
     exact⟨_,rfl,kk pl L us H' hbs.same npl hpl' hpc hch⟩
 · rintro σ H1 Q1 Q2 hq h
   refine qJ fun _ Y=>?_
   obtain⟨x,hx,y,hy,i,j,h1,h2,b,hb,z⟩:=h
   apply Y
   exact⟨x,hx,y,hy,i,j,h1,h2,b,hb,hq _ _ z⟩
def PcG (x:Pc):Prop:=x.2.length≤2∧∀ y∈x.2,PB x.1 y
theorem qIf {g:Int→Rn}(hb:∀ t,0≤t→(g t).bd∧(g t).ps.length≤2):∀ {L:List Pc} {b e:Int},Chn g b L e→0≤b→∀ x∈L,PcG x
 | [],_,_,_,_,x,hx=>by cases hx
 | y::r,b,e,⟨h1,h2,h3⟩,b0,x,hx=>by
  rcases List.mem_cons.mp hx with rfl | hx
  · obtain⟨k1,k2⟩:=hb b b0
    rw [h2] at k1 k2
    refine⟨k2,fun z hz=>?_⟩
    obtain⟨e',q1,q2⟩:=k1 z hz
    cases q1
    have:b+x.1 - b=x.1:=by omega
    have q2:PB (b+x.1 - b) z:=q2
    rw [this] at q2
    exact q2
  · exact qIf hb h3 (by omega) x hx
theorem qHx {H:Hp}:∀ {ts:List Te} {vs:List V} {t:Te} {v:V},IsTes K H ts vs→IsTe K H t v→IsTes K H (ts++[t]) (vs++[v])
 | [],[],_,_,_,h=>⟨h,trivial⟩
 | _::_,_::_,_,_,h,h'=>⟨h.1,qHx h.2 h'⟩
 | [],_::_,_,_,h,_=>h.elim
 | _::_,[],_,_,h,_=>h.elim
inductive qDp (K:W.Frag)(vs:List V)(H:Hp)(Q:VK)(_:XK):Prop
| mk (pl:Addr) (L:List Pc) (us:List V) (t:Int) (_:vs=[.ref pl,.int t]) (_:H pl=some (.lst us)) (_:IsPcs K H L us) (_:(∀ x∈L,PcG x∧1≤x.1)) (_:0≤t) (_:t < 2 ^ 62) (_:∀ (y:Addr) (H':Hp),Same H H'→H y=none→TL K H' y (qDb L 0 t)→Q (.ref y) H')
theorem qDs (T:Tx K mg a):FnOk P w K mg base CX0 6 a.A44 a.B44 ["pieces","moment"] (qDp K):=by
 refine T.D44.F.ok jh (fun vs H Q E h=>?_) (fun cdv A outer s H vs Q E hr h=>?_)
 · obtain⟨pl,L,us,t,rfl,_⟩:=h
   rfl
 refine qJ fun _ Y=>?_
 obtain⟨pl,L,us,t,rfl,hpl,hpc,hG,t0,t1,kk⟩:=h
 apply Y
 refine⟨_,(qC (qS 2 jh.nd qF)
  (qC (xV PassesOwn.never rfl (jf (pv 0)) (qDv rfl (jV (ql (i:=3) jh.nd rfl (Or.inl rfl)) (jV (ql (i:=4) jh.nd rfl (Or.inl rfl)) qAa))) (qC (qv (qP kX (pv 1) (qL qc (pv 2) (pv 3)) (qR _)) (qC (qS 5 jh.nd (qI T.D34 (z9 T) hr rfl (qA (pv 4) (qA (qL jL (pv 1) (pv 2)) qB))))
  (qG (qN (zW [] [] rfl (qA4 (pv 5)) (fun _ _ _ _=>(qZ (qA (jK (kT (K:=K) rfl) (pv 0) qF (fun _ _=>rfl)) (qA (qI T.D8 (xI T) hr rfl (qA (jK (kT (K:=K) rfl) (pv 0) qF (fun _ _=>rfl)) qB)) (qA (jK (kT (K:=K) rfl) (pv 0) qF (fun _ _=>rfl)) qB))))))))) qU)
  (qG (qS 2 jh.nd (qL qc (pv 2) (pv 3))))))
  (qG (qN (jM qB))))),?_⟩
 try dsimp only [jq,qk]
 have hul:=hpc.len
 refine⟨_,rfl,pl,rfl,⟨_,SqL.of hpl⟩,xu (K:=K) (a:=pl) (xs:=us) (fun i σ H'=>∃ (b:Int) (o1 o2 o3:Option V),σ=[some (.ref pl),some (.int t),some (.int b),o1,o2,o3]∧qDb (L.drop i) b t=qDb L 0 t∧0≤b∧b≤t∧H'=H) ⟨0,none,none,none,rfl,rfl,Int.le_refl _,t0,rfl⟩ ?_ ?_ ?_⟩
 · rintro i σ H' hi ⟨b,o1,o2,o3,rfl,_,_,_,rfl⟩
   exact SqL.of hpl
 · rintro i v σ H' hv ⟨b,o1,o2,o3,rfl,hap,b0,b1,rfl⟩
   refine qJ fun _ Y=>?_
   obtain⟨x,hx,z,pz,pvs,rfl,hz,hpz,hps⟩:=hpc.get hv
   obtain⟨⟨hl2,hPB⟩,h1⟩:=hG x (List.mem_of_getElem? hx)
   apply Y
   rw [jz hx,qDb] at hap
   refine⟨z,_,rfl,hz.sq,rfl,_,_,rfl,_,_,rfl,rfl,?_⟩
   refine⟨_,rfl,_,rfl,_,rfl,_,_,rfl,rfl,_,_,rfl,rfl,_,rfl,jp (fun c=>?_) (fun c=>?_)⟩
   · have c:t < b+x.1:=by simpa using c
     rw [if_pos c] at hap
     rw [← hap] at kk
     have bk:Sm2 (t - b):=by
      have:(t - b).natAbs < 2 ^ 63:=by omega
      exact Nat.lt_of_lt_of_le this (Nat.pow_le_pow_right (by decide) (by decide))
     refine⟨_,rfl,_,rfl,_,rfl,_,_,rfl,rfl,pz,pvs,x.2,t - b,rfl,hpz,hps,hl2,bk,fun y hy=>(hPB y hy).s (by omega),fun tz vs H1 e1 ktz hvs=>?_⟩
     have hvl:=hvs.len
     rw [List.length_map] at hvl
     refine⟨_,rfl,tz,rfl,⟨_,SqT.of ktz⟩,qGg (K:=K) (a:=tz) (xs:=vs) (fun i acc H'=>Same H1 H'∧IsTes K H' ((x.2.take i).map fun y=>(y.later (t - b)).tell) acc∧acc.length=i) ⟨Same.refl _,trivial,rfl⟩ ?_ ?_ ?_⟩
     · rintro i acc H' hi ⟨e,_,hal⟩
       exact⟨SqT.of (e _ _ ktz),qW (by omega)⟩
     · rintro i w acc H' hi hw ⟨e,hA,hal⟩
       refine qJ fun _ Y=>?_
       obtain⟨y',hy',f,s1,s2,s3,s4,rfl,k0,k1,k2,k3,k4⟩:=(hvs.ts (qM e)).get hw
       obtain⟨y,hy,rfl⟩:∃ y,x.2[i]? =some y∧y'=y.later (t - b):=by
        rw [List.getElem?_map] at hy'
        cases hq:x.2[i]? with
        | none=>rw [hq] at hy';cases hy'
        | some y=>rw [hq] at hy';exact⟨y,rfl,(Option.some.inj hy').symm⟩
       apply Y
       have hB:=hPB y (List.mem_of_getElem? hy)
       have hS:=(show PB (x.1 - (t - b)) (y.later (t - b)) from ⟨hB.1.later (by omega),hB.2.later (by omega)⟩).s (by omega)
       have a0:∀ {v1 v2 v3 v4 v5:V},atI [v1,v2,v3,v4,v5] 0=some v1:=fun {_ _ _ _ _}=>rfl
       refine⟨_,rfl,f,_,_,_,rfl,rfl,k0.sq,a0,_,rfl,f,_,_,_,rfl,rfl,k0.sq,qAi,?_⟩
       refine⟨_,_,_,rfl,⟨s1,rfl,k1.sq⟩,Int.ne_of_gt hS.1,Nat.lt_of_lt_of_le hS.2.2.2.1 (Nat.pow_le_pow_right (by decide) (by decide)),?_⟩
       refine⟨_,rfl,f,_,_,_,rfl,rfl,k0.sq,qAp,sL3,fun g hg=>?_⟩
       have w2:=qE hg (.tup [.str y.n,.int ((y.later (t - b)).p.fdiv (y.later (t - b)).q),.ref s3])
       refine Nxt.mk hi ⟨e.trans w2,?_,by simp [hal]⟩
       have ht:x.2.take (i+1)=x.2.take i++[y]:=by rw [List.take_add_one,hy];rfl
       rw [ht,List.map_append]
       exact qHx (hA.same w2) ⟨g,s3,rfl,qD,(j8 (qM w2) k3).sq⟩
     rintro acc H2 ⟨e2,hA,hal⟩ y hy
     rw [hvl,List.take_length] at hA
     have w3:=qE hy (.lst acc)
     exact kk y _ ((e1.trans e2).trans w3) ((e1.trans e2).free hy) ⟨acc,qD,hA.same w3⟩
   · have c:¬ t < b+x.1:=by simpa using c
     rw [if_neg c] at hap
     exact⟨_,rfl,_,rfl,_,_,rfl,rfl,b+x.1,_,_,_,rfl,hap,by omega,by omega,rfl⟩
 · rintro σ H' ⟨b,o1,o2,o3,rfl,hap,b0,b1,rfl⟩
   rw [hul,List.drop_length] at hap
   rw [← hap] at kk
   refine⟨sL0,fun y hy=>?_⟩
   exact kk y _ (qE hy _) hy ⟨[],qD,trivial⟩
theorem qJf {rm:Rms}{n:Nat}{nm:Str}{ts:List (List Im)}{L:List Pc}{M t:Int}(hL:SmL rm n nm)(hts:rm nm=some ts)(hM:Lg ts M)(hc:Chn (qh rm n nm) 0 L M)(t0:0≤t):qDb L 0 t=jE rm n nm t:=by
 have hg:=SmL.geo rm n nm hL
 rw [qFs (qN0 rm n nm hg) hc (Int.le_refl _) t0]
 split
 · rfl
 · rename_i h
   exact(qO5 hg hts fun ms hm=>by have:=hM.2 ms hm;omega).symm
theorem qGq {fs r:List Im}{i:Nat}(h:i≤fs.length):tbF (fs++r) i=tbF fs i:=by
 unfold tbF
 split
 · rfl
 · rw [List.getElem?_append_left (by omega)]
theorem qMf {fs r:List Im}{i:Nat}(h:i+1 < fs.length):teF (fs++r) i=teF fs i:=by
 unfold teF
 rw [List.getElem?_append_left h]
theorem qIm {fs:List Im}{m:Im}{r:List Im}{i:Nat}(h:i+1=fs.length):teF (fs++m::r) i=(match (m:Im) with | .mix l=>l.fdiv 2 | _=>0):=by
 unfold teF
 rw [h,List.getElem?_append_right (Nat.le_refl _),Nat.sub_self]
 cases m <;> rfl
theorem qJ9 {fs:List Im}{i:Nat}(h:fs.length≤i+1):teF fs i=0:=by
 unfold teF
 rw [List.getElem?_eq_none h]
theorem Geo.nolast {fs:List Im}(h:Geo fs){l:Int}:fs[fs.length - 1]?≠some (.mix l):=fun e=>by
 obtain⟨_,_,n,p,q,r,s,k,h2⟩:=h.mx _ _ e
 have:=(glt h2)
 have:=(glt e)
 omega
theorem Geo.mxapp {fs r:List Im}(h:Geo fs){i:Nat}{l:Int}(hi:(fs++r)[i]? =some (.mix l))(hl:i < fs.length):1≤i∧(∃ n p q r' s k,(fs++r)[i - 1]? =some (.clip n p q r' s k))∧∃ n p q r' s k,(fs++r)[i+1]? =some (.clip n p q r' s k):=by
 rw [List.getElem?_append_left hl] at hi
 obtain⟨i1,⟨n,p,q,r',s,k,h1⟩,n',p',q',r'',s',k',h2⟩:=h.mx i l hi
 have l2:=(glt h2)
 exact⟨i1,⟨n,p,q,r',s,k,by rw [List.getElem?_append_left (by omega)];exact h1⟩,n',p',q',r'',s',k',by rw [List.getElem?_append_left l2];exact h2⟩
theorem qPd {fs:List Im}(h:Geo fs)(r:List Im):tbF (fs++r) fs.length=0:=by
 rw [qGq (Nat.le_refl _)]
 unfold tbF
 split
 · rfl
 · split
   · rename_i l hl
     exact absurd hl h.nolast
   · rfl
theorem qNq:Geo []:=⟨(fun m hm=>by cases hm),(fun i l h=>by simp at h),(fun i n p q r s k h=>by simp at h)⟩
theorem qFt {fs:List Im}{m:Im}(h:Geo fs)(hm:Wf m)(hw:m.wd≠"mix"):Geo (fs++[m]):=by
 refine⟨fun x hx=>?_,fun i l hi=>?_,fun i n p q r s k hi=>?_⟩
 · rcases List.mem_append.mp hx with hx | hx
   · exact h.wf x hx
   · rw [List.mem_singleton] at hx;subst hx;exact hm
 · by_cases hl:i < fs.length
   · exact h.mxapp hi hl
   · rw [List.getElem?_append_right (by omega)] at hi
     have hlen:=(glt hi)
     have e:i - fs.length=0:=by rw [List.length_singleton] at hlen;omega
     rw [e] at hi
     cases hi
     exact absurd rfl hw
 · by_cases hl:i < fs.length
   · have hi':=hi
     rw [List.getElem?_append_left hl] at hi'
     have hf:=h.fit i n p q r s k hi'
     rw [qGq (by omega)]
     by_cases h2:i+1 < fs.length
     · rw [qMf h2];exact hf
     · rw [qIm (by omega)]
       rw [qJ9 (by omega)] at hf
       cases m with
       | mix l=>exact absurd rfl hw
       | clip=>exact hf
       | gap=>exact hf
       | nest=>exact hf
   · have hlen:=(glt hi)
     rw [List.length_append,List.length_singleton] at hlen
     obtain rfl:i=fs.length:=by omega
     rw [qPd h,qJ9 (by rw [List.length_append,List.length_singleton];exact Nat.le_refl _)]
     rw [List.getElem?_append_right (Nat.le_refl _),Nat.sub_self] at hi
     cases hi
     have:1≤k:=hm.2.2.2
     omega
theorem qKl {fs:List Im}{j:Nat}{n n':Str}{p q r s k p' q' r' s' k' l:Int}(h:Geo fs)(hj:fs.length=j+1)(ha:fs[j]? =some (.clip n p q r s k))(l1:1≤l)(f1:l.fdiv 2≤k - tbF fs j)(hb:Wf (.clip n' p' q' r' s' k'))(f2:l - l.fdiv 2≤k'):Geo (fs++[.mix l,.clip n' p' q' r' s' k']):=by
 have g0:(fs++[Im.mix l,.clip n' p' q' r' s' k'])[j]? =some (.clip n p q r s k):=by rw [List.getElem?_append_left (by omega)];exact ha
 have g1:(fs++[Im.mix l,.clip n' p' q' r' s' k'])[fs.length]? =some (.mix l):=by rw [List.getElem?_append_right (Nat.le_refl _),Nat.sub_self];rfl
 have g2:(fs++[Im.mix l,.clip n' p' q' r' s' k'])[fs.length+1]? =some (.clip n' p' q' r' s' k'):=by
  rw [List.getElem?_append_right (by omega)]
  have:fs.length+1 - fs.length=1:=by omega
  rw [this];rfl
 have three:∀ {i:Nat} {m:Im},(fs++[Im.mix l,.clip n' p' q' r' s' k'])[i]? =some m→i < fs.length∨i=fs.length∨i=fs.length+1:=fun {i m} h=>by
  have hlen:=(glt h)
  rw [List.length_append] at hlen
  have:[Im.mix l,.clip n' p' q' r' s' k'].length=2:=rfl
  omega
 refine⟨fun x hx=>?_,fun i l' hi=>?_,fun i n2 p2 q2 r2 s2 k2 hi=>?_⟩
 · rcases List.mem_append.mp hx with hx | hx
   · exact h.wf x hx
   · rcases List.mem_cons.mp hx with rfl | hx
     · exact l1
     · rw [List.mem_singleton] at hx;subst hx;exact hb
 · rcases three hi with hl | rfl | rfl
   · exact h.mxapp hi hl
   · have e:fs.length - 1=j:=by omega
     exact⟨by omega,⟨_,_,_,_,_,_,by rw [e];exact g0⟩,_,_,_,_,_,_,g2⟩
   · rw [g2] at hi;cases hi
 · rcases three hi with hl | rfl | rfl
   · have hi':=hi
     rw [List.getElem?_append_left hl] at hi'
     have hf:=h.fit i _ _ _ _ _ _ hi'
     rw [qGq (by omega)]
     by_cases h2:i+1 < fs.length
     · rw [qMf h2];exact hf
     · rw [qIm (by omega)]
       obtain rfl:i=j:=by omega
       rw [ha] at hi'
       cases hi'
       show tbF fs i+l.fdiv 2≤k
       omega
   · rw [g1] at hi;cases hi
   · rw [g2] at hi
     cases hi
     rw [qJ9 (by rw [List.length_append];exact Nat.le_refl _)]
     have:tbF (fs++[Im.mix l,.clip n' p' q' r' s' k']) (fs.length+1)=l - l.fdiv 2:=by
      unfold tbF
      rw [if_neg (by omega),Nat.add_sub_cancel,g1]
     omega
theorem qPu {A B l:Int}(h:l≤mmV A B)(l1:1≤l):l.fdiv 2≤A∧l - l.fdiv 2≤B:=by
 have:=qr (p:=l) (q:=2) (by decide)
 unfold mmV qQo at h
 split at h <;> split at h <;> omega
theorem qJq {A B:Int}:qOl A B≤A∧qOl A B≤B:=by
 unfold qOl
 split <;> omega
theorem qQ7 {rl:Rls}{fs rest:List Im}{j:Nat}{n n':Str}{p q r s k N p' q' r' s' k' N':Int}(hG:Geo fs)(hj:fs.length=j+1)(ha:fs[j]? =some (.clip n p q r s k))(h1:rl n=some N)(h2:rl n'=some N')(k1:1≤k'):
 ∃ M,mmF rl (fs++ .clip n' p' q' r' s' k'::rest) (jS fs)=some M∧∀ l,1≤l→l≤M→l.fdiv 2≤k - tbF fs j∧(0≤teF (fs++ .clip n' p' q' r' s' k'::rest) fs.length→l - l.fdiv 2≤k'):=by
 have g0:(fs++Im.clip n' p' q' r' s' k'::rest)[j]? =some (.clip n p q r s k):=by rw [List.getElem?_append_left (by omega)];exact ha
 have g1:(fs++Im.clip n' p' q' r' s' k'::rest)[fs.length]? =some (.clip n' p' q' r' s' k'):=by rw [List.getElem?_append_right (Nat.le_refl _),Nat.sub_self];rfl
 have hb:=wA fs 0 0 (.clip n' p' q' r' s' k') rest hG.nn (by show 0 < k';omega)
 have kk1:xC (fs++Im.clip n' p' q' r' s' k'::rest) ((fs.length:Int) - 1)="clip":=zY (i:=j) g0 (by omega)
 have kk2:xC (fs++Im.clip n' p' q' r' s' k'::rest) (fs.length:Int)="clip":=zY g1 rfl
 have e0:(0:Int)+(fs.map Im.mo).sum=jS fs:=by unfold jS;omega
 rw [e0,Nat.zero_add] at hb
 have nb:nbF (fs++Im.clip n' p' q' r' s' k'::rest) (jS fs)=some ((fs.length:Int) - 1,(fs.length:Int)):=by
  unfold nbF
  rw [hb]
  dsimp only
  rw [if_neg (by omega),if_neg (by rw [kk1];decide+kernel)]
 have cb:cbF (fs++Im.clip n' p' q' r' s' k'::rest) (jS fs)=some ((fs.length:Int) - 1,(fs.length:Int)):=by
  unfold cbF
  rw [nb]
  dsimp only
  rw [if_pos ⟨kk1,kk2⟩]
 have ei:z7 (fs++Im.clip n' p' q' r' s' k'::rest) ((fs.length:Int) - 1)= .clip n p q r s k:=by
  unfold z7
  have:((fs.length:Int) - 1).toNat=j:=by omega
  rw [this,g0];rfl
 have ej:z7 (fs++Im.clip n' p' q' r' s' k'::rest) (fs.length:Int)= .clip n' p' q' r' s' k':=by
  unfold z7
  rw [Int.toNat_natCast,g1];rfl
 unfold mmF
 rw [cb]
 dsimp only
 rw [ei,ej]
 dsimp only
 rw [h1,h2]
 have e1:((fs.length:Int) - 1).toNat=j:=by omega
 rw [e1,Int.toNat_natCast,qGq (by omega)]
 refine⟨_,rfl,fun l l1 hl=>?_⟩
 obtain⟨a1,a2⟩:=qPu hl l1
 have b1:=(qJq (A:=k - tbF fs j) (B:=qNy p' q' r' s' N')).1
 have b2:=(qJq (A:=k' - teF (fs++Im.clip n' p' q' r' s' k'::rest) fs.length) (B:=qN9 p q r s k N)).1
 exact⟨by omega,fun h=>by omega⟩
inductive qB2 (vs:List V)(H:Hp)(Q:VK)(_:XK):Prop
| mk (v:V) (rd:Addr) (n:Str) (p q r s l k N:Int) (_:vs=[v,.int k,.ref rd]) (_:IsI H (.clip n p q r s l) v) (_:Bn 340 p q r s) (_:k.natAbs < 2 ^ 30) (_:Reel H rd n N) (_:Q (.bl (thB ((Vk p q r s k).fdiv (q*s)) N)) H)
theorem qBj (T:Tx K mg a):FnOk P w K mg base CX0 1 a.A48 a.B48 ["_law_clip_here","_law_k","_law_reels"] qB2:=by
 refine T.D48.F.ok kq (fun vs H Q E h=>?_) (fun cdv A outer s H vs Q E hr h=>?_)
 · obtain⟨v,rd,n,p,q,r,s,l,k,N,rfl,_⟩:=h
   rfl
 refine qJ fun _ Y=>?_
 obtain⟨v,rd,n,p,q,r,s',l,k,N,rfl,⟨z,x,y,rfl,hz,hx,hy⟩,hb,bk,hrd,kk⟩:=h
 apply Y
 have hu1:=vB hr
 refine⟨_,(qC (qS 3 kq.nd (qL qc (qL jG (qK (qK (pv 0))) (qK (qK (pv 0)))) (qL jG (qL jG (pv 1) (qK (qK (pv 0)))) (qK (qK (pv 0))))))
  (qG (qN (qKr qHp kX qF (qL qm (pv 3) (qL jG (qK (qK (pv 0))) (qK (qK (pv 0))))) (kM hu1 (pv 2) (qK (pv 0)) (fun _ _=>rfl)))))),?_⟩
 try dsimp only [jq,qk]
 have hb7:=hb.mono (m:=700)
 have S:∀ {i:Int},i.natAbs < 2 ^ 700→Sm i:=fun h=>zw h
 have S2:∀ {i j:Int},i.natAbs < 2 ^ 700→j.natAbs < 2 ^ 700→Sm (i*j):=fun h h'=>zw (qi h h')
 have bk7:k.natAbs < 2 ^ 700:=zw bk
 have hqs:=Int.mul_pos hb.q0 hb.s0
 have h0:SqT K H z [.str "clip",.str n,.ref x,.ref y,.int l]:=SqT.of hz
 have h1:SqT K H x [.int p,.int q]:=SqT.of hx
 have h2:SqT K H y [.int r,.int s']:=SqT.of hy
 refine(zL rfl h0 qLo (ixT h1 at0 (zL rfl h0 qAp (ixT h2 at1 ⟨_,_,rfl,rfl,(S hb7.bp).mul (S hb7.bs),?_⟩))))
 refine⟨_,rfl,zL rfl h0 qAp (ixT h2 at0 ⟨_,_,rfl,rfl,(S bk7).mul (S hb7.br),zL rfl h0 qLo (ixT h1 at1 ⟨_,_,rfl,rfl,(S2 bk7 hb7.br).mul (S hb7.bq),_,_,rfl,rfl,?_⟩)⟩)⟩
 refine⟨_,rfl,zL rfl h0 qLo (ixT h1 at1 (zL rfl h0 qAp (ixT h2 at1 ⟨_,_,rfl,rfl,(S hb7.bq).mul (S hb7.bs),?_⟩)))⟩
 refine⟨_,_,rfl,rfl,⟨by omega,qAk (qi hb.bq hb.bs)⟩,_,_,rfl,rfl,_,rfl,?_⟩
 have kk':Q (.bl (decide (0≤(p*s'+k*r*q).fdiv (q*s')) && decide ((p*s'+k*r*q).fdiv (q*s') < N))) H:=kk
 by_cases hn:0≤(p*s'+k*r*q).fdiv (q*s')
 · rw [decide_eq_true hn] at kk' ⊢
   exact wN ⟨_,rfl,zL rfl h0 qAi ⟨rd,_,rfl,hrd.get,_,_,rfl,rfl,kk'⟩⟩
 · rw [decide_eq_false hn] at kk' ⊢
   exact xf kk'
structure Rl2 (kvs:List (Key × V)):Prop where
 ex:∃ (m0 m1:Int),kvs=[((Sum.inr "ra":Key),V.int m0),(Sum.inr "rb",V.int m1)]∧1≤m0∧m0≤65∧1≤m1∧m1≤65
def rlF (kvs:List (Key × V)):Rls:=fun n=>match j3 kvs (Sum.inr n) with
 | some (.int m)=>some m
 | _=>none
theorem qL0 {H:Hp}{rd:Addr}{kvs:List (Key × V)}(h:Rd H rd (.dK kvs)):qKd H rd (rlF kvs):=fun n N q=>by
 refine⟨kvs,h,?_⟩
 unfold rlF at q
 split at q
 · cases q;assumption
 · cases q
def Cl (rl:Rls)(m:Im):Prop:=∃ (n:Str) (p q r s l N:Int),m= .clip n p q r s l∧Rc n p q r s l rl N∧l≤9∧InR (Vk p q r s 0) (q*s) N∧InR (Vk p q r s (l - 1)) (q*s) N∧Good 40 p q∧Good 40 r s
inductive qCl (vs:List V)(H:Hp)(Q:VK)(_:XK):Prop
| mk (rd:Addr) (c m:Int) (kvs:List (Key × V)) (_:vs=[.int c,.ref rd,.int m]) (_:0≤c) (_:1≤m) (_:m≤9) (_:H rd=some (.dK kvs)) (_:Rl2 kvs) (_:∀ (v:V) (i:Im) (H':Hp),Same H H'→IsI H' i v→Cl (rlF kvs) i→Q v H')
theorem qCv (T:Tx K mg a):FnOk P w K mg base CX0 2 a.A49 a.B49 ["_law_number","_law_reels","_law_most"] qCl:=by
 refine T.D49.F.ok jN (fun vs H Q E h=>?_) (fun cdv A outer s H vs Q E hr h=>?_)
 · obtain⟨rd,c,m,kvs,rfl,_⟩:=h
   rfl
 refine qJ fun _ Y=>?_
 obtain⟨rd,c,m,kvs,rfl,hc,hm1,hm9,hrd,⟨m0,m1,hkv,b0,b0',b1,b1'⟩,kk⟩:=h
 apply Y
 have hks:(kvs.map fun p=>kV p.1)=[.str "ra",.str "rb"]:=by rw [hkv];rfl
 have hu1:=vB hr
 refine⟨_,(qC (qS 3 jN.nd (jm (qAx rfl) rfl T.b_list rfl (qA (pv 1) qB)))
  (qC (qS 4 jN.nd (jK qf (pv 3) (qL jH (pv 0) (qQ qo rfl T.b_len rfl (qA (pv 3) qB))) (fun _ _=>rfl)))
  (qC (qS 5 jN.nd (jK qf (jM (qA (qZ (qA qF (qA qF qB))) (qA (qZ (qA qF (qA qF qB))) (qA (qZ (qA (kU xJ qF) (qA qF qB))) (qA (qZ (qA qF (qA qF qB))) (qA (qZ (qA (kU xJ qF) (qA qF qB))) (qA (qZ (qA qF (qA qF qB))) (qA (qZ (qA qF (qA qF qB))) qB)))))))) (qL jH (qL qm (pv 0) qF) qF) (fun _ _=>rfl)))
  (qC (qS 6 jN.nd (jK qf (jM (qA qF (qA qF (qA qF qB)))) (qL jH (qL qm (pv 0) qF) qF) (fun _ _=>rfl)))
  (qC (qS 7 jN.nd (qI T.D47 (zE T) hr rfl (qA (qL jH (qI T.D46 (jY T) hr rfl (qA (pv 0) (qA qF qB))) (qL jG (kM hu1 (pv 1) (pv 4) (fun _ _=>rfl)) (pv 6))) (qA (pv 6) qB))))
  (qC (qS 8 jN.nd (qL qc qF (qL jH (qL qm (pv 0) qF) (pv 2))))
  (qC (vO PassesOwn.never (xH (jk (qI T.D48 (qBj T) hr rfl (qA (qZ (qA qx (qA (pv 4) (qA (pv 7) (qA (pv 5) (qA (pv 8) qB)))))) (qA (qL jL (pv 8) qF) (qA (pv 1) qB)))))) (qG (qS 8 jN.nd (qL jL (pv 8) qF))))
  (qG (qN (qZ (qA qx (qA (pv 4) (qA (pv 7) (qA (pv 5) (qA (pv 8) qB))))))))))))))),?_⟩
 try dsimp only [jq,qk]
 refine⟨_,rfl,rd,_,rfl,.inl hrd,fun ln hln=>?_⟩
 rw [hks]
 have w0:=qE hln (.lst [.str "ra",.str "rb"])
 have hnl:upd H ln (.lst [.str "ra",.str "rb"]) ln=some (.lst [.str "ra",.str "rb"]):=qD
 change _
 generalize upd H ln (.lst [.str "ra",.str "rb"])=H0 at w0 hnl
 refine qJ fun _ Y=>?_
 obtain⟨nv,hnat,hnv⟩:∃ v,atI [V.str "ra",.str "rb"] (c.fmod 2)=some v∧(v= .str "ra"∨v= .str "rb"):=by
  have f:=fm c (show (0:Int) < 2 by decide)
  have:c.fmod 2=0∨c.fmod 2=1:=by omega
  rcases this with e | e <;> rw [e]
  · exact⟨_,rfl,.inl rfl⟩
  · exact⟨_,rfl,.inr rfl⟩
 obtain⟨n,N,rfl,hN,bN,bN',hvN⟩:∃ (n:Str) (N:Int),nv= .str n∧rlF kvs n=some N∧1≤N∧N≤65∧j3 kvs (Sum.inr n)=some (.int N):=by
  have v0:j3 kvs (Sum.inr "ra")=some (.int m0):=by rw [hkv];exact jT (p:=((Sum.inr ("ra":Str):Key),V.int m0)) rfl
  have v1:j3 kvs (Sum.inr "rb")=some (.int m1):=by
   rw [hkv,jd (p:=((Sum.inr ("ra":Str):Key),V.int m0)) (by intro e;exact absurd (show ("ra":Str)="rb" from Sum.inr.inj e) (by decide+kernel))]
   exact jT (p:=((Sum.inr ("rb":Str):Key),V.int m1)) rfl
  rcases hnv with rfl | rfl
  · exact⟨"ra",m0,rfl,by unfold rlF;rw [v0],b0,by omega,v0⟩
  · exact⟨"rb",m1,rfl,by unfold rlF;rw [v1],b1,by omega,v1⟩
 apply Y
 have hr0:=w0 _ _ hrd
 refine⟨_,rfl,_,rfl,_,rfl,ln,_,rfl,.inl (SqL.of hnl),_,_,rfl,rfl,(by show ((2:Nat):Int)≠0;decide),ln,_,_,_,rfl,rfl,SqL.of hnl,hnat,?_⟩
 have two:(2:Nat)≤sizeLine:=by decide
 refine⟨two,fun t0 g0=>?_⟩
 have u0:=qE g0 (.tup [.int 1,.int 1])
 have x0:upd H0 t0 (.tup [.int 1,.int 1]) t0=some (.tup [.int 1,.int 1]):=qD
 change _
 generalize upd H0 t0 (.tup [.int 1,.int 1])=G0 at u0 x0
 refine⟨two,fun t1 g1=>?_⟩
 have u1:=qE g1 (.tup [.int 0,.int 1])
 have x1:upd G0 t1 (.tup [.int 0,.int 1]) t1=some (.tup [.int 0,.int 1]):=qD
 change _
 generalize upd G0 t1 (.tup [.int 0,.int 1])=G1 at u1 x1
 refine⟨1,rfl,two,fun t2 g2=>?_⟩
 have u2:=qE g2 (.tup [.int (-1),.int 1])
 have x2:upd G1 t2 (.tup [.int (-1),.int 1]) t2=some (.tup [.int (-1),.int 1]):=qD
 change _
 generalize upd G1 t2 (.tup [.int (-1),.int 1])=G2 at u2 x2
 refine⟨two,fun t3 g3=>?_⟩
 have u3:=qE g3 (.tup [.int 1,.int 2])
 have x3:upd G2 t3 (.tup [.int 1,.int 2]) t3=some (.tup [.int 1,.int 2]):=qD
 change _
 generalize upd G2 t3 (.tup [.int 1,.int 2])=G3 at u3 x3
 refine⟨2,rfl,two,fun t4 g4=>?_⟩
 have u4:=qE g4 (.tup [.int (-2),.int 3])
 have x4:upd G3 t4 (.tup [.int (-2),.int 3]) t4=some (.tup [.int (-2),.int 3]):=qD
 change _
 generalize upd G3 t4 (.tup [.int (-2),.int 3])=G4 at u4 x4
 refine⟨two,fun t5 g5=>?_⟩
 have u5:=qE g5 (.tup [.int 3,.int 1])
 have x5:upd G4 t5 (.tup [.int 3,.int 1]) t5=some (.tup [.int 3,.int 1]):=qD
 change _
 generalize upd G4 t5 (.tup [.int 3,.int 1])=G5 at u5 x5
 refine⟨two,fun t6 g6=>?_⟩
 have u6:=qE g6 (.tup [.int 7,.int 5])
 have x6:upd G5 t6 (.tup [.int 7,.int 5]) t6=some (.tup [.int 7,.int 5]):=qD
 change _
 generalize upd G5 t6 (.tup [.int 7,.int 5])=G6 at u6 x6
 refine⟨(by show 7≤sizeLine;decide),fun ls hls=>?_⟩
 have u7:=qE hls (.lst [.ref t0,.ref t1,.ref t2,.ref t3,.ref t4,.ref t5,.ref t6])
 have x7:upd G6 ls (.lst [.ref t0,.ref t1,.ref t2,.ref t3,.ref t4,.ref t5,.ref t6]) ls=some (.lst [.ref t0,.ref t1,.ref t2,.ref t3,.ref t4,.ref t5,.ref t6]):=qD
 change _
 generalize upd G6 ls (.lst [.ref t0,.ref t1,.ref t2,.ref t3,.ref t4,.ref t5,.ref t6])=G7 at u7 x7
 have u07:Same H0 G7:=(((((((u0.trans u1).trans u2).trans u3).trans u4).trans u5).trans u6).trans u7)
 refine qJ fun _ Y=>?_
 obtain⟨ys,hsat,rr,ss,hys,gst4⟩:∃ y,atI [V.ref t0,.ref t1,.ref t2,.ref t3,.ref t4,.ref t5,.ref t6] ((c.fdiv 5).fmod 7)=some (.ref y)∧∃ r s:Int,G7 y=some (.tup [.int r,.int s])∧Good 40 r s:=by
  have hf:=fm (c.fdiv 5) (show (0:Int) < 7 by decide)
  generalize (c.fdiv 5).fmod 7=f at hf ⊢
  have:f=0∨f=1∨f=2∨f=3∨f=4∨f=5∨f=6:=by omega
  rcases this with rfl | rfl | rfl | rfl | rfl | rfl | rfl
  · exact⟨t0,rfl,1,1,(u7 _ _ (u6 _ _ (u5 _ _ (u4 _ _ (u3 _ _ (u2 _ _ (u1 _ _ x0))))))),by decide,by decide,by decide,by decide⟩
  · exact⟨t1,rfl,0,1,(u7 _ _ (u6 _ _ (u5 _ _ (u4 _ _ (u3 _ _ (u2 _ _ x1)))))),by decide,by decide,by decide,by decide⟩
  · exact⟨t2,rfl,(-1),1,(u7 _ _ (u6 _ _ (u5 _ _ (u4 _ _ (u3 _ _ x2))))),by decide,by decide,by decide,by decide⟩
  · exact⟨t3,rfl,1,2,(u7 _ _ (u6 _ _ (u5 _ _ (u4 _ _ x3)))),by decide,by decide,by decide,by decide⟩
  · exact⟨t4,rfl,(-2),3,(u7 _ _ (u6 _ _ (u5 _ _ x4))),by decide,by decide,by decide,by decide⟩
  · exact⟨t5,rfl,3,1,(u7 _ _ (u6 _ _ x5)),by decide,by decide,by decide,by decide⟩
  · exact⟨t6,rfl,7,5,(u7 _ _ x6),by decide,by decide,by decide,by decide⟩
 apply Y
 refine⟨_,rfl,_,_,rfl,rfl,cdB (by decide) (by decide),_,_,rfl,rfl,nz,ls,_,_,_,rfl,rfl,SqL.of x7,hsat,?_⟩
 clear x0 x1 x2 x3 x4 x5 x6 hsat
 refine⟨sL3,fun lb hlb=>?_⟩
 have u8:=qE hlb (.lst [.int 1,.int 2,.int 6])
 have x8:upd G7 lb (.lst [.int 1,.int 2,.int 6]) lb=some (.lst [.int 1,.int 2,.int 6]):=qD
 change _
 generalize upd G7 lb (.lst [.int 1,.int 2,.int 6])=G8 at u8 x8
 refine qJ fun _ Y=>?_
 obtain⟨bv,hbat,hbv⟩:=at3 (x:=.int 1) (y:=.int 2) (z:=.int 6) (fm (c.fdiv 35) (show (0:Int) < 3 by decide)).1 (fm (c.fdiv 35) (show (0:Int) < 3 by decide)).2
 obtain⟨bt,rfl,hb1,hb6⟩:∃ bt:Int,bv= .int bt∧1≤bt∧bt≤6:=by
  rcases hbv with rfl | rfl | rfl
  · exact⟨1,rfl,by decide,by decide⟩
  · exact⟨2,rfl,by decide,by decide⟩
  · exact⟨6,rfl,by decide,by decide⟩
 apply Y
 refine⟨_,rfl,_,_,rfl,rfl,cdB (by decide) (by decide),_,_,rfl,rfl,nz,lb,_,_,_,rfl,rfl,SqL.of x8,hbat,?_⟩
 have w8:Same H G8:=(w0.trans u07).trans u8
 have u78:=u07.trans u8
 have hys8:=u8 _ _ hys
 clear u0 u1 u2 u3 u4 u5 u6 u7 g0 g1 g2 g3 g4 g5 g6 hbat hbv x8 x7
 have hr8:=w8 _ _ hrd
 have hNb:0 < N*bt:=Int.mul_pos (by omega) (by omega)
 refine⟨_,rfl,c,1,rfl,by decide,by decide,fun mx hx0 hx1=>?_⟩
 have hre8:Reel G8 rd n N:=⟨kvs,.inl hr8,hvN⟩
 refine⟨_,rfl,_,rfl,rd,_,rfl,hre8.get,_,rfl,_,_,rfl,rfl,cmR (by omega) (by omega),_,_,rfl,rfl,(by omega),_,rfl,_,_,rfl,by omega,qAk (n:=3) (by omega),fun zs hzs=>?_⟩
 have ft:=fm mx hNb
 have hNb2:N*bt≤65*6:=Int.mul_le_mul (by omega) hb6 (by omega) (by omega)
 generalize mx.fmod (N*bt)=t0 at ft hzs ⊢
 have gst:Good 110 rr ss:=gst4.mono (by decide)
 have gp4:Good 40 (qt t0 bt) (qj t0 bt):=qL2 (by omega) (Nat.lt_of_lt_of_le (show t0.natAbs < 2 ^ 10 by omega) (Nat.pow_le_pow_right (by decide) (by decide))) (Nat.lt_of_lt_of_le (show bt.natAbs < 2 ^ 3 by omega) (Nat.pow_le_pow_right (by decide) (by decide)))
 have gp:Good 110 (qt t0 bt) (qj t0 bt):=gp4.mono (by decide)
 have cr:=jo t0 bt
 have u9:=qE hzs (.tup [.int (qt t0 bt),.int (qj t0 bt)])
 have x9:upd G8 zs (.tup [.int (qt t0 bt),.int (qj t0 bt)]) zs=some (.tup [.int (qt t0 bt),.int (qj t0 bt)]):=qD
 change _
 generalize upd G8 zs (.tup [.int (qt t0 bt),.int (qj t0 bt)])=G9 at u9 x9
 generalize qt t0 bt=p at gp gp4 cr x9 ⊢
 generalize qj t0 bt=q at gp gp4 cr x9 ⊢
 have w9:Same H G9:=w8.trans u9
 have hys9:=u9 _ _ hys8
 have hre9:=hre8.same u9
 have hbn:Bn 110 p q rr ss:=⟨gp.1,gst.1,gp.2.2.1,gp.2.2.2,gst.2.2.1,gst.2.2.2⟩
 have hqs:=Int.mul_pos hbn.q0 hbn.s0
 have i0:InR (Vk p q rr ss 0) (q*ss) N:=by
  have h1:0≤p:=by
   by_cases z:0≤p
   · exact z
   · have:=Int.mul_neg_of_neg_of_pos (show p < 0 by omega) (show (0:Int) < bt by omega)
     have:=Int.mul_nonneg ft.1 (Int.le_of_lt gp.1)
     omega
  have h2:p < N*q:=by
   have a1:t0*q < N*bt*q:=Int.mul_lt_mul_of_pos_right ft.2 gp.1
   refine Int.lt_of_mul_lt_mul_right (a:=bt) ?_ (by omega)
   rw [cr]
   have e:N*q*bt=N*bt*q:=by grind
   omega
  unfold Vk InR
  have e:p*ss+0*rr*q=p*ss:=by grind
  rw [e]
  refine⟨Int.mul_nonneg h1 (by have:=gst.1;omega),?_⟩
  have:=Int.mul_lt_mul_of_pos_right h2 gst.1
  have e2:N*q*ss=N*(q*ss):=by grind
  omega
 refine⟨_,rfl,_,_,rfl,rfl,cdB (by decide) (by decide),_,rfl,_,_,rfl,rfl,nz (by omega),_,_,rfl,rfl,?_⟩
 have fl:=fm (c.fdiv 105) (show (0:Int) < m by omega)
 generalize (c.fdiv 105).fmod m=l0 at fl ⊢
 refine vJ (fun σ H'=>∃ L:Int,σ=[some (.int c),some (.ref rd),some (.int m),some (.ref ln),some (.str n),some (.ref ys),some (.int bt),some (.ref zs),some (.int L)]∧Same G9 H'∧1≤L∧L≤9)
  (fun σ _=>match σ with | [_,_,_,_,_,_,_,_,some (.int L)]=>L.toNat | _=>0) ⟨_,rfl,Same.refl _,by omega,by omega⟩ ?_ ?_
 · rintro σ H1 ⟨L,rfl,e1,l1,l9⟩
   refine⟨_,rfl,_,rfl,_,rfl,_,rfl,sL5,fun zt hzt=>?_⟩
   have w1:=qE hzt (.tup [.str "clip",.str n,.ref zs,.ref ys,.int L])
   have e2:=e1.trans w1
   have hI:IsI (upd H1 zt (.tup [.str "clip",.str n,.ref zs,.ref ys,.int L])) (.clip n p q rr ss L) (.ref zt):=⟨zt,zs,ys,rfl,qD,e2 _ _ x9,e2 _ _ hys9⟩
   change _
   generalize upd H1 zt (.tup [.str "clip",.str n,.ref zs,.ref ys,.int L])=H2 at w1 e2 hI
   refine⟨_,rfl,_,_,rfl,rfl,_,rfl,_,rd,n,p,q,rr,ss,L,L - 1,N,rfl,hI,hbn.mono,?_,hre9.same e2,?_⟩
   · exact Nat.lt_of_lt_of_le (show (L - 1).natAbs < 2 ^ 4 by omega) (Nat.pow_le_pow_right (by decide) (by decide))
   refine⟨_,rfl,?_⟩
   by_cases hin:InR (Vk p q rr ss (L - 1)) (q*ss) N
   · rw [(qIb hqs).mpr hin]
     refine xf ⟨_,rfl,_,rfl,_,rfl,_,rfl,sL5,fun zu hzu=>?_⟩
     have w3:=qE hzu (.tup [.str "clip",.str n,.ref zs,.ref ys,.int L])
     have e3:=e2.trans w3
     refine kk _ (.clip n p q rr ss L) _ (w9.trans e3) ⟨zu,zs,ys,rfl,qD,e3 _ _ x9,e3 _ _ hys9⟩ ⟨n,p,q,rr,ss,L,N,rfl,⟨gp,gst,?_,l1,hN,?_⟩,l9,i0,hin,gp4,gst4⟩
     · exact Nat.lt_of_lt_of_le (show L.natAbs < 2 ^ 4 by omega) (Nat.pow_le_pow_right (by decide) (by decide))
     · exact Nat.lt_of_lt_of_le (show N.natAbs < 2 ^ 7 by omega) (Nat.pow_le_pow_right (by decide) (by decide))
   · have hf:thB ((Vk p q rr ss (L - 1)).fdiv (q*ss)) N=false:=by
      rw [Bool.eq_false_iff]
      intro z
      exact hin ((qIb hqs).mp z)
     rw [hf]
     have l2:2≤L:=by
      by_cases z:2≤L
      · exact z
      · exact absurd i0 (by rw [show (0:Int)=L - 1 by omega];exact hin)
     refine wN ⟨_,rfl,_,_,rfl,rfl,⟨L - 1,rfl,e2,by omega,by omega⟩,?_⟩
     show (L - 1).toNat < L.toNat
     omega
 · rintro σ H1 Q1 Q2 hq h
   refine qJ fun _ Y=>?_
   obtain⟨a1,b1,a2,b2,a3,b3,a4,b4,hz,f⟩:=h
   apply Y
   refine⟨a1,b1,a2,b2,a3,b3,a4,b4,hz,fun zt hzt=>?_⟩
   refine qJ fun _ Y=>?_
   obtain⟨c1,d1,c2,d2,c3,d3,c4,d4,g1,g2,g3,g4,g5,g6,g7,g8,g9,g10,g11,g12,g13,g14,g15,bb,hbb,z⟩:=f zt hzt
   apply Y
   exact⟨c1,d1,c2,d2,c3,d3,c4,d4,g1,g2,g3,g4,g5,g6,g7,g8,g9,g10,g11,g12,g13,g14,g15,bb,hbb,hq _ _ z⟩
theorem cut_take (vs:List V)(i:Nat):qEc vs none (some (i:Int))=vs.take i:=by
 unfold qEc
 rw [HT.sIx_none,HT.sIx_nat,List.drop_zero,Nat.sub_zero]
 by_cases h:i≤vs.length
 · rw [Nat.min_eq_left h]
 · rw [Nat.min_eq_right (by omega),List.take_of_length_le (Nat.le_refl _),List.take_of_length_le (by omega)]
theorem qFu (vs:List V)(i:Nat):qEc vs (some (i:Int)) none=vs.drop i:=by
 unfold qEc
 rw [HT.sIx_none,HT.sIx_nat]
 by_cases h:i≤vs.length
 · rw [Nat.min_eq_left h,List.take_of_length_le (by rw [List.length_drop];omega)]
 · rw [Nat.min_eq_right (by omega),List.drop_of_length_le (by omega),List.drop_of_length_le (by omega)]
   simp
theorem IsIs.drop {H:Hp}:∀ {ms:List Im} {vs:List V} {i:Nat},IsIs H ms vs→IsIs H (ms.drop i) (vs.drop i)
 | [],[],_,_=>by simp [IsIs]
 | _::_,_::_,0,h=>h
 | _::_,_::_,_+1,h=>h.2.drop (i:=_)
 | [],_::_,_,h=>h.elim
 | _::_,[],_,h=>h.elim
theorem qMe {m:Im}(h:m.wd="clip"):∃ n p q r s l,m= .clip n p q r s l:=by
 cases m with
 | clip n p q r s l=>exact⟨n,p,q,r,s,l,rfl⟩
 | gap=>exact absurd (show ("gap":Str)="clip" from h) (by decide+kernel)
 | nest=>exact absurd (show ("nest":Str)="clip" from h) (by decide+kernel)
 | mix=>exact absurd (show ("mix":Str)="clip" from h) (by decide+kernel)
def TI2 (rl:Rls)(nms:List Str)(m:Im):Prop:=(∃ l,m= .gap l∧1≤l∧l≤9)∨(∃ nm b l,m= .nest nm b l∧nm∈nms∧0≤b∧b < 9∧1≤l∧l≤9)∨Cl rl m
structure TIf (rl:Rls)(nms:List Str)(m:Im):Prop where
 wf:Wf m
 s:m.s
 nx:m.wd≠"mix"
 ml:m.l=m.mo
 mo:1≤m.mo∧m.mo≤9
 it:ItR rl m
 nst:∀ nm b l,m= .nest nm b l→nm∈nms
theorem TI2.f {rl:Rls}{nms:List Str}{m:Im}(h:TI2 rl nms m):TIf rl nms m:=by
 rcases h with ⟨l,rfl,h1,h2⟩ | ⟨nm,b,l,rfl,hn,h1,h2,h3,h4⟩ | ⟨n,p,q,r,s,l,N,rfl,hc,h2,_,_⟩
 · exact⟨h1,⟨h1,by omega⟩,by show ("gap":Str)≠"mix";decide+kernel,rfl,⟨h1,by show l≤9;omega⟩,(fun _ _ _ _ _ _ e=>by cases e),(fun _ _ _ e=>by cases e)⟩
 · exact⟨h3,⟨h1,by omega,h3,by omega⟩,by show ("nest":Str)≠"mix";decide+kernel,rfl,⟨h3,by show l≤9;omega⟩,(fun _ _ _ _ _ _ e=>by cases e),(fun _ _ _ e=>by cases e;exact hn)⟩
 · have g:=hc.bn
   exact⟨⟨hc.g1.1,hc.g2.1,hc.g1.2.1,hc.l1⟩,⟨hc.g1.1,hc.g2.1,hc.g1.2.2.1,hc.g1.2.2.2,hc.g2.2.2.1,hc.g2.2.2.2,hc.l1,by omega⟩,by show ("clip":Str)≠"mix";decide+kernel,rfl,⟨hc.l1,h2⟩,(fun _ _ _ _ _ _ e=>by cases e;exact⟨N,hc⟩),(fun _ _ _ e=>by cases e)⟩
structure FG (nms:List Str)(fs:List Im):Prop where
 geo:Geo fs
 s:∀ m∈fs,m.s
 nst:∀ m∈fs,∀ nm b l,m= .nest nm b l→nm∈nms
 sm:∀ m∈fs,∀ n p q r s l,m= .clip n p q r s l→Good 40 p q∧Good 40 r s
 mo:∀ m∈fs,0≤m.mo∧m.mo≤9
theorem TI2.sm {rl:Rls}{nms:List Str}{m:Im}(h:TI2 rl nms m):∀ n p q r s l,m= .clip n p q r s l→Good 40 p q∧Good 40 r s:=by
 rcases h with ⟨l,rfl,h1,h2⟩ | ⟨nm,b,l,rfl,hn,h1,h2,h3,h4⟩ | ⟨n,p,q,r,s,l,N,rfl,hc,h2,_,_,h5,h6⟩
 · exact fun _ _ _ _ _ _ e=>by cases e
 · exact fun _ _ _ _ _ _ e=>by cases e
 · exact fun _ _ _ _ _ _ e=>by cases e;exact⟨h5,h6⟩
inductive vq (vs:List V)(H:Hp)(Q:VK)(_:XK):Prop
| mk (tz rd:Addr) (c:Int) (kvs:List (Key × V)) (nms:List Str) (ms:List Im) (_:vs=[.ref tz,.int c,.ref rd]) (_:H rd=some (.dK kvs)) (_:Tr H tz ms) (_:(∀ m∈ms,TI2 (rlF kvs) nms m)) (_:ms.length≤6) (_:∀ (z:Addr) (fs:List Im) (H':Hp),Same H H'→H z=none→Tr H' z fs→FG nms fs→fs.length≤12→jS fs=jS ms→Q (.ref z) H')
set_option maxHeartbeats 8000000 in
theorem vS (T:Tx K mg a):FnOk P w K mg base CX0 7 a.A50 a.B50 ["_law_track","_law_cell","_law_reels"] vq:=by
 refine T.D50.F.ok jA (fun vs H Q E h=>?_) (fun cdv A outer s H vs Q E hr h=>?_)
 · obtain⟨tz,rd,c,kvs,nms,ms,rfl,_⟩:=h
   rfl
 refine qJ fun _ Y=>?_
 obtain⟨tz,rd,c,kvs,nms,ms,rfl,hrd,⟨xs,htz,his⟩,hti,hml,kk⟩:=h
 apply Y
 have hu1:=vB hr
 refine⟨_,(qC (qS 3 jA.nd qF)
  (qC (qS 4 jA.nd (jM qB))
  (qC (xV PassesOwn.never rfl (qD5 rfl T.b_range (qA (qQ qo rfl T.b_len rfl (qA (pv 0) qB)) qB)) (ql (i:=5) jA.nd rfl (Or.inl rfl)) (qC (vW (qv (qDo (PW.pt (zy (qP qKt (pv 5) qF (qR _)) (zy (qP zG (qK (jK qf (pv 0) (pv 5) (fun _ _=>rfl))) qx (qR _)) (zy (qP zG (qK (jK qf (pv 0) (qL jL (pv 5) qF) (fun _ _=>rfl))) qx (qR _)) (zf (qP zG (qL jH (qI T.D46 (jY T) hr rfl (qA (pv 1) (qA (pv 5) qB))) qF) qF (qR _)))))))) (qC (qS 6 jA.nd (qI T.D30 (qE6 T) hr rfl (qA (qL qHy (pv 4) (qB1 qIv (pv 0) (qB8 (pv 5)) qIe)) (qA (pv 3) (qA (pv 2) qB)))))
  (qG (qv (qP qKt (pv 6) qF (qR _)) (qG (xQ (qAj F.plainAttrs_list F.slot_list_append F.type_list_append jn (pv 4) (qA (qZ (qA qx (qA (qL qc qF (qL jH (qL qm (qI T.D46 (jY T) hr rfl (qA (pv 1) (qA (pv 5) qB))) qF) (qQ (kz rfl) rfl T.b_min rfl (qA (pv 6) (qA qF qB))))) qB))) qB)))) qU))) qU))
  (qC (xQ (qAj F.plainAttrs_list F.slot_list_append F.type_list_append jn (pv 4) (qA (jK qf (pv 0) (pv 5) (fun _ _=>rfl)) qB)))
  (qG (qS 3 jA.nd (qL qc (pv 3) (jK qDc (jK qf (pv 0) (pv 5) (fun _ _=>rfl)) (kU xJ qF) (fun _ _=>rfl))))))))
  (qG (qN (pv 4)))))),?_⟩
 try dsimp only [jq,qk]
 have hxl:=his.len
 refine⟨sL0,fun y hy=>?_⟩
 have w0:=qE hy (.lst [])
 have ky:upd H y (.lst []) y=some (.lst []):=qD
 generalize upd H y (.lst [])=H0 at w0 ky ⊢
 refine⟨_,rfl,tz,_,rfl,.inl (SqL.of (w0 _ _ htz)),_,rfl,by omega,by omega,ww (n:=xs.length) (fun i σ H'=>∃ (o1 o2:Option V) (fs:List Im) (us:List V),σ=[some (.ref tz),some (.int c),some (.ref rd),some (.int (jS fs)),some (.ref y),o1,o2]∧Same H H'∧H' y=some (.lst us)∧IsIs H' fs us∧FG nms fs∧fs.length≤2*i∧jS fs=jS (ms.take i)∧(∀ m∈fs,ItR (rlF kvs) m)∧(1≤i→fs.length≠0∧fs[fs.length - 1]? =ms[i - 1]?))
  ⟨none,none,[],[],rfl,w0,ky,trivial,⟨qNq,(fun m hm=>by cases hm),(fun m hm=>by cases hm),(fun m hm=>by cases hm),(fun m hm=>by cases hm)⟩,by simp,rfl,(fun m hm=>by cases hm),fun h=>by omega⟩ ?_ ?_⟩
 · rintro i σ H1 hi ⟨o1,o2,fs,us,rfl,sb,hyl,hfs,hFG,hfl,hlen,hit,hlast⟩
   refine qJ fun _ Y=>?_
   obtain⟨m,hm⟩:∃ m,ms[i]? =some m:=⟨_,List.getElem?_eq_getElem (by omega)⟩
   obtain⟨v,hv,hI⟩:=his.get' hm
   have ts1:=qM sb
   have f:=(hti m (List.mem_of_getElem? hm)).f
   have htz1:=sb _ _ htz
   obtain⟨zi,xi,rfl,hzi0,h0,hlst⟩:=hI.opn
   apply Y
   have hzi:=ts1 _ _ hzi0
   have e0i:(0:Int)+(i:Int)=(i:Int):=by omega
   have ati:atI xs (0+(i:Int))=some (.ref zi):=by rw [e0i];exact jC hv
   refine⟨fun σ' H'=>∃ (o2':Option V) (fs':List Im) (us':List V),σ'=[some (.ref tz),some (.int c),some (.ref rd),some (.int (jS fs)),some (.ref y),some (.int ((0:Int)+(i:Int))),o2']∧Same H H'∧H' y=some (.lst us')∧IsIs H' fs' us'∧Geo (fs'++[m])∧(∀ x∈fs',x∈fs∨∃ l,x= .mix l∧1≤l∧l≤30)∧fs'.length≤2*i+1∧jS fs'=jS fs,?_,?_⟩
   · refine⟨fun b' H'=>H'=H1∧(b'=true→1≤i∧m.wd="clip"∧∃ m',ms[i - 1]? =some m'∧m'.wd="clip"),?_,?_⟩
     · refine⟨_,rfl,_,_,rfl,rfl,_,rfl,jp (fun c=>?_) (fun _=>⟨rfl,(fun h=>by cases h)⟩)⟩
       have i1:1≤i:=by
        have c:(0:Int) < 0+(i:Int):=by simpa using c
        omega
       refine qJ fun _ Y=>?_
       obtain⟨m',hm'⟩:∃ m,ms[i - 1]? =some m:=⟨_,List.getElem?_eq_getElem (by omega)⟩
       obtain⟨v',hv',hI'⟩:=his.get' hm'
       obtain⟨zj,xj,rfl,hzj,j0,_⟩:=(hI'.ts ts1).opn
       apply Y
       refine⟨_,rfl,_,rfl,tz,_,_,_,rfl,rfl,SqL.of htz1,ati,zi,xi,_,_,rfl,rfl,SqT.of hzi,h0,rfl,_,rfl,jp (fun c1=>?_) (fun _=>⟨rfl,(fun h=>by cases h)⟩)⟩
       have c1:m.wd="clip":=by simpa using c1
       have atj:atI xs (0+(i:Int) - 1)=some (.ref zj):=by
        have e:(0:Int)+(i:Int) - 1=((i - 1:Nat):Int):=by omega
        rw [e];exact jC hv'
       refine⟨_,rfl,_,rfl,_,_,rfl,rfl,tz,_,_,_,rfl,rfl,SqL.of htz1,atj,zj,xj,_,_,rfl,rfl,SqT.of hzj,j0,rfl,_,rfl,jp (fun c2=>?_) (fun _=>⟨rfl,(fun h=>by cases h)⟩)⟩
       have c2:m'.wd="clip":=by simpa using c2
       exact⟨_,rfl,_,rfl,_,_,rfl,by omega,by omega,fun r1 _ _=>⟨_,_,rfl,rfl,nz,rfl,_,rfl,rfl,fun _=>⟨i1,c1,m',hm',c2⟩⟩⟩
     · rintro b' H2 ⟨rfl,hb2⟩
       cases b' with
       | false=>exact xf ⟨o2,fs,us,rfl,sb,hyl,hfs,qFt hFG.geo f.wf f.nx,fun x hx=>.inl hx,by omega,rfl⟩
       | true=>
        refine qJ fun _ Y=>?_
        obtain⟨i1,c1,m',hm',c2⟩:=hb2 rfl
        apply Y
        refine wN ?_
        refine qJ fun _ Y=>?_
        obtain⟨n',p',q',r',s',k',rfl⟩:=qMe c1
        obtain⟨n,p,q,r,s4,k,rfl⟩:=qMe c2
        obtain⟨hfl0,hlast⟩:=hlast i1
        apply Y
        rw [hm'] at hlast
        have hisd:=(his.ts ts1).drop (i:=i)
        refine⟨_,rfl,_,rfl,_,rfl,_,rfl,tz,_,rfl,SqL.of htz1,fun a1 ha1=>?_⟩
        rw [e0i,qFu]
        have v1:=qE ha1 (.lst (xs.drop i))
        have ul:us.length≤12:=by rw [hfs.len];omega
        refine⟨y,a1,_,_,rfl,rfl,v1 _ _ hyl,qD,?_,fun a2 ha2=>?_⟩
        · have:=qW (n:=us.length+(xs.drop i).length) (by rw [List.length_drop];omega)
          omega
        have v2:=qE ha2 (.lst (us++xs.drop i))
        have v12:=v1.trans v2
        have ka2:upd (upd H2 a1 (.lst (xs.drop i))) a2 (.lst (us++xs.drop i)) a2=some (.lst (us++xs.drop i)):=qD
        generalize upd (upd H2 a1 (.lst (xs.drop i))) a2 (.lst (us++xs.drop i))=H3 at v12 ka2 ⊢
        have hmm:=List.mem_of_getElem? hm
        have hmm':=List.mem_of_getElem? hm'
        refine qJ fun _ Y=>?_
        obtain⟨N',hN'⟩:=f.it _ _ _ _ _ _ rfl
        obtain⟨N,hN⟩:=(hti _ hmm').f.it _ _ _ _ _ _ rfl
        have k1:1≤k':=f.mo.1
        have ed:ms.drop i= .clip n' p' q' r' s' k'::ms.drop (i+1):=jz hm
        obtain⟨M,hM,hMl⟩:=qQ7 (p':=p') (q':=q') (r':=r') (s':=s') (rest:=ms.drop (i+1)) (j:=fs.length - 1) hFG.geo (by omega) hlast hN.rn hN'.rn k1
        apply Y
        have te:0≤teF (fs++ .clip n' p' q' r' s' k'::ms.drop (i+1)) fs.length:=by
         unfold teF
         rw [List.getElem?_append_right (by omega),show fs.length+1 - fs.length=0+1 by omega,List.getElem?_cons_succ]
         split
         · rename_i l hl
           rw [List.getElem?_drop] at hl
           exact absurd rfl (hti _ (List.mem_of_getElem? hl)).f.nx
         · exact Int.le_refl _
        rw [← ed] at hM hMl te
        refine⟨_,rfl,_,rfl,a2,rd,fs++ms.drop i,jS fs,M,rlF kvs,rfl,⟨_,ka2,(hfs.ts (qM v12)).app (hisd.ts (qM v12))⟩,fun x hx=>?_,qL0 (.inl (v12 _ _ (sb _ _ hrd))),hM,fun H4 e4=>?_⟩
        · rcases List.mem_append.mp hx with hx | hx
          · exact hit x hx
          · exact(hti x (List.mem_of_mem_drop hx)).f.it
        have e24:=v12.trans e4
        have sb4:=sb.trans e24
        have hyl4:=e24 _ _ hyl
        have hfs4:=hfs.ts (qM e24)
        refine⟨_,rfl,_,_,rfl,rfl,_,rfl,jp (fun c=>?_) (fun _=>?_)⟩
        · have M0:0 < M:=by simpa using c
          refine⟨_,rfl,.inl ⟨rfl,_,SqL.of hyl4⟩,_,rfl,_,rfl,_,_,rfl,by omega,by omega,fun r5 _ _=>⟨_,_,rfl,rfl,cdB (by decide) (by decide),_,rfl,_,_,rfl,?_⟩⟩
          have hM9:0 < (if (9:Int) < M then (9:Int) else M)∧(if (9:Int) < M then (9:Int) else M)≤M:=by
           split <;> omega
          generalize (if (9:Int) < M then (9:Int) else M)=M9 at hM9 ⊢
          have f5:=fm (r5.fdiv 3) hM9.1
          refine⟨_,_,rfl,rfl,(by omega),_,_,rfl,rfl,sL2,fun g hg=>?_⟩
          have w6:=qE hg (.tup [.str "mix",.int (1+(r5.fdiv 3).fmod M9)])
          have kg:upd H4 g (.tup [.str "mix",.int (1+(r5.fdiv 3).fmod M9)]) g=some (.tup [.str "mix",.int (1+(r5.fdiv 3).fmod M9)]):=qD
          have hyl6:=w6 _ _ hyl4
          have sb6:=sb4.trans w6
          generalize upd H4 g (.tup [.str "mix",.int (1+(r5.fdiv 3).fmod M9)])=H6 at w6 kg hyl6 sb6 ⊢
          obtain⟨m1,m2⟩:=hMl (1+(r5.fdiv 3).fmod M9) (by omega) (by omega)
          have m2:=m2 te
          have k12:k'≤9:=f.mo.2
          have hf2:=qr (p:=1+(r5.fdiv 3).fmod M9) (q:=2) (by decide)
          refine⟨y,_,_,rfl,rfl,hyl6,qW (by omega),_,fs++[.mix (1+(r5.fdiv 3).fmod M9)],us++[.ref g],rfl,jR sb6 hy,qD,((hfs4.ts (qM w6)).app (.one (isM kg))).ts (j4 hyl6),?_,fun x hx=>?_,by rw [List.length_append,List.length_singleton];omega,?_⟩
          · rw [List.append_assoc]
            exact qKl hFG.geo (by omega) hlast (by omega) m1 f.wf m2
          · rcases List.mem_append.mp hx with hx | hx
            · exact .inl hx
            · rw [List.mem_singleton] at hx
              exact .inr ⟨_,hx,by omega,by omega⟩
          · unfold jS
            rw [List.map_append,List.sum_append]
            show _+((0:Int)+0)=_
            omega
        · exact⟨_,fs,us,rfl,sb4,hyl4,hfs4,qFt hFG.geo f.wf f.nx,fun x hx=>.inl hx,by omega,rfl⟩
   rintro σ' H2 ⟨o2',fs',us',rfl,sb2,hyl2,hfs2,hG2,hmem,hfl2,hlen2⟩
   have htz2:=sb2 _ _ htz
   have hI2:=hI.ts (qM sb2)
   have ul:us'.length≤13:=by rw [hfs2.len];omega
   refine⟨_,rfl,.inl ⟨rfl,_,SqL.of hyl2⟩,_,rfl,_,rfl,tz,_,_,_,rfl,rfl,SqL.of htz2,ati,y,_,_,rfl,rfl,hyl2,qW (by omega),?_⟩
   have hyd2:upd H2 y (.lst (us'++[.ref zi])) y=some (.lst (us'++[.ref zi])):=qD
   have ts3:TS H2 (upd H2 y (.lst (us'++[.ref zi]))):=j4 hyl2
   have sb3:Same H (upd H2 y (.lst (us'++[.ref zi]))):=jR sb2 hy
   have hfs3:=(hfs2.app (.one hI2)).ts ts3
   generalize upd H2 y (.lst (us'++[.ref zi]))=H3 at hyd2 ts3 sb3 hfs3 ⊢
   have hzi3:H3 zi=some (.tup xi):=sb3 _ _ hzi0
   have hmm:=List.mem_of_getElem? hm
   refine⟨_,rfl,_,rfl,_,rfl,tz,_,_,_,rfl,rfl,SqL.of (sb3 _ _ htz),ati,_,rfl,zi,_,_,_,rfl,rfl,SqT.of hzi3,hlst,_,_,rfl,rfl,?_⟩
   have el:jS (fs'++[m])=jS fs+m.l:=by
    unfold jS at hlen2 ⊢
    rw [List.map_append,List.sum_append,hlen2,f.ml]
    simp
   have split:∀ {x:Im},x∈fs'++[m]→x∈fs∨(∃ l,x= .mix l∧1≤l∧l≤30)∨x=m:=fun {x} hx=>by
    rcases List.mem_append.mp hx with hx | hx
    · rcases hmem x hx with hx | hx
      · exact .inl hx
      · exact .inr (.inl hx)
    · rw [List.mem_singleton] at hx;exact .inr (.inr hx)
   refine⟨_,o2',fs'++[m],us'++[.ref zi],by rw [el];rfl,sb3,hyd2,hfs3,⟨hG2,fun x hx=>?_,fun x hx nm b' l' q=>?_,fun x hx=>?_,fun x hx=>?_⟩,by rw [List.length_append,List.length_singleton];omega,?_,fun x hx=>?_,fun _=>⟨by simp,by simp [hm]⟩⟩
   · rcases split hx with hx | ⟨l,rfl,l1,l2⟩ | rfl
     · exact hFG.s x hx
     · exact⟨l1,by omega⟩
     · exact f.s
   · rcases split hx with hx | ⟨l,rfl,l1,l2⟩ | rfl
     · exact hFG.nst x hx nm b' l' q
     · cases q
     · exact f.nst nm b' l' q
   · rcases split hx with hx | ⟨l,rfl,l1,l2⟩ | rfl
     · exact hFG.sm x hx
     · exact fun _ _ _ _ _ _ e=>by cases e
     · exact(hti _ hmm).sm
   · rcases split hx with hx | ⟨l,rfl,l1,l2⟩ | rfl
     · exact hFG.mo x hx
     · exact⟨Int.le_refl 0,by show (0:Int)≤9;decide⟩
     · exact⟨by have:=f.mo.1;omega,f.mo.2⟩
   · rw [el,hlen,List.take_add_one,hm,f.ml]
     simp [jS]
   · rcases split hx with hx | ⟨l,rfl,l1,l2⟩ | rfl
     · exact hit x hx
     · exact fun _ _ _ _ _ _ e=>by cases e
     · exact f.it
 rintro σ H1 ⟨o1,o2,fs,us,rfl,sb,hyl,hfs,hFG,hfl,hlen,hit,hlast⟩
 refine⟨_,rfl,kk y fs H1 sb hy ⟨us,hyl,hfs⟩ hFG (by omega) ?_⟩
 rw [hlen,hxl,List.take_length]
theorem qEy {H:Hp}{ms:List Im}{vs:List V}(h:IsIs H ms vs)(hne:ms≠[]):∃ v m,vs[vs.length - 1]? =some v∧ms[ms.length - 1]? =some m∧IsI H m v:=by
 have hl:0 < ms.length:=List.length_pos_iff.mpr hne
 have hi:vs.length - 1 < vs.length:=by rw [h.len];omega
 have ev:vs[vs.length - 1]? =some vs[vs.length - 1]:=List.getElem?_eq_getElem hi
 obtain⟨m,h1,h2⟩:=h.get ev
 refine⟨_,m,ev,?_,h2⟩
 rw [h.len] at h1
 exact h1
theorem qOs {H:Hp}{x y:Addr}{ss:List Str}{Q:VK}(h1:H x=some (.lst (ss.map V.str)))(h2:H y=some (.lst []))(q:Q (.bl (!ss.isEmpty)) H):qHs K true (.ref x) (.ref y) H Q:=by
 have hf:(ss.map V.str).all vK=true:=by rw [List.all_map,List.all_eq_true];intro _ _;rfl
 refine⟨.lst ((ss.map V.str).map D.leaf),.lst [],?_,?_,rfl,by unfold dep;rw [wW];decide,?_⟩
 · unfold Rep;exact⟨x,_,rfl,SqL.of h1,zv hf⟩
 · unfold Rep;exact⟨y,[],rfl,SqL.of h2,by unfold Reps;trivial⟩
 · have e:eqD (.lst ((ss.map V.str).map D.leaf)) (.lst [])=ss.isEmpty:=by cases ss <;> simp [eqD,xB]
   rw [e]
   exact q
theorem qM3 {ms:List Im}{rl:Rls}{nms:List Str}(h:∀ m∈ms,TI2 rl nms m):jS ms≤9*ms.length:=by
 induction ms with
 | nil=>exact Int.le_refl _
 | cons m ms ih=>
  have h1:=(h m (by simp)).f.mo.2
  have h2:=ih fun x hx=>h x (by simp [hx])
  rw [zc,List.length_cons]
  omega
inductive qBv (vs:List V)(H:Hp)(Q:VK)(_:XK):Prop
| mk (rd nl:Addr) (c mo:Int) (kvs:List (Key × V)) (nms:List Str) (_:vs=[.int c,.ref rd,.ref nl,.int mo]) (_:1≤mo) (_:mo≤6) (_:H rd=some (.dK kvs)) (_:Rl2 kvs) (_:H nl=some (.lst (nms.map V.str))) (_:nms.length≤6) (_:∀ (z:Addr) (fs:List Im) (H':Hp),Same H H'→H z=none→Tr H' z fs→FG nms fs→fs.length≤12→jS fs≤54→Q (.ref z) H')
set_option maxHeartbeats 8000000 in
theorem vI (T:Tx K mg a):FnOk P w K mg base CX0 8 a.A51 a.B51 ["_law_cell","_law_reels","_law_names","_law_most"] qBv:=by
 refine T.D51.F.ok jW (fun vs H Q E h=>?_) (fun cdv A outer s H vs Q E hr h=>?_)
 · obtain⟨rd,nl,c,mo,kvs,nms,rfl,_⟩:=h
   rfl
 refine qJ fun _ Y=>?_
 obtain⟨rd,nl,c,mo,kvs,nms,rfl,mo1,mo6,hrd,hRl,hnl,hnn,kk⟩:=h
 apply Y
 have hu1:=vB hr
 have hu:=hr.units
 refine⟨_,(qC (qS 4 jW.nd (jM qB))
  (qC (xV PassesOwn.never rfl (qD5 rfl T.b_range (qA (qL jH (qI T.D46 (jY T) hr rfl (qA (pv 0) (qA qF qB))) (qL qc (pv 3) qF)) qB)) (ql (i:=5) jW.nd rfl (Or.inl rfl)) (qC (qS 6 jW.nd (qI T.D46 (jY T) hr rfl (qA (pv 0) (qA (qL qc qF (pv 5)) qB))))
  (qG (qv (qDo (PW.pt (zy (qP zG (qL jH (pv 6) qF) qF (qR _)) (zf (PW.pt (zJ (qP (qIy hu) (pv 4) (jM qB) (qR _)) (xn (qP km (qK (jK qf (pv 4) (kU xJ qF) (fun _ _=>rfl))) qx (qR _))))))))) (qG (xQ (qAj F.plainAttrs_list F.slot_list_append F.type_list_append jn (pv 4) (qA (qZ (qA qx (qA (qL qc qF (qL jH (qL qm (pv 6) qF) qF)) qB))) qB)))) (qG (qv (qDo (PW.pt (zy (qP kX (qL jH (pv 6) qF) qF (qR _)) (zf (qP (qDu hu) (pv 2) (jM qB) (qR _)))))) (qC (qS 7 jW.nd (jK qf (pv 2) (kU xJ qF) (fun _ _=>rfl)))
  (qC (vW (qv (qP zG (qL jH (qL qm (pv 6) qF) qF) qF (qR _)) (qG (qS 7 jW.nd (jK qf (pv 2) (qL jH (qL qm (pv 6) qF) (qQ qo rfl T.b_len rfl (qA (pv 2) qB))) (fun _ _=>rfl)))) qU))
  (qG (xQ (qAj F.plainAttrs_list F.slot_list_append F.type_list_append jn (pv 4) (qA (qZ (qA qx (qA (pv 7) (qA (qL jH (qL qm (pv 6) qF) qF) (qA (qL qc qF (qL jH (qL qm (pv 6) qF) qF)) qB))))) qB)))))) (qG (xQ (qAj F.plainAttrs_list F.slot_list_append F.type_list_append jn (pv 4) (qA (qI T.D49 (qCv T) hr rfl (qA (qL qm (pv 6) qF) (qA (pv 1) (qA qF qB)))) qB))))))))))
  (qC (qv (qDo (PW.pt (zy (qP (qDu hu) (pv 4) (jM qB) (qR _)) (zf (qP zG (qK (jK qf (pv 4) (kU xJ qF) (fun _ _=>rfl))) qx (qR _)))))) (qG (xQ (qQi F.plainAttrs_list F.slot_list_pop F.type_list_pop qQf (pv 4)))) qU)
  (qG (qN (qI T.D50 (vS T) hr rfl (qA (pv 4) (qA (qI T.D46 (jY T) hr rfl (qA (pv 0) (qA qF qB))) (qA (pv 1) qB))))))))),?_⟩
 try dsimp only [jq,qk]
 refine⟨sL0,fun y hy=>?_⟩
 have w0:=qE hy (.lst [])
 have ky:upd H y (.lst []) y=some (.lst []):=qD
 generalize upd H y (.lst [])=H0 at w0 ky ⊢
 refine⟨_,rfl,_,_,rfl,by omega,by omega,fun r1 r10 _=>⟨_,rfl,_,_,rfl,rfl,_,_,rfl,rfl,by omega,?_⟩⟩
 have f1:=fm r1 (show (0:Int) < mo+1 by omega)
 refine⟨_,rfl,by omega,by omega,ww (n:=(r1.fmod (mo+1)).toNat) (fun i σ H'=>∃ (o1 o2 o3:Option V) (ms:List Im) (us:List V),σ=[some (.int c),some (.ref rd),some (.ref nl),some (.int mo),some (.ref y),o1,o2,o3]∧Same H H'∧H' y=some (.lst us)∧IsIs H' ms us∧ms.length≤i∧(∀ m∈ms,TI2 (rlF kvs) nms m))
  ⟨none,none,none,[],[],rfl,w0,ky,trivial,by simp,(fun m hm=>by cases hm)⟩ ?_ ?_⟩
 · rintro i σ H3 hi ⟨o1,o2,o3,ms,us,rfl,sb,hyl,hiv,hml,hti⟩
   have hvl:us.length≤i:=by rw [hiv.len];exact hml
   refine⟨_,rfl,_,rfl,_,_,rfl,rfl,_,_,rfl,by omega,by omega,fun r3 r30 _=>?_⟩
   have f3:=fm r3 (show (0:Int) < 7 by decide)
   refine⟨fun b' H'=>Same H3 H',?_,?_⟩
   · refine⟨_,rfl,_,_,rfl,rfl,nz,rfl,_,rfl,jp (fun _=>?_) (fun _=>Same.refl _)⟩
     refine⟨_,rfl,sL0,fun en hen=>qRt ⟨us,(qE hen _) _ _ hyl,hiv.ts (qM (qE hen _))⟩ qD ⟨_,rfl,?_⟩⟩
     have w3:=qE hen (.lst [])
     by_cases hne:ms=[]
     · have e:ms.isEmpty=true:=by rw [hne];rfl
       rw [e]
       exact wN w3
     · have e:ms.isEmpty=false:=by
        cases ms with
        | nil=>exact absurd rfl hne
        | cons=>rfl
       rw [e]
       refine xf ?_
       refine qJ fun _ Y=>?_
       obtain⟨v,m,h1,h2,h4⟩:=qEy (hiv.ts (qM w3)) hne
       obtain⟨zi,xi,rfl,hzi,h0,_⟩:=h4.opn
       apply Y
       exact⟨_,rfl,_,rfl,y,_,_,_,rfl,rfl,SqL.of (w3 _ _ hyl),qBt h1,zi,xi,_,_,rfl,rfl,SqT.of hzi,h0,rfl,_,rfl,w3⟩
   intro b' H4 w4
   have hiv4:=hiv.ts (qM w4)
   have hv4:=w4 _ _ hyl
   have sb4:=sb.trans w4
   cases b' with
   | true=>
    have f5:=fm (r3.fdiv 7) (show (0:Int) < 5 by decide)
    refine wN ⟨_,rfl,.inl ⟨rfl,_,SqL.of hv4⟩,_,rfl,_,_,rfl,rfl,cdB (by decide) (by decide),_,_,rfl,rfl,nz,_,_,rfl,rfl,sL2,fun g hg=>?_⟩
    have w6:=qE hg (.tup [.str "gap",.int (1+(r3.fdiv 7).fmod 5)])
    have hv6:=w6 _ _ hv4
    refine⟨y,_,_,rfl,rfl,hv6,qW (by omega),_,_,_,ms++[.gap (1+(r3.fdiv 7).fmod 5)],_,rfl,jR (sb4.trans w6) hy,qD,((hiv4.ts (qM w6)).app (.one (isG qD))).ts (j4 hv6),by simp;omega,fun m hm=>?_⟩
    rcases List.mem_append.mp hm with hm | hm
    · exact hti m hm
    · have:m= .gap (1+(r3.fdiv 7).fmod 5):=by simpa using hm
      exact .inl ⟨_,this,by omega,by omega⟩
   | false=>
    refine xf ?_
    have hnl4:=sb4 _ _ hnl
    refine⟨fun b' H'=>Same H4 H'∧(b'=true→nms≠[]),?_,?_⟩
    · refine⟨_,rfl,_,_,rfl,rfl,nz,_,_,rfl,rfl,_,rfl,jp (fun _=>?_) (fun _=>⟨Same.refl _,(fun h=>by cases h)⟩)⟩
      refine⟨_,rfl,sL0,fun en hen=>qOs ((qE hen _) _ _ hnl4) qD ⟨_,rfl,qE hen _,fun c=>?_⟩⟩
      intro q
      rw [q] at c
      cases c
    rintro b' H5 ⟨w5,hb5⟩
    have hiv5:=hiv4.ts (qM w5)
    have hv5:=w5 _ _ hv4
    have sb5:=sb4.trans w5
    have hnl5:=w5 _ _ hnl4
    cases b' with
    | true=>
     have hne:=hb5 rfl
     refine wN ?_
     have hnp:0 < nms.length:=List.length_pos_iff.mpr hne
     obtain⟨nm,hnm⟩:∃ nm,nms[nms.length - 1]? =some nm:=⟨_,List.getElem?_eq_getElem (by omega)⟩
     have hnm':(nms.map V.str)[(nms.map V.str).length - 1]? =some (.str nm):=by rw [List.length_map,List.getElem?_map,hnm];rfl
     refine⟨_,rfl,_,rfl,nl,_,_,_,rfl,rfl,SqL.of hnl5,qBt hnm',?_⟩
     refine⟨fun σ' H'=>∃ nm',nm'∈nms∧σ'=[some (.int c),some (.ref rd),some (.ref nl),some (.int mo),some (.ref y),some (.int (0+(i:Int))),some (.int r3),some (.str nm')]∧H'=H5,?_,?_⟩
     · refine⟨_,rfl,_,_,rfl,rfl,cdB (by decide) (by decide),_,_,rfl,rfl,nz,rfl,_,rfl,jp (fun _=>?_) (fun _=>?_)⟩
       · have f7:=fm (r3.fdiv 21) (show (0:Int) < ((nms.map V.str).length:Int) by rw [List.length_map];omega)
         obtain⟨nm',hn'⟩:∃ nm',nms[((r3.fdiv 21).fmod ((nms.map V.str).length:Int)).toNat]? =some nm':=⟨_,List.getElem?_eq_getElem (by rw [List.length_map] at f7 ⊢;omega)⟩
         have hat:atI (nms.map V.str) ((r3.fdiv 21).fmod ((nms.map V.str).length:Int))=some (.str nm'):=by
          rw [show (r3.fdiv 21).fmod ((nms.map V.str).length:Int)=((((r3.fdiv 21).fmod ((nms.map V.str).length:Int)).toNat:Nat):Int) by omega]
          refine jC ?_
          rw [List.getElem?_map,hn'];rfl
         exact⟨_,rfl,_,rfl,_,_,rfl,rfl,cdB (by decide) (by decide),_,rfl,nl,_,rfl,.inl (SqL.of hnl5),_,_,rfl,rfl,(by rw [List.length_map];omega),nl,_,_,_,rfl,rfl,SqL.of hnl5,hat,nm',List.mem_of_getElem? hn',rfl,rfl⟩
       · exact⟨nm,List.mem_of_getElem? hnm,rfl,rfl⟩
     rintro σ' H6 ⟨nm',hn',rfl,rfl⟩
     have f7:=fm (r3.fdiv 63) (show (0:Int) < 9 by decide)
     have f8:=fm (r3.fdiv 700) (show (0:Int) < 9 by decide)
     refine⟨_,rfl,.inl ⟨rfl,_,SqL.of hv5⟩,_,rfl,_,rfl,_,_,rfl,rfl,cdB (by decide) (by decide),_,_,rfl,rfl,nz,_,rfl,_,_,rfl,rfl,cdB (by decide) (by decide),_,_,rfl,rfl,nz,_,_,rfl,rfl,sL4,fun g hg=>?_⟩
     have w9:=qE hg (.tup [.str "nest",.str nm',.int ((r3.fdiv 63).fmod 9),.int (1+(r3.fdiv 700).fmod 9)])
     have hv9:=w9 _ _ hv5
     refine⟨y,_,_,rfl,rfl,hv9,qW (by omega),_,_,_,ms++[.nest nm' ((r3.fdiv 63).fmod 9) (1+(r3.fdiv 700).fmod 9)],_,rfl,jR (sb5.trans w9) hy,qD,((hiv5.ts (qM w9)).app (.one (isN qD))).ts (j4 hv9),by simp;omega,fun m hm=>?_⟩
     rcases List.mem_append.mp hm with hm | hm
     · exact hti m hm
     · have:m= .nest nm' ((r3.fdiv 63).fmod 9) (1+(r3.fdiv 700).fmod 9):=by simpa using hm
       exact .inr (.inl ⟨_,_,_,this,hn',by omega,by omega,by omega,by omega⟩)
    | false=>
     refine xf ⟨_,rfl,.inl ⟨rfl,_,SqL.of hv5⟩,_,rfl,_,_,rfl,rfl,cdB (by decide) (by decide),_,rfl,rd,_,9,kvs,rfl,(by have:=qr (p:=r3) (q:=7) (by decide);omega),by decide,by decide,sb5 _ _ hrd,hRl,fun v m H6 s6 hI hC=>?_⟩
     have hv6:=s6 _ _ hv5
     refine⟨y,_,_,rfl,rfl,hv6,qW (by omega),_,_,_,ms++[m],_,rfl,jR (sb5.trans s6) hy,qD,((hiv5.ts (qM s6)).app (.one hI)).ts (j4 hv6),by simp;omega,fun m' hm=>?_⟩
     rcases List.mem_append.mp hm with hm | hm
     · exact hti m' hm
     · have:m'=m:=by simpa using hm
       rw [this];exact .inr (.inr hC)
 rintro σ H2 ⟨o1,o2,o3,ms,us,rfl,sb,hyl,hiv,hml,hti⟩
 have hm5:ms.length≤6:=by omega
 refine⟨fun b' H3=>Same H2 H3∧(b'=true→ms≠[]),?_,?_⟩
 · refine⟨_,rfl,sL0,fun en hen=>qRm ⟨us,(qE hen _) _ _ hyl,hiv.ts (qM (qE hen _))⟩ qD ⟨_,rfl,?_⟩⟩
   have w3:=qE hen (.lst [])
   by_cases hne:ms=[]
   · have e:ms.isEmpty=true:=by rw [hne];rfl
     rw [e]
     exact xf ⟨w3,(fun h=>by cases h)⟩
   · have e:ms.isEmpty=false:=by
      cases ms with
      | nil=>exact absurd rfl hne
      | cons=>rfl
     rw [e]
     refine wN ?_
     refine qJ fun _ Y=>?_
     obtain⟨v,m,h1,h2,h4⟩:=qEy (hiv.ts (qM w3)) hne
     obtain⟨zi,xi,rfl,hzi,h0,_⟩:=h4.opn
     apply Y
     exact⟨_,rfl,_,rfl,y,_,_,_,rfl,rfl,SqL.of (w3 _ _ hyl),qBt h1,zi,xi,_,_,rfl,rfl,SqT.of hzi,h0,rfl,_,rfl,w3,fun _=>hne⟩
 rintro b' H3 ⟨w3,hb'⟩
 have hv3:=w3 _ _ hyl
 have hiv3:=hiv.ts (qM w3)
 have sb3:=sb.trans w3
 have fin:∀ {ms':List Im} {H4:Hp},ms'.length≤6→(∀ m∈ms',TI2 (rlF kvs) nms m)→Same H H4→∀ (z:Addr) (fs:List Im) (H':Hp),Same H4 H'→H4 z=none→Tr H' z fs→FG nms fs→fs.length≤12→jS fs=jS ms'→Q (.ref z) H':=fun {ms' H4} h1 h2 h3 z fs H' q1 q3 q4 q5 q6 q7=>by
  have:=qM3 h2
  exact kk z fs H' (h3.trans q1) (h3.free q3) q4 q5 q6 (by omega)
 cases b' with
 | true=>
  refine qJ fun _ Y=>?_
  obtain⟨v,m,h1,h2,h4⟩:=qEy hiv3 (hb' rfl)
  apply Y
  refine wN ⟨_,rfl,.inl ⟨rfl,_,SqL.of hv3⟩,y,_,v,rfl,rfl,hv3,h1,?_⟩
  have sb4:Same H (upd H3 y (.lst us.dropLast)):=jR sb3 hy
  have l5:ms.dropLast.length≤6:=by rw [List.length_dropLast];omega
  have ht4:∀ m∈ms.dropLast,TI2 (rlF kvs) nms m:=fun m hm=>hti m (List.dropLast_subset _ hm)
  exact⟨_,rfl,_,rfl,_,_,rfl,by omega,by omega,fun r9 _ _=>⟨_,rfl,y,rd,_,kvs,nms,ms.dropLast,rfl,sb4 _ _ hrd,⟨_,qD,hiv3.dl.ts (j4 hv3)⟩,ht4,l5,fin l5 ht4 sb4⟩⟩
 | false=>
  exact xf ⟨_,rfl,_,rfl,_,_,rfl,by omega,by omega,fun r9 _ _=>⟨_,rfl,y,rd,_,kvs,nms,ms,rfl,sb3 _ _ hrd,⟨_,hv3,hiv3⟩,hti,hm5,fin hm5 hti sb3⟩⟩
def PtL (x:Pt):Prop:=Int.gcd x.r x.s=1∧Int.gcd x.c x.d=1
def Rn.lw (r:Rn):Prop:=∀ x∈r.ps,PtL x
theorem qJu {r:Rn}(h:r.lw)(lo:Int)(hi:Option Int):(r.within lo hi).lw:=fun y hy=>by
 obtain⟨x,hx,rfl⟩:=List.mem_map.mp (show y∈r.ps.map (Pt.later (mxI lo r.b - r.b)) from hy)
 exact h x hx
theorem qF8 {b:Int}{e:Option Int}:(⟨b,e,[]⟩:Rn).lw:=fun x hx=>by cases hx
theorem qRk {f:Str→Int→Rn}{ms:List Im}(hG:Geo ms)(hs:∀ m∈ms,m.s)(hc:∀ n p q r s l,Im.clip n p q r s l∈ms→Int.gcd r s=1){t:Int}(hN:∀ nm b l,Im.nest nm b l ∉ ms):(qV f ms t).lw:=by
 cases hm:xS 0 0 ms t with
 | some x=>
  obtain⟨i,j⟩:=x
  obtain⟨_,l,hi,h2,h3,h4⟩:=jb hm
  rw [Nat.sub_zero] at hi h2 h3 h4
  obtain⟨i1,⟨n,p,q,r,s,k,ha⟩,n',p',q',r',s',k',hb⟩:=hG.mx i l hi
  have l1:1≤l∧l < 2 ^ 60:=hs _ (List.mem_of_getElem? hi)
  have eR:qV f ms t=qFo ms i (t - j):=by
   unfold qV
   rw [hm]
  rw [eR]
  have hl1:(l+1:Int)≠0:=by omega
  unfold qFo
  rw [hi,ha,hb]
  intro y hy
  rcases List.mem_cons.mp hy with rfl | hy
  · exact⟨hc _ _ _ _ _ _ (List.mem_of_getElem? ha),xO hl1⟩
  · rw [List.mem_singleton] at hy
    subst hy
    exact⟨hc _ _ _ _ _ _ (List.mem_of_getElem? hb),xO hl1⟩
 | none=>
 cases hit:jO 0 0 ms t with
 | none=>
  have eR:qV f ms t=⟨jS ms,none,[]⟩:=by unfold qV;rw [hm,hit]
  rw [eR]
  exact qF8
 | some x=>
  obtain⟨i,d⟩:=x
  obtain⟨_,m,hi,h2,h3,h4⟩:=xt hit
  rw [Nat.sub_zero] at hi h2 h3 h4
  rw [kG hm hit hi]
  cases m with
  | clip n p q r s l=>
   show (zK ms i (t - d)).lw
   unfold zK
   rw [hi]
   intro y hy
   rw [List.mem_singleton] at hy
   subst hy
   exact⟨hc _ _ _ _ _ _ (List.mem_of_getElem? hi),by show Int.gcd 0 1=1;decide⟩
  | nest nm b l=>exact absurd (List.mem_of_getElem? hi) (hN nm b l)
  | gap l=>exact qF8
  | mix l=>exact qF8
theorem qIx {f:Str→Int→Rn}{t:Int}:∀ (ts:List (List Im)) (r:Rn),(∀ ms∈ts,(qV f ms t).lw)→r.lw→(wlk f t r ts).lw
 | [],_,_,h=>h
 | ms::rest,r,h,hr=>by
  have h1:=qJu (h ms (List.mem_cons_self ..)) r.b r.e
  rw [wlk]
  split
  · exact qIx rest _ (fun m hm=>h m (List.mem_cons_of_mem _ hm)) h1
  · exact h1
theorem qE4 {P:Pt→Prop}{g:Int→Rn}(h:∀ t,0≤t→∀ x∈(g t).ps,P x):∀ {L:List Pc} {b e:Int},Chn g b L e→0≤b→∀ x∈L,∀ y∈x.2,P y
 | x::r,b,e,hc,hb,z,hz,y,hy=>by
  obtain⟨h1,h2,h3⟩:=hc
  rcases List.mem_cons.mp hz with rfl | hz
  · refine h b hb y ?_
    rw [h2]
    exact hy
  · exact qE4 h h3 (by omega) z hz y hy
 | [],_,_,_,_,z,hz,_,_=>by cases hz
def phi (A Z b:Int):Int:=if b < A then b else if b < Z then A else A+1+(b - Z)
theorem qI8 {g:Int→Rn}{A Z:Int}(hA:0≤A)(hz:A≤Z)(h:∀ t e ps,A≤t→t < Z→g t=⟨t,some e,ps⟩→Z≤e):∀ {L:List Pc} {b e:Int},Chn g b L e→0≤b→(L.length:Int)+phi A Z b≤phi A Z e
 | [],b,e,hc,hb=>by
  have hc:b=e:=hc
  rw [hc]
  simp
 | x::r,b,e,hc,hb=>by
  obtain⟨h1,h2,h3⟩:=hc
  have ih:=qI8 hA hz h h3 (by omega)
  have:phi A Z b+1≤phi A Z (b+x.1):=by
   by_cases c1:b < A
   · unfold phi
     rw [if_pos c1]
     split
     · omega
     · split <;> omega
   · by_cases c2:b < Z
     · have:=h b _ _ (by omega) c2 h2
       unfold phi
       rw [if_neg c1,if_pos c2,if_neg (by omega),if_neg (by omega)]
       omega
     · unfold phi
       rw [if_neg c1,if_neg c2,if_neg (by omega),if_neg (by omega)]
       omega
  rw [List.length_cons]
  omega
theorem qBa {m:Im}{fs:List Im}(h:Geo fs)(hm:Wf m)(hw:m.wd≠"mix"):Geo (m::fs):=by
 have nm0:∀ l,fs[0]?≠some (.mix l):=fun l e=>by
  obtain⟨i1,_⟩:=h.mx 0 l e
  omega
 have nmm:∀ l,m≠ .mix l:=fun l e=>hw (by rw [e];rfl)
 refine⟨fun x hx=>?_,fun i l hi=>?_,fun i n p q r s k hi=>?_⟩
 · rcases List.mem_cons.mp hx with rfl | hx
   · exact hm
   · exact h.wf x hx
 · cases i with
   | zero=>exact absurd (Option.some.inj hi) (nmm l)
   | succ i=>
    obtain⟨i1,⟨n,p,q,r,s,k,ha⟩,hb⟩:=h.mx i l (by simpa using hi)
    refine⟨by omega,⟨n,p,q,r,s,k,?_⟩,?_⟩
    · obtain⟨j,rfl⟩:∃ j,i=j+1:=⟨i - 1,by omega⟩
      simpa using ha
    · obtain⟨n',p',q',r',s',k',hb⟩:=hb
      exact⟨n',p',q',r',s',k',by simpa using hb⟩
 · cases i with
   | zero=>
    have e:m= .clip n p q r s k:=Option.some.inj hi
    have hk:1≤k:=by rw [e] at hm;exact hm.2.2.2
    have e1:tbF (m::fs) 0=0:=rfl
    have e2:teF (m::fs) 0=0:=by
     unfold teF
     have e3:(m::fs)[0+1]? =fs[0]?:=by simp
     rw [e3]
     cases hq:fs[0]? with
     | none=>rfl
     | some y=>
      cases y with
      | mix l=>exact absurd hq (nm0 l)
      | _=>rfl
    rw [e1,e2]
    omega
   | succ i=>
    have hi':fs[i]? =some (.clip n p q r s k):=by simpa using hi
    have e1:tbF (m::fs) (i+1)=tbF fs i:=by
     unfold tbF
     rw [if_neg (by omega)]
     cases i with
     | zero=>
      rw [if_pos rfl]
      show (match some m with | some (.mix l)=>l - l.fdiv 2 | _=>0)=0
      cases m with
      | mix l=>exact absurd rfl (nmm l)
      | _=>rfl
     | succ j=>
      rw [if_neg (by omega)]
      have e3:(m::fs)[j+1+1 - 1]? =fs[j+1 - 1]?:=by simp
      rw [e3]
    have e2:teF (m::fs) (i+1)=teF fs i:=by
     unfold teF
     have e3:(m::fs)[i+1+1]? =fs[i+1]?:=by simp
     rw [e3]
    rw [e1,e2]
    exact h.fit i n p q r s k hi'
def rmT (ts:List (List Im)):Rms:=fun x=>if x="tab" then some ts else none
theorem qNg {ts:List (List Im)}(hl:ts.length≤300)(h:∀ ms∈ts,ms.length≤300∧Geo ms∧(∀ m∈ms,m.s)∧∀ nm b l,Im.nest nm b l ∉ ms):SmL (rmT ts) 1 "tab":=
 ⟨ts,if_pos rfl,hl,fun ms hm=>let ⟨a,b,c,d⟩:=h ms hm;⟨a,b,c,fun nm b l q=>absurd q (d nm b l)⟩⟩
theorem qQ5 {ts:List (List Im)}(h:∀ ms∈ts,Geo ms∧(∀ m∈ms,m.s)∧(∀ n p q r s l,Im.clip n p q r s l∈ms→Int.gcd r s=1)∧∀ nm b l,Im.nest nm b l ∉ ms)(t:Int):(qh (rmT ts) 1 "tab" t).lw:=by
 have e:(rmT ts) "tab"=some ts:=if_pos rfl
 rw [qh,e]
 exact qIx ts _ (fun ms hm=>let ⟨a,b,c,d⟩:=h ms hm;qRk a b c d) qF8
theorem qL3 {n:Str}{p q r s Z:Int}{fs:List Im}(h:Geo fs)(hm:Wf (.clip n p q r s Z)){t:Int}(ht:t < Z):xS 0 0 (.clip n p q r s Z::fs) t=none:=by
 have hG:=qBa h hm (by show ("clip":Str)≠"mix";decide+kernel)
 cases hx:xS 0 0 (.clip n p q r s Z::fs) t with
 | none=>rfl
 | some x=>
  exfalso
  obtain⟨k,j⟩:=x
  obtain⟨_,l,hi,h2,_,_⟩:=jb hx
  rw [Nat.sub_zero] at hi h2
  obtain⟨k1,⟨n',p',q',r',s',c,ha⟩,_⟩:=hG.mx k l hi
  obtain⟨k',rfl⟩:∃ k',k=k'+1:=⟨k - 1,by omega⟩
  have hi':fs[k']? =some (.mix l):=by simpa using hi
  obtain⟨k2,_⟩:=h.mx k' l hi'
  obtain⟨k'',rfl⟩:∃ k'',k'=k''+1:=⟨k' - 1,by omega⟩
  have ha':fs[k'']? =some (.clip n' p' q' r' s' c):=by simpa using ha
  have hf:=h.fit k'' n' p' q' r' s' c ha'
  have e1:teF fs k''=l.fdiv 2:=by
   unfold teF
   rw [hi']
  have t0:=qHw h.wf k''
  have b0:=bsM h.nn (Nat.zero_le k'')
  rw [bs0] at b0
  have b1:qY fs (k''+1)=qY fs k''+c:=bsS ha'
  rw [bsC,b1] at h2
  have e3:(Im.clip n p q r s Z).mo=Z:=rfl
  omega
theorem qL9 {n:Str}{p q r s Z:Int}{fs:List Im}{rest:List (List Im)}(h:Geo fs)(hm:Wf (.clip n p q r s Z)){t:Int}(t0:0≤t)(ht:t < Z):(qh (rmT ((.clip n p q r s Z::fs)::rest)) 1 "tab" t).e=some Z:=by
 have hG:=qBa h hm (by show ("clip":Str)≠"mix";decide+kernel)
 have e:(rmT ((.clip n p q r s Z::fs)::rest)) "tab"=some ((.clip n p q r s Z::fs)::rest):=if_pos rfl
 rw [qh,e]
 have hit:jO 0 0 (.clip n p q r s Z::fs) t=some (0,t - 0):=by
  rw [jO,if_pos ⟨t0,by show t < 0+Z;omega⟩]
 have hi:(Im.clip n p q r s Z::fs)[0]? =some (.clip n p q r s Z):=rfl
 have hR:=kG (f:=qh (rmT ((.clip n p q r s Z::fs)::rest)) 0) (qL3 h hm ht) hit hi
 have e2:teF (.clip n p q r s Z::fs) 0=0:=by
  unfold teF
  have e3:(Im.clip n p q r s Z::fs)[0+1]? =fs[0]?:=by simp
  rw [e3]
  cases hq:fs[0]? with
  | none=>rfl
  | some y=>
   cases y with
   | mix l=>
    obtain⟨i1,_⟩:=h.mx 0 l hq
    omega
   | _=>rfl
 have hC:zK (.clip n p q r s Z::fs) 0 (t - (t - 0))=⟨0,some Z,[⟨n,plP p q r s 0,plQ p q r s 0,r,s,1,1,0,1⟩]⟩:=by
  unfold zK
  rw [hi]
  have e1:tbF (Im.clip n p q r s Z::fs) 0=0:=rfl
  simp only [e1,e2]
  rw [show t - (t - 0)=0 by omega]
  simp
 show (wlk _ t zR ((.clip n p q r s Z::fs)::rest)).e=some Z
 rw [wlk,hR]
 show (if ((zK (.clip n p q r s Z::fs) 0 (t - (t - 0))).within zR.b zR.e).ps.isEmpty then _ else (zK (.clip n p q r s Z::fs) 0 (t - (t - 0))).within zR.b zR.e).e=some Z
 rw [hC]
 rfl
theorem qLz {n:Str}{p q r s Z M:Int}{fs:List Im}{rest:List (List Im)}(h:Geo fs)(hm:Wf (.clip n p q r s Z))(z0:0≤Z)(hM:M≤Z+300){L:List Pc}{e:Int}(hc:Chn (qh (rmT ((.clip n p q r s Z::fs)::rest)) 1 "tab") 0 L e)(he:e < M):L.length < 400:=by
 have:=qI8 (A:=0) (Z:=Z) (Int.le_refl 0) z0 (fun t e' ps h1 h2 h3=>by
  have:=qL9 (rest:=rest) h hm h1 h2
  rw [h3] at this
  have:some e'=some Z:=this
  cases this
  exact Int.le_refl _) hc (Int.le_refl 0)
 have e1:0≤phi 0 Z 0:=by
  unfold phi
  rw [if_neg (by omega)]
  split <;> omega
 have e2:phi 0 Z e≤302:=by
  unfold phi
  split
  · omega
  · split <;> omega
 omega
def nmx:List Im→List Int
 | []=>[]
 | m::ms=>(if m.wd="mix" then [] else [m.l])++nmx ms
theorem qJx (xs ys:List Im):nmx (xs++ys)=nmx xs++nmx ys:=by
 induction xs with
 | nil=>rfl
 | cons x xs ih=>simp [nmx,ih]
theorem qMz {ms:List Im}:(nmx ms).sum=jS ms:=by
 induction ms with
 | nil=>rfl
 | cons m ms ih=>
  rw [nmx,List.sum_append,ih,zc]
  cases m with
  | mix l=>rw [if_pos (show (Im.mix l).wd="mix" from rfl)];rfl
  | clip n p q r s l=>rw [if_neg (show (Im.clip n p q r s l).wd≠"mix" by show ("clip":Str)≠"mix";decide+kernel)];show l+0+_=l+_;omega
  | gap l=>rw [if_neg (show (Im.gap l).wd≠"mix" by show ("gap":Str)≠"mix";decide+kernel)];show l+0+_=l+_;omega
  | nest n b l=>rw [if_neg (show (Im.nest n b l).wd≠"mix" by show ("nest":Str)≠"mix";decide+kernel)];show l+0+_=l+_;omega
inductive qEq (vs:List V)(H:Hp)(Q:VK)(_:XK):Prop
| mk (tl:Addr) (ts:List (List Im)) (zs:List V) (M:Int) (_:vs=[.ref tl]) (_:H tl=some (.lst zs)) (_:TrsAt H ts zs) (_:Lg ts M) (_:ts.length≤10) (_:(∀ ms∈ts,ms.length≤20)) (_:∀ H',Same H H'→Q (.int M) H')
theorem qFd (T:Tx K mg a):FnOk P w K mg base CX0 1 a.A55 a.B55 ["_law_tracks"] qEq:=by
 refine T.D55.F.ok qFf (fun vs H Q E h=>?_) (fun cdv A outer s H vs Q E hr h=>?_)
 · obtain⟨tl,ts,zs,M,rfl,_⟩:=h
   rfl
 refine qJ fun _ Y=>?_
 obtain⟨tl,ts,zs,M,rfl,h5,h6,hM,ht3,hml,kk⟩:=h
 apply Y
 have hu1:=vB hr
 refine⟨_,(qG (qN (qQ (qD3 rfl) rfl T.b_max rfl (qA (zW [] [] rfl (jf (pv 0)) (fun _ _ _ _=>(qQ (qGt rfl rfl) rfl T.b_sum rfl (qA (qLx [] [] rfl (qLg (K:=K) rfl (pv 0)) (fun _ _ _ _=>(qP km (jK (kT (K:=K) rfl) (pv 0) qF (fun _ _=>rfl)) qx (qR _))) (fun _ _ _ _=>(jK (kT (K:=K) rfl) (pv 0) (kU xJ qF) (fun _ _=>rfl)))) qB)))) qB)))),?_⟩
 try dsimp only [jq,qk]
 have hzl:=h6.len
 refine⟨_,rfl,?_⟩
 refine⟨tl,rfl,⟨_,SqL.of h5⟩,xM (K:=K) (a:=tl) (xs:=zs) (fun i acc H'=>Same H H'∧acc=((ts.take i).map jS).map V.int∧acc.length=i) ⟨Same.refl _,rfl,rfl⟩ ?_ ?_ ?_⟩
 · rintro i acc H' hi ⟨e,_,hal⟩
   exact⟨SqL.of (e _ _ h5),qW (by omega)⟩
 · rintro i x acc H' hi hx ⟨e,rfl,hal⟩
   refine qJ fun _ Y=>?_
   obtain⟨ms,z,hms,rfl,hTr⟩:=h6.get hx
   obtain⟨ws,hz,his⟩:=hTr.same e
   apply Y
   have hwl:=his.len
   have hm10:=hml ms (List.mem_of_getElem? hms)
   refine⟨_,rfl,z,rfl,⟨_,SqL.of hz⟩,qGu (K:=K) (a:=z) (xs:=ws) (fun j acc' H''=>H''=H'∧acc'=(nmx (ms.take j)).map V.int∧acc'.length≤j) ⟨rfl,rfl,by simp⟩ ?_ ?_ ?_⟩
   · rintro j acc' H'' hj ⟨rfl,rfl,hal'⟩
     exact⟨SqL.of hz,qW (by omega)⟩
   · rintro j v acc' H'' hj hv ⟨rfl,rfl,hal'⟩
     refine qJ fun _ Y=>?_
     obtain⟨m,hm,hI⟩:=his.get hv
     have htk:ms.take (j+1)=ms.take j++[m]:=by rw [List.take_add_one,hm];rfl
     obtain⟨zi,xi,rfl,hzi,h0,hl1⟩:=hI.opn
     apply Y
     refine⟨_,rfl,zi,xi,_,_,rfl,rfl,SqT.of hzi,h0,rfl,_,rfl,jp (fun c=>?_) (fun c=>?_)⟩
     · have c:m.wd≠"mix":=by simpa using c
       refine⟨_,rfl,_,rfl,zi,xi,_,_,rfl,rfl,SqT.of hzi,hl1,Nxt.mk hj ⟨rfl,?_,by simp at hal' ⊢;omega⟩⟩
       rw [htk,qJx,List.map_append,nmx,if_neg c]
       rfl
     · have c:m.wd="mix":=by simpa using c
       refine Nxt.mk hj ⟨rfl,?_,by omega⟩
       rw [htk,qJx,List.map_append,nmx,if_pos c]
       simp [nmx]
   · rintro acc' H'' ⟨rfl,rfl,hal'⟩ d hd
     rw [hwl,List.take_length]
     have w1:=qE hd (.lst ((nmx ms).map V.int))
     refine⟨d,nmx ms,rfl,SqL.of qD,Nxt.mk hi ⟨e.trans w1,?_,by simp at hal ⊢;omega⟩⟩
     rw [List.take_add_one,hms,qMz]
     simp
 rintro acc H2 ⟨e2,rfl,hal⟩ ml hmln
 rw [hzl,List.take_length]
 have w1:=qE hmln (.lst ((ts.map jS).map V.int))
 refine⟨ml,ts.map jS,rfl,SqL.of qD,?_,fun m hm hmax=>?_⟩
 · obtain⟨⟨ms,h,_⟩,_⟩:=hM
   intro e
   rw [List.map_eq_nil_iff] at e
   rw [e] at h
   cases h
 obtain rfl:m=M:=by
  refine qJ fun _ Y=>?_
  obtain⟨⟨ms,h,h'⟩,h''⟩:=hM
  obtain⟨ms2,h8,h9⟩:=List.mem_map.mp hm
  apply Y
  have q1:=hmax M (List.mem_map.mpr ⟨ms,h,h'⟩)
  have q2:=h'' ms2 h8
  omega
 exact kk _ (e2.trans w1)
inductive kF (K:W.Frag)(vs:List V)(H:Hp)(Q:VK)(_:XK):Prop
| mk (z:Addr) (p q:Int) (_:vs=[.ref z]) (_:Tq K H z [.int p,.int q]) (_:0 < q) (_:Int.gcd p q=1) (_:q.natAbs < 2 ^ 8000) (_:∀ H',Same H H'→Q (.bl true) H')
theorem kE (T:Tx K mg a):FnOk P w K mg base CX0 2 a.A52 a.B52 ["_law_one"] (kF K):=by
 refine T.D52.F.ok xP (fun vs H Q E h=>?_) (fun cdv A outer s H vs Q E hr h=>?_)
 · obtain⟨z,p,q,rfl,_⟩:=h
   rfl
 refine qJ fun _ Y=>?_
 obtain⟨z,p,q,rfl,hz,q0,hg,hb,kk⟩:=h
 apply Y
 have hu1:=vB hr
 have hu0:=Nat.lt_of_le_of_lt (Nat.le_add_right _ 1) hu1
 refine⟨_,(qC (qv (PW.pt (zJ (xH (jk (qQ xT rfl T.b_isinstance rfl (qA (pv 0) (qA (vj rfl T.b_tuple rfl) qB))))) (xn (qP km (qQ qo rfl T.b_len rfl (qA (pv 0) qB)) qF (qR _))))) (qG (qN qAe)) qU)
  (qC (xV PassesOwn.never rfl (qA4 (pv 0)) (ql (i:=1) xP.nd rfl (Or.inl rfl)) (qG (qv (PW.pt (zJ (xH (jk (qQ jP rfl T.b_isinstance rfl (qA (pv 1) (qA (vj rfl T.b_int rfl) qB))))) (xn (jk (qQ jP rfl T.b_isinstance rfl (qA (pv 1) (qA (vj rfl T.b_bool rfl) qB))))))) (qG (qN qAe)) qU)))
  (qG (qN (qIw (vo qKt (qK (pv 0)) qF (qR _)) (qI4 (vo (qMw hu0) (qI T.D47 (zE T) hr rfl (qA (qK (pv 0)) (qA (qK (pv 0)) qB))) (pv 0) (qR _)))))))),?_⟩
 try dsimp only [jq,qk]
 have hz':SqT K H z [.int p,.int q]:=hz.sq
 refine⟨_,rfl,z,_,_,true,rfl,.inl ⟨_,hz',rfl⟩,rfl,true,rfl,xf ⟨_,rfl,z,_,rfl,.inr hz',rfl,_,rfl,xf ?_⟩⟩
 refine⟨_,rfl,z,rfl,⟨_,hz'⟩,qI5 (K:=K) (a:=z) (xs:=[.int p,.int q]) (fun _ σ H'=>∃ o:Option V,σ=[some (.ref z),o]∧H'=H) ⟨none,rfl,rfl⟩ ?_ ?_ ?_⟩
 · rintro i σ H' _ ⟨o,rfl,rfl⟩
   exact hz'
 · rintro i x σ H' hx ⟨o,rfl,rfl⟩
   obtain⟨j,rfl⟩:∃ j:Int,x= .int j:=by
    have:=List.mem_of_getElem? hx
    rcases List.mem_cons.mp this with rfl | this
    · exact⟨_,rfl⟩
    · rw [List.mem_singleton] at this
      exact⟨_,this⟩
   exact⟨_,rfl,_,_,_,true,rfl,.int j,⟨_,.inl ⟨rfl,by kernel_rfl⟩⟩,true,rfl,xf ⟨_,rfl,_,_,_,false,rfl,.int j,⟨_,.inl ⟨rfl,by kernel_rfl⟩⟩,false,rfl,xf ⟨_,rfl,rfl⟩⟩⟩
 · rintro σ H' ⟨o,rfl,rfl⟩
   refine⟨_,rfl,z,_,_,_,rfl,rfl,hz',at1,_,_,rfl,rfl,?_⟩
   rw [decide_eq_true q0]
   refine⟨true,rfl,wN ⟨_,rfl,z,_,_,_,rfl,rfl,hz',at0,_,rfl,z,_,_,_,rfl,rfl,hz',at1,_,_,rfl,q0,hb,fun x hx=>?_⟩⟩
   obtain⟨e1,e2⟩:=wP q0 hg
   rw [e1,e2]
   have w1:=qE hx (.tup [.int p,.int q])
   refine⟨_,rfl,x,z,_,_,rfl,rfl,SqT.of qD,(j8 (qM w1) hz).sq,rfl,rfl,?_⟩
   have e:qG5 [.int p,.int q] [.int p,.int q]=true:=by rw [eq2];simp
   rw [e]
   exact kk _ w1
def q8 (q:Int):Prop:=q.natAbs < 2 ^ 8000
def PcF (x:Pc):Prop:=1≤x.1∧∀ y∈x.2,PtG y∧PtL y∧q8 y.q∧q8 y.s∧q8 y.b∧q8 y.d
inductive qBq (K:W.Frag)(vs:List V)(H:Hp)(Q:VK)(_:XK):Prop
| mk (v:V) (x:Pc) (_:vs=[v]) (_:IsPc K H x v) (_:PcF x) (_:x.2.length≤2) (_:∀ H',Same H H'→Q (.bl true) H')
theorem qB5 (T:Tx K mg a):FnOk P w K mg base CX0 4 a.A53 a.B53 ["_law_piece_here"] (qBq K):=by
 refine T.D53.F.ok vA (fun vs H Q E h=>?_) (fun cdv A outer s H vs Q E hr h=>?_)
 · obtain⟨v,x,rfl,_⟩:=h
   rfl
 refine qJ fun _ Y=>?_
 obtain⟨v,x,rfl,hx,⟨x1,hp⟩,hl2,kk⟩:=h
 apply Y
 have hu1:=vB hr
 have hu0:=Nat.lt_of_le_of_lt (Nat.le_add_right _ 1) hu1
 refine⟨_,(qC (qv (PW.pt (zJ (xH (jk (qQ xT rfl T.b_isinstance rfl (qA (pv 0) (qA (vj rfl T.b_tuple rfl) qB))))) (zJ (qP km (qQ qo rfl T.b_len rfl (qA (pv 0) qB)) qF (qR _)) (xn (xH (jk (qQ xT rfl T.b_isinstance rfl (qA (qK (pv 0)) (qA (vj rfl T.b_tuple rfl) qB))))))))) (qG (qN qAe)) qU)
  (qC (qv (PW.pt (zJ (xH (jk (qQ jP rfl T.b_isinstance rfl (qA (qK (pv 0)) (qA (vj rfl T.b_int rfl) qB))))) (zJ (jk (qQ jP rfl T.b_isinstance rfl (qA (qK (pv 0)) (qA (vj rfl T.b_bool rfl) qB)))) (xn (qP kX (qK (pv 0)) qF (qR _)))))) (qG (qN qAe)) qU)
  (qC (xV PassesOwn.never rfl (qA4 (qK (pv 0))) (ql (i:=1) vA.nd rfl (Or.inl rfl)) (qC (qv (PW.pt (zJ (xH (jk (qQ xT rfl T.b_isinstance rfl (qA (pv 1) (qA (vj rfl T.b_tuple rfl) qB))))) (zJ (qP km (qQ qo rfl T.b_len rfl (qA (pv 1) qB)) qF (qR _)) (xn (xH (jk (qQ jP rfl T.b_isinstance rfl (qA (qK (pv 1)) (qA (vj rfl T.b_str rfl) qB))))))))) (qG (qN qAe)) qU)
  (qG (qv (xH (jk (qQ (qDe rfl) rfl T.b_all rfl (qA (zW [] [] rfl (qA4 (qB1 qP2 (pv 1) (qB8 qF) qIe)) (fun _ _ _ _=>(qI T.D52 (kE T) hr rfl (qA (pv 0) qB)))) qB)))) (qG (qN qAe)) qU))))
  (qG (qN qAe))))),?_⟩
 try dsimp only [jq,qk]
 refine qJ fun _ Y=>?_
 obtain⟨z,pz,pvs,rfl,hz,hpz,hps⟩:=hx
 apply Y
 have hz':=hz.sq
 have hpz':=hpz.sq
 refine⟨_,rfl,z,_,_,true,rfl,.inl ⟨_,hz',rfl⟩,rfl,true,rfl,xf ⟨_,rfl,z,_,rfl,.inr hz',rfl,_,rfl,xf ?_⟩⟩
 refine⟨_,rfl,z,_,_,_,rfl,rfl,hz',at1,pz,_,_,true,rfl,.inl ⟨_,hpz',rfl⟩,rfl,true,rfl,xf ?_⟩
 refine⟨_,rfl,z,_,_,_,rfl,rfl,hz',at0,_,_,_,true,rfl,.int _,⟨_,.inl ⟨rfl,by kernel_rfl⟩⟩,true,rfl,xf ?_⟩
 refine⟨_,rfl,z,_,_,_,rfl,rfl,hz',at0,_,_,_,false,rfl,.int _,⟨_,.inl ⟨rfl,by kernel_rfl⟩⟩,false,rfl,xf ?_⟩
 refine⟨_,rfl,z,_,_,_,rfl,rfl,hz',at0,_,_,rfl,rfl,_,rfl,?_⟩
 rw [decide_eq_false (by omega)]
 refine xf ?_
 refine⟨_,rfl,z,_,_,_,rfl,rfl,hz',at1,pz,rfl,⟨_,hpz'⟩,qI5 (K:=K) (a:=pz) (xs:=pvs) (fun _ σ H'=>∃ o:Option V,σ=[some (.ref z),o]∧Same H H') ⟨none,rfl,Same.refl _⟩ ?_ ?_ ?_⟩
 · rintro i σ H' _ ⟨o,rfl,e⟩
   exact(j8 (qM e) hpz).sq
 · rintro i x' σ H' hx' ⟨o,rfl,e⟩
   refine qJ fun _ Y=>?_
   obtain⟨y,hy,z',s1,s2,s3,s4,rfl,h0,h1,h2,h3,h4⟩:=(IsPts.ts (qM e) hps).get hx'
   obtain⟨g,gl,b1,b2,b3,b4⟩:=hp y (List.mem_of_getElem? hy)
   apply Y
   have h0':=h0.sq
   refine⟨_,rfl,z',_,_,true,rfl,.inl ⟨_,h0',rfl⟩,rfl,true,rfl,xf ⟨_,rfl,z',_,rfl,.inr h0',rfl,_,rfl,xf ?_⟩⟩
   refine⟨_,rfl,z',_,_,_,rfl,rfl,h0',(show atI [V.str y.n,.ref s1,.ref s2,.ref s3,.ref s4] 0=some (.str y.n) from rfl),_,_,_,true,rfl,.str _,⟨_,.inl ⟨rfl,by kernel_rfl⟩⟩,true,rfl,xf ?_⟩
   refine⟨_,rfl,_,rfl,z',_,rfl,h0',(fun c=>absurd c.1 (by show ¬ HT.sIx 5 0 (some ((1:Nat):Int))=0;rw [HT.sIx_nat];decide)),fun l hl=>?_⟩
   have ec:qEc [V.str y.n,.ref s1,.ref s2,.ref s3,.ref s4] (some 1) none=[.ref s1,.ref s2,.ref s3,.ref s4]:=qFu _ 1
   rw [ec]
   have w1:=qE hl (.tup [.ref s1,.ref s2,.ref s3,.ref s4])
   have hl':upd H' l (.tup [.ref s1,.ref s2,.ref s3,.ref s4]) l=some (.tup [.ref s1,.ref s2,.ref s3,.ref s4]):=qD
   change _
   generalize upd H' l (.tup [.ref s1,.ref s2,.ref s3,.ref s4])=H1 at w1 hl'
   have frs:∀ v∈[V.ref s1,.ref s2,.ref s3,.ref s4],∃ (sz:Addr) (p q:Int),v= .ref sz∧Tq K H' sz [.int p,.int q]∧0 < q∧Int.gcd p q=1∧q.natAbs < 2 ^ 8000:=by
    intro v hv
    simp only [List.mem_cons,List.not_mem_nil,or_false] at hv
    rcases hv with rfl | rfl | rfl | rfl
    · exact⟨_,_,_,rfl,h1,g.q0,g.g1,b1⟩
    · exact⟨_,_,_,rfl,h2,g.s0,gl.1,b2⟩
    · exact⟨_,_,_,rfl,h3,g.b0,g.g2,b3⟩
    · exact⟨_,_,_,rfl,h4,g.d0,gl.2,b4⟩
   refine⟨l,rfl,⟨_,SqT.of hl'⟩,qGg (K:=K) (a:=l) (xs:=[.ref s1,.ref s2,.ref s3,.ref s4]) (fun j acc H2=>acc=(List.replicate j true).map V.bl∧Same H1 H2) ⟨rfl,Same.refl _⟩ ?_ ?_ ?_⟩
   · rintro j acc H2 hj ⟨rfl,e2⟩
     exact⟨SqT.of (e2 _ _ hl'),qW (by simp at hj ⊢;omega)⟩
   · rintro j v acc H2 hj hv ⟨rfl,e2⟩
     refine qJ fun _ Y=>?_
     obtain⟨sz,p,q,rfl,t1,t2,t3,t4⟩:=frs v (List.mem_of_getElem? hv)
     apply Y
     refine⟨_,rfl,sz,p,q,rfl,j8 (qM (w1.trans e2)) t1,t2,t3,t4,fun H3 e3=>Nxt.mk hj ⟨?_,e2.trans e3⟩⟩
     rw [List.replicate_succ',List.map_append]
     rfl
   · rintro acc H2 ⟨rfl,e2⟩ D hD
     refine⟨D,_,rfl,SqL.of qD,true,rfl,xf ⟨_,rfl,(e.trans w1).trans (e2.trans (qE hD _))⟩⟩
 · rintro σ H' ⟨o,rfl,e⟩
   exact kk _ e
inductive wz (vs:List V)(H:Hp)(Q:VK)(_:XK):Prop
| mk (tl:Addr) (ts:List (List Im)) (zs:List V) (M:Int) (_:vs=[.ref tl,.int M]) (_:H tl=some (.lst zs)) (_:TrsAt H ts zs) (_:0≤M) (_:M < 2 ^ 40) (_:ts.length≤4) (_:(∀ ms∈ts,ms.length≤14∧∀ m∈ms,0≤m.mo∧m.mo≤2 ^ 31)) (_:∀ (D:Addr) (ns:List Int) (H':Hp),Same H H'→H D=none→H' D=some (.lst (ns.map V.int))→(∀ n∈ns,0≤n∧n < 2 ^ 50)→ns.length≤4096→Q (.ref D) H')
theorem wV (T:Tx K mg a):FnOk P w K mg base CX0 1 a.A54 a.B54 ["_law_tracks","_law_end_here"] wz:=by
 refine T.D54.F.ok qp (fun vs H Q E h=>?_) (fun cdv A outer s H vs Q E hr h=>?_)
 · obtain⟨tl,ts,zs,M,rfl,_⟩:=h
   rfl
 refine qJ fun _ Y=>?_
 obtain⟨tl,ts,zs,M,rfl,h5,h6,M0,M1,ht4,hml,kk⟩:=h
 apply Y
 have hu1:=vB hr
 refine⟨_,(qC (qv (qP kX (pv 1) qF (qR _)) (qG (qN (jm (qHc rfl) rfl T.b_list rfl (qA (jm qFe rfl T.b_range rfl (qA (qL qc (pv 1) qF) qB)) qB)))) qU)
  (qC (qS 2 qp.nd (jM (qA (qL qm (pv 1) qF) qB)))
  (qC (xV PassesOwn.never rfl (jf (pv 0)) (ql (i:=3) qp.nd rfl (Or.inl rfl)) (qC (qS 4 qp.nd qF)
  (qC (xV PassesOwn.never rfl (jf (pv 3)) (ql (i:=5) qp.nd rfl (Or.inl rfl)) (qC (xV PassesOwn.never rfl (qJl rfl T.b_range (qA (kU xJ qF) (qA qF qB))) (ql (i:=6) qp.nd rfl (Or.inl rfl)) (qG (xQ (qAj F.plainAttrs_list F.slot_list_append F.type_list_append jn (pv 2) (qA (qQ (zZ rfl) rfl T.b_max rfl (qA qF (qA (qL qc (pv 4) (pv 6)) qB))) qB)))))
  (qG (qv (qP km (qK (pv 5)) qx (qR _)) (qG (qS 4 qp.nd (qL qc (pv 4) (jK qDc (pv 5) (kU xJ qF) (fun _ _=>rfl))))) qU))))
  (qG (qS 2 qp.nd (qL qHy (pv 2) (jM (qA (qQ (zZ rfl) rfl T.b_max rfl (qA qF (qA (qL jL (pv 4) qF) qB))) (qA (pv 4) (qA (qL qc (pv 4) qF) qB))))))))))
  (qG (qN (qQ (qC0 rfl) rfl T.b_sorted rfl (qA (jm (qI3 rfl) rfl T.b_set rfl (qA (pv 2) qB)) qB))))))),?_⟩
 try dsimp only [jq,qk]
 refine⟨_,rfl,_,_,rfl,rfl,_,rfl,jp (fun c=>?_) (fun c=>?_)⟩
 · have c:M < 1000:=by simpa using c
   refine⟨_,rfl,_,_,rfl,rfl,_,rfl,fun D1 h1=>⟨D1,_,rfl,qD,by omega,by omega,fun D h2=>?_⟩⟩
   have w1:=qE h1 (.rng 0 (M+3))
   have w2:=qE h2 (.lst ((L3.upTo (M+3)).map V.int))
   refine kk D (L3.upTo (M+3)) _ (w1.trans w2) (w1.free h2) qD (fun n hn=>?_) ?_
   · obtain⟨j,hj,rfl⟩:=List.mem_map.mp hn
     rw [List.mem_range] at hj
     omega
   · rw [List.length_map,List.length_range];omega
 have c:1000≤M:=by simpa using c
 refine⟨_,rfl,_,_,rfl,rfl,⟨by decide,by decide⟩,sL1,fun fl hfl=>?_⟩
 have w1:=qE hfl (.lst [V.int (M.fdiv 2)])
 have kf:upd H fl (.lst [V.int (M.fdiv 2)]) fl=some (.lst ([M.fdiv 2].map V.int)):=qD
 change _
 generalize upd H fl (.lst [V.int (M.fdiv 2)])=H1 at w1 kf
 have hzl:=h6.len
 refine⟨_,rfl,tl,rfl,⟨_,SqL.of (w1 _ _ h5)⟩,xu (K:=K) (a:=tl) (xs:=zs) (fun i σ H'=>∃ (fl:Addr) (ns:List Int) (o1 o2 o3 o4:Option V),σ=[some (.ref tl),some (.int M),some (.ref fl),o1,o2,o3,o4]∧Same H H'∧H fl=none∧H' fl=some (.lst (ns.map V.int))∧(∀ n∈ns,0≤n∧n < 2 ^ 50)∧ns.length≤1+185*i)
  ⟨fl,[M.fdiv 2],none,none,none,none,rfl,w1,hfl,kf,(fun n hn=>by
    rw [List.mem_singleton] at hn
    subst hn
    rw [Int.fdiv_eq_ediv_of_nonneg M (by decide:(0:Int)≤2)]
    omega),by simp⟩ ?_ ?_ ?_⟩
 · rintro i σ H' _ ⟨fl,ns,o1,o2,o3,o4,rfl,e,_⟩
   exact SqL.of (e _ _ h5)
 · rintro i x σ H' hx ⟨fl,ns,o1,o2,o3,o4,rfl,e,hfl,hf,hn,hl⟩
   refine qJ fun _ Y=>?_
   obtain⟨ms,z,hms,rfl,hTr⟩:=h6.get hx
   obtain⟨ws,hz,his⟩:=hTr
   have hwl:=his.len
   obtain⟨hm14,hmb⟩:=hml ms (List.mem_of_getElem? hms)
   apply Y
   have hil:i < ts.length:=by
    rcases Nat.lt_or_ge i ts.length with h | h
    · exact h
    · rw [List.getElem?_eq_none h] at hms;cases hms
   refine⟨_,rfl,z,rfl,⟨_,SqL.of (e _ _ hz)⟩,xu (K:=K) (a:=z) (xs:=ws) (fun j σ H''=>∃ (ns':List Int) (b:Int) (o3 o4:Option V),σ=[some (.ref tl),some (.int M),some (.ref fl),some (.ref z),some (.int b),o3,o4]∧Same H H''∧H'' fl=some (.lst (ns'.map V.int))∧(∀ n∈ns',0≤n∧n < 2 ^ 50)∧ns'.length≤1+185*i+13*j∧0≤b∧b≤2 ^ 31*j)
    ⟨ns,0,o3,o4,rfl,e,hf,hn,by omega,by omega,by omega⟩ ?_ ?_ ?_⟩
   · rintro j σ H2 _ ⟨ns',b,o3,o4,rfl,e2,_⟩
     exact SqL.of (e2 _ _ hz)
   · rintro j v σ H2 hv ⟨ns',b,o3,o4,rfl,e2,hf2,hn2,hl2,b0,b1⟩
     refine qJ fun _ Y=>?_
     obtain⟨m,hm,hI⟩:=his.get hv
     obtain⟨zi,xi,rfl,hzi,h0,hl1⟩:=hI.opn
     obtain⟨m0,m1⟩:=hmb m (List.mem_of_getElem? hm)
     apply Y
     have hjl:j < 14:=by
      rcases Nat.lt_or_ge j ms.length with h | h
      · omega
      · rw [List.getElem?_eq_none h] at hm;cases hm
     refine⟨_,rfl,-6,7,rfl,⟨by decide,by decide,by decide,by decide⟩,ww (lo:=-6) (n:=13) (fun k σ H3=>∃ (ns3:List Int) (o4:Option V),σ=[some (.ref tl),some (.int M),some (.ref fl),some (.ref z),some (.int b),some (.ref zi),o4]∧Same H H3∧H3 fl=some (.lst (ns3.map V.int))∧(∀ n∈ns3,0≤n∧n < 2 ^ 50)∧ns3.length≤1+185*i+13*j+k)
      ⟨ns',o4,rfl,e2,hf2,hn2,by omega⟩ ?_ ?_⟩
     · rintro k σ H3 hk ⟨ns3,o4,rfl,e3,hf3,hn3,hl3⟩
       refine⟨_,rfl,.inl ⟨rfl,_,SqL.of hf3⟩,_,rfl,_,rfl,_,_,rfl,rfl,_,_,rfl,fl,_,_,rfl,rfl,hf3,qW (by rw [List.length_map];omega),?_⟩
       refine⟨ns3++[if b+(-6+(k:Int)) > 0 then b+(-6+(k:Int)) else 0],_,rfl,jR e3 hfl,by rw [qD,List.map_append];rfl,fun n hn=>?_,by rw [List.length_append,List.length_singleton];omega⟩
       rcases List.mem_append.mp hn with hn | hn
       · exact hn3 n hn
       · rw [List.mem_singleton] at hn
         subst hn
         split <;> omega
     · rintro σ H3 ⟨ns3,o4,rfl,e3,hf3,hn3,hl3⟩
       refine⟨_,rfl,zi,xi,_,_,rfl,rfl,SqT.of (e3 _ _ hzi),h0,rfl,_,rfl,jp (fun c=>?_) (fun c=>?_)⟩
       · have c:m.wd≠"mix":=by simpa using c
         have elm:m.l=m.mo:=by
          cases m with
          | mix l=>exact absurd rfl c
          | _=>rfl
         exact⟨_,rfl,_,rfl,_,rfl,zi,xi,_,_,rfl,rfl,SqT.of (e3 _ _ hzi),hl1,_,_,rfl,rfl,ns3,_,_,_,rfl,e3,hf3,hn3,by omega,by omega,by omega⟩
       · exact⟨ns3,b,_,_,rfl,e3,hf3,hn3,by omega,b0,by omega⟩
   · rintro σ H2 ⟨ns',b,o3,o4,rfl,e2,hf2,hn2,hl2,b0,b1⟩
     refine⟨_,rfl,_,rfl,_,_,rfl,rfl,_,_,rfl,_,rfl,_,rfl,_,_,rfl,rfl,sL3,fun l3 h3=>?_⟩
     have w3:=qE h3 (.lst [V.int (if b - 1 > 0 then b - 1 else 0),.int b,.int (b+1)])
     refine⟨fl,l3,_,_,rfl,rfl,w3 _ _ hf2,qD,Nat.le_of_lt (qW (by rw [List.length_map];show _+3≤1000;omega)),fun D hD=>?_⟩
     have w4:=qE hD (.lst (ns'.map V.int++[V.int (if b - 1 > 0 then b - 1 else 0),.int b,.int (b+1)]))
     refine⟨D,ns'++[if b - 1 > 0 then b - 1 else 0,b,b+1],_,_,_,_,rfl,(e2.trans w3).trans w4,(e2.trans w3).free hD,by rw [qD,List.map_append];rfl,fun n hn=>?_,by rw [List.length_append];show _+3≤_;omega⟩
     rcases List.mem_append.mp hn with hn | hn
     · exact hn2 n hn
     · simp only [List.mem_cons,List.not_mem_nil,or_false] at hn
       rcases hn with rfl | rfl | rfl
       · split <;> omega
       · omega
       · omega
 · rintro σ H' ⟨fl,ns,o1,o2,o3,o4,rfl,e,hfl,hf,hn,hl⟩
   refine⟨_,rfl,fl,ns,rfl,SqL.of hf,by omega,fun D1 h1=>⟨D1,ns,ns.length,rfl,qD,by omega,fun D ns' h2 hin hlen=>?_⟩⟩
   exact kk D ns' _ (e.trans ((qE h1 _).trans (qE h2 _))) ((e.trans (qE h1 _)).free h2) qD (fun n hn'=>hn n (hin n hn')) (by omega)
theorem TrsAt.app {H:Hp}:∀ {ts:List (List Im)} {vs:List V} {ms:List Im} {z:Addr},TrsAt H ts vs→Tr H z ms→TrsAt H (ts++[ms]) (vs++[.ref z])
 | [],[],_,z,_,h=>⟨⟨z,rfl,h⟩,trivial⟩
 | _::_,_::_,_,_,h,h'=>⟨h.1,TrsAt.app h.2 h'⟩
 | [],_::_,_,_,h,_=>h.elim
 | _::_,[],_,_,h,_=>h.elim
theorem qM6 (xs:List V)(a b:Nat):(qEc xs (some (a:Int)) (some (b:Int))).length≤b - a:=by
 unfold qEc
 rw [HT.sIx_nat,HT.sIx_nat,List.length_take,List.length_drop]
 omega
theorem qPz {H:Hp}{x y:Addr}{ts:List (List Im)}{us:List V}{Q:VK}(h1:H x=some (.lst us))(h:TrsAt H ts us)(h2:H y=some (.lst []))(q:Q (.bl ts.isEmpty) H):qHs K false (.ref x) (.ref y) H Q:=by
 refine⟨.lst (ts.map fun ms=>.lst (ms.map Im.d)),.lst [],?_,?_,rfl,by have:=qEo ts;unfold dep;omega,?_⟩
 · unfold Rep;exact⟨x,us,rfl,SqL.of h1,h.rep⟩
 · unfold Rep;exact⟨y,[],rfl,SqL.of h2,by unfold Reps;trivial⟩
 · have e:eqD (.lst (ts.map fun ms=>.lst (ms.map Im.d))) (.lst [])=ts.isEmpty:=by cases ts <;> simp [eqD,xB]
   rw [e]
   exact q
structure TG (ms:List Im):Prop where
 len:ms.length≤12
 l54:jS ms≤54
 fg:FG [] ms
theorem qKg {H:Hp}{tl:Addr}{xs ys:List V}(ht:H tl=some (.lst xs)):∀ {ts:List (List Im)} {us:List V},(∀ z,V.ref z∈us→z≠tl)→TrsAt H ts us→TrsAt (upd H tl (.lst ys)) ts us
 | [],[],_,_=>trivial
 | _::_,_::_,hn,⟨⟨z,e,ws,hz,his⟩,hr⟩=>⟨⟨z,e,ws,by rw [qX (hn z (by rw [← e];simp))];exact hz,his.ts (j4 ht)⟩,qKg ht (fun z hz=>hn z (by simp [hz])) hr⟩
 | [],_::_,_,h=>h.elim
 | _::_,[],_,h=>h.elim
theorem ix0 {x:V}{xs:List V}:ixN (x::xs).length 0=some 0:=by
 unfold ixN
 simp
theorem qO1:∀ {ts:List (List Im)},ts≠[]→∃ M,Lg ts M
 | [],h=>absurd rfl h
 | [ms],_=>⟨jS ms,⟨ms,by simp,rfl⟩,fun x hx=>by rw [List.mem_singleton] at hx;rw [hx];exact Int.le_refl _⟩
 | ms::m2::r,_=>by
  obtain⟨M,⟨x,hx,e⟩,h⟩:=qO1 (ts:=m2::r) (by simp)
  by_cases c:jS ms≤M
  · exact⟨M,⟨x,List.mem_cons_of_mem _ hx,e⟩,fun y hy=>by
     rcases List.mem_cons.mp hy with rfl | hy
     · exact c
     · exact h y hy⟩
  · exact⟨jS ms,⟨ms,by simp,rfl⟩,fun y hy=>by
     rcases List.mem_cons.mp hy with rfl | hy
     · exact Int.le_refl _
     · have:=h y hy
       omega⟩
theorem qGr {H:Hp}{td:Addr}{k0 k1:List (Key × V)}(ht:H td=some (.dK k0)):∀ {ts:List (List Im)} {us:List V},TrsAt H ts us→TrsAt (upd H td (.dK k1)) ts us
 | [],[],_=>trivial
 | _::_,_::_,⟨⟨z,e,ws,hz,his⟩,hr⟩=>⟨⟨z,e,ws,by rw [qX (fun q=>by rw [q,ht] at hz;cases hz)];exact hz,his.ts (fun b ys hb=>by rw [qX (fun q=>by rw [q,ht] at hb;cases hb)];exact hb)⟩,qGr ht hr⟩
 | [],_::_,h=>h.elim
 | _::_,[],h=>h.elim
theorem qBd {H:Hp}{td:Addr}{k0 k1:List (Key × V)}{v:V}{ts:List (List Im)}{tie:List Int}(ht:H td=some (.dK k0))(h:TabF H v ts tie):TabF (upd H td (.dK k1)) v ts tie:=by
 obtain⟨tt,tl,ti,zs,h1,h2,h3,h4,h5⟩:=h
 exact⟨tt,tl,ti,zs,h1,by rw [qX (fun q=>by rw [q,ht] at h2;cases h2)];exact h2,by rw [qX (fun q=>by rw [q,ht] at h3;cases h3)];exact h3,qGr ht h4,by rw [qX (fun q=>by rw [q,ht] at h5;cases h5)];exact h5⟩
theorem qNm {H:Hp}{v:V}{ts:List (List Im)}{tie:List Int}(h:TabF H v ts tie):TabAt H v ts:=
 let ⟨tt,tl,ti,zs,h1,h2,h3,h4,_⟩:=h;⟨tt,tl,ti,zs,h1,h2,h3,h4⟩
theorem qLd {H:Hp}{a b:Addr}{m n:Int}(ra:H a=some (.dK [(Sum.inr "ra",.int m),(Sum.inr "rb",.int n)]))(rb:H b=some (.dK [(Sum.inr "ra",.int m),(Sum.inr "rb",.int n)])):DEq K H a b:=by
 refine⟨_,_,.inl ra,.inl rb,rfl,fun p hp=>?_⟩
 have lf:∀ i:Int,Rep K H (.leaf (.int i)) (.int i):=fun i=>by unfold Rep;exact⟨rfl,rfl⟩
 have self:∀ i:Int,eqD (.leaf (.int i)) (.leaf (.int i))=true:=fun i=>by simp [eqD,eqV]
 rcases List.mem_cons.mp hp with rfl | hp
 · exact⟨.int m,.leaf (.int m),rfl,lf _,lf _,self _,by simp [dep]⟩
 · rcases List.mem_cons.mp hp with rfl | hp
   · exact⟨.int n,.leaf (.int n),rfl,lf _,lf _,self _,by simp [dep]⟩
   · cases hp
theorem qNa {H:Hp}{a b x y:Addr}{ts:List (List Im)}(ra:H a=some (.dK [(Sum.inr "tab",.ref x)]))(rb:H b=some (.dK [(Sum.inr "tab",.ref y)]))(hx:TabF H (.ref x) ts [])(hy:TabF H (.ref y) ts []):DEq K H a b:=by
 refine⟨_,_,.inl ra,.inl rb,rfl,fun p hp=>?_⟩
 rw [List.mem_singleton] at hp
 subst hp
 exact⟨.ref y,qMl ts [],rfl,hx.rep,hy.rep,(qFl ts []).1,(qFl ts []).2⟩
abbrev qO7:Im:=.clip "rb" 5 1 0 1 (10 ^ 9)
def TS2 (ts:List (List Im)):Prop:=ts≠[]∧((∀ ms∈ts,TG ms)∨∃ fs rest,ts=(qO7::fs)::rest∧TG fs∧∀ ms∈rest,TG ms)
structure TA (ms:List Im):Prop where
 len:ms.length≤13
 geo:Geo ms
 s:∀ m∈ms,m.s
 low:∀ n p q r s l,Im.clip n p q r s l∈ms→Int.gcd r s=1
 nn:∀ nm b l,Im.nest nm b l ∉ ms
 lf:jS ms≤10 ^ 9+54
 mo:∀ m∈ms,0≤m.mo∧m.mo≤2 ^ 31
theorem TG.ta {ms:List Im}(h:TG ms):TA ms:=
 ⟨by have:=h.len;omega,h.fg.geo,h.fg.s,fun n p q r s l hm=>(h.fg.sm _ hm n p q r s l rfl).2.2.1,fun nm b l hm=>by have:=h.fg.nst _ hm nm b l rfl;simp at this,by have:=h.l54;omega,fun m hm=>by have:=h.fg.mo m hm;omega⟩
theorem qMp:Wf qO7:=⟨by decide,by decide,by decide,by decide⟩
theorem TG.big {fs:List Im}(h:TG fs):TA (qO7::fs):=by
 have t:=h.ta
 refine⟨by have:=h.len;simp;omega,qBa t.geo qMp (by show ("clip":Str)≠"mix";decide+kernel),fun m hm=>?_,fun n p q r s l hm=>?_,fun nm b l hm=>?_,?_,fun m hm=>?_⟩
 · rcases List.mem_cons.mp hm with rfl | hm
   · exact⟨by decide,by decide,by decide,by decide,by decide,by decide,by decide,by decide⟩
   · exact t.s m hm
 · rcases List.mem_cons.mp hm with e | hm
   · cases e;decide
   · exact t.low n p q r s l hm
 · rcases List.mem_cons.mp hm with e | hm
   · cases e
   · exact t.nn nm b l hm
 · rw [zc]
   have:=h.l54
   show 10 ^ 9+jS fs≤_
   omega
 · rcases List.mem_cons.mp hm with rfl | hm
   · exact⟨by decide,by decide⟩
   · exact t.mo m hm
theorem TS2.all {ts:List (List Im)}(h:TS2 ts):∀ ms∈ts,TA ms:=by
 obtain⟨_,h | ⟨fs,rest,rfl,h1,h2⟩⟩:=h
 · exact fun ms hm=>(h ms hm).ta
 · intro ms hm
   rcases List.mem_cons.mp hm with rfl | hm
   · exact h1.big
   · exact(h2 ms hm).ta
theorem TS2.few {ts:List (List Im)}(h:TS2 ts){M:Int}(hM:Lg ts M){L:List Pc}{e:Int}(hc:Chn (qh (rmT ts) 1 "tab") 0 L e)(he:e≤M):L.length < 400:=by
 obtain⟨⟨x,hx,ex⟩,_⟩:=id hM
 obtain⟨_,h' | ⟨fs,rest,rfl,h1,h2⟩⟩:=id h
 · have:=(vp hc).2.1
   have:=(h' x hx).l54
   omega
 · refine qLz (M:=M+1) h1.ta.geo qMp (by decide) ?_ hc (by omega)
   have:=(h.all x hx).lf
   omega
theorem qFv {g:Int→Rn}:∀ {L L':List Pc} {b e:Int},Chn g b L e→Chn g b L' e→L=L'
 | [],[],_,_,_,_=>rfl
 | x::r,y::r',b,e,⟨_,h2,h3⟩,⟨_,k2,k3⟩=>by
  rw [h2] at k2
  injection k2 with _ e2 e3
  have e4:x.1=y.1:=by injection e2 with e2;omega
  have e5:x=y:=Prod.ext e4 e3
  subst e5
  rw [qFv h3 k3]
 | [],y::r',b,e,h,⟨k1,_,k3⟩=>by
  have h:b=e:=h
  have:=(vp k3).2.1
  omega
 | x::r,[],b,e,⟨h1,_,h3⟩,k=>by
  have k:b=e:=k
  have:=(vp h3).2.1
  omega
def pcD (x:Pc):D:=.tup [.leaf (.int x.1),.tup (x.2.map Pt.tr)]
theorem IsPc.rep {H:Hp}{x:Pc}{v:V}(h:IsPc K H x v):Rep K H (pcD x) v:=by
 obtain⟨z,pz,pvs,rfl,h1,h2,h3⟩:=h
 unfold pcD Rep
 refine⟨z,_,rfl,h1.sq,?_⟩
 have r:=h3.rep
 have r2:Rep K H (.tup (x.2.map Pt.tr)) (.ref pz):=by
  unfold Rep
  exact⟨pz,pvs,rfl,h2.sq,r⟩
 simp only [Reps,and_true]
 exact⟨by simp [Rep,vK],r2⟩
theorem IsPcs.rep {H:Hp}:∀ {xs:List Pc} {vs:List V},IsPcs K H xs vs→Reps K H (xs.map pcD) vs
 | [],[],_=>by simp [Reps]
 | _::_,_::_,h=>by
  rw [List.map_cons,Reps]
  exact⟨h.1.rep,IsPcs.rep h.2⟩
 | [],_::_,h=>h.elim
 | _::_,[],h=>h.elim
theorem qMx (x:Pt):eqD x.tr x.tr=true∧dep x.tr≤3:=by
 constructor
 · simp [Pt.tr,eqD,xB,eqV]
 · simp [Pt.tr,dep,xk]
theorem qFk:∀ xs:List Pt,xB (xs.map Pt.tr) (xs.map Pt.tr)=true∧xk (xs.map Pt.tr)≤3
 | []=>by simp [xB,xk]
 | x::xs=>by
  obtain⟨h1,h2⟩:=qFk xs
  obtain⟨k1,k2⟩:=qMx x
  rw [List.map_cons,xB,xk,k1,h1]
  exact⟨rfl,by omega⟩
theorem qNo (x:Pc):eqD (pcD x) (pcD x)=true∧dep (pcD x)≤5:=by
 obtain⟨h1,h2⟩:=qFk x.2
 constructor
 · simp [pcD,eqD,xB,eqV,h1]
 · simp [pcD,dep,xk]
   omega
theorem qFw:∀ xs:List Pc,xB (xs.map pcD) (xs.map pcD)=true∧xk (xs.map pcD)≤5
 | []=>by simp [xB,xk]
 | x::xs=>by
  obtain⟨h1,h2⟩:=qFw xs
  obtain⟨k1,k2⟩:=qNo x
  rw [List.map_cons,xB,xk,k1,h1]
  exact⟨rfl,by omega⟩
theorem qRq {H:Hp}{x y:Addr}{us vs:List V}{L:List Pc}{Q:VK}(h1:H x=some (.lst us))(k1:IsPcs K H L us)(h2:H y=some (.lst vs))(k2:IsPcs K H L vs)(q:Q (.bl true) H):qHs K false (.ref x) (.ref y) H Q:=by
 obtain⟨s1,s2⟩:=qFw L
 refine⟨.lst (L.map pcD),.lst (L.map pcD),?_,?_,rfl,by unfold dep;omega,?_⟩
 · unfold Rep;exact⟨x,us,rfl,SqL.of h1,k1.rep⟩
 · unfold Rep;exact⟨y,vs,rfl,SqL.of h2,k2.rep⟩
 · have e:eqD (.lst (L.map pcD)) (.lst (L.map pcD))=true:=by unfold eqD;exact s1
   rw [e]
   exact q
set_option maxHeartbeats 8000000 in
theorem qP4 (T:Tx K mg a):FnOk P w K mg base CX0 24 a.A56 a.B56 ["_law_script"] (qKu K):=by
 refine T.D56.F.ok z8 (fun vs H Q E h=>?_) (fun cdv A outer s H vs Q E hr h=>?_)
 · obtain⟨a,ns,rfl,_⟩:=h
   rfl
 refine qJ fun _ Y=>?_
 obtain⟨zs,ns,rfl,hS,hlen,kk⟩:=h
 apply Y
 have hu:=hr.units
 have hu1:=vB hr
 have hr11:=hr.mono (show 4*1+7≤23 by decide)
 have hr9:=hr.mono (show 2*1+7≤23 by decide)
 refine⟨_,(qC (qMn (i:=1) z8.nd rfl (Or.inr rfl) (qE9 (wO qx (qL qc qF (qL jH (qI T.D45 (ji T) hr rfl (qA (pv 0) (qA qF qB))) qF)) (wO qx (qL qc qF (qL jH (qI T.D45 (ji T) hr rfl (qA (pv 0) (qA qF qB))) qF)) qFi)) rfl rfl (by simp) (by decide)))
  (qC (qOb (i:=2) ["_law_reels"] [1] z8.nd rfl rfl rfl (jf (qB1 qIv (pv 0) (qB8 qF) (qB8 qF))) (fun _ _ _ _=>(qI T.D51 (vI T) hr rfl (qA (pv 0) (qA (pv 1) (qA (jM qB) (qA qF qB)))))))
  (qC (vW (qv (qP (qIy hu) (pv 2) (jM qB) (qR _)) (qG (qS 2 z8.nd (jM (qA (qI T.D51 (vI T) hr rfl (qA (qI T.D45 (ji T) hr rfl (qA (pv 0) (qA qF qB))) (qA (pv 1) (qA (jM qB) (qA qF qB))))) qB)))) qU))
  (qC (vW (qv (qP zG (qL jH (qI T.D45 (ji T) hr rfl (qA (pv 0) (qA qF qB))) qF) qF (qR _)) (qG (qOr (qL qHy (jM (qA (qZ (qA qx (qA qx (qA (qZ (qA qF (qA qF qB))) (qA (qZ (qA qF (qA qF qB))) (qA (qL qOx qF qF) qB)))))) qB)) (jK qf (pv 2) qF (fun _ _=>rfl))) (qPc (pv 2) qF qLa))) qU))
  (qC (qS 3 z8.nd (qZ (qA (jm qG9 rfl T.b_dict rfl (qA (pv 1) qB)) (qA (qE9 (wO qx (qZ (qA (zW [] [] rfl (jf (pv 2)) (fun _ _ _ _=>(jm (qBu (K:=K) rfl) rfl T.b_list rfl (qA (pv 0) qB)))) (qA (jM qB) qB))) qFi) rfl rfl (by simp) (by decide)) qB))))
  (qC (qS 4 z8.nd (qI T.D43 (v6 T 1) hr11 rfl (qA (pv 3) (qA qx qB)) (Nat.le_refl _)))
  (qC (qS 5 z8.nd (qI T.D55 (qFd T) hr rfl (qA (pv 2) qB)))
  (qC (qv (PW.pt (zJ (xH (jk (qQ jP rfl T.b_isinstance rfl (qA (pv 4) (qA (vj rfl T.b_list rfl) qB))))) (xn (xH (jk (qQ (qDe rfl) rfl T.b_all rfl (qA (zW [] [] rfl (jf (pv 4)) (fun _ _ _ _=>(qI T.D53 (qB5 T) hr rfl (qA (pv 0) qB)))) qB))))))) (qG (qN qAe)) qU)
  (qC (qv (PW.pt (zJ (qP km (qQ (qAb rfl) rfl T.b_sum rfl (qA (zW [] [] rfl (jf (pv 4)) (fun _ _ _ _=>(jK (kT (K:=K) rfl) (pv 0) qF (fun _ _=>rfl)))) qB)) (pv 5) (qR _)) (xn (qP (qIk hu) (pv 3) (qZ (qA (pv 1) (qA (qE9 (wO qx (qZ (qA (pv 2) (qA (jM qB) qB))) qFi) rfl rfl (by simp) (by decide)) qB))) (qR _))))) (qG (qN qAe)) qU)
  (qC (xV PassesOwn.never rfl (jf (qI T.D54 (wV T) hr rfl (qA (pv 2) (qA (pv 5) qB)))) (ql (i:=6) z8.nd rfl (Or.inl rfl)) (qC (qS 7 z8.nd (qI T.D44 (qDs T) hr rfl (qA (jm zd rfl T.b_list rfl (qA (pv 4) qB)) (qA (pv 6) qB))))
  (qG (qv (PW.pt (zJ (xH (jk (qQ jP rfl T.b_isinstance rfl (qA (pv 7) (qA (vj rfl T.b_list rfl) qB))))) (xn (qP (qDu hu) (pv 7) (qI T.D32 (qIi T 1).1 hr9 rfl (qA (pv 3) (qA qx (qA (pv 6) qB))) (Nat.le_refl _)) (qR _))))) (qG (qN qAe)) qU))))
  (qC (qS 8 z8.nd (jm zd rfl T.b_list rfl (qA (pv 4) qB)))
  (qC (xQ (qAj F.plainAttrs_list F.slot_list_append F.type_list_append jn (pv 4) (qA (qZ (qA qF (qA (qZ qB) qB))) qB)))
  (qG (qN (vo (qIy hu) (qI T.D43 (v6 T 1) hr11 rfl (qA (pv 3) (qA qx qB)) (Nat.le_refl _)) (pv 8) (qR _)))))))))))))))),?_⟩
 try dsimp only [jq,qk]
 refine fun rd hrd=>?_
 have w1:=qE hrd (.dK [])
 have k1:upd H rd (.dK []) rd=some (.dK []):=qD
 generalize hG1:upd H rd (.dK [])=G1 at w1 k1 ⊢
 refine⟨_,rfl,zs,ns,0,rfl,w1.seq hS,hlen,by decide,fun c0=>⟨_,_,rfl,rfl,nz,_,_,rfl,rfl,?_⟩⟩
 refine⟨_,rfl,zs,ns,1,rfl,w1.seq hS,hlen,by decide,fun c1=>⟨_,_,rfl,rfl,nz,_,_,rfl,rfl,?_⟩⟩
 have f0:=fm c0 (show (0:Int) < 60 by decide)
 have f1:=fm c1 (show (0:Int) < 60 by decide)
 refine⟨k1,[((Sum.inr ("ra":Str):Key),V.int (6+c0.fmod 60)),(Sum.inr "rb",V.int (6+c1.fmod 60))],rfl,(by show 2≤15;decide),?_⟩
 have em:v8 [] [((Sum.inr ("ra":Str):Key),V.int (6+c0.fmod 60)),(Sum.inr "rb",V.int (6+c1.fmod 60))]=[((Sum.inr ("ra":Str):Key),V.int (6+c0.fmod 60)),(Sum.inr "rb",V.int (6+c1.fmod 60))]:=by rfl
 rw [em]
 generalize hkv:[((Sum.inr ("ra":Str):Key),V.int (6+c0.fmod 60)),(Sum.inr "rb",V.int (6+c1.fmod 60))]=kvs
 have hRl:Rl2 kvs:=⟨_,_,hkv.symm,by omega,by omega,by omega,by omega⟩
 rw [← hG1,qNf]
 have e4:=qE hrd (.dK kvs)
 have hrd4:upd H rd (.dK kvs) rd=some (.dK kvs):=qD
 generalize upd H rd (.dK kvs)=H4 at e4 hrd4 ⊢
 clear hG1 k1 w1
 refine⟨_,rfl,_,rfl,_,rfl,zs,_,rfl,e4.seq hS,fun lc hlc=>?_⟩
 have hfew:=qM6 (ns.map V.int) 3 7
 refine qJ fun _ Y=>?_
 obtain⟨cs,hcs,hcl⟩:=qL8 ns (some 3) (some 7)
 apply Y
 have hcs':qEc (ns.map V.int) (some ((3:Nat):Int)) (some ((7:Nat):Int))=cs.map V.int:=hcs
 rw [hcs',List.length_map] at hfew
 rw [hcs]
 have w5:=qE hlc (.lst (cs.map V.int))
 have k5:upd H4 lc (.lst (cs.map V.int)) lc=some (.lst (cs.map V.int)):=qD
 generalize upd H4 lc (.lst (cs.map V.int))=H5 at w5 k5 ⊢
 have e5:=e4.trans w5
 have hrd5:=w5 _ _ hrd4
 refine⟨lc,rfl,⟨_,SqL.of k5⟩,xM (K:=K) (a:=lc) (xs:=cs.map V.int) (fun j acc H'=>∃ tss:List (List Im),TrsAt H' tss acc∧tss.length=j∧acc.length=j∧(∀ ms∈tss,TG ms)∧Same H5 H') ⟨[],trivial,rfl,rfl,by simp,Same.refl _⟩ ?_ ?_ ?_⟩
 · rintro j acc H' hj ⟨tss,_,_,hal,_,ej⟩
   rw [List.length_map] at hj
   exact⟨SqL.of (ej _ _ k5),qW (by omega)⟩
 · rintro j x acc H' hj hx ⟨tss,hTs,htl,hal,hms,ej⟩
   rw [List.getElem?_map] at hx
   obtain⟨c,rfl⟩:∃ c,x= .int c:=by
    cases hq:cs[j]? with
    | none=>rw [hq] at hx;cases hx
    | some c=>rw [hq] at hx;exact⟨c,(Option.some.inj hx).symm⟩
   refine⟨_,rfl,_,rfl,sL0,fun nl hnl=>?_⟩
   have wn:=qE hnl (.lst [])
   refine⟨rd,nl,c,6,kvs,[],rfl,by decide,by decide,wn _ _ (ej _ _ hrd5),hRl,qD,by decide,fun z fs H'' e'' hz hTr hFG hfl hl54=>Nxt.mk hj ⟨tss++[fs],(hTs.same (wn.trans e'')).app hTr,by rw [List.length_append,htl];rfl,by simp [hal],fun ms hm=>?_,ej.trans (wn.trans e'')⟩⟩
   rcases List.mem_append.mp hm with hm | hm
   · exact hms ms hm
   · rw [List.mem_singleton] at hm
     subst hm
     exact⟨hfl,hl54,hFG⟩
 rintro acc H6 ⟨tss,hTs,htl,hal,hms,e6⟩ tl htl0
 rw [List.length_map] at htl hal
 have w7:=qE htl0 (.lst acc)
 have k7:upd H6 tl (.lst acc) tl=some (.lst acc):=qD
 have hTs7:=hTs.same w7
 have ntl:∀ z,V.ref z∈acc→z≠tl:=fun z hz=>by
  obtain⟨j,hj⟩:=List.mem_iff_getElem?.mp hz
  obtain⟨ms,z',_,e,us,hu,_⟩:=hTs.get hj
  cases e
  exact qg hu htl0
 change _
 generalize upd H6 tl (.lst acc)=H7 at w7 k7 hTs7
 have e7:=e6.trans w7
 refine⟨fun σ H'=>∃ (tl:Addr) (us:List V) (ts:List (List Im)),σ=[some (.ref zs),some (.ref rd),some (.ref tl),none,none,none,none,none,none]∧Same H5 H'∧H5 tl=none∧H' tl=some (.lst us)∧TrsAt H' ts us∧ts≠[]∧ts.length≤4∧(∀ ms∈ts,TG ms)∧∀ z,V.ref z∈us→z≠tl,?_,?_⟩
 · refine⟨_,rfl,sL0,fun en hen=>qPz ((qE hen _) _ _ k7) (hTs7.same (qE hen _)) qD ⟨_,rfl,?_⟩⟩
   have we:=qE hen (.lst [])
   change _
   generalize upd H7 en (.lst [])=H8 at we
   cases hte:tss.isEmpty with
   | false=>
    refine xf ⟨tl,acc,tss,rfl,e7.trans we,e6.free htl0,we _ _ k7,hTs7.same we,?_,by omega,hms,ntl⟩
    intro e;rw [e] at hte;cases hte
   | true=>
    refine wN ⟨_,rfl,zs,ns,2,rfl,((e5.trans e7).trans we).seq hS,hlen,by decide,fun c2=>⟨_,rfl,sL0,fun nl hnl=>?_⟩⟩
    have wn:=qE hnl (.lst [])
    refine⟨rd,nl,c2,6,kvs,[],rfl,by decide,by decide,wn _ _ (we _ _ (e7 _ _ hrd5)),hRl,qD,by decide,fun z fs H' e' hz hTr hFG hfl hl54=>⟨sL1,fun t2 ht2=>?_⟩⟩
    have x2:=qE ht2 (.lst [.ref z])
    have e8:=((e7.trans we).trans wn).trans e'
    refine⟨t2,[.ref z],[fs],rfl,e8.trans x2,e8.free ht2,qD,⟨⟨z,rfl,hTr.same x2⟩,trivial⟩,by simp,by show 1≤4;decide,fun ms hm=>?_,fun z' hz'=>?_⟩
    · rw [List.mem_singleton] at hm
      subst hm
      exact⟨hfl,hl54,hFG⟩
    · rw [List.mem_singleton] at hz'
      refine qJ fun _ Y=>?_
      cases hz'
      obtain⟨us,hu,_⟩:=hTr
      apply Y
      exact qg hu ht2
 clear hTs hTs7 ntl k7 w7 e7 hms htl hal e6 htl0
 rintro σ' H9 ⟨tl,us,ts,rfl,e9,htl5,htl9,hTs,hne,h4,hms,ntl⟩
 refine⟨fun σ H'=>∃ (us:List V) (ts:List (List Im)),σ=[some (.ref zs),some (.ref rd),some (.ref tl),none,none,none,none,none,none]∧Same H5 H'∧H' tl=some (.lst us)∧TrsAt H' ts us∧ts.length≤4∧TS2 ts,?_,?_⟩
 · refine⟨_,rfl,zs,ns,2,rfl,(e5.trans e9).seq hS,hlen,by decide,fun c2=>⟨_,_,rfl,rfl,nz,rfl,_,rfl,jp (fun _=>?_) (fun _=>?_)⟩⟩
   · refine⟨sL2,fun s1 hs1=>⟨sL2,fun s2 hs2=>?_⟩⟩
     have x1:=qE hs1 (.tup [V.int 5,.int 1])
     have x2:=qE hs2 (.tup [V.int 0,.int 1])
     have e11:=x1.trans x2
     have k1:upd (upd H9 s1 (.tup [V.int 5,.int 1])) s2 (.tup [V.int 0,.int 1]) s1=some (.tup [.int 5,.int 1]):=x2 _ _ qD
     have k2:upd (upd H9 s1 (.tup [V.int 5,.int 1])) s2 (.tup [V.int 0,.int 1]) s2=some (.tup [.int 0,.int 1]):=qD
     change _
     generalize upd (upd H9 s1 (.tup [V.int 5,.int 1])) s2 (.tup [V.int 0,.int 1])=Ha at e11 k1 k2
     refine⟨10,9,rfl,rfl,⟨by decide,by decide,by decide⟩,sL5,fun cz hcz=>⟨sL1,fun l1 hl1=>?_⟩⟩
     have x3:=qE hcz (.tup [V.str "clip",.str "rb",.ref s1,.ref s2,.int (10 ^ 9)])
     have hI:IsI (upd Ha cz (.tup [V.str "clip",.str "rb",.ref s1,.ref s2,.int (10 ^ 9)])) qO7 (.ref cz):=⟨cz,s1,s2,rfl,qD,x3 _ _ k1,x3 _ _ k2⟩
     have x4:=qE hl1 (.lst [V.ref cz])
     refine qJ fun _ Y=>?_
     obtain⟨ms0,ts',rfl⟩:∃ m r,ts=m::r:=by
      cases ts with
      | nil=>exact absurd rfl hne
      | cons m r=>exact⟨m,r,rfl⟩
     apply Y
     cases us with
     | nil=>exact hTs.elim
     | cons v0 us'=>
     refine qJ fun _ Y=>?_
     obtain⟨⟨z0,rfl,hT0⟩,hTr'⟩:=hTs
     obtain⟨ws,hz0,his0⟩:=hT0
     apply Y
     have e13:=e11.trans (x3.trans x4)
     refine⟨_,rfl,tl,_,_,_,rfl,rfl,SqL.of (e13 _ _ htl9),(show atI (V.ref z0::us') ((0:Nat):Int)=some (.ref z0) from jC rfl),l1,z0,_,_,rfl,rfl,qD,e13 _ _ hz0,?_,fun D hD=>?_⟩
     · have:=(hms ms0 (by simp)).len
       have:=his0.len
       exact Nat.le_of_lt (qW (by show 1+ws.length≤1000;omega))
     · have x5:=qE hD (.lst ([V.ref cz]++ws))
       have e14:=e13.trans x5
       refine⟨_,rfl,tl,_,0,0,rfl,rfl,e14 _ _ htl9,ix0,?_⟩
       have nDt:D≠tl:=fun e=>by
        have:=e13 _ _ htl9
        rw [← e,hD] at this
        cases this
       have hDl:=qD (H:=upd (upd Ha cz (.tup [V.str "clip",.str "rb",.ref s1,.ref s2,.int (10 ^ 9)])) l1 (.lst [V.ref cz])) (a:=D) (o:=.lst ([V.ref cz]++ws))
       have htlx:=e14 _ _ htl9
       refine⟨.ref D::us',(qO7::ms0)::ts',rfl,jR (e9.trans e14) htl5,by rw [qD];rfl,⟨⟨D,rfl,V.ref cz::ws,by rw [qX nDt];exact hDl,?_⟩,?_⟩,by simpa using h4,by simp,.inr ⟨ms0,ts',rfl,hms ms0 (by simp),fun ms hm=>hms ms (by simp [hm])⟩⟩
       · exact IsIs.ts (j4 htlx) ⟨hI.ts (qM (x4.trans x5)),his0.ts (qM e14)⟩
       · exact qKg htlx (fun z hz=>ntl z (by simp [hz])) (hTr'.same e14)
   · exact⟨us,ts,rfl,e9,htl9,hTs,h4,hne,.inl hms⟩
 clear hTs hne h4 hms ntl htl9 e9
 rintro σ' H10 ⟨us,ts,rfl,e10,htl10,hTs,h4,hne,hms⟩
 have hul:=hTs.len
 have hrd10:=e10 _ _ hrd5
 refine⟨_,rfl,rd,kvs,rfl,.inl hrd10,fun d1 hd1=>fun td htd=>?_⟩
 have y1:=qE hd1 (.dK kvs)
 have y2:=qE htd (.dK [])
 have kd1:upd (upd H10 d1 (.dK kvs)) td (.dK []) d1=some (.dK kvs):=y2 _ _ qD
 have ktd:upd (upd H10 d1 (.dK kvs)) td (.dK []) td=some (.dK []):=qD
 have htd0:H10 td=none:=y1.free htd
 change _
 generalize upd (upd H10 d1 (.dK kvs)) td (.dK [])=Ha at kd1 ktd y2
 have ea:=y1.trans y2
 refine⟨_,rfl,tl,rfl,⟨_,SqL.of (ea _ _ htl10)⟩,xM (K:=K) (a:=tl) (xs:=us) (fun j acc H'=>TrsAt H' (ts.take j) acc∧acc.length=j∧Same Ha H') ⟨trivial,rfl,Same.refl _⟩ ?_ ?_ ?_⟩
 · rintro j acc H' hj ⟨_,hal,ej⟩
   exact⟨SqL.of (ej _ _ (ea _ _ htl10)),qW (by omega)⟩
 · rintro j x acc H' hj hx ⟨hA,hal,ej⟩
   refine qJ fun _ Y=>?_
   obtain⟨ms,z,hms',rfl,ws,hz,his⟩:=hTs.get hx
   apply Y
   have ek:=ea.trans ej
   refine⟨_,rfl,z,ws,rfl,.inl (SqL.of (ek _ _ hz)),fun l hl=>Nxt.mk hj ⟨?_,by simp [hal],ej.trans (qE hl _)⟩⟩
   have htk:ts.take (j+1)=ts.take j++[ms]:=by rw [List.take_add_one,hms'];rfl
   rw [htk]
   exact(hA.same (qE hl _)).app ⟨ws,qD,his.ts (qM (ek.trans (qE hl _)))⟩
 rintro acc Hb ⟨hA,hal,eb⟩ D hD
 rw [hul,List.take_length] at hA
 have y3:=qE hD (.lst acc)
 have kD:upd Hb D (.lst acc) D=some (.lst acc):=qD
 have hA3:=hA.same y3
 change _
 generalize upd Hb D (.lst acc)=Hc at y3 kD hA3
 refine⟨sL0,fun en hen=>⟨sL2,fun tt htt=>?_⟩⟩
 have y4:=qE hen (.lst [])
 have y5:=qE htt (.tup [V.ref D,.ref en])
 have ec:=eb.trans (y3.trans (y4.trans y5))
 refine⟨ec _ _ ktd,[((Sum.inr ("tab":Str):Key),V.ref tt)],rfl,(by show 1≤15;decide),?_⟩
 have em2:v8 [] [((Sum.inr ("tab":Str):Key),V.ref tt)]=[((Sum.inr ("tab":Str):Key),V.ref tt)]:=by rfl
 rw [em2]
 have hTab:TabF (upd (upd Hc en (.lst [])) tt (.tup [V.ref D,.ref en])) (.ref tt) ts []:=⟨tt,D,en,acc,rfl,qD,y5 _ _ (y4 _ _ kD),(hA3.same y4).same y5,y5 _ _ qD⟩
 have ktd5:=ec _ _ ktd
 have kd15:=ec _ _ kd1
 have ed:=ea.trans ec
 change _
 generalize upd (upd Hc en (.lst [])) tt (.tup [V.ref D,.ref en])=Hd at hTab ktd5 kd15 ed y5 ec
 have hTab':TabF (upd Hd td (.dK [((Sum.inr ("tab":Str):Key),V.ref tt)])) (.ref tt) ts []:=qBd ktd5 hTab
 have ntd:d1≠td:=fun e=>by
  have:=y1.free htd
  rw [← e] at htd
  rw [qD] at htd
  cases htd
 have kd16:upd Hd td (.dK [((Sum.inr ("tab":Str):Key),V.ref tt)]) d1=some (.dK kvs):=by rw [qX ntd];exact kd15
 have ktd6:upd Hd td (.dK [((Sum.inr ("tab":Str):Key),V.ref tt)]) td=some (.dK [(Sum.inr "tab",V.ref tt)]):=qD
 have ee:Same H10 (upd Hd td (.dK [((Sum.inr ("tab":Str):Key),V.ref tt)])):=jR ed htd0
 generalize upd Hd td (.dK [((Sum.inr ("tab":Str):Key),V.ref tt)])=He at hTab' kd16 ktd6 ee
 refine⟨sL2,fun rz hrz=>?_⟩
 have y7:=qE hrz (.tup [V.ref d1,.ref td])
 have krz:upd He rz (.tup [V.ref d1,.ref td]) rz=some (.tup [V.ref d1,.ref td]):=qD
 have hTab7:=hTab'.same y7
 have kd17:=y7 _ _ kd16
 have ktd7:=y7 _ _ ktd6
 have e17:=ee.trans y7
 change _
 generalize upd He rz (.tup [V.ref d1,.ref td])=Hf at krz hTab7 kd17 ktd7 e17
 have hRm:RoomAt Hf rz (rmT ts):=⟨d1,td,_,krz,.inl ktd7,fun nm ts' q=>by
  unfold rmT at q
  split at q
  · rename_i e
    cases q
    subst e
    exact⟨_,jT (p:=((Sum.inr ("tab":Str):Key),V.ref tt)) rfl,qNm hTab7⟩
  · cases q⟩
 obtain⟨M,hM⟩:=qO1 hne
 have hTS:TS2 ts:=⟨hne,hms⟩
 have hall:=hTS.all
 have hsml:SmL (rmT ts) 1 "tab":=qNg (by omega) fun ms hm=>let t:=hall ms hm;⟨by have:=t.len;omega,t.geo,t.s,t.nn⟩
 have hMb:0≤M∧M≤10 ^ 9+54:=by
  obtain⟨⟨x,hx,ex⟩,_⟩:=id hM
  have t:=hall x hx
  have:=bsM t.geo.nn (Nat.zero_le x.length)
  rw [bs0,bsL] at this
  exact⟨by omega,by have:=t.lf;omega⟩
 have hrm:rmT ts "tab"=some ts:=if_pos rfl
 have hrT:∀ nm ts',rmT ts nm=some ts'→ts'.length≤4:=fun nm ts' q=>by
  unfold rmT at q
  split at q
  · cases q;exact h4
  · cases q
 refine⟨_,rfl,rz,"tab",rmT ts,4,ts,M,rfl,hRm,hsml,hrm,hrT,hM,by omega,by decide,by decide,fun L e hc he=>hTS.few hM hc (Int.le_of_lt he),fun pl L ps Hg eg hpl kpl hPc hCh=>?_⟩
 have htl11:=(e17.trans eg) _ _ htl10
 refine⟨_,rfl,tl,ts,us,M,rfl,htl11,hTs.same (e17.trans eg),hM,by omega,fun ms hm=>by have:=(hall ms hm).len;omega,fun Hh eh=>?_⟩
 obtain⟨hP,hbd⟩:=hsml.run (Nat.le_refl 1)
 have hpg:=qIf hbd hCh (Int.le_refl _)
 have hsum:=vp hCh
 have hfs:∀ x∈L,PcF x:=fun x hx=>⟨hsum.2.2 x hx,fun y hy=>by
  have g1:=qE4 (P:=PtG) (fun t t0=>hP.pg t t0) hCh (Int.le_refl 0) x hx y hy
  have g2:=qE4 (P:=PtL) (fun t t0=>qQ5 (fun ms hm=>let t:=hall ms hm;⟨t.geo,t.s,t.low,t.nn⟩) t) hCh (Int.le_refl 0) x hx y hy
  have hb:=(hpg x hx).2 y hy
  have x1:=hsum.2.2 x hx
  obtain⟨_,_,_,b1,_,b2⟩:=hb.1.sm (by omega)
  obtain⟨_,_,_,b3,_,b4⟩:=hb.2.sm (by omega)
  exact⟨g1,g2,qAk b1,qAk b2,qAk b3,qAk b4⟩⟩
 have hpsl:=hPc.len
 have hL4:=hTS.few hM hCh (Int.le_refl _)
 have kplh:=eh _ _ kpl
 have hPch:=hPc.ts (qM eh)
 refine⟨_,rfl,_,_,_,true,rfl,.lst kplh,⟨_,.inl ⟨rfl,by kernel_rfl⟩⟩,true,rfl,xf ⟨_,rfl,pl,rfl,⟨_,SqL.of kplh⟩,xM (K:=K) (a:=pl) (xs:=ps) (fun j acc H'=>acc=(List.replicate j true).map V.bl∧Same Hh H') ⟨rfl,Same.refl _⟩ ?_ ?_ ?_⟩⟩
 · rintro j acc H' hj ⟨rfl,ej⟩
   exact⟨SqL.of (ej _ _ kplh),qW (by simp;omega)⟩
 · rintro j v acc H' hj hv ⟨rfl,ej⟩
   refine qJ fun _ Y=>?_
   obtain⟨x,hx,hIx⟩:=(hPch.ts (qM ej)).get hv
   apply Y
   have hxL:=List.mem_of_getElem? hx
   refine⟨_,rfl,v,x,rfl,hIx,hfs x hxL,(hpg x hxL).1,fun H'' e''=>Nxt.mk hj ⟨?_,ej.trans e''⟩⟩
   rw [List.replicate_succ',List.map_append]
   rfl
 rintro acc Hi ⟨rfl,ei⟩ al hal
 have z1:=qE hal (.lst ((List.replicate ps.length true).map V.bl))
 refine⟨al,_,rfl,SqL.of qD,true,?_,xf ?_⟩
 · simp
 have e20:=ei.trans z1
 change _
 generalize upd Hi al (.lst ((List.replicate ps.length true).map V.bl))=Hj at e20
 have kplj:=e20 _ _ kplh
 have hPcj:=hPch.ts (qM e20)
 refine⟨_,rfl,pl,rfl,⟨_,SqL.of kplj⟩,xM (K:=K) (a:=pl) (xs:=ps) (fun i acc H'=>H'=Hj∧acc=((L.take i).map Prod.fst).map V.int∧acc.length=i) ⟨rfl,rfl,rfl⟩ ?_ ?_ ?_⟩
 · rintro i acc H' hi ⟨rfl,_,hal⟩
   exact⟨SqL.of kplj,qW (by omega)⟩
 · rintro i x acc H' hi hx ⟨rfl,rfl,hal⟩
   refine qJ fun _ Y=>?_
   obtain⟨pc,hpx,z,pz,pvs,rfl,hz,_,_⟩:=hPcj.get hx
   apply Y
   refine⟨_,rfl,z,_,_,_,rfl,rfl,hz.sq,at0,Nxt.mk hi ⟨rfl,?_,by simp at hal ⊢;omega⟩⟩
   rw [List.take_add_one,hpx]
   simp
 rintro acc H4' ⟨rfl,rfl,hal4⟩ sl hsl
 rw [hpsl,List.take_length]
 have z4:=qE hsl (.lst ((L.map Prod.fst).map V.int))
 refine⟨sl,L.map Prod.fst,rfl,SqL.of qD,_,rfl,rfl,_,rfl,jp (fun c=>?_) (fun _=>?_)⟩
 · have c:(L.map Prod.fst).sum≠M:=by simpa using c
   have:=hsum.1
   omega
 have e21:=e20.trans z4
 change _
 generalize upd H4' sl (.lst ((L.map Prod.fst).map V.int))=Hk at e21
 have eall:Same Hf Hk:=(eg.trans eh).trans e21
 have e10k:Same H10 Hk:=e17.trans eall
 refine⟨_,rfl,_,rfl,fun td2 htd2=>?_⟩
 have u1:=qE htd2 (.dK [])
 refine⟨_,rfl,sL0,fun en2 hen2=>⟨sL2,fun tt2 htt2=>?_⟩⟩
 have u2:=qE hen2 (.lst [])
 have u3:=qE htt2 (.tup [V.ref tl,.ref en2])
 have u23:=u2.trans u3
 refine⟨u23 _ _ qD,[((Sum.inr ("tab":Str):Key),V.ref tt2)],rfl,(by show 1≤15;decide),?_⟩
 have em3:v8 [] [((Sum.inr ("tab":Str):Key),V.ref tt2)]=[((Sum.inr ("tab":Str):Key),V.ref tt2)]:=by rfl
 rw [em3]
 have u13:=u1.trans u23
 have ek3:Same Hf _:=eall.trans u13
 have hT1:TabF (upd (upd (upd Hk td2 (.dK [])) en2 (.lst [])) tt2 (.tup [V.ref tl,.ref en2])) (.ref tt2) ts []:=⟨tt2,tl,en2,us,rfl,qD,u13 _ _ (e10k _ _ htl10),hTs.same (e10k.trans u13),u3 _ _ qD⟩
 have hT2:=hTab7.same ek3
 have ktd2:=u23 _ _ (qD (H:=Hk) (a:=td2) (o:=.dK []))
 have nk:∀ {b:Addr} {o:HO},Hk b=some o→b≠td2:=fun h=>qg h htd2
 have krd:=u13 _ _ (e10k _ _ hrd10)
 have kd18:=ek3 _ _ kd17
 have ktd8:=ek3 _ _ ktd7
 have krz8:=ek3 _ _ krz
 have n1:=nk (e10k _ _ hrd10)
 have n2:=nk (eall _ _ kd17)
 have n3:=nk (eall _ _ ktd7)
 have n4:=nk (eall _ _ krz)
 have kplk:=nk (e21 _ _ kplh)
 change _
 generalize upd (upd (upd Hk td2 (.dK [])) en2 (.lst [])) tt2 (.tup [V.ref tl,.ref en2])=Hm at hT1 hT2 ktd2 krd kd18 ktd8 krz8 u13
 have eu:Same Hk (upd Hm td2 (.dK [((Sum.inr ("tab":Str):Key),V.ref tt2)])):=jR u13 htd2
 have hT1':=qBd (k1:=[((Sum.inr ("tab":Str):Key),V.ref tt2)]) ktd2 hT1
 have hT2':=qBd (k1:=[((Sum.inr ("tab":Str):Key),V.ref tt2)]) ktd2 hT2
 have krd':upd Hm td2 (.dK [((Sum.inr ("tab":Str):Key),V.ref tt2)]) rd=some (.dK kvs):=by rw [qX n1];exact krd
 have kd19:upd Hm td2 (.dK [((Sum.inr ("tab":Str):Key),V.ref tt2)]) d1=some (.dK kvs):=by rw [qX n2];exact kd18
 have ktd9:upd Hm td2 (.dK [((Sum.inr ("tab":Str):Key),V.ref tt2)]) td=some (.dK [(Sum.inr "tab",V.ref tt)]):=by rw [qX n3];exact ktd8
 have krz9:upd Hm td2 (.dK [((Sum.inr ("tab":Str):Key),V.ref tt2)]) rz=some (.tup [V.ref d1,.ref td]):=by rw [qX n4];exact krz8
 have ktdx:upd Hm td2 (.dK [((Sum.inr ("tab":Str):Key),V.ref tt2)]) td2=some (.dK [(Sum.inr "tab",V.ref tt2)]):=qD
 generalize upd Hm td2 (.dK [((Sum.inr ("tab":Str):Key),V.ref tt2)])=Hn at eu hT1' hT2' krd' kd19 ktd9 krz9 ktdx
 refine⟨sL2,fun rz2 hrz2=>?_⟩
 have u7:=qE hrz2 (.tup [V.ref rd,.ref td2])
 refine⟨rz,rz2,d1,rd,td,td2,rfl,rfl,SqT.of (u7 _ _ krz9),SqT.of qD,?_,qNa (u7 _ _ ktd9) (u7 _ _ ktdx) (hT2'.same u7) (hT1'.same u7),_,rfl,xf ?_⟩
 · refine qLd (m:=6+c0.fmod 60) (n:=6+c1.fmod 60) ?_ ?_
   · rw [hkv];exact u7 _ _ kd19
   · rw [hkv];exact u7 _ _ krd'
 have ep:=(e21.trans eu).trans u7
 change _
 generalize upd Hn rz2 (.tup [V.ref rd,.ref td2])=Hp0 at ep
 have htlp:=(e17.trans (eg.trans eh)) _ _ htl10
 refine⟨_,rfl,_,rfl,tl,ts,us,M,rfl,ep _ _ htlp,hTs.same ((e17.trans (eg.trans eh)).trans ep),hMb.1,by omega,h4,(fun ms hm=>⟨by have:=(hall ms hm).len;omega,(hall ms hm).mo⟩),fun Dm nsM Hq eq hDn kDm hnb hlm=>?_⟩
 refine⟨Dm,rfl,⟨_,SqL.of kDm⟩,xu (K:=K) (a:=Dm) (xs:=nsM.map V.int) (fun i σ H'=>∃ o1 o2:Option V,σ=[some (.ref zs),some (.ref rd),some (.ref tl),some (.ref rz),some (.ref pl),some (.int M),o1,o2,none]∧Same Hq H') ⟨none,none,rfl,Same.refl _⟩ ?_ ?_ ?_⟩
 · rintro i σ H' _ ⟨o1,o2,rfl,e⟩
   exact SqL.of (e _ _ kDm)
 · rintro i x σ H' hx ⟨o1,o2,rfl,e⟩
   rw [List.getElem?_map] at hx
   refine qJ fun _ Y=>?_
   obtain⟨t,ht,rfl⟩:∃ t,nsM[i]? =some t∧x= .int t:=by
    cases hq:nsM[i]? with
    | none=>rw [hq] at hx;cases hx
    | some c=>rw [hq] at hx;exact⟨c,rfl,(Option.some.inj hx).symm⟩
   obtain⟨t0,t1⟩:=hnb t (List.mem_of_getElem? ht)
   apply Y
   have eh':=(ep.trans eq).trans e
   refine⟨_,rfl,pl,ps,rfl,.inl (SqL.of (eh' _ _ kplh)),fun l hl=>?_⟩
   have v1:=qE hl (.lst ps)
   refine⟨_,rfl,l,L,ps,t,rfl,qD,hPch.ts (qM (eh'.trans v1)),(fun x hx=>⟨hpg x hx,hsum.2.2 x hx⟩),t0,by omega,fun y H6 e6 hy6 hTL=>?_⟩
   refine qJ fun _ Y=>?_
   obtain⟨fvs,hfv,_⟩:=id hTL
   apply Y
   refine⟨_,rfl,_,_,_,true,rfl,.lst hfv,⟨_,.inl ⟨rfl,by kernel_rfl⟩⟩,true,rfl,xf ⟨_,rfl,_,rfl,_,rfl,rz,"tab",t,rmT ts,rfl,hRm.same ((eg.trans eh).trans (eh'.trans (v1.trans e6))),SmL.lv (rmT ts) 1 "tab" hsml,t0,?_,fun y2 H7 e7 hy7 hTL2=>?_⟩⟩
   · have:(2:Int) ^ 50+2 ^ 61 < 2 ^ 400:=by decide+kernel
     show t+((1:Nat):Int)*2 ^ 61 < 2 ^ 400
     omega
   rw [qJf hsml hrm hM hCh t0] at hTL
   exact qSb (hTL.same e7) hTL2 ⟨_,rfl,xf ⟨_,_,rfl,e.trans (v1.trans (e6.trans e7))⟩⟩
 · rintro σ H' ⟨o1,o2,rfl,e⟩
   have eA:Same Hh H':=(ep.trans eq).trans e
   have kplz:=eA _ _ kplh
   refine⟨_,rfl,pl,ps,rfl,.inl (SqL.of kplz),fun l hl=>?_⟩
   have v1:=qE hl (.lst ps)
   have npl:l≠pl:=(qg kplz hl).symm
   have kl:upd H' l (.lst ps) l=some (.lst ps):=qD
   have kplz1:=v1 _ _ kplz
   change _
   generalize upd H' l (.lst ps)=H1 at v1 kl kplz1
   have eF1:Same Hf H1:=((eg.trans eh).trans eA).trans v1
   have hP1:=hPch.ts (qM (eA.trans v1))
   refine⟨_,rfl,.inl ⟨rfl,_,SqL.of kplz1⟩,sL0,fun g0 hg0=>⟨sL2,fun g1 hg1=>?_⟩⟩
   have v2:=qE hg0 (.tup [])
   have v3:=qE hg1 (.tup [V.int 1,.ref g0])
   have v23:=v2.trans v3
   have kplz2:=v23 _ _ kplz1
   have kl2:=v23 _ _ kl
   have hP2:=hP1.ts (qM v23)
   have eF2:=eF1.trans v23
   change _
   generalize upd (upd H1 g0 (.tup [])) g1 (.tup [V.int 1,.ref g0])=H2 at kplz2 kl2 hP2 eF2
   refine⟨pl,_,_,rfl,rfl,kplz2,qW (by omega),?_⟩
   have tl2:=j4 (o:=.lst (ps++[.ref g1])) kplz2
   have hP3:=hP2.ts tl2
   have kl3:upd H2 pl (.lst (ps++[.ref g1])) l=some (.lst ps):=by rw [qX npl];exact kl2
   have eF3:Same Hf (upd H2 pl (.lst (ps++[.ref g1]))):=jR eF2 hpl
   change _
   generalize upd H2 pl (.lst (ps++[.ref g1]))=H3 at hP3 kl3 eF3
   refine⟨_,rfl,rz,"tab",rmT ts,4,ts,M,rfl,hRm.same eF3,hsml,hrm,hrT,hM,by omega,by decide,by decide,fun L e hc he=>hTS.few hM hc (Int.le_of_lt he),fun pl2 L2 ps2 Hz ez hpl2 kpl2 hPc2 hCh2=>?_⟩
   rw [← qFv hCh hCh2] at hPc2
   exact⟨_,rfl,qRq kpl2 hPc2 (ez _ _ kl3) (hP3.ts (qM ez)) (kk _)⟩
end
structure DF (K:W.Frag)(x:Str)(st:Stmt)(f:Addr)(fd:FuncData):Prop where
 n:W.nsIn K mainGlobals x=some (some (.ref f))
 F:Fun K x x st f fd
theorem df_mk {K:W.Frag}{x:Str}{st:Stmt}{f:Addr}{oc:Value}{od an:Option Addr}{osl:Array (Option Value)}{kV doc pm cdv ct:Value}(n:W.nsIn K mainGlobals x=some (some (.ref f)))(l:K.lookup f=some ⟨oc,od,.func (W.fnOf x x (kY st) (xv st) (qH st) .none kV doc pm an cdv ct),osl⟩)(c:W.codeIn K cdv x=true)(k:W.keepIn K (.ref f)=true):DF K x st f (W.fnOf x x (kY st) (xv st) (qH st) .none kV doc pm an cdv ct):=⟨n,qOu l c k⟩
def GL (K:W.Frag)(x:Str)(v:Option Value):Prop:=W.nsIn K mainGlobals x=some v
theorem gl_mk {K:W.Frag}{x:Str}{v:Option Value}(h:W.nsIn K mainGlobals x=some v):GL K x v:=h
theorem dG {K:W.Frag}{x:Str}{st:Stmt}{f:Addr}{fd:FuncData}{h:Heap}{mg:Str→Option Value}{ps:List Str}(X:K.In h)(G:h.Ns mainGlobals mg)(d:DF K x st f fd)
 (b:∀ (kV doc pm:Value) (an:Option Addr) (cdv ct:Value) (us:List Value),us.length=ps.length→bindArgs (W.fnOf x x (kY st) (xv st) (qH st) .none kV doc pm an cdv ct) ⟨us,[]⟩=pure (ps.zip us):=by
   first | exact(fun _ _ _ _ _ _ us hl=>match us,hl with | [_],_=>rfl) | exact(fun _ _ _ _ _ _ us hl=>match us,hl with | [_,_],_=>rfl) | exact(fun _ _ _ _ _ _ us hl=>match us,hl with | [_,_,_],_=>rfl) | exact(fun _ _ _ _ _ _ us hl=>match us,hl with | [_,_,_,_],_=>rfl) | exact(fun _ _ _ _ _ _ us hl=>match us,hl with | [_,_,_,_,_],_=>rfl)):L3.Def K mg x st ps f fd:=⟨d.F,d.F.binds b,W.mg_of X G d.n⟩
theorem all_mk {l:W.OpenLaw}{w:World}{K:W.Frag}{h:Heap}{mg:Str→Option Value}{fa f0 f1 f2 f3 f4 f5 f6 f7 f8 f9 f10 f11 f12 f13 f14 f15 f16 f17 f18 f19 f20 f21 f22 f23 f24 f25 f26 f27 f28 f29 f30 f31 f32 f33 f34 f35 f36 f37 f38 f39 f40 f41 f42 f43 f44 f45 f46 f47 f48 f49 f50 f51 f52 f53 f54 f55 f56 C0 C1 C2 C3 nNOUGHT nWHOLE_SHARE nNOTHING nNOTHING_2:Addr}{g0 g1 g2 g3 g4 g5 g6 g7 g8 g9 g10 g11 g12 g13 g14 g15 g16 g17 g18 g19 g20 g21 g22 g23 g24 g25 g26 g27 g28 g29 g30 g31 g32 g33 g34 g35 g36 g37 g38 g39 g40 g41 g42 g43 g44 g45 g46 g47 g48 g49 g50 g51 g52 g53 g54 g55 g56:FuncData}(X:K.In h)(G:h.Ns mainGlobals mg)(hfa:mg "law"=some (.ref fa))
 {odNOUGHT odWHOLE_SHARE odNOTHING odNOTHING_2:Option Addr} {slNOUGHT slWHOLE_SHARE slNOTHING slNOTHING_2:Array (Option Value)} {tMOST_ROOM tNOUGHT_0 tNOUGHT_1 tWHOLE_SHARE_0 tWHOLE_SHARE_1 tMOST_PIECES tNOTHING_0:Tok} {nnNOUGHT nnWHOLE_SHARE nnNOTHING nnNOTHING_2:Nat}
 (h0:DF K "is_whole" vY f0 g0)
 (h1:DF K "common_divisor" j5 f1 g1)
 (h2:DF K "fraction" vi f2 g2)
 (h3:DF K "sum_of" qBs f3 g3)
 (h4:DF K "less_by" wv f4 g4)
 (h5:DF K "times_of" vc f5 g5)
 (h6:DF K "quotient" vd f6 g6)
 (h7:DF K "is_before" kH f7 g7)
 (h8:DF K "floor_of" vt f8 g8)
 (h9:DF K "place_at" vQ f9 g9)
 (h10:DF K "picture_at" ze f10 g10)
 (h11:DF K "is_there" vw f11 g11)
 (h12:DF K "moments_there" xK f12 g12)
 (h13:DF K "head_room" kC f13 g13)
 (h14:DF K "tail_room" kS f14 g14)
 (h15:DF K "moments_of" zX f15 g15)
 (h16:DF K "length_of" kR f16 g16)
 (h17:DF K "item_at" qAc f17 g17)
 (h18:DF K "kind_at" wX f18 g18)
 (h19:DF K "place_ahead" xr f19 g19)
 (h20:DF K "neighbours_at" xL f20 g20)
 (h21:DF K "clips_at_border" ju f21 g21)
 (h22:DF K "part_ahead" zS f22 g22)
 (h23:DF K "part_behind" xz f23 g23)
 (h24:DF K "mix_spans" kK f24 g24)
 (h25:DF K "mix_shares" zh f25 g25)
 (h26:DF K "mix_at" qCi f26 g26)
 (h27:DF K "told_in_mix" xy f27 g27)
 (h28:DF K "taken_at_begin" j7 f28 g28)
 (h29:DF K "taken_at_end" xc f29 g29)
 (h30:DF K "most_mix" vT f30 g30)
 (h31:DF K "told_on" wc f31 g31)
 (h32:DF K "told_at" ke f32 g32)
 (h33:DF K "after" qEl f33 g33)
 (h34:DF K "parts_later" zC f34 g34)
 (h35:DF K "run_within" zg f35 g35)
 (h36:DF K "run_of_mix" zP f36 g36)
 (h37:DF K "run_of_clip" xp f37 g37)
 (h38:DF K "run_of_nest" xx f38 g38)
 (h39:DF K "run_on" qBz f39 g39)
 (h40:DF K "walked" qCg f40 g40)
 (h41:DF K "place_for" kN f41 g41)
 (h42:DF K "run_at" qBc f42 g42)
 (h43:DF K "laid_flat" kJ f43 g43)
 (h44:DF K "told_flat" kP f44 g44)
 (h45:DF K "_law_cell_at" xZ f45 g45)
 (h46:DF K "_law_mixed" zk f46 g46)
 (h47:DF K "_law_fraction" xN f47 g47)
 (h48:DF K "_law_there" zO f48 g48)
 (h49:DF K "_law_clip" kO f49 g49)
 (h50:DF K "_law_mixes_put" j6 f50 g50)
 (h51:DF K "_law_items" zQ f51 g51)
 (h52:DF K "_law_is_fraction" jl f52 g52)
 (h53:DF K "_law_piece" zU f53 g53)
 (h54:DF K "_law_moments" xY f54 g54)
 (h55:DF K "_law_end" vf f55 g55)
 (h56:DF K "law" qM9 f56 g56)
 (xg0:GL K "CutError" (some (.ref C0)))
 (xg1:GL K "NoNumber" (some (.ref C1)))
 (xg2:GL K "NoPlace" (some (.ref C2)))
 (xg3:GL K "TooMuch" (some (.ref C3)))
 (xz0:GL K "isinstance" none)
 (xz1:GL K "int" none)
 (xz2:GL K "bool" none)
 (xz3:GL K "abs" none)
 (xz4:GL K "min" none)
 (xz5:GL K "sum" none)
 (xz6:GL K "enumerate" none)
 (xz7:GL K "len" none)
 (xz8:GL K "zip" none)
 (xz9:GL K "max" none)
 (xz10:GL K "tuple" none)
 (xz11:GL K "list" none)
 (xz12:GL K "range" none)
 (xz13:GL K "all" none)
 (xz14:GL K "str" none)
 (xz15:GL K "sorted" none)
 (xz16:GL K "set" none)
 (xz17:GL K "dict" none)
 (xcMOST_ROOM:GL K "MOST_ROOM" (some (.int 1000000 tMOST_ROOM)))
 (xcNOUGHT:GL K "NOUGHT" (some (.ref nNOUGHT))) (xlNOUGHT:K.lookup nNOUGHT=some ⟨.type "tuple",odNOUGHT,.seq #[.int 0 tNOUGHT_0,.int 1 tNOUGHT_1] nnNOUGHT,slNOUGHT⟩)
 (xcWHOLE_SHARE:GL K "WHOLE_SHARE" (some (.ref nWHOLE_SHARE))) (xlWHOLE_SHARE:K.lookup nWHOLE_SHARE=some ⟨.type "tuple",odWHOLE_SHARE,.seq #[.int 1 tWHOLE_SHARE_0,.int 1 tWHOLE_SHARE_1] nnWHOLE_SHARE,slWHOLE_SHARE⟩)
 (xcMOST_PIECES:GL K "MOST_PIECES" (some (.int 400 tMOST_PIECES)))
 (xcNOTHING:GL K "NOTHING" (some (.ref nNOTHING))) (xlNOTHING:K.lookup nNOTHING=some ⟨.type "tuple",odNOTHING,.seq #[.int 0 tNOTHING_0,.none,.ref nNOTHING_2] nnNOTHING,slNOTHING⟩)
 (xeNOTHING_2:K.lookup nNOTHING_2=some ⟨.type "tuple",odNOTHING_2,.seq #[] nnNOTHING_2,slNOTHING_2⟩)
 :∃ fd:FuncData,(∀ (s:Shared) (v:Value),BindsTo s fd ⟨[v],[]⟩ [("_law_script",v)])∧∀ base:Heap,K.In base→base.Ns mainGlobals mg→FnOk l.prog w K mg base CX0 24 fa fd ["_law_script"] (qKu K):=by
 have e:=hfa.symm.trans (W.mg_of X G h56.n)
 obtain rfl:f56=fa:=by cases e;rfl
 obtain⟨_,_,_,_,_,_,_,_,_,rfl,_,_⟩:=h56.F.ex
 have T:Tx K mg ⟨f0,_,f1,_,f2,_,f3,_,f4,_,f5,_,f6,_,f7,_,f8,_,f9,_,f10,_,f11,_,f12,_,f13,_,f14,_,f15,_,f16,_,f17,_,f18,_,f19,_,f20,_,f21,_,f22,_,f23,_,f24,_,f25,_,f26,_,f27,_,f28,_,f29,_,f30,_,f31,_,f32,_,f33,_,f34,_,f35,_,f36,_,f37,_,f38,_,f39,_,f40,_,f41,_,f42,_,f43,_,f44,_,f45,_,f46,_,f47,_,f48,_,f49,_,f50,_,f51,_,f52,_,f53,_,f54,_,f55,_,f56,_,C0,C1,C2,C3,tMOST_ROOM,nNOUGHT,nWHOLE_SHARE,tMOST_PIECES,nNOTHING,nNOTHING_2⟩:=⟨dG X G h0,dG X G h1,dG X G h2,dG X G h3,dG X G h4,dG X G h5,dG X G h6,dG X G h7,dG X G h8,dG X G h9,dG X G h10,dG X G h11,dG X G h12,dG X G h13,dG X G h14,dG X G h15,dG X G h16,dG X G h17,dG X G h18,dG X G h19,dG X G h20,dG X G h21,dG X G h22,dG X G h23,dG X G h24,dG X G h25,dG X G h26,dG X G h27,dG X G h28,dG X G h29,dG X G h30,dG X G h31,dG X G h32,dG X G h33,dG X G h34,dG X G h35,dG X G h36,dG X G h37,dG X G h38,dG X G h39,dG X G h40,dG X G h41,dG X G h42,dG X G h43,dG X G h44,dG X G h45,dG X G h46,dG X G h47,dG X G h48,dG X G h49,dG X G h50,dG X G h51,dG X G h52,dG X G h53,dG X G h54,dG X G h55,dG X G h56,W.mg_of X G xg0,W.mg_of X G xg1,W.mg_of X G xg2,W.mg_of X G xg3,W.mg_none_of X G xz0,W.mg_none_of X G xz1,W.mg_none_of X G xz2,W.mg_none_of X G xz3,W.mg_none_of X G xz4,W.mg_none_of X G xz5,W.mg_none_of X G xz6,W.mg_none_of X G xz7,W.mg_none_of X G xz8,W.mg_none_of X G xz9,W.mg_none_of X G xz10,W.mg_none_of X G xz11,W.mg_none_of X G xz12,W.mg_none_of X G xz13,W.mg_none_of X G xz14,W.mg_none_of X G xz15,W.mg_none_of X G xz16,W.mg_none_of X G xz17,W.mg_of X G xcMOST_ROOM,W.mg_of X G xcNOUGHT,fun H=>.inr ⟨_,_,_,xlNOUGHT,rfl,rfl,by show 2≤sizeLine;decide,.cons ⟨_,rfl⟩ (.cons ⟨_,rfl⟩ (.nil))⟩,W.mg_of X G xcWHOLE_SHARE,fun H=>.inr ⟨_,_,_,xlWHOLE_SHARE,rfl,rfl,by show 2≤sizeLine;decide,.cons ⟨_,rfl⟩ (.cons ⟨_,rfl⟩ (.nil))⟩,W.mg_of X G xcMOST_PIECES,W.mg_of X G xcNOTHING,fun H=>.inr ⟨_,_,_,xlNOTHING,rfl,rfl,by show 3≤sizeLine;decide,.cons ⟨_,rfl⟩ (.cons rfl (.cons rfl (.nil)))⟩,fun H=>.inr ⟨_,_,_,xeNOTHING_2,rfl,rfl,by show 0≤sizeLine;decide,.nil⟩⟩
 exact⟨_,fun s v=>.of_eq rfl,fun base _ _=>qP4 T⟩
theorem walk {l:W.OpenLaw}{q:Program}{loose:List Str}{XP:(Str→Option Value)→Heap→Prop}{YP:World→Heap→Prop}{d:DefRec}{K:Params→W.Frag}(hn:l.most=some 63)(hdf:d.params.defaults=[])
 (hY:∀ (w:World) (h:Heap),YP w h→(K w.params).In h)
 (F:∀ (w:World) (mg:Str→Option Value) (fa:Addr) (h:Heap),(K w.params).In h→h.Ns mainGlobals mg→mg d.name=some (.ref fa)→
   ∃ fd:FuncData,(∀ (s:Shared) (u:Value),BindsTo s fd ⟨[u],[]⟩ [("_law_script",u)])∧∀ base:Heap,(K w.params).In base→base.Ns mainGlobals mg→FnOk l.prog w (K w.params) mg base CX0 24 fa fd ["_law_script"] (qKu (K w.params))):
 W.WalkO q loose XP YP l.row.toRowW d [] (fun f vs=>PySem.call f vs):=
 L2.walk_of (n:=63) (k:=24) (x:="_law_script") (CX:=fun _=>CX0) (sp:=fun w=>qKu (K w.params)) hn (by decide) hdf ⟨rfl,by decide,by decide⟩ hY F (fun _ _ a ns hl _ hS=>⟨a,ns,rfl,hS,hl,fun _=>rfl⟩) fun _ _ _ _ _ z=>z
end Lw
namespace PySem.W.Fast
def tw5552163735581876352 := ()
def tw1021225460399911745 := ()
def tw7855070140588070979 := ()
def tw7607885475635603715 := ()
def tw9474554981906570244 := ()
def tw8715967305993514950 := ()
def tw8260122200309427591 := ()
def tw16147777061134368040 := ()
def tw606792435702701097 := ()
def tw17025042170132576425 := ()
def tw2663315681094925641 := ()
def tw5887379851318039920 := ()
def tw10601007345721409360 := ()
def tw6867575790243003186 := ()
def tw5919755331637394899 := ()
def tw3316565431889706455 := ()
def tw11609629854945309272 := ()
def tw11439252374822205177 := ()
def tw10466426792571355226 := ()
def tw14329554035418294810 := ()
def tw15349018545521245818 := ()
def tw12210137425068053403 := ()
def tw253578258058728062 := ()
def tw7904981954126303593 := ()
def tw7698130785063809776 := ()
def tw2127569058557481558 := ()
def tw9217737838228637091 := ()
def tw3922393954859148415 := ()
def tw13634936562204995546 := ()
def tw13438579425504789428 := ()
def tw903508204294282046 := ()
def tw5117303178722398523 := ()
def tw16024948204964335213 := ()
def tw7262528541811501534 := ()
def tw10795300923841675314 := ()
def tw11865256406303302364 := ()
def tw14650662496758169660 := ()
def tw17426733732727611796 := ()
def tw5282318689227295856 := ()
def tw4750922929967229897 := ()
def tw11985238710297826952 := ()
def tw11426779654910529332 := ()
def tw18086054469283286333 := ()
def tw15805389457578130711 := ()
def tw14490767489528694106 := ()
def tw13104234658289944451 := ()
def tw11782090782648536778 := ()
def tw17567280568377020474 := ()
def tw8159521745219552268 := ()
def tw8849297722269963113 := ()
def tw9502787908743349576 := ()
def tw1942676389357201833 := ()
def tw9079834254653440165 := ()
def tw16588938559756470624 := ()
def tw5389054026522370504 := ()
def tw16937080097958507617 := ()
def tw1800441962093653280 := ()
def tw16131079899880533962 := ()
def tw15044585844653465178 := ()
def tw13984292002230826633 := ()
def tw17423302245705539411 := ()
def tw5886514191542322918 := ()
def tw9299349955271250780 := ()
def tw10383441417398888726 := ()
def tw1511006871538296878 := ()
def tw15707556689927443138 := ()
def tw5562487676065781657 := ()
def tw5574866594982540334 := ()
def tw3529724220614010159 := ()
def tw13470654201931780752 := ()
def tw10592864418423123423 := ()
def tw9607569073094571500 := ()
def tw11357035298914387517 := ()
def tw3399334759773163191 := ()
def tw6053164317770698720 := ()
def tw17111078097194267918 := ()
def tw13143104438324375171 := ()
def tw11477746020298302695 := ()
def tw3491960562807472743 := ()
def tw8410189257148273763 := ()
def tw16232819544339016120 := ()
def tw3661612797617997698 := ()
def tw6104294073307955635 := ()
def tw7056046998213837419 := ()
def tw5391913625039927783 := ()
def tw10204737301903852014 := ()
def tw4659267666966325013 := ()
def tw1430194172791654266 := ()
def tw5004204414831261509 := ()
def tw11089606245277916126 := ()
def tw10609860422164437910 := ()
def tw5485295038946770286 := ()
def tw15535952225725516315 := ()
def tw10928130399735292064 := ()
def tw14459042338617307689 := ()
def tw16982308299571371109 := ()
def tw3967368950449553751 := ()
def tw8546125892103479252 := ()
def tw11431565292739617928 := ()
def tw2756408118395797789 := ()
def tw3809394173833041840 := ()
def tw14300930754945797664 := ()
def tw1244784882047622909 := ()
def tw4199230322214072226 := ()
def tw15972824995790111791 := ()
def tw4263577469219302408 := ()
def tw1553182964565393880 := ()
def tw18137671902550348939 := ()
def tw15600681155935473760 := ()
def tw15045918574416036129 := ()
def tw11450580296337660692 := ()
def tw16818744515017956530 := ()
def tw371097736148040159 := ()
def tw4579400492064518447 := ()
def tw4811941069576353187 := ()
def tw15748532021904333715 := ()
def tw2706973664631531251 := ()
def tw3362706748433837796 := ()
def tw1117475496741293983 := ()
def tw882807782777295582 := ()
def tw9316036028243303163 := ()
def tw7215602776451335720 := ()
def tw11167382814976744729 := ()
def tw11567882324698426987 := ()
def tw3039636507683327364 := ()
def tw13678040496729989261 := ()
def tw11385144533921238239 := ()
def tw17219021930511724474 := ()
def tw5379665177171638937 := ()
def tw8421781638803968230 := ()
def tw14237147149355060853 := ()
def tw12714178501736612741 := ()
def tw15590860465623684271 := ()
def tw7671183020185680832 := ()
def tw5736798728944457873 := ()
def tw2141475500642296627 := ()
def tw10514268813276242903 := ()
def tw18175242238869514976 := ()
def tw8275277941766974087 := ()
def tw12869611643552173718 := ()
def tw7904556804117425166 := ()
def tw2119825480179152200 := ()
def tw11019815481179105174 := ()
def tw949136742421007426 := ()
def tw16164000745729620426 := ()
def tw15460718468710825338 := ()
def tw10594229926178937382 := ()
def tw18394763946999542717 := ()
def tw11983239851506390558 := ()
def tw13694048728382353774 := ()
def tw17339719216922854307 := ()
def tw5310435531446026740 := ()
def tw15318607093441299559 := ()
def tw10210261310511319835 := ()
def tw6034543535839540186 := ()
def tw11313861463641658775 := ()
def tw12118018804594838854 := ()
def tw3252137352522654351 := ()
def tw3779344463590474765 := ()
def tw9591266735689811520 := ()
def tw16834289665909519103 := ()
def tw6637104310220068357 := ()
def tw10496681747781335022 := ()
def tw5537017907349078742 := ()
def tw9308141310528530274 := ()
def tw4132115459222780688 := ()
def tw623820143053049720 := ()
def tw12088715789164583007 := ()
def tw5046380305649288574 := ()
def tw968111863424247647 := ()
def tw12861662640151685680 := ()
def tw14310067613849234105 := ()
def tw7770649819375301399 := ()
def tw9558090372438333932 := ()
def tw10319096745697019254 := ()
def tw5252978083410533792 := ()
def tw13857129458104438561 := ()
def tw4373506932298792412 := ()
def tw11858325938308859929 := ()
def tw3787202711745151733 := ()
def tw16200612499894997222 := ()
def tw15594798659065911316 := ()
def tw15858451999920431930 := ()
def tw664071971188688163 := ()
def tw10653361837788720931 := ()
end PySem.W.Fast
open PySem PySem.W PyProof.Rows
set_option maxRecDepth 100000 in
set_option maxHeartbeats 0 in
theorem PySem.Challenge.cw_reelcut_k61_flat_one_table_holds : PySem.Challenge.rw_reelcut_k61_flat_one_table.Holds := by
 w_on;o_law;k_head;(case hw=>w_witness2)
 k_fill
 refine Lw.walk (l:=PySem.Challenge.rw_reelcut_k61_flat_one_table) rfl rfl (fun w h Y=>PySem.W.kIn_of Y) ?F
 case F=>
  intro w mg fa h KX G hmg
  refine' Lw.all_mk KX G hmg (Lw.df_mk ?a0 ?l0 ?c0 ?k0) (Lw.df_mk ?a1 ?l1 ?c1 ?k1) (Lw.df_mk ?a2 ?l2 ?c2 ?k2) (Lw.df_mk ?a3 ?l3 ?c3 ?k3) (Lw.df_mk ?a4 ?l4 ?c4 ?k4) (Lw.df_mk ?a5 ?l5 ?c5 ?k5) (Lw.df_mk ?a6 ?l6 ?c6 ?k6) (Lw.df_mk ?a7 ?l7 ?c7 ?k7) (Lw.df_mk ?a8 ?l8 ?c8 ?k8) (Lw.df_mk ?a9 ?l9 ?c9 ?k9) (Lw.df_mk ?a10 ?l10 ?c10 ?k10) (Lw.df_mk ?a11 ?l11 ?c11 ?k11) (Lw.df_mk ?a12 ?l12 ?c12 ?k12) (Lw.df_mk ?a13 ?l13 ?c13 ?k13) (Lw.df_mk ?a14 ?l14 ?c14 ?k14) (Lw.df_mk ?a15 ?l15 ?c15 ?k15) (Lw.df_mk ?a16 ?l16 ?c16 ?k16) (Lw.df_mk ?a17 ?l17 ?c17 ?k17) (Lw.df_mk ?a18 ?l18 ?c18 ?k18) (Lw.df_mk ?a19 ?l19 ?c19 ?k19) (Lw.df_mk ?a20 ?l20 ?c20 ?k20) (Lw.df_mk ?a21 ?l21 ?c21 ?k21) (Lw.df_mk ?a22 ?l22 ?c22 ?k22) (Lw.df_mk ?a23 ?l23 ?c23 ?k23) (Lw.df_mk ?a24 ?l24 ?c24 ?k24) (Lw.df_mk ?a25 ?l25 ?c25 ?k25) (Lw.df_mk ?a26 ?l26 ?c26 ?k26) (Lw.df_mk ?a27 ?l27 ?c27 ?k27) (Lw.df_mk ?a28 ?l28 ?c28 ?k28) (Lw.df_mk ?a29 ?l29 ?c29 ?k29) (Lw.df_mk ?a30 ?l30 ?c30 ?k30) (Lw.df_mk ?a31 ?l31 ?c31 ?k31) (Lw.df_mk ?a32 ?l32 ?c32 ?k32) (Lw.df_mk ?a33 ?l33 ?c33 ?k33) (Lw.df_mk ?a34 ?l34 ?c34 ?k34) (Lw.df_mk ?a35 ?l35 ?c35 ?k35) (Lw.df_mk ?a36 ?l36 ?c36 ?k36) (Lw.df_mk ?a37 ?l37 ?c37 ?k37) (Lw.df_mk ?a38 ?l38 ?c38 ?k38) (Lw.df_mk ?a39 ?l39 ?c39 ?k39) (Lw.df_mk ?a40 ?l40 ?c40 ?k40) (Lw.df_mk ?a41 ?l41 ?c41 ?k41) (Lw.df_mk ?a42 ?l42 ?c42 ?k42) (Lw.df_mk ?a43 ?l43 ?c43 ?k43) (Lw.df_mk ?a44 ?l44 ?c44 ?k44) (Lw.df_mk ?a45 ?l45 ?c45 ?k45) (Lw.df_mk ?a46 ?l46 ?c46 ?k46) (Lw.df_mk ?a47 ?l47 ?c47 ?k47) (Lw.df_mk ?a48 ?l48 ?c48 ?k48) (Lw.df_mk ?a49 ?l49 ?c49 ?k49) (Lw.df_mk ?a50 ?l50 ?c50 ?k50) (Lw.df_mk ?a51 ?l51 ?c51 ?k51) (Lw.df_mk ?a52 ?l52 ?c52 ?k52) (Lw.df_mk ?a53 ?l53 ?c53 ?k53) (Lw.df_mk ?a54 ?l54 ?c54 ?k54) (Lw.df_mk ?a55 ?l55 ?c55 ?k55) (Lw.df_mk ?a56 ?l56 ?c56 ?k56) (Lw.gl_mk ?xg0) (Lw.gl_mk ?xg1) (Lw.gl_mk ?xg2) (Lw.gl_mk ?xg3) (Lw.gl_mk ?xz0) (Lw.gl_mk ?xz1) (Lw.gl_mk ?xz2) (Lw.gl_mk ?xz3) (Lw.gl_mk ?xz4) (Lw.gl_mk ?xz5) (Lw.gl_mk ?xz6) (Lw.gl_mk ?xz7) (Lw.gl_mk ?xz8) (Lw.gl_mk ?xz9) (Lw.gl_mk ?xz10) (Lw.gl_mk ?xz11) (Lw.gl_mk ?xz12) (Lw.gl_mk ?xz13) (Lw.gl_mk ?xz14) (Lw.gl_mk ?xz15) (Lw.gl_mk ?xz16) (Lw.gl_mk ?xz17) (Lw.gl_mk ?xcMOST_ROOM) (Lw.gl_mk ?xcNOUGHT) ?xlNOUGHT (Lw.gl_mk ?xcWHOLE_SHARE) ?xlWHOLE_SHARE (Lw.gl_mk ?xcMOST_PIECES) (Lw.gl_mk ?xcNOTHING) ?xlNOTHING ?xeNOTHING_2
  (case a0 | l0 | c0 | k0 | a1 | l1 | c1 | k1 | a2 | l2 | c2 | k2 | a3 | l3 | c3 | k3 | a4 | l4 | c4 | k4 | a5 | l5 | c5 | k5 | a6 | l6 | c6 | k6 | a7 | l7 | c7 | k7 | a8 | l8 | c8 | k8 | a9 | l9 | c9 | k9 | a10 | l10 | c10 | k10 | a11 | l11 | c11 | k11 | a12 | l12 | c12 | k12 | a13 | l13 | c13 | k13 | a14 | l14 | c14 | k14 | a15 | l15 | c15 | k15 | a16 | l16 | c16 | k16 | a17 | l17 | c17 | k17 | a18 | l18 | c18 | k18 | a19 | l19 | c19 | k19 | a20 | l20 | c20 | k20 | a21 | l21 | c21 | k21 | a22 | l22 | c22 | k22 | a23 | l23 | c23 | k23 | a24 | l24 | c24 | k24 | a25 | l25 | c25 | k25 | a26 | l26 | c26 | k26 | a27 | l27 | c27 | k27 | a28 | l28 | c28 | k28 | a29 | l29 | c29 | k29 | a30 | l30 | c30 | k30 | a31 | l31 | c31 | k31 | a32 | l32 | c32 | k32 | a33 | l33 | c33 | k33 | a34 | l34 | c34 | k34 | a35 | l35 | c35 | k35 | a36 | l36 | c36 | k36 | a37 | l37 | c37 | k37 | a38 | l38 | c38 | k38 | a39 | l39 | c39 | k39 | a40 | l40 | c40 | k40 | a41 | l41 | c41 | k41 | a42 | l42 | c42 | k42 | a43 | l43 | c43 | k43 | a44 | l44 | c44 | k44 | a45 | l45 | c45 | k45 | a46 | l46 | c46 | k46 | a47 | l47 | c47 | k47 | a48 | l48 | c48 | k48 | a49 | l49 | c49 | k49 | a50 | l50 | c50 | k50 | a51 | l51 | c51 | k51 | a52 | l52 | c52 | k52 | a53 | l53 | c53 | k53 | a54 | l54 | c54 | k54 | a55 | l55 | c55 | k55 | a56 | l56 | c56 | k56 | xg0 | xg1 | xg2 | xg3 | xz0 | xz1 | xz2 | xz3 | xz4 | xz5 | xz6 | xz7 | xz8 | xz9 | xz10 | xz11 | xz12 | xz13 | xz14 | xz15 | xz16 | xz17 | xcMOST_ROOM | xcNOUGHT | xlNOUGHT | xcWHOLE_SHARE | xlWHOLE_SHARE | xcMOST_PIECES | xcNOTHING | xlNOTHING | xeNOTHING_2=>k_is)

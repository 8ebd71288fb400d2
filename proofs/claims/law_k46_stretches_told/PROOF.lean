import PyProof.Rows.All
import Wide.All
import OpenK.AllK
import Wide.FinOn
import Lean
import PyProof.EqAt
import PyProof.EqKinds
import PyProof.TupleCall
import PyProof.StrLawsTight
import KE.KIntText
import KE.KxPart
import PySem.Challenge.RW_reelcut_k46_stretches_told
set_option maxHeartbeats 4000000
set_option Elab.async false
set_option linter.all false
set_option maxRecDepth 100000
namespace L2
open PySem PySem.Spec PyProof.Rows
abbrev Key:=Sum Int Str
def qLu:Key→Value→Bool
 | .inl k,v=>Value.isInt k v
 | .inr x,v=>Value.isStrOf x v
def qWc (w:World):Key→Int
 | .inl k=>hashInt k
 | .inr x=>hashStr w x
theorem jZ:∀ {k:Key} {v:Value},qLu k v=true→(∃ i t,k=Sum.inl i∧v=Value.int i t)∨(∃ x t,k=Sum.inr x∧v=Value.str x t)
 | .inl i,v,h=>by
  obtain⟨t,e⟩:=Value.isInt_shape (k:=i) (v:=v) h
  exact .inl ⟨i,t,rfl,e⟩
 | .inr x,v,h=>by
  obtain⟨t,e⟩:=Value.isStrOf_shape (x:=x) (v:=v) h
  exact .inr ⟨x,t,rfl,e⟩
theorem qNc (i:Int)(t:Tok):qLu (.inl i) (.int i t)=true:=by simp [qLu,Value.isInt]
theorem qNi (x:Str)(t:Tok):qLu (.inr x) (.str x t)=true:=by simp [qLu,Value.isStrOf]
theorem qSq (a b:Int):decide ((Sum.inl a:Key)=Sum.inl b)=(a == b):=by
 by_cases e:a=b
 · subst e;simp
 · have h:¬ (Sum.inl a:Key)=Sum.inl b:=fun q=>e (Sum.inl.inj q)
   rw [decide_eq_false h]
   exact(beq_eq_false_iff_ne.mpr e).symm
theorem qTl (a b:Str):decide ((Sum.inr a:Key)=Sum.inr b)=decide (a=b):=by
 by_cases e:a=b
 · subst e;simp
 · have h:¬ (Sum.inr a:Key)=Sum.inr b:=fun q=>e (Sum.inr.inj q)
   rw [decide_eq_false h,decide_eq_false e]
theorem qTn (a:Int)(b:Str):decide ((Sum.inl a:Key)=Sum.inr b)=false:=decide_eq_false (fun q=>nomatch q)
theorem qTz (a:Str)(b:Int):decide ((Sum.inr a:Key)=Sum.inl b)=false:=decide_eq_false (fun q=>nomatch q)
def xN (prog:Program)(w:World):PySem.KeyKind prog w Key where
 is:=qLu
 hash:=qWc w
 inj:=fun v a b ha hb=>by
  rcases jZ ha with ⟨i,t,rfl,rfl⟩ | ⟨x,t,rfl,rfl⟩
  · rcases jZ hb with ⟨j,u,rfl,e⟩ | ⟨y,u,rfl,e⟩
    · injection e with e1 _;rw [e1]
    · exact nomatch e
  · rcases jZ hb with ⟨j,u,rfl,e⟩ | ⟨y,u,rfl,e⟩
    · exact nomatch e
    · injection e with e1 _;rw [e1]
 byValue:=fun k v h=>by
  rcases jZ h with ⟨i,t,rfl,rfl⟩ | ⟨x,t,rfl,rfl⟩ <;> rfl
 pyHash:=fun hv h=>by
  rcases jZ hv with ⟨i,t,rfl,rfl⟩ | ⟨x,t,rfl,rfl⟩
  · exact wpAny_pyHash_int h
  · exact wpAny_pyHash_str h
 eqBool:=fun hu hv h=>by
  rcases jZ hu with ⟨i,t,rfl,rfl⟩ | ⟨x,t,rfl,rfl⟩
  · rcases jZ hv with ⟨j,u,rfl,rfl⟩ | ⟨y,u,rfl,rfl⟩
    · rw [qSq] at h;exact wpAny_eqBool_int h
    · rw [qTn] at h;exact SeqAt.EqAt.int_str i t y u _ _ _ _ h
  · rcases jZ hv with ⟨j,u,rfl,rfl⟩ | ⟨y,u,rfl,rfl⟩
    · rw [qTz] at h;exact SeqAt.EqAt.str_int x t j u _ _ _ _ h
    · rw [qTl] at h;exact wpAny_eqBool_str h
 «strs»:=fun k x t v h=>by
  rcases jZ h with ⟨i,u,rfl,e⟩ | ⟨y,u,rfl,e⟩
  · exact nomatch e
  · injection e with e1 _
    subst e1
    cases v <;> rfl
theorem qJa (prog:Program)(w:World)(i:Int)(t:Tok):(xN prog w).is (.inl i) (.int i t)=true:=qNc i t
theorem qJp (prog:Program)(w:World)(x:Str)(t:Tok):(xN prog w).is (.inr x) (.str x t)=true:=qNi x t
end L2
namespace L2
open PySem PySem.Spec PyProof.Rows
inductive V where
 | non | bl (b:Bool) | int (i:Int) | str (x:Str) | byt (b:Array UInt8) | flt (b:UInt64) | ref (a:Addr) | ty (n:String)
 deriving DecidableEq
def RelV:V→Value→Prop
 | .non,u=>u=Value.none
 | .bl b,u=>u=Value.bool b
 | .int i,u=>∃ t,u=Value.int i t
 | .str x,u=>∃ t,u=Value.str x t
 | .byt b,u=>∃ t,u=Value.bytes b t
 | .flt b,u=>∃ t,u=Value.float b t
 | .ref a,u=>u=Value.ref a
 | .ty n,u=>u=Value.type n
abbrev Vals:List V→List Value→Prop:=Paired RelV
theorem Vals.length {xs:List V}{us:List Value}(r:Vals xs us):xs.length=us.length:=Paired.length r
theorem Vals.get:∀ {xs:List V} {us:List Value} {i:Nat} {x:V},Vals xs us→xs[i]? =some x→∃ u,us[i]? =some u∧RelV x u
 | _,_,_,_,.nil,e=>by simp at e
 | _,_,0,_,.cons r _,e=>by simp at e;subst e;exact⟨_,rfl,r⟩
 | _,_,i+1,x,.cons _ t,e=>by
  obtain⟨u,h1,h2⟩:=Vals.get (i:=i) (x:=x) t (by simpa using e)
  exact⟨u,by simpa using h1,h2⟩
theorem Vals.set {x:V}{u:Value}(r:RelV x u):∀ {xs:List V} {us:List Value} (i:Nat),Vals xs us→Vals (xs.set i x) (us.set i u)
 | _,_,_,.nil=>.nil
 | _,_,0,.cons _ t=>.cons r t
 | _,_,i+1,.cons q t=>.cons q (Vals.set r i t)
theorem Vals.append:∀ {xs ys:List V} {us ws:List Value},Vals xs us→Vals ys ws→Vals (xs++ys) (us++ws)
 | _,_,_,_,.nil,s=>s
 | _,_,_,_,.cons r t,s=>.cons r (Vals.append t s)
theorem Vals.take:∀ {xs:List V} {us:List Value} (n:Nat),Vals xs us→Vals (xs.take n) (us.take n)
 | _,_,0,_=>.nil
 | _,_,_+1,.nil=>.nil
 | _,_,n+1,.cons r t=>.cons r (Vals.take n t)
theorem Vals.drop:∀ {xs:List V} {us:List Value} (n:Nat),Vals xs us→Vals (xs.drop n) (us.drop n)
 | _,_,0,r=>r
 | _,_,_+1,.nil=>.nil
 | _,_,n+1,.cons _ t=>Vals.drop n t
def RelO:Option V→Option Value→Prop
 | some v,some u=>RelV v u
 | none,none=>True
 | _,_=>False
def KV {κ:Type}:List (κ × V)→List (κ × Value)→Prop:=Paired fun(p:κ × V) (q:κ × Value)=>p.1=q.1∧RelV p.2 q.2
def kV:Key→V
 | .inl i=>.int i
 | .inr x=>.str x
inductive HO where
 | lst (xs:List V)
 | tup (xs:List V)
 | dK (kvs:List (Key × V)) | dT (kvs:List (List Key × V))
 | set (S:Int→Bool) (n:Nat)
 | ins (C dx:Addr) (fs:List (Str × V))
 | own (x:Addr)
 | xd (fs:List (Str × V))
 | met (f x:Addr)
 | rng (lo hi:Int)
 | frz (o:Obj) (u:HO)
 | tbl (ps:Array Value)
 | ext (φ:Heap→Prop)
abbrev Hp:=Addr→Option HO
def upd (H:Hp)(a:Addr)(o:HO):Hp:=fun b=>if b=a then some o else H b
theorem qB {H:Hp}{a:Addr}{o:HO}:upd H a o a=some o:=by unfold upd;rw [if_pos rfl]
theorem qW {H:Hp}{a b:Addr}{o:HO}(h:b≠a):upd H a o b=H b:=by unfold upd;rw [if_neg h]
theorem qKg {H:Hp}{a:Addr}{o u:HO}:upd (upd H a o) a u=upd H a u:=by
 funext b;unfold upd;split <;> rfl
theorem qJ9 {H:Hp}{a b:Addr}{o u:HO}(h:H a=some o)(h':H b=some u)(d:o≠u):a≠b:=by
 intro e;subst e;rw [h] at h';exact d (Option.some.inj h')
theorem qU {H:Hp}{a b:Addr}{o:HO}(h:H a=some o)(h':H b=none):a≠b:=by
 intro e;subst e;rw [h] at h';cases h'
section
variable (P : Program) (w : World)
def ObjOk (H:Hp)(h:Heap)(a:Addr):HO→Prop
 | .lst xs=>xs.length≤sizeLine∧∃ (its:List Value) (n:Nat),Vals xs its∧h.get? a=some {cls:=.type "list",data:=.seq its.toArray n}
 | .tup xs=>xs.length≤sizeLine∧∃ its:List Value,Vals xs its∧IsTup h a its.toArray
 | .dK kvs=>kvs.length≤sizeLine∧(a == sysModules)=false∧∃ vs,KV kvs vs∧h.DictOf (xN P w) a vs
 | .dT kvs=>kvs.length≤sizeLine∧(a == sysModules)=false∧∃ xs:List (List Key × Addr × Value),
  Paired (fun(p:List Key × V) (q:List Key × Addr × Value)=>p.1=q.1∧H q.2.1=some (.tup (p.1.map kV))∧RelV p.2 q.2.2) kvs xs∧
  ∃ o es ep,h.get? a=some o∧o.ExactDict∧o.data= .dict es ep∧es.toList=xs.map (entryOfKey (tupleKind (xN P w)))∧(xs.map (·.1)).Nodup
 | .set S n=>h.SetOf (intKind P w) a S n
 | .ins C dx fs=>H dx=some (.own a)∧fs.length≤1000∧dx≠a∧h.get? a=some (PySem.W.instObj C dx)∧
  ∃ mA,h.Ns1 dx mA∧(∀ f,RelO (fs.lookup f) (mA f))∧PySem.Within mA (fs.map (·.1))
 | .own _=>∃ o,h.get? a=some o
 | .xd fs=>∃ mA,h.Ns1 a mA∧∀ f,RelO (fs.lookup f) (mA f)
 | .rng lo hi=>∃ t u v,h.get? a=some {cls:=.type "range",data:=.fields #[.int lo t,.int hi u,.int 1 v]}
 | .frz o u=>h.get? a=some o∧ObjOk H h a u
 | .tbl ps=>h.get? a=some {cls:=.none,data:=.fields ps}
 | .met f x=>h.get? a=some (PySem.W.methodObj (.ref f) (.ref x))
 | .ext φ=>φ h∧(∃ o,h.get? a=some o)∧∀ h1 h2:Heap,φ h1→(∀ o,h1.get? a=some o→h2.get? a=some o)→φ h2
def HOk (H:Hp)(h:Heap):Prop:=∀ a o,H a=some o→ObjOk P w H h a o
end
section
variable {P : Program} {w : World} {H H' : Hp} {h h' : Heap} {a : Addr} {o : HO}
theorem ObjOk.lt (x:ObjOk P w H h a o):a < h.objs.size:=by
 cases o with
 | lst xs=>obtain⟨_,_,_,_,e⟩:=x;exact Heap.lt_size e
 | tup xs=>obtain⟨_,_,_,p⟩:=x;exact p.lt
 | dK kvs=>obtain⟨_,_,_,_,o,_,_,e,_⟩:=x;exact Heap.lt_size e
 | dT kvs=>obtain⟨_,_,_,_,o,_,_,e,_⟩:=x;exact Heap.lt_size e
 | set S n=>obtain⟨o,_,_,_,e,_⟩:=x;exact Heap.lt_size e
 | ins C dx fs=>obtain⟨_,_,_,e,_⟩:=x;exact Heap.lt_size e
 | own y=>obtain⟨_,e⟩:=x;exact Heap.lt_size e
 | xd fs=>obtain⟨_,⟨_,_,_,e,_⟩,_⟩:=x;exact Heap.lt_size e
 | rng lo hi=>obtain⟨_,_,_,e⟩:=x;exact Heap.lt_size e
 | frz ob u=>obtain⟨e,_⟩:=x;exact Heap.lt_size e
 | tbl ps=>exact Heap.lt_size (show h.get? a=some _ from x)
 | met f y=>exact Heap.lt_size (show h.get? a=some _ from x)
 | ext φ=>obtain⟨_,⟨_,e⟩,_⟩:=x;exact Heap.lt_size e
theorem Paired.mapP {α β:Type}{F G:α→β→Prop}:∀ {l₁:List α} {l₂:List β},Paired F l₁ l₂→(∀ a b,F a b→G a b)→Paired G l₁ l₂
 | _,_,.nil,_=>.nil
 | _,_,.cons r t,f=>.cons (f _ _ r) (Paired.mapP t f)
theorem ObjOk.stay (x:ObjOk P w H h a o)(k:∀ b u,(b=a∨H b=some (.own a))→h.get? b=some u→h'.get? b=some u)
 (ho:∀ b,H b=some (.own a)→H' b=some (.own a)) (ht:∀ b xs,H b=some (.tup xs)→H' b=some (.tup xs)):ObjOk P w H' h' a o:=by
 induction o with
 | lst xs=>obtain⟨z,its,n,r,e⟩:=x;exact⟨z,its,n,r,k _ _ (.inl rfl) e⟩
 | tup xs=>obtain⟨z,its,r,ob,e,c⟩:=x;exact⟨z,its,r,ob,k _ _ (.inl rfl) e,c⟩
 | dK kvs=>obtain⟨z,y,vs,r,ob,es,ep,e,c⟩:=x;exact⟨z,y,vs,r,ob,es,ep,k _ _ (.inl rfl) e,c⟩
 | dT kvs=>
  obtain⟨z,y,xs,r,ob,es,ep,e,c⟩:=x
  exact⟨z,y,xs,Paired.mapP r fun p q z=>⟨z.1,ht _ _ z.2.1,z.2.2⟩,ob,es,ep,k _ _ (.inl rfl) e,c⟩
 | set S n=>obtain⟨ob,es,ep,t,e,c⟩:=x;exact⟨ob,es,ep,t,k _ _ (.inl rfl) e,c⟩
 | ins C dx fs=>
  obtain⟨d,z,ne,e,mA,⟨od,es,ep,e2,c⟩,r⟩:=x
  exact⟨ho _ d,z,ne,k _ _ (.inl rfl) e,mA,⟨od,es,ep,k _ _ (.inr d) e2,c⟩,r⟩
 | own y=>obtain⟨ob,e⟩:=x;exact⟨ob,k _ _ (.inl rfl) e⟩
 | xd fs=>obtain⟨mA,⟨od,es,ep,e,c⟩,r⟩:=x;exact⟨mA,⟨od,es,ep,k _ _ (.inl rfl) e,c⟩,r⟩
 | rng lo hi=>obtain⟨t,u,v,e⟩:=x;exact⟨t,u,v,k _ _ (.inl rfl) e⟩
 | frz ob u ih=>obtain⟨e,q⟩:=x;exact⟨k _ _ (.inl rfl) e,ih q⟩
 | tbl ps=>
  have e:h.get? a=some {cls:=.none,data:=.fields ps}:=x
  show h'.get? a=some {cls:=.none,data:=.fields ps}
  exact k a _ (.inl rfl) e
 | met f y=>
  have e:h.get? a=some (PySem.W.methodObj (.ref f) (.ref y)):=x
  show h'.get? a=some (PySem.W.methodObj (.ref f) (.ref y))
  exact k a _ (.inl rfl) e
 | ext φ=>obtain⟨p,⟨o,e⟩,st⟩:=x;exact⟨st _ _ p fun o q=>k _ _ (.inl rfl) q,⟨o,k _ _ (.inl rfl) e⟩,st⟩
theorem HOk.lt (x:HOk P w H h)(e:H a=some o):a < h.objs.size:=(x a o e).lt
theorem HOk.fresh (x:HOk P w H h)(e:h.objs.size≤a):H a=none:=by
 cases q:H a with
 | none=>rfl
 | some u=>exact absurd (Nat.lt_of_lt_of_le (x.lt q) e) (Nat.lt_irrefl _)
theorem HOk.kept (x:HOk P w H h)(k:∀ b u,h.get? b=some u→h'.get? b=some u):HOk P w H h':=fun a o e=>
 (x a o e).stay (fun b u _ q=>k b u q) (fun _ q=>q) fun _ _ q=>q
theorem HOk.laid (x:HOk P w H h)(k:∀ b u,h.get? b=some u→h'.get? b=some u)(hp:h.objs.size≤a)(new:ObjOk P w (upd H a o) h' a o):HOk P w (upd H a o) h':=fun b u e=>by
 have hn:=x.fresh hp
 by_cases hb:b=a
 · subst hb;rw [qB] at e;cases e;exact new
 · rw [qW hb] at e
   exact(x b u e).stay (fun c v _ q=>k c v q) (fun c q=>by rw [qW (qU q hn)];exact q) fun c xs q=>by rw [qW (qU q hn)];exact q
end
def Rd (H:Hp)(a:Addr)(u:HO):Prop:=H a=some u∨∃ o,H a=some (.frz o u)
theorem Rd.ok {P:Program}{w:World}{H:Hp}{h:Heap}{a:Addr}{u:HO}(r:Rd H a u)(x:HOk P w H h):ObjOk P w H h a u:=by
 rcases r with r | ⟨o,r⟩
 · exact x a u r
 · obtain⟨_,q⟩:=x a _ r
   exact q
def Mut:Option HO→Prop
 | some (.lst _)=>True
 | some (.dK _)=>True
 | some (.dT _)=>True
 | some (.set _ _)=>True
 | some (.ins _ _ _)=>True
 | some (.ext _)=>True
 | _=>False
section
variable {P : Program} {w : World} {H : Hp} {h h' : Heap} {x e : Addr} {o' : HO}
theorem HOk.write (ok:HOk P w H h)(mu:Mut (H x))(he:e=x∨H e=some (.own x))(k:∀ b u,b≠e→h.get? b=some u→h'.get? b=some u)(heo:∃ u,h'.get? e=some u)
 (new:ObjOk P w (upd H x o') h' x o'):HOk P w (upd H x o') h':=fun b u q=>by
 have nown:∀ c y,H c=some (.own y)→c≠x:=fun c y r z=>by subst z;rw [r] at mu;exact mu
 have ntup:∀ c xs,H c=some (.tup xs)→c≠x:=fun c xs r z=>by subst z;rw [r] at mu;exact mu
 by_cases hb:b=x
 · subst hb;rw [qB] at q;cases q;exact new
 · rw [qW hb] at q
   by_cases hbe:b=e
   · have q':H b=some (.own x):=by
      rcases he with z | z
      · exact absurd (hbe.trans z) hb
      · rw [hbe];exact z
     rw [q] at q';cases q'
     obtain⟨v,hv⟩:=heo
     exact⟨v,by rw [hbe];exact hv⟩
   · refine(ok b u q).stay (fun c v hc r=>k c v ?_ r) (fun c r=>by rw [qW (nown c b r)];exact r) fun c xs r=>by rw [qW (ntup c xs r)];exact r
     rcases hc with rfl | hc
     · exact hbe
     · rintro rfl
       rcases he with z | z
       · exact nown c b hc z
       · rw [hc] at z;cases z;exact hb rfl
end
structure Un (fs ex:List Addr)(H H':Hp)(h h':Heap):Prop where
 keep:∀ b o,h.get? b=some o→H b=none→b ∉ fs→b ∉ ex→h'.get? b=some o
 slot:∀ b o,h.get? b=some o→H b=none→b∈fs→b ∉ ex→∃ sl,h'.get? b=some {o with slots:=sl}
 free:∀ b o,h.get? b=some o→H b=none→b ∉ ex→H' b=none
 there:∀ b o,h.get? b=some o→b ∉ ex→∃ o',h'.get? b=some o'
 tups:∀ b xs,H b=some (.tup xs)→H' b=some (.tup xs)
 frzs:∀ b o u,H b=some (.frz o u)→H' b=some (.frz o u)
 tbls:∀ b ps,H b=some (.tbl ps)→∃ more,H' b=some (.tbl (ps++more))
section
variable {fs fs' ex ex' : List Addr} {H H1 H2 : Hp} {h h1 h2 h' : Heap} {a x e : Addr} {o : HO}
theorem Un.any (u:Un fs ex H H1 h h1){b:Addr}{ob:Obj}(q:h.get? b=some ob)(n:H b=none)(hx:b ∉ ex):∃ sl,h1.get? b=some {ob with slots:=sl}:=by
 by_cases hb:b∈fs
 · exact u.slot b ob q n hb hx
 · exact⟨ob.slots,u.keep b ob q n hb hx⟩
theorem Un.trans (a:Un fs ex H H1 h h1)(b:Un fs ex H1 H2 h1 h2):Un fs ex H H2 h h2 where
 keep:=fun c ob q n hc hx=>b.keep c ob (a.keep c ob q n hc hx) (a.free c ob q n hx) hc hx
 slot:=fun c ob q n hc hx=>by
  obtain⟨sl,e1⟩:=a.slot c ob q n hc hx
  obtain⟨sl',e2⟩:=b.slot c _ e1 (a.free c ob q n hx) hc hx
  exact⟨sl',e2⟩
 free:=fun c ob q n hx=>by
  obtain⟨o',e1⟩:=a.there c ob q hx
  exact b.free c o' e1 (a.free c ob q n hx) hx
 there:=fun c ob q hx=>by
  obtain⟨o',e1⟩:=a.there c ob q hx
  exact b.there c o' e1 hx
 tups:=fun c xs q=>b.tups c xs (a.tups c xs q)
 frzs:=fun c ob xs q=>b.frzs c ob xs (a.frzs c ob xs q)
 tbls:=fun c ps q=>by
  obtain⟨m1,e1⟩:=a.tbls c ps q
  obtain⟨m2,e2⟩:=b.tbls c _ e1
  exact⟨m1++m2,by rw [e2,Array.append_assoc]⟩
theorem Un.kept (k:∀ b u,h.get? b=some u→h'.get? b=some u):Un fs ex H H h h':=
 ⟨fun b ob q _ _ _=>k b ob q,fun b ob q _ _ _=>⟨ob.slots,k b ob q⟩,fun _ _ _ n _=>n,fun b ob q _=>⟨ob,k b ob q⟩,fun _ _ q=>q,fun _ _ _ q=>q,fun _ ps q=>⟨#[],by rw [q];simp⟩⟩
theorem Un.refl:Un fs ex H H h h:=Un.kept fun _ _ q=>q
theorem Un.laid (k:∀ b u,h.get? b=some u→h'.get? b=some u)(hp:h.objs.size≤a)(hn:H a=none):Un fs ex H (upd H a o) h h' where
 keep:=fun b u q _ _ _=>k b u q
 slot:=fun b u q _ _ _=>⟨u.slots,k b u q⟩
 free:=fun b u q n _=>by rw [qW (Nat.ne_of_lt (Nat.lt_of_lt_of_le (Heap.lt_size q) hp))];exact n
 there:=fun b u q _=>⟨u,k b u q⟩
 tups:=fun b xs q=>by rw [qW (qU q hn)];exact q
 frzs:=fun b u xs q=>by rw [qW (qU q hn)];exact q
 tbls:=fun b ps q=>⟨#[],by rw [qW (qU q hn),q];simp⟩
theorem Un.write (mu:Mut (H x))(he:e=x∨H e=some (.own x))(k:∀ b u,b≠e→h.get? b=some u→h'.get? b=some u)(heo:∃ u,h'.get? e=some u):Un fs ex H (upd H x o) h h':=by
 have hx:∀ b,H b=none→b≠x:=fun b n z=>by subst z;rw [n] at mu;exact mu
 have hb:∀ b,H b=none→b≠e:=fun b n z=>by
  subst z
  rcases he with r | r
  · exact hx b n r
  · rw [n] at r;cases r
 have hm:∀ b u,H b=some u→¬ Mut (some u)→b≠x:=fun b u q nm z=>by subst z;rw [q] at mu;exact nm mu
 refine⟨fun b u q n _ _=>k b u (hb b n) q,fun b u q n _ _=>⟨u.slots,k b u (hb b n) q⟩,fun b u q n _=>by rw [qW (hx b n)];exact n,fun b u q _=>?_,
  fun b xs q=>by rw [qW (hm b _ q fun z=>z)];exact q,fun b u xs q=>by rw [qW (hm b _ q fun z=>z)];exact q,fun b ps q=>⟨#[],by rw [qW (hm b _ q fun z=>z),q];simp⟩⟩
 by_cases hbe:b=e
 · subst hbe;exact heo
 · exact⟨u,k b u hbe q⟩
end
def trk (h:Heap)(H:Hp):List Addr:=(List.range h.objs.size).filter fun a=>(H a).isSome
def qP8 (h:Heap)(H:Hp):Heap:=PySem.W.hideAll h (trk h H)
theorem qM9 (h:Heap)(H:Hp):(qP8 h H).objs.size=h.objs.size:=PySem.W.hideAll_size _ _
theorem qP7 {h:Heap}{H:Hp}{b:Addr}{o:Obj}(e:h.get? b=some o)(n:H b=none):(qP8 h H).get? b=some o:=
 PySem.W.hideAll_get _ e fun hm=>by
  have q:(H b).isSome=true:=(List.mem_filter.mp hm).2
  rw [n] at q;simp at q
theorem qR0 {h:Heap}{H:Hp}{b:Addr}{o:Obj}(e:(qP8 h H).get? b=some o):h.get? b=some o∧H b=none:=by
 have e':h.get? b=some o:=PySem.W.of_hideAll (trk h H) e
 refine⟨e',?_⟩
 cases q:H b with
 | none=>rfl
 | some x=>
  have hm:b∈trk h H:=List.mem_filter.mpr ⟨List.mem_range.mpr (Heap.lt_size e'),by simp [q]⟩
  have z:(qP8 h H).get? b=none:=PySem.W.hideAll_none (trk h H) hm
  rw [z] at e;cases e
def qSc (g h:Heap)(L:Addr):List (Addr × Obj):=(List.range h.objs.size).filterMap fun a=>if a=L∨(g.get? a).isSome=true then none else (h.get? a).map fun o=>(a,o)
def rest (g h:Heap)(L d:Addr):List (Addr × Obj):=(qSc g h L).filter fun p=>decide (p.1≠d)
end L2
namespace L2
open PySem PySem.Spec PyProof.Rows
structure Mod (K:PySem.W.Frag)(mg:Str→Option Value)(base:Heap):Prop where
 kin:K.In base
 glob:base.Ns mainGlobals mg
 blt:∃ mb,base.Ns builtinsNs mb∧∀ x:Str,x≠"__name__"→mb x=bootBuiltins x
 nolimit:base.NoLimit
structure Cx where
 prog:Program
 w:World
 K:PySem.W.Frag
 mg:Str→Option Value
 base:Heap
 A:Around
 N:List Str
 s₀:Shared
 H₀:Hp
 env:Env
 outer:List Env
 stack:List Env
 ex:List Addr
 fn:Str→Bool
 calm:Bool
 pn:List (Addr × Obj)
 xe:Value→Shared→Prop
def frs (l:List Env):List Addr:=l.filterMap (·.frame)
abbrev Cx.fs (X:Cx):List Addr:=frs X.outer
def Vis (sc:Scope)(x:Str):Prop:=sc.names.lookup x=some .local∨sc.names.lookup x=some .cell∨sc.names.lookup x=some .free
def Loc (sc:Scope)(x:Str):Prop:=sc.names.lookup x=some .local∨sc.names.lookup x=some .cell
def qWq (env:Env)(h:Heap)(m:Str→Option Value)(x:Str)(u:Value):Prop:=
 (env.kindOf x=some .local∧m x=some u)∨((env.kindOf x=some .cell∨env.kindOf x=some .free)∧∃ c,env.cells.lookup x=some c∧h.IsCell c (some u))
structure Cx.Ok (X:Cx):Prop where
 mod:Mod X.K X.mg X.base
 kind:X.env.scope.kind= .function
 glob:X.env.globals=mainGlobals
 blt:X.env.builtins=builtinsNs
 above:X.s₀.heap.objs.size≤X.env.locals
 inj:∀ x y c,X.env.cells.lookup x=some c→X.env.cells.lookup y=some c→x=y
 has:∀ x,(X.env.kindOf x=some .cell∨X.env.kindOf x=some .free)→∃ c,X.env.cells.lookup x=some c
 cab:∀ x c,X.fn x=true→X.env.cells.lookup x=some c→X.s₀.heap.objs.size≤c
 hd:X.calm=true→X.A.handled=none
 frames:X.A.frames=some X.stack
 stk:X.stack=X.outer∨(X.stack=X.env::X.outer∧X.env.frame=some X.env.locals)
 exf:∀ b∈X.ex,b≠X.env.locals∧∀ x c,X.env.cells.lookup x=some c→c≠b
 bs:∀ b o,X.base.get? b=some o→X.s₀.heap.get? b=some o∧X.H₀ b=none
 bsz:X.base.objs.size≤X.s₀.heap.objs.size
 noex:∀ b o,X.base.get? b=some o→b ∉ X.ex
 exfs:∀ b∈X.ex,b ∉ X.fs
 funs:X.s₀.heap.FunFrames X.base X.outer
 frf:∀ b∈X.fs,X.H₀ b=none
structure Inv (X:Cx)(pins:List (Addr × Obj))(σ:List (Option V))(H:Hp)(s:Shared):Prop where
 ok:X.Ok
 os:s.os=X.s₀.os
 bare:AllBare s.gens
 base:Un X.fs X.ex X.H₀ H X.s₀.heap s.heap
 loc:∃ m,s.heap.Ns X.env.locals m∧∀ (i:Nat) (x:Str) (v:V),X.N[i]? =some x→σ[i]? =some (some v)→Vis X.env.scope x→∃ u,RelV v u∧qWq X.env s.heap m x u
 cell:∀ x c,X.env.cells.lookup x=some c→∃ v,s.heap.IsCell c v
 free:H X.env.locals=none
 freeC:∀ x c,X.env.cells.lookup x=some c→H c=none
 pin:∀ p∈X.pn++pins,s.heap.get? p.1=some p.2∧H p.1=none∧p.1≠X.env.locals∧p.1 ∉ X.fs∧∀ v,p.2.data≠ .cell v
 hok:HOk X.prog X.w H s.heap
 len:σ.length=X.N.length
section
variable {X : Cx} {pins : List (Addr × Obj)} {σ : List (Option V)} {H H' : Hp} {s : Shared} {h' : Heap}
theorem Cx.Ok.nofr (ok:X.Ok){b:Addr}{o:Obj}(e:X.base.get? b=some o):b ∉ X.fs:=fun hb=>by
 have:=(ok.funs.mem hb).1
 rw [e] at this;cases this
theorem Inv.bs (I:Inv X pins σ H s):∀ b o,X.base.get? b=some o→s.heap.get? b=some o∧H b=none:=fun b o e=>
 ⟨I.base.keep b o (I.ok.bs b o e).1 (I.ok.bs b o e).2 (I.ok.nofr e) (I.ok.noex b o e),I.base.free b o (I.ok.bs b o e).1 (I.ok.bs b o e).2 (I.ok.noex b o e)⟩
theorem Inv.bk (I:Inv X pins σ H s):∀ b o,X.base.get? b=some o→s.heap.get? b=some o:=fun b o e=>(I.bs b o e).1
theorem Inv.mod (I:Inv X pins σ H s):Mod X.K X.mg X.base:=I.ok.mod
theorem Inv.kIn (I:Inv X pins σ H s):X.K.In s.heap:=I.ok.mod.kin.keeps I.bk
theorem Inv.nolimit (I:Inv X pins σ H s):s.heap.NoLimit:=I.ok.mod.nolimit.keeps I.bk
theorem Inv.fr (I:Inv X pins σ H s):∃ m,Fr X.base X.env.locals s.heap m:=
 let ⟨m,hn,_⟩:=I.loc
 ⟨m,hn,I.bk,Nat.le_trans I.ok.bsz I.ok.above⟩
theorem Inv.lt (I:Inv X pins σ H s):X.env.locals < s.heap.objs.size:=let ⟨_,hn,_⟩:=I.loc;hn.lt
theorem Inv.sz (I:Inv X pins σ H s):X.s₀.heap.objs.size≤s.heap.objs.size:=Nat.le_trans I.ok.above (Nat.le_of_lt I.lt)
theorem Inv.nofs (I:Inv X pins σ H s){a:Addr}(h:s.heap.objs.size≤a):a ∉ X.fs:=fun hb=>by
 obtain⟨_,o,ho,_⟩:=I.ok.funs.mem hb
 exact absurd (Nat.lt_of_lt_of_le (Heap.lt_size ho) (Nat.le_trans I.sz h)) (Nat.lt_irrefl _)
theorem Inv.cne (I:Inv X pins σ H s):∀ x c,X.env.cells.lookup x=some c→c≠X.env.locals:=fun x c e z=>by
 obtain⟨v,o,ho,hd⟩:=I.cell x c e
 obtain⟨m,⟨o',es,ep,ho',hd',_⟩,_⟩:=I.loc
 rw [z,ho'] at ho;cases ho;rw [hd'] at hd;cases hd
theorem Inv.funs (I:Inv X pins σ H s):s.heap.FunFrames X.base X.outer:=by
 have all:∀ (l:List Env),(∀ b∈frs l,b∈X.fs)→X.s₀.heap.FunFrames X.base l→s.heap.FunFrames X.base l:=by
  intro l
  induction l with
  | nil=>intro _ _;trivial
  | cons env r ih=>
   intro hs hl
   obtain⟨hk,⟨L,o,hf,hn,ho,hd⟩,hr⟩:=hl
   have hL:L∈X.fs:=hs L (by unfold frs;rw [List.filterMap_cons,hf];exact List.mem_cons_self)
   obtain⟨sl,e⟩:=I.base.slot L o ho (I.ok.frf L hL) hL fun z=>I.ok.exfs L z hL
   exact⟨hk,⟨L,_,hf,hn,e,hd⟩,ih (fun b hb=>hs b (by unfold frs;rw [List.filterMap_cons,hf];exact List.mem_cons_of_mem _ hb)) hr⟩
 exact all X.outer (fun _ hb=>hb) I.ok.funs
theorem Inv.stack (I:Inv X pins σ H s):s.heap.FunFrames X.base X.stack:=by
 rcases I.ok.stk with e | ⟨e,hf⟩
 · rw [e];exact I.funs
 · rw [e]
   obtain⟨m,hn,_⟩:=I.loc
   refine .cons (by rw [I.ok.kind];decide) hf hn ?_ I.funs
   exact Heap.get?_none_of_le (Nat.le_trans I.ok.bsz I.ok.above)
theorem Inv.stkSub (I:Inv X pins σ H s):∀ b∈frs X.stack,b∈X.env.locals::X.fs:=fun b hb=>by
 rcases I.ok.stk with e | ⟨e,hf⟩
 · rw [e] at hb;exact List.mem_cons_of_mem _ hb
 · rw [e] at hb
   unfold frs at hb
   rw [List.filterMap_cons,hf] at hb
   exact hb
theorem Inv.stkFree (I:Inv X pins σ H s):∀ b∈frs X.stack,H b=none:=fun b hb=>by
 rcases List.mem_cons.mp (I.stkSub b hb) with e | hb
 · rw [e];exact I.free
 · obtain⟨_,o,ho,_⟩:=I.ok.funs.mem hb
   exact I.base.free b o ho (I.ok.frf b hb) fun z=>I.ok.exfs b z hb
theorem Inv.step {g':Array GenState}{t':Nat}{d':Drawn}{ch:List Addr}(I:Inv X pins σ H s)
 (hch:∀ b∈ch,(b∈X.ex∨X.s₀.heap.objs.size≤b)∧b≠X.env.locals∧(∀ x c,X.env.cells.lookup x=some c→c≠b)∧∀ p∈X.pn++pins,p.1≠b)
 (keep:∀ b o,b≠X.env.locals→b ∉ X.fs→b ∉ ch→s.heap.get? b=some o→H b=none→h'.get? b=some o)
 (slot:∀ b o,b≠X.env.locals→b∈X.fs→b ∉ ch→s.heap.get? b=some o→H b=none→∃ sl,h'.get? b=some {o with slots:=sl}) (free:∀ b o,b ∉ ch→s.heap.get? b=some o→H b=none→H' b=none)
 (there:∀ b o,b ∉ ch→s.heap.get? b=some o→∃ o',h'.get? b=some o')
 (tups:∀ b xs,H b=some (.tup xs)→H' b=some (.tup xs)) (frzs:∀ b o u,H b=some (.frz o u)→H' b=some (.frz o u)) (tbls:∀ b ps,H b=some (.tbl ps)→∃ more,H' b=some (.tbl (ps++more)))
 (ns:∀ m,s.heap.Ns X.env.locals m→h'.Ns X.env.locals m) (hok:HOk X.prog X.w H' h') (hg:AllBare g'):
 Inv X pins σ H' {s with heap:=h',gens:=g',drawn:=d',toks:=t'}:=by
 have neL:∀ b o,X.s₀.heap.get? b=some o→b≠X.env.locals:=fun b o e=>Nat.ne_of_lt (Nat.lt_of_lt_of_le (Heap.lt_size e) I.ok.above)
 have neC:∀ b o,X.s₀.heap.get? b=some o→b ∉ X.ex→b ∉ ch:=fun b o e hx hb=>by
  rcases (hch b hb).1 with z | z
  · exact hx z
  · exact absurd (Nat.lt_of_lt_of_le (Heap.lt_size e) z) (Nat.lt_irrefl _)
 have cellK:∀ x c,X.env.cells.lookup x=some c→∀ v,s.heap.IsCell c v→h'.IsCell c v:=fun x c e v ⟨o,ho,hd⟩=>by
  have nch:c ∉ ch:=fun z=>(hch c z).2.2.1 x c e rfl
  by_cases hc:c∈X.fs
  · obtain⟨sl,q⟩:=slot c o (I.cne x c e) hc nch ho (I.freeC x c e)
    exact⟨_,q,hd⟩
  · exact⟨o,keep c o (I.cne x c e) hc nch ho (I.freeC x c e),hd⟩
 refine⟨I.ok,I.os,hg,⟨fun b o e n hb hx=>?_,fun b o e n hb hx=>?_,fun b o e n hx=>?_,fun b o e hx=>?_,fun b xs e=>tups b xs (I.base.tups b xs e),fun b o xs e=>frzs b o xs (I.base.frzs b o xs e),fun b ps e=>?_⟩,?_,fun x c e=>?_,?_,fun x c e=>?_,fun p hp=>?_,hok,I.len⟩
 · exact keep b o (neL b o e) hb (neC b o e hx) (I.base.keep b o e n hb hx) (I.base.free b o e n hx)
 · obtain⟨sl,e1⟩:=I.base.slot b o e n hb hx
   obtain⟨sl',e2⟩:=slot b _ (neL b o e) hb (neC b o e hx) e1 (I.base.free b o e n hx)
   exact⟨sl',e2⟩
 · obtain⟨o',e1⟩:=I.base.there b o e hx
   exact free b o' (neC b o e hx) e1 (I.base.free b o e n hx)
 · obtain⟨o',e1⟩:=I.base.there b o e hx
   exact there b o' (neC b o e hx) e1
 · obtain⟨m1,e1⟩:=I.base.tbls b ps e
   obtain⟨m2,e2⟩:=tbls b _ e1
   exact⟨m1++m2,by rw [e2,Array.append_assoc]⟩
 · obtain⟨m,hn,hl⟩:=I.loc
   refine⟨m,ns m hn,fun i x v e1 e2 e3=>?_⟩
   obtain⟨u,r,l⟩:=hl i x v e1 e2 e3
   refine⟨u,r,?_⟩
   rcases l with l | ⟨k,c,e,z⟩
   · exact .inl l
   · exact .inr ⟨k,c,e,cellK x c e _ z⟩
 · obtain⟨v,z⟩:=I.cell x c e
   exact⟨v,cellK x c e v z⟩
 · obtain⟨m,⟨o,_,_,ho,_⟩,_⟩:=I.loc
   exact free _ o (fun z=>(hch _ z).2.1 rfl) ho I.free
 · obtain⟨v,o,ho,hd⟩:=I.cell x c e
   exact free c o (fun z=>(hch c z).2.2.1 x c e rfl) ho (I.freeC x c e)
 · obtain⟨e,n,ne,nf,d⟩:=I.pin p hp
   have nch:p.1 ∉ ch:=fun z=>(hch p.1 z).2.2.2 p hp rfl
   exact⟨keep p.1 p.2 ne nf nch e n,free p.1 p.2 nch e n,ne,nf,d⟩
theorem Inv.un {t':Nat}(I:Inv X pins σ H s)(u:Un X.fs [] H H' s.heap h')(hok:HOk X.prog X.w H' h'):Inv X pins σ H' {s with heap:=h',toks:=t'}:=by
 obtain⟨m,⟨o,es,ep,ho,r⟩,_⟩:=id I.loc
 obtain⟨sl,hL⟩:=u.any ho I.free (by simp)
 exact I.step (g':=s.gens) (d':=s.drawn) (ch:=[]) (fun _ z=>nomatch z) (fun b o _ hb _ e n=>u.keep b o e n hb (by simp)) (fun b o _ hb _ e n=>u.slot b o e n hb (by simp)) (fun b o _ e n=>u.free b o e n (by simp)) (fun b o _ e=>u.there b o e (by simp)) u.tups u.frzs u.tbls (fun m' hm=>by
  obtain⟨o',es',ep',ho',r'⟩:=hm
  rw [ho] at ho';cases ho'
  exact⟨_,es',ep',hL,r'⟩) hok I.bare
theorem Inv.call {g':Array GenState}{t':Nat}{d':Drawn}{ch:List Addr}(I:Inv X pins σ H s)(u:Un (frs X.stack) ch H H' s.heap h')(hok:HOk X.prog X.w H' h')(hg:AllBare g')
 (hch:∀ b∈ch,(b∈X.ex∨X.s₀.heap.objs.size≤b)∧b≠X.env.locals∧(∀ x c,X.env.cells.lookup x=some c→c≠b)∧∀ p∈X.pn++pins,p.1≠b):
 Inv X pins σ H' {s with heap:=h',gens:=g',drawn:=d',toks:=t'}:=by
 obtain⟨m,⟨o,es,ep,ho,r⟩,_⟩:=id I.loc
 obtain⟨sl,hL⟩:=u.any ho I.free fun z=>(hch _ z).2.1 rfl
 exact I.step (ch:=ch) hch (fun b o hL hb hc e n=>u.keep b o e n (fun z=>(List.mem_cons.mp (I.stkSub b z)).elim hL hb) hc) (fun b o _ _ hc e n=>u.any e n hc) (fun b o hc e n=>u.free b o e n hc) (fun b o hc e=>u.there b o e hc) u.tups u.frzs u.tbls (fun m' hm=>by
  obtain⟨o',es',ep',ho',r'⟩:=hm
  rw [ho] at ho';cases ho'
  exact⟨_,es',ep',hL,r'⟩) hok hg
theorem Inv.turned {t':Nat}{it:Addr}(I:Inv X pins σ H s)(k:∀ b o,b≠it→s.heap.get? b=some o→h'.get? b=some o)(hn:H it=none)(hL:it≠X.env.locals)
 (h1:it∈X.ex∨X.s₀.heap.objs.size≤it) (h2:∀ x c,X.env.cells.lookup x=some c→c≠it) (h3:∀ p∈X.pn++pins,p.1≠it):Inv X pins σ H {s with heap:=h',toks:=t'}:=by
 have nit:∀ b u,H b=some u→b≠it:=fun b u e z=>by rw [z,hn] at e;cases e
 refine I.step (g':=s.gens) (d':=s.drawn) (ch:=[it]) (fun b hb=>?_) (fun b o _ _ hc e _=>k b o (fun z=>hc (by simp [z])) e) (fun b o _ _ hc e _=>⟨o.slots,k b o (fun z=>hc (by simp [z])) e⟩) (fun _ _ _ _ n=>n)
  (fun b o hc e=>⟨o,k b o (fun z=>hc (by simp [z])) e⟩) (fun _ _ e=>e) (fun _ _ _ e=>e) (fun b ps e=>⟨#[],by rw [e];simp⟩) (fun m hm=>?_) (fun b u e=>?_) I.bare
 · have e:b=it:=by simpa using hb
   subst e
   exact⟨h1,hL,h2,h3⟩
 · obtain⟨o,es,ep,ho,r⟩:=hm
   exact⟨o,es,ep,k _ o (Ne.symm hL) ho,r⟩
 · refine(I.hok b u e).stay (fun c v hc q=>k c v ?_ q) (fun _ q=>q) fun _ _ q=>q
   rcases hc with z | z
   · rw [z];exact nit b u e
   · exact nit c _ z
theorem Inv.tok (I:Inv X pins σ H s)(t:Nat):Inv X pins σ H {s with toks:=t}:=I.un (h':=s.heap) (t':=t) Un.refl I.hok
theorem Inv.kept {t':Nat}(I:Inv X pins σ H s)(k:∀ b u,s.heap.get? b=some u→h'.get? b=some u):Inv X pins σ H {s with heap:=h',toks:=t'}:=I.un (Un.kept k) (I.hok.kept k)
theorem Inv.laid {a:Addr}{o:HO}{t':Nat}(I:Inv X pins σ H s)(k:∀ b u,s.heap.get? b=some u→h'.get? b=some u)(hp:s.heap.objs.size≤a)(new:ObjOk X.prog X.w (upd H a o) h' a o):
 Inv X pins σ (upd H a o) {s with heap:=h',toks:=t'}:=I.un (Un.laid k hp (I.hok.fresh hp)) (I.hok.laid k hp new)
theorem Inv.write {x e:Addr}{o:HO}{t':Nat}(I:Inv X pins σ H s)(mu:Mut (H x))(he:e=x∨H e=some (.own x))(k:∀ b u,b≠e→s.heap.get? b=some u→h'.get? b=some u)(heo:∃ u,h'.get? e=some u)
 (new:ObjOk X.prog X.w (upd H x o) h' x o):Inv X pins σ (upd H x o) {s with heap:=h',toks:=t'}:=I.un (Un.write mu he k heo) (I.hok.write mu he k heo new)
theorem Inv.weak {σ':List (Option V)}(I:Inv X pins σ H s)(hl:σ'.length=σ.length)(w:∀ (i:Nat) v,σ'[i]? =some (some v)→σ[i]? =some (some v)):Inv X pins σ' H s:=
 ⟨I.ok,I.os,I.bare,I.base,let ⟨m,hn,hl'⟩:=I.loc;⟨m,hn,fun i x v e1 e2 e3=>hl' i x v e1 (w i v e2) e3⟩,I.cell,I.free,I.freeC,I.pin,I.hok,hl.trans I.len⟩
theorem Inv.pins_of {pins':List (Addr × Obj)}(I:Inv X pins σ H s)(h:∀ p∈pins',s.heap.get? p.1=some p.2∧H p.1=none∧p.1≠X.env.locals∧p.1 ∉ X.fs∧∀ v,p.2.data≠ .cell v):Inv X pins' σ H s:=
 ⟨I.ok,I.os,I.bare,I.base,I.loc,I.cell,I.free,I.freeC,fun p hp=>(List.mem_append.mp hp).elim (fun z=>I.pin p (List.mem_append_left _ z)) (h p),I.hok,I.len⟩
theorem qFj {N:List Str}(hN:N.Nodup){i j:Nat}{x:Str}(a:N[i]? =some x)(b:N[j]? =some x):i=j:=by
 obtain⟨h1,e1⟩:=List.getElem?_eq_some_iff.mp a
 obtain⟨h2,e2⟩:=List.getElem?_eq_some_iff.mp b
 exact(List.getElem_inj hN).mp (e1.trans e2.symm)
theorem qIx {M:Model}{A:Around}{E:Value→Shared→Prop}{i:Nat}{x:Str}{v:V}{u:Value}{Q:Unit→Shared→Prop}(I:Inv X pins σ H s)(hN:X.N.Nodup)(hi:X.N[i]? =some x)(hx:Loc X.env.scope x)(r:RelV v u)
 (h:∀ s',Inv X pins (σ.set i (some v)) H s'→(∃ a,Heap.SameBut a s.heap s'.heap∧(a=X.env.locals∨X.env.cells.lookup x=some a))→Q () s') (hf:X.fn x=true∨X.env.scope.names.lookup x=some .local:=by first | exact .inl rfl | exact .inr rfl | assumption):wpAny M A (storeName X.env x u) Q E s:=by
 obtain⟨m,hn,hl⟩:=id I.loc
 have hcls:(X.env.scope.kind == .class || (X.env.scope.kind == .module && X.env.locals != X.env.globals))=false:=by rw [I.ok.kind];rfl
 have hiσ:i < σ.length:=by rw [I.len];exact(List.getElem?_eq_some_iff.mp hi).1
 have cne:=I.cne
 have tracked:∀ {a:Addr} {h':Heap},(∃ o,s.heap.get? a=some o∧H a=none)→Heap.SameBut a s.heap h'→HOk X.prog X.w H h':=fun {a h'} ha hs b ob e=>by
  obtain⟨_,_,hfree⟩:=ha
  refine(I.hok b ob e).stay (fun c w' hc q=>(hs.2 c ?_).trans q) (fun _ q=>q) fun _ _ q=>q
  rintro rfl
  rcases hc with rfl | hc
  · rw [hfree] at e;cases e
  · rw [hfree] at hc;cases hc
 rcases hx with hk | hk
 · refine wpAny_storeName_local hk hn (fun h' hn' hs=>?_) hcls
   obtain⟨oL,_,_,hoL,_⟩:=id hn
   refine h _ ⟨I.ok,I.os,I.bare,⟨fun b o e n hb hx=>?_,fun b o e n hb hx=>?_,I.base.free,fun b o e hx=>?_,I.base.tups,I.base.frzs,I.base.tbls⟩,⟨_,hn',fun j y v' e1 e2 e3=>?_⟩,fun y c e=>?_,I.free,I.freeC,fun p hp=>?_,tracked ⟨oL,hoL,I.free⟩ hs,by simpa using I.len⟩ ⟨_,hs,.inl rfl⟩
   · exact(hs.2 b (Nat.ne_of_lt (Nat.lt_of_lt_of_le (Heap.lt_size e) I.ok.above))).trans (I.base.keep b o e n hb hx)
   · obtain⟨sl,e1⟩:=I.base.slot b o e n hb hx
     exact⟨sl,(hs.2 b (Nat.ne_of_lt (Nat.lt_of_lt_of_le (Heap.lt_size e) I.ok.above))).trans e1⟩
   · obtain⟨o',e1⟩:=I.base.there b o e hx
     exact⟨o',(hs.2 b (Nat.ne_of_lt (Nat.lt_of_lt_of_le (Heap.lt_size e) I.ok.above))).trans e1⟩
   · by_cases hj:j=i
     · subst hj
       rw [hi] at e1;cases e1
       rw [List.getElem?_set_self hiσ] at e2
       cases e2
       exact⟨u,r,.inl ⟨hk,by simp⟩⟩
     · rw [List.getElem?_set_ne (Ne.symm hj)] at e2
       obtain⟨u',r',q⟩:=hl j y v' e1 e2 e3
       refine⟨u',r',?_⟩
       rcases q with ⟨k,e⟩ | ⟨k,c,e,z⟩
       · refine .inl ⟨k,?_⟩
         have:y≠x:=fun e=>hj (qFj hN e1 (e ▸ hi))
         simp [this,e]
       · exact .inr ⟨k,c,e,z.sameBut hs (cne y c e)⟩
   · obtain⟨w',z⟩:=I.cell y c e
     exact⟨w',z.sameBut hs (cne y c e)⟩
   · obtain⟨e,n,ne,nf,d⟩:=I.pin p hp
     exact⟨(hs.2 p.1 ne).trans e,n,ne,nf,d⟩
 · have hfn:X.fn x=true:=by
    rcases hf with z | z
    · exact z
    · rw [z] at hk;cases hk
   obtain⟨c,hc⟩:=I.ok.has x (.inl hk)
   obtain⟨w',z⟩:=I.cell x c hc
   refine wpAny_storeName_cell I.ok.kind hk hc z (fun h' hc' hs=>?_)
   obtain⟨oc,hoc,hocd⟩:=id z
   refine h {s with heap:=h'} ⟨I.ok,I.os,I.bare,⟨fun b o e n hb hx=>?_,fun b o e n hb hx=>?_,I.base.free,fun b o e hx=>?_,I.base.tups,I.base.frzs,I.base.tbls⟩,⟨m,hn.sameBut hs (Ne.symm (cne x c hc)),fun j y v' e1 e2 e3=>?_⟩,fun y c' e=>?_,I.free,I.freeC,fun p hp=>?_,tracked ⟨oc,hoc,I.freeC x c hc⟩ hs,by simpa using I.len⟩ ⟨c,hs,.inr hc⟩
   · exact(hs.2 b (Nat.ne_of_lt (Nat.lt_of_lt_of_le (Heap.lt_size e) (I.ok.cab x c hfn hc)))).trans (I.base.keep b o e n hb hx)
   · obtain⟨sl,e1⟩:=I.base.slot b o e n hb hx
     exact⟨sl,(hs.2 b (Nat.ne_of_lt (Nat.lt_of_lt_of_le (Heap.lt_size e) (I.ok.cab x c hfn hc)))).trans e1⟩
   · obtain⟨o',e1⟩:=I.base.there b o e hx
     exact⟨o',(hs.2 b (Nat.ne_of_lt (Nat.lt_of_lt_of_le (Heap.lt_size e) (I.ok.cab x c hfn hc)))).trans e1⟩
   · by_cases hj:j=i
     · subst hj
       rw [hi] at e1;cases e1
       rw [List.getElem?_set_self hiσ] at e2
       cases e2
       exact⟨u,r,.inr ⟨.inl hk,c,hc,hc'⟩⟩
     · rw [List.getElem?_set_ne (Ne.symm hj)] at e2
       obtain⟨u',r',q⟩:=hl j y v' e1 e2 e3
       refine⟨u',r',?_⟩
       rcases q with q | ⟨k,c',e,z'⟩
       · exact .inl q
       · refine .inr ⟨k,c',e,z'.sameBut hs ?_⟩
         rintro rfl
         exact hj (qFj hN e1 (I.ok.inj _ _ _ e hc ▸ hi))
   · by_cases hcc:c'=c
     · subst hcc;exact⟨_,hc'⟩
     · obtain⟨w2,z2⟩:=I.cell y c' e
       exact⟨w2,z2.sameBut hs hcc⟩
   · obtain⟨e,n,ne,nf,d⟩:=I.pin p hp
     refine⟨(hs.2 p.1 ?_).trans e,n,ne,nf,d⟩
     intro q
     rw [q,hoc] at e
     have q':oc=p.2:=Option.some.inj e
     exact d w' (by rw [← q'];exact hocd)
theorem vf {M:Model}{A:Around}{E:Value→Shared→Prop}{i:Nat}{x:Str}{v:V}{u:Value}{Q:Unit→Shared→Prop}(I:Inv X pins σ H s)(hN:X.N.Nodup)(hi:X.N[i]? =some x)(hx:Loc X.env.scope x)(r:RelV v u)
 (h:∀ s',Inv X pins (σ.set i (some v)) H s'→Q () s') (hf:X.fn x=true∨X.env.scope.names.lookup x=some .local:=by first | exact .inl rfl | exact .inr rfl | assumption):wpAny M A (storeName X.env x u) Q E s:=
 qIx I hN hi hx r (fun s' I' _=>h s' I') hf
theorem Inv.call' {s':Shared}{ch:List Addr}(I:Inv X pins σ H s)(ho:s'.os=s.os)(u:Un (frs X.stack) ch H H' s.heap s'.heap)(hok:HOk X.prog X.w H' s'.heap)(hg:AllBare s'.gens)
 (hch:∀ b∈ch,(b∈X.ex∨X.s₀.heap.objs.size≤b)∧b≠X.env.locals∧(∀ x c,X.env.cells.lookup x=some c→c≠b)∧∀ p∈X.pn++pins,p.1≠b):Inv X pins σ H' s':=by
 obtain⟨h',g',d',t',o'⟩:=s'
 have e:o'=s.os:=ho
 subst e
 exact I.call (g':=g') (t':=t') (d':=d') u hok hg hch
end
abbrev XK:=Value→Option Addr→Hp→Prop
abbrev St:=List (Option V)
abbrev VK:=V→Hp→Prop
abbrev TE:=St→Hp→VK→Prop
abbrev TT:=St→Hp→(Bool→Hp→Prop)→Prop
abbrev TA:=St→Hp→(List V→Hp→Prop)→Prop
structure qLc where
 nx:St→Hp→Prop
 rt:VK
 bk:St→Hp→Prop:=fun _ _=>False
 ct:St→Hp→Prop:=fun _ _=>False
abbrev TS:=qLc→St→Hp→Prop
def EP (X:Cx)(pins:List (Addr × Obj))(σ:St)(Q:VK)(u:Value)(s':Shared):Prop:=∃ v H',Inv X pins σ H' s'∧RelV v u∧Q v H'
def TP (X:Cx)(pins:List (Addr × Obj))(σ:St)(Q:Bool→Hp→Prop)(b:Bool)(s':Shared):Prop:=∃ H',Inv X pins σ H' s'∧Q b H'
def AP (X:Cx)(pins:List (Addr × Obj))(σ:St)(Q:List V→Hp→Prop)(us:List Value)(s':Shared):Prop:=∃ vs H',Inv X pins σ H' s'∧Vals vs us∧Q vs H'
def SP (X:Cx)(pins:List (Addr × Obj))(D:qLc)(f:Flow)(s':Shared):Prop:=
 match f with
 | .next=>∃ σ' H',Inv X pins σ' H' s'∧D.nx σ' H'
 | .brk=>∃ σ' H',Inv X pins σ' H' s'∧D.bk σ' H'
 | .cont=>∃ σ' H',Inv X pins σ' H' s'∧D.ct σ' H'
 | .ret u=>∃ v σ' H',Inv X pins σ' H' s'∧RelV v u∧D.rt v H'
def PE (X:Cx)(e:Expr)(t:TE):Prop:=
 ∀ (pins:List (Addr × Obj)) (s:Shared) (σ:St) (H:Hp) (Q:VK),Inv X pins σ H s→t σ H Q→wpAny (model X.prog X.w) X.A (eval e X.env) (EP X pins σ Q) X.xe s
def PT (X:Cx)(e:Expr)(t:TT):Prop:=
 ∀ (pins:List (Addr × Obj)) (s:Shared) (σ:St) (H:Hp) (Q:Bool→Hp→Prop),Inv X pins σ H s→t σ H Q→wpAny (model X.prog X.w) X.A (isTrue e X.env (eval e X.env)) (TP X pins σ Q) X.xe s
def PW (X:Cx)(e:Expr)(t:TT):Prop:=
 ∀ (whole:Sem Value) (pins:List (Addr × Obj)) (s:Shared) (σ:St) (H:Hp) (Q:Bool→Hp→Prop),Inv X pins σ H s→t σ H Q→wpAny (model X.prog X.w) X.A (isTrue e X.env whole) (TP X pins σ Q) X.xe s
theorem PW.pt {X:Cx}{e:Expr}{t:TT}(h:PW X e t):PT X e t:=h _
def PA (X:Cx)(es:List Expr)(t:TA):Prop:=
 ∀ (pos:Pos) (pins:List (Addr × Obj)) (s:Shared) (σ:St) (H:Hp) (Q:List V→Hp→Prop),Inv X pins σ H s→t σ H Q→wpAny (model X.prog X.w) X.A (spliced (backTo pos (starEach es X.env))) (AP X pins σ Q) X.xe s
def PS (X:Cx)(st:Stmt)(t:TS):Prop:=
 ∀ (pins:List (Addr × Obj)) (s:Shared) (σ:St) (H:Hp) (D:qLc),Inv X pins σ H s→t D σ H→wpAny (model X.prog X.w) X.A (exec st X.env) (SP X pins D) X.xe s
def PSs (X:Cx)(st:List Stmt)(t:TS):Prop:=
 ∀ (pins:List (Addr × Obj)) (s:Shared) (σ:St) (H:Hp) (D:qLc),Inv X pins σ H s→t D σ H→wpAny (model X.prog X.w) X.A (execs st X.env) (SP X pins D) X.xe s
theorem thn {α:Type}{t:Sem α}{Q Q':α→Shared→Prop}{M:Model}{A:Around}{E:Value→Shared→Prop}{s:Shared}(h:wpAny M A t Q E s)(hQ:∀ a s,Q a s→Q' a s):wpAny M A t Q' E s:=wpAny_mono h hQ fun _ _ x=>x
end L2
namespace L2
open PySem PySem.Spec PyProof.Rows
section
variable {X : Cx}
theorem bin {a b:Expr}{ta tb:TE}(ha:PE X a ta)(hb:PE X b tb){pins:List (Addr × Obj)}{s:Shared}{σ:St}{H:Hp}{R:V→V→Hp→Prop}(I:Inv X pins σ H s)(h:ta σ H fun x H1=>tb σ H1 fun y H2=>R x y H2)
 {α:Type} {Q:α→Shared→Prop} {f:Value→Value→Sem α}
 (hf:∀ v u s2 x y H2,Inv X pins σ H2 s2→RelV x v→RelV y u→R x y H2→wpAny (model X.prog X.w) X.A (f v u) Q X.xe s2):
 wpAny (model X.prog X.w) X.A (eval a X.env) (fun v s₁=>wpAny (model X.prog X.w) X.A (eval b X.env) (fun u s₂=>wpAny (model X.prog X.w) X.A (f v u) Q X.xe s₂) X.xe s₁) X.xe s:=by
 refine thn (ha pins s σ H _ I h) fun v s1 ⟨x,H1,I1,r1,q1⟩=>?_
 refine thn (hb pins s1 σ H1 _ I1 q1) fun u s2 ⟨y,H2,I2,r2,q2⟩=>?_
 exact hf v u s2 x y H2 I2 r1 r2 q2
inductive qUa (i:Nat)(σ:L2.St)(H:Hp)(Q:VK):Prop
| mk v (_:σ[i]? =some (some v)) (_:Q v H)
def tC (v:V):TE:=fun _ H Q=>Q v H
theorem qTt {i:Nat}{x:Str}{pos:Pos}(hN:X.N[i]? =some x)(hv:Vis X.env.scope x)(hd:(x == ("__debug__":Str))=false:=by decide)(hcd:(x == ("__classdict__":Str))=false:=by decide):PE X (.Name x pos) (qUa i):=by
 intro pins s σ H Q I h
 obtain⟨v,e,h⟩:=h
 obtain⟨m,hn,hl⟩:=I.loc
 obtain⟨u,r,l⟩:=hl i x v hN e hv
 have fin:EP X pins σ Q u s:=⟨v,H,I,r,h⟩
 rcases l with ⟨hk,hm⟩ | ⟨hk,c,hc,hcell⟩
 · exact wpAny_Name (wpAny_loadName_local I.ok.kind hk hn hm fin) hd
 · rcases hk with hk | hk
   · exact wpAny_Name (wpAny_loadName_cell I.ok.kind hk hc hcell fin) hd
   · exact wpAny_Name (wpAny_loadName_free I.ok.kind hk hc hcell fin hcd) hd
theorem qG {i j pos}:PE X (.Constant (.int i) j pos) (tC (.int i)):=fun _ _ _ H _ I h=>wpAny_Constant_int ⟨.int i,H,I.tok _,⟨_,rfl⟩,h⟩
theorem zu {b j pos}:PE X (.Constant (.bool b) j pos) (tC (.bl b)):=fun _ _ _ H _ I h=>Constant_bool ⟨.bl b,H,I,rfl,h⟩
theorem qEw {j pos}:PE X (.Constant .none j pos) (tC .non):=fun _ _ _ H _ I h=>Constant_none ⟨.non,H,I,rfl,h⟩
theorem qS {x j pos}:PE X (.Constant (.str x) j pos) (tC (.str x)):=fun _ _ _ H _ I h=>Calls.Constant_str ⟨.str x,H,I.tok _,⟨_,rfl⟩,h⟩
def Gl (X:Cx)(x:Str):Prop:=X.env.kindOf x=some .globalImplicit
theorem qA0 {E:Value→Shared→Prop}{pins:List (Addr × Obj)}{s:Shared}{σ:St}{H:Hp}{x:Str}{u:Value}{pos:Pos}{Q:Value→Shared→Prop}(I:Inv X pins σ H s)(hg:Gl X x)(hm:X.mg x=some u)(h:Q u s)
 (hd:(x == ("__debug__":Str))=false:=by decide):wpAny (model X.prog X.w) X.A (eval (.Name x pos) X.env) Q E s:=
 Calls.Name_function_global I.ok.kind hg (Calls.loadGlobal_global (by rw [I.ok.glob];exact I.mod.glob.keeps I.bk) hm h) hd
theorem qEs {E:Value→Shared→Prop}{pins:List (Addr × Obj)}{s:Shared}{σ:St}{H:Hp}{x:Str}{u:Value}{pos:Pos}{Q:Value→Shared→Prop}(I:Inv X pins σ H s)(hg:Gl X x)(hm:X.mg x=none)(hv:bootBuiltins x=some u)(h:Q u s)
 (hn:x≠"__name__":=by decide) (hd:(x == ("__debug__":Str))=false:=by decide):wpAny (model X.prog X.w) X.A (eval (.Name x pos) X.env) Q E s:=by
 obtain⟨mb,h1,h2⟩:=I.mod.blt
 exact Calls.Name_function_global I.ok.kind hg (Calls.loadGlobal_builtin (by rw [I.ok.glob];exact I.mod.glob.keeps I.bk) hm (by rw [I.ok.blt];exact h1.keeps I.bk) ((h2 x hn).trans hv) h) hd
theorem xJ {x:Str}{v:V}{u:Value}{pos:Pos}(hg:Gl X x)(hm:X.mg x=some u)(r:RelV v u)(hd:(x == ("__debug__":Str))=false:=by decide):PE X (.Name x pos) (tC v):=
 fun _ _ _ H _ I h=>qA0 I hg hm ⟨v,H,I,r,h⟩ hd
theorem qRi {x:Str}{v:V}{u:Value}{pos:Pos}(hg:Gl X x)(hm:X.mg x=none)(hv:bootBuiltins x=some u)(r:RelV v u)(hn:x≠"__name__":=by decide)(hd:(x == ("__debug__":Str))=false:=by decide):PE X (.Name x pos) (tC v):=
 fun _ _ _ H _ I h=>qEs I hg hm hv ⟨v,H,I,r,h⟩ hn hd
variable {a b : Expr} {ta tb : TE} {pos : Pos}
def PC (X:Cx)(op:CmpOp)(a b:Expr)(t:TE):Prop:=
 ∀ (pins:List (Addr × Obj)) (s:Shared) (σ:St) (H:Hp) (Q:VK),Inv X pins σ H s→t σ H Q→
  wpAny (model X.prog X.w) X.A (eval a X.env) (fun v s₁=>wpAny (model X.prog X.w) X.A (eval b X.env) (fun u s₂=>wpAny (model X.prog X.w) X.A (compareOp op v u) (EP X pins σ Q) X.xe s₂) X.xe s₁) X.xe s
theorem qK6 (b:Expr){op:CmpOp}(h:op≠ .In)(h2:op≠ .NotIn):behindInMarks op b=false:=by
 have e1:(op == CmpOp.In)=false:=by cases op <;> first | rfl | exact absurd rfl h
 have e2:(op == CmpOp.NotIn)=false:=by cases op <;> first | rfl | exact absurd rfl h2
 cases b <;> simp [behindInMarks,e1,e2]
def qWa (ta:TE):TE:=fun σ H Q=>ta σ H fun x H1=>Q (.bl (decide (x= .non))) H1
def qVa (ta:TE):TE:=fun σ H Q=>ta σ H fun x H1=>Q (.bl (!decide (x= .non))) H1
theorem RelV.none_iff {x:V}{v:Value}(r:RelV x v):(v == Value.none)=decide (x= .non):=by
 cases x with
 | non=>cases r;rfl
 | bl _=>cases r;rfl
 | int _=>obtain⟨t,rfl⟩:=r;rfl
 | str _=>obtain⟨t,rfl⟩:=r;rfl
 | byt _=>obtain⟨t,rfl⟩:=r;rfl
 | flt _=>obtain⟨t,rfl⟩:=r;rfl
 | ref _=>cases r;rfl
 | ty _=>cases r;rfl
theorem qH9 {j pos'}(ha:PE X a ta):PC X .Is a (.Constant .none j pos') (qWa ta):=by
 intro pins s σ H Q I h
 refine thn (ha pins s σ H _ I h) fun v s1 ⟨x,H1,I1,r1,q1⟩=>?_
 exact Constant_none (is_none_gen ⟨.bl _,H1,I1,by rw [r1.none_iff];rfl,q1⟩)
theorem qMv {j pos'}(ha:PE X a ta):PC X .IsNot a (.Constant .none j pos') (qVa ta):=by
 intro pins s σ H Q I h
 refine thn (ha pins s σ H _ I h) fun v s1 ⟨x,H1,I1,r1,q1⟩=>?_
 exact Constant_none (isnot_none_gen ⟨.bl _,H1,I1,by rw [r1.none_iff];rfl,q1⟩)
inductive tBI (Q:Bool→Hp→Prop)(x:V)(H1:Hp):Prop
| mk c (_:x= .bl c) (_:Q c H1)
def tB (t:TE):TT:=fun σ H Q=>t σ H fun x H1=>tBI Q x H1
theorem qTe {op:CmpOp}{t:TE}(h:PC X op a b t)(h1:behindInMarks op b=false:=by first | exact qK6 _ (by decide) (by decide) | rfl):PE X (.Compare a [op] [b] pos) t:=fun pins s σ H Q I hw=>wpAny_Compare1 (h pins s σ H Q I hw) h1
theorem qDs {op:CmpOp}{t:TE}(h:PC X op a b t)(h1:behindInMarks op b=false:=by first | exact qK6 _ (by decide) (by decide) | rfl):PT X (.Compare a [op] [b] pos) (tB t):=by
 intro pins s σ H Q I hw
 refine wpAny_isTrue_Compare1 (thn (h pins s σ H _ I hw) fun v s1 h1=>thn h1 fun u s2 h2=>thn h2 fun c s3 ⟨x,H1,I1,r1,q1⟩=>?_) h1
 obtain⟨d,rfl,q⟩:=q1
 cases r1
 exact wpAny_truthy_bool ⟨H1,I1,q⟩
theorem jO {e:Expr}{t:TE}(h:PE X e t)(he:∀ whole,isTrue e X.env whole=(do let v ← whole;standAt e.pos;holding [v] (truthy v)):=by intro _;rfl):PT X e (tB t):=by
 intro pins s σ H Q I hw
 refine isTrue_plain (thn (h pins s σ H _ I hw) fun v s1 ⟨x,H1,I1,r1,q1⟩=>?_) (he _)
 obtain⟨d,rfl,q⟩:=q1
 cases r1
 exact wpAny_truthy_bool ⟨H1,I1,q⟩
variable {tA tB' : TT} {rest : List Expr}
def qWl (t u:TT):TT:=fun σ H Q=>t σ H fun c H1=>if c=true then u σ H1 Q else Q false H1
def tOr (t u:TT):TT:=fun σ H Q=>t σ H fun c H1=>if c=true then Q true H1 else u σ H1 Q
def qWr (t:TT):TT:=fun σ H Q=>t σ H fun c H1=>Q (!c) H1
theorem jq (ha:PT X a tA):PW X (.BoolOp .And [a] pos) tA:=by
 intro wh pins s σ H Q I h
 refine isTrue_and (thn (ha pins s σ H Q I h) fun c s1 e=>?_)
 cases c with
 | true=>exact isTrue_and_nil e
 | false=>exact e
theorem jV (ha:PT X a tA):PW X (.BoolOp .Or [a] pos) tA:=by
 intro wh pins s σ H Q I h
 refine isTrue_or (thn (ha pins s σ H Q I h) fun c s1 e=>?_)
 cases c with
 | false=>exact isTrue_or_nil e
 | true=>exact e
theorem xH (ha:PT X a tA)(hb:PW X (.BoolOp .And (b::rest) pos) tB'):PW X (.BoolOp .And (a::b::rest) pos) (qWl tA tB'):=by
 intro wh pins s σ H Q I h
 refine isTrue_and (thn (ha pins s σ H _ I h) fun c s1 ⟨H1,I1,q1⟩=>?_)
 cases c with
 | true=>exact hb wh pins s1 σ H1 Q I1 q1
 | false=>exact⟨H1,I1,q1⟩
theorem j2 (ha:PT X a tA)(hb:PW X (.BoolOp .Or (b::rest) pos) tB'):PW X (.BoolOp .Or (a::b::rest) pos) (tOr tA tB'):=by
 intro wh pins s σ H Q I h
 refine isTrue_or (thn (ha pins s σ H _ I h) fun c s1 ⟨H1,I1,q1⟩=>?_)
 cases c with
 | true=>exact⟨H1,I1,q1⟩
 | false=>exact hb wh pins s1 σ H1 Q I1 q1
theorem ji (ha:PT X a tA):PT X (.UnaryOp .Not a pos) (qWr tA):=by
 intro pins s σ H Q I h
 exact isTrue_not (ha pins s σ H (fun c H1=>Q (!c) H1) I h)
inductive qTx (tb:TE)(σ:L2.St)(Q:VK)(x:V)(H1:Hp):Prop
| mk c (_:x= .bl c) (_:if c=true then tb σ H1 Q else Q (.bl false) H1)
def qUx (ta tb:TE):TE:=fun σ H Q=>ta σ H fun x H1=>qTx tb σ Q x H1
inductive tOrVI (tb:TE)(σ:L2.St)(Q:VK)(x:V)(H1:Hp):Prop
| mk c (_:x= .bl c) (_:if c=true then Q (.bl true) H1 else tb σ H1 Q)
inductive qT1 (Q:VK)(x:V)(H1:Hp):Prop
| mk c (_:x= .bl c) (_:Q (.bl (!c)) H1)
def qVm (ta:TE):TE:=fun σ H Q=>ta σ H fun x H1=>qT1 Q x H1
theorem qBj {op}{t:TE}(h:PE X a t):PE X (.BoolOp op [a] pos) t:=fun pins s σ H Q I hw=>BoolOp_one (h pins s σ H Q I hw)
theorem vv (ha:PE X a ta)(hb:PE X (.BoolOp .And (b::rest) pos) tb):PE X (.BoolOp .And (a::b::rest) pos) (qUx ta tb):=by
 intro pins s σ H Q I h
 refine BoolOp_and (thn (ha pins s σ H _ I h) fun v s1 ⟨x,H1,I1,r1,q1⟩=>?_)
 obtain⟨c,rfl,q1⟩:=q1
 cases r1
 refine wpAny_truthy_bool ?_
 cases c with
 | true=>exact hb pins s1 σ H1 Q I1 q1
 | false=>exact⟨.bl false,H1,I1,rfl,q1⟩
theorem qQp (ha:PE X a ta):PE X (.UnaryOp .Not a pos) (qVm ta):=by
 intro pins s σ H Q I h
 refine UnaryOp_ (thn (ha pins s σ H _ I h) fun v s1 ⟨x,H1,I1,r1,q1⟩=>?_)
 obtain⟨c,rfl,q1⟩:=q1
 cases r1
 exact not_of (wpAny_truthy_bool ⟨.bl (!c),H1,I1,rfl,q1⟩)
def tIf (t:TT)(ta tb:TE):TE:=fun σ H Q=>t σ H fun c H1=>if c=true then ta σ H1 Q else tb σ H1 Q
theorem qCe {c:Expr}(hc:PT X c tA)(ha:PE X a ta)(hb:PE X b tb):PE X (.IfExp c a b pos) (tIf tA ta tb):=by
 intro pins s σ H Q I h
 refine wpAny_IfExp (thn (hc pins s σ H _ I h) fun d s1 ⟨H1,I1,q1⟩=>?_)
 cases d with
 | true=>exact ha pins s1 σ H1 Q I1 q1
 | false=>exact hb pins s1 σ H1 Q I1 q1
end
end L2
namespace L2
open PySem PySem.Spec PyProof.Rows
def SqL (K:PySem.W.Frag)(H:Hp)(a:Addr)(xs:List V):Prop:=
 Rd H a (.lst xs)∨
  ∃ (o:Obj) (its:Array Value) (n:Nat),K.lookup a=some o∧o.cls= .type "list"∧o.dict=none∧o.data= .seq its n∧its.size≤sizeLine∧Vals xs its.toList
def SqT (K:PySem.W.Frag)(H:Hp)(a:Addr)(xs:List V):Prop:=
 Rd H a (.tup xs)∨
  ∃ (o:Obj) (its:Array Value) (n:Nat),K.lookup a=some o∧o.cls= .type "tuple"∧o.data= .seq its n∧its.size≤sizeLine∧Vals xs its.toList
def qWv:Value→Option V
 | .none=>some .non
 | .bool b=>some (.bl b)
 | .int i _=>some (.int i)
 | .str x _=>some (.str x)
 | .bytes b _=>some (.byt b)
 | .float b _=>some (.flt b)
 | .ref a=>some (.ref a)
 | .type n=>some (.ty n)
 | _=>none
theorem RelV.abs {x:V}{u:Value}(r:RelV x u):qWv u=some x:=by
 cases x with
 | non=>cases r;rfl
 | bl _=>cases r;rfl
 | int _=>obtain⟨t,rfl⟩:=r;rfl
 | str _=>obtain⟨t,rfl⟩:=r;rfl
 | byt _=>obtain⟨t,rfl⟩:=r;rfl
 | flt _=>obtain⟨t,rfl⟩:=r;rfl
 | ref _=>cases r;rfl
 | ty _=>cases r;rfl
theorem RelV.inj {x y:V}{u:Value}(r:RelV x u)(q:RelV y u):x=y:=Option.some.inj (r.abs.symm.trans q.abs)
theorem Vals.inj:∀ {xs ys:List V} {us:List Value},Vals xs us→Vals ys us→xs=ys
 | _,_,_,.nil,.nil=>rfl
 | _,_,_,.cons r t,.cons r' t'=>by rw [r.inj r',Vals.inj t t']
section
variable {X : Cx} {pins : List (Addr × Obj)} {σ : St} {H : Hp} {s : Shared} {a : Addr} {xs ys : List V}
theorem SqL.of {K:PySem.W.Frag}(h:H a=some (.lst xs)):SqL K H a xs:=.inl (.inl h)
theorem SqT.of {K:PySem.W.Frag}(h:H a=some (.tup xs)):SqT K H a xs:=.inl (.inl h)
theorem Inv.list (I:Inv X pins σ H s)(h:SqL X.K H a xs):∃ its:List Value,Vals xs its∧PlainL s.heap a its.toArray∧xs.length≤sizeLine:=by
 rcases h with h | ⟨o,its,n,hk,hc,hd,hs,hz,r⟩
 · obtain⟨z,its,n,r,e⟩:=h.ok I.hok
   exact⟨its,r,⟨_,n,e,rfl,rfl,rfl⟩,z⟩
 · refine⟨its.toList,r,⟨o,n,I.kIn a o hk,hc,hd,by simpa using hs⟩,?_⟩
   have e:=r.length
   simp only [Array.length_toList] at e
   omega
theorem Inv.tuple (I:Inv X pins σ H s)(h:SqT X.K H a xs):∃ its:List Value,Vals xs its∧IsTup s.heap a its.toArray∧xs.length≤sizeLine:=by
 rcases h with h | ⟨o,its,n,hk,hc,hs,hz,r⟩
 · obtain⟨z,its,r,p⟩:=h.ok I.hok
   exact⟨its,r,p,z⟩
 · refine⟨its.toList,r,⟨o,I.kIn a o hk,hc,n,by simpa using hs⟩,?_⟩
   have e:=r.length
   simp only [Array.length_toList] at e
   omega
theorem Inv.list_inj (I:Inv X pins σ H s)(h:SqL X.K H a xs)(h':SqL X.K H a ys):xs=ys:=by
 obtain⟨its,r,⟨o,n,e,_,_,d⟩,_⟩:=I.list h
 obtain⟨its',r',⟨o',n',e',_,_,d'⟩,_⟩:=I.list h'
 rw [e] at e';cases e'
 rw [d] at d'
 injection d' with d1 _
 have:its=its':=by simpa using congrArg Array.toList d1
 subst this
 exact r.inj r'
theorem Inv.tuple_inj (I:Inv X pins σ H s)(h:SqT X.K H a xs)(h':SqT X.K H a ys):xs=ys:=by
 obtain⟨its,r,⟨o,e,_,n,d⟩,_⟩:=I.tuple h
 obtain⟨its',r',⟨o',e',_,n',d'⟩,_⟩:=I.tuple h'
 rw [e] at e';cases e'
 rw [d] at d'
 injection d' with d1 _
 have:its=its':=by simpa using congrArg Array.toList d1
 subst this
 exact r.inj r'
end
abbrev Cx.wish (X:Cx)(E:Value→Shared→Prop):Cx:={X with xe:=E}
abbrev Cx.nox (X:Cx):Cx:=X.wish fun _ _=>False
theorem Cx.Ok.wish {X:Cx}(ok:X.Ok)(E:Value→Shared→Prop):(X.wish E).Ok:=
 ⟨ok.mod,ok.kind,ok.glob,ok.blt,ok.above,ok.inj,ok.has,ok.cab,ok.hd,ok.frames,ok.stk,ok.exf,ok.bs,ok.bsz,ok.noex,ok.exfs,ok.funs,ok.frf⟩
theorem Cx.Ok.unwish {X:Cx}{E:Value→Shared→Prop}(ok:(X.wish E).Ok):X.Ok:=
 ⟨ok.mod,ok.kind,ok.glob,ok.blt,ok.above,ok.inj,ok.has,ok.cab,ok.hd,ok.frames,ok.stk,ok.exf,ok.bs,ok.bsz,ok.noex,ok.exfs,ok.funs,ok.frf⟩
section
variable {X : Cx} {pins : List (Addr × Obj)} {σ : St} {H : Hp} {s : Shared} {E : Value → Shared → Prop}
theorem Inv.wish (I:Inv X pins σ H s)(E:Value→Shared→Prop):Inv (X.wish E) pins σ H s:=⟨I.ok.wish E,I.os,I.bare,I.base,I.loc,I.cell,I.free,I.freeC,I.pin,I.hok,I.len⟩
theorem Inv.unwish (I:Inv (X.wish E) pins σ H s):Inv X pins σ H s:=⟨I.ok.unwish,I.os,I.bare,I.base,I.loc,I.cell,I.free,I.freeC,I.pin,I.hok,I.len⟩
theorem SP.unwish {D:qLc}{f:Flow}{s':Shared}(h:SP (X.wish E) pins D f s'):SP X pins D f s':=by
 cases f with
 | next=>obtain⟨σ',H',I,q⟩:=h;exact⟨σ',H',I.unwish,q⟩
 | brk=>obtain⟨σ',H',I,q⟩:=h;exact⟨σ',H',I.unwish,q⟩
 | cont=>obtain⟨σ',H',I,q⟩:=h;exact⟨σ',H',I.unwish,q⟩
 | ret u=>obtain⟨v,σ',H',I,r,q⟩:=h;exact⟨v,σ',H',I.unwish,r,q⟩
theorem PSs.nox {st:List Stmt}{t:TS}(h:PSs X.nox st t):PSs X st t:=fun pins s σ H D I hw=>
 wpAny_mono (h pins s σ H D (I.wish _) hw) (fun _ _ q=>q.unwish) fun _ _ z=>False.elim z
end
section
variable {X : Cx} {st : Stmt} {rest : List Stmt} {t u : TS} {e : Expr} {te : TE} {pos : Pos}
def qUg:TS:=fun D σ H=>D.nx σ H
def qV3 (t u:TS):TS:=fun D σ H=>t {D with nx:=u D} σ H
theorem qP:PSs X [] qUg:=fun _ _ σ H _ I h=>wpAny_execs_nil ⟨σ,H,I,h⟩
theorem qD (h1:PS X st t)(h2:PSs X rest u):PSs X (st::rest) (qV3 t u):=by
 intro pins s σ H D I h
 refine wpAny_execs_cons (thn (h1 pins s σ H {D with nx:=u D} I h) fun f s1 q=>?_)
 cases f with
 | next=>
  obtain⟨σ',H',I',q⟩:=q
  exact h2 pins s1 σ' H' D I' q
 | ret v=>exact q
 | brk=>exact q
 | cont=>exact q
theorem qF (h1:PS X st t):PSs X [st] t:=by
 intro pins s σ H D I h
 refine wpAny_execs_cons (thn (h1 pins s σ H D I h) fun f s1 q=>?_)
 cases f with
 | next=>exact wpAny_execs_nil q
 | ret v=>exact q
 | brk=>exact q
 | cont=>exact q
theorem Inv.quiet {pins:List (Addr × Obj)}{σ:St}{H:Hp}{s:Shared}(I:Inv X pins σ H s):interactive X.env=false:=by simp [interactive,I.ok.kind]
def qU8 (te:TE):TS:=fun D σ H=>te σ H fun _ H1=>D.nx σ H1
theorem jn (he:PE X e te)(hs:swapsWith e none pos.line X.env=pure false:=by rfl):PS X (.Expr e pos) (qU8 te):=by
 intro pins s σ H D I h
 exact wpAny_Expr_any (thn (he pins s σ H _ I h) fun v s1 ⟨x,H1,I1,r1,q1⟩=>⟨σ,H1,I1,q1⟩) I.quiet hs
def qWg (te:TE):TS:=fun D σ H=>te σ H D.rt
theorem qL (he:PE X e te):PS X (.Return (some e) pos) (qWg te):=by
 intro pins s σ H D I h
 exact wpAny_Return_some (thn (he pins s σ H _ I h) fun v s1 ⟨x,H1,I1,r1,q1⟩=>⟨x,σ,H1,I1,r1,q1⟩)
def qWx (c:TT)(t u:TS):TS:=fun D σ H=>c σ H fun b H1=>if b=true then t D σ H1 else u D σ H1
theorem qd {c:Expr}{a b:List Stmt}{tc:TT}(hc:PT X c tc)(ha:PSs X a t)(hb:PSs X b u):PS X (.If c a b pos) (qWx tc t u):=by
 intro pins s σ H D I h
 refine wpAny_If (thn (hc pins s σ H _ I h) fun d s1 ⟨H1,I1,q1⟩=>?_)
 cases d with
 | true=>exact ha pins s1 σ H1 D I1 q1
 | false=>exact hb pins s1 σ H1 D I1 q1
def qS3:TS:=fun _ _ _=>False
theorem vR {sts:List Stmt}:PSs X sts qS3:=fun _ _ _ _ _ _ h=>h.elim
end
abbrev TG:=V→St→Hp→(St→Hp→Prop)→Prop
abbrev TGs:=List V→St→Hp→(St→Hp→Prop)→Prop
def PG (X:Cx)(target:Expr)(t:TG):Prop:=
 ∀ (pins:List (Addr × Obj)) (s:Shared) (σ:St) (H:Hp) (v:V) (u:Value) (Q:St→Hp→Prop),Inv X pins σ H s→RelV v u→t v σ H Q→
  wpAny (model X.prog X.w) X.A (assign target X.env u) (fun _ s'=>∃ σ' H',Inv X pins σ' H' s'∧Q σ' H') X.xe s
def PGs (X:Cx)(ts:List Expr)(t:TGs):Prop:=
 ∀ (pins:List (Addr × Obj)) (s:Shared) (σ:St) (H:Hp) (vs:List V) (us:List Value) (Q:St→Hp→Prop),Inv X pins σ H s→Vals vs us→t vs σ H Q→
  wpAny (model X.prog X.w) X.A (assignInOrder ((assignEach ts X.env).map (·.2)) us) (fun _ s'=>∃ σ' H',Inv X pins σ' H' s'∧Q σ' H') X.xe s
abbrev qVj:=V→V→V→Hp→(Hp→Prop)→Prop
def qV4 (X:Cx)(t:qVj):Prop:=
 ∀ (pins:List (Addr × Obj)) (s:Shared) (σ:St) (H:Hp) (o i v:V) (ov iv u:Value) (Q:Hp→Prop),Inv X pins σ H s→RelV o ov→RelV i iv→RelV v u→t o i v H Q→
  wpAny (model X.prog X.w) X.A (setItem ov iv u) (fun _ s'=>∃ H',Inv X pins σ H' s'∧Q H') X.xe s
abbrev TIp:=V→V→Hp→VK→Prop
section
variable {X : Cx} {pos : Pos}
def qB4 (i:Nat):TG:=fun v σ H Q=>Q (σ.set i (some v)) H
theorem qz {i:Nat}{x:Str}(hN:X.N.Nodup)(hi:X.N[i]? =some x)(hx:Loc X.env.scope x)(hf:X.fn x=true∨X.env.scope.names.lookup x=some .local:=by first | exact .inl rfl | exact .inr rfl | assumption):PG X (.Name x pos) (qB4 i):=by
 intro pins s σ H v u Q I r h
 exact wpAny_assign_Name (vf I hN hi hx r (fun s' I'=>⟨_,H,I',h⟩) hf)
def qU5:TGs:=fun vs σ H Q=>vs=[]∧Q σ H
inductive qM7 (t:TG)(u:TGs)(vs:List V)(σ:L2.St)(H:Hp)(Q:L2.St→Hp→Prop):Prop
| mk v r (_:vs=v::r) (_:t v σ H fun σ' H'=>u r σ' H' Q)
theorem qDh:PGs X [] qU5:=by
 intro pins s σ H vs us Q I r h
 obtain⟨e,h⟩:=h
 subst e
 cases r
 exact assignInOrder_nil ⟨σ,H,I,h⟩
theorem xV {e:Expr}{es:List Expr}{t:TG}{u:TGs}(h1:PG X e t)(h2:PGs X es u)
 (hs:(assignEach (e::es) X.env).map (·.2)=assign e X.env::(assignEach es X.env).map (·.2):=by rfl):PGs X (e::es) (qM7 t u):=by
 intro pins s σ H vs us Q I r h
 obtain⟨v,vr,e1,h⟩:=h
 subst e1
 cases r with
 | cons r rr=>
  rw [hs]
  refine assignInOrder_cons (thn (h1 pins s σ H _ _ _ I r h) fun _ s1 ⟨σ1,H1,I1,q1⟩=>?_)
  exact h2 pins s1 σ1 H1 _ _ Q I1 rr q1
inductive qUy (K:PySem.W.Frag)(n:Nat)(t:TGs)(v:V)(σ:L2.St)(H:Hp)(Q:L2.St→Hp→Prop):Prop
| mk a xs (_:v= .ref a) (_:SqT K H a xs) (_:xs.length=n) (_:t xs σ H Q)
theorem qH4 {es:List Expr}{k:Nat}{t:TGs}{n:Nat}(hc:X.calm=true)(h:PGs X es t)
 (hn:(assignEach es X.env).length=n:=by rfl) (hst:(assignEach es X.env).findIdx? (·.1)=none:=by rfl):PG X (.Tuple es k pos) (qUy X.K n t):=by
 intro pins s σ H v u Q I r hw
 obtain⟨a,xs,e1,hq,hl,hw⟩:=hw
 subst e1
 cases r
 obtain⟨its,rv,ht,hz⟩:=I.tuple hq
 refine assign_Tuple_tuple (I.ok.hd hc) ht (by simp [hn,← hl,rv.length]) hst fun h' hx=>?_
 have I1:Inv X pins σ H {s with heap:=h'}:=I.kept (t':=s.toks) fun b o e=>hx b o (Nat.ne_of_lt (Heap.lt_size e)) e
 exact h pins _ σ H xs _ Q I1 (by simpa using rv) hw
def qWp (to ti:TE)(t:qVj):TG:=fun v σ H Q=>to σ H fun o H1=>ti σ H1 fun i H2=>t o i v H2 fun H3=>Q σ H3
theorem qT0 {o i:Expr}{to ti:TE}{t:qVj}(ho:PE X o to)(hi:PE X i ti)(hs:qV4 X t)
 (ha:∀ v,assign (.Subscript o i pos) X.env v=(do
   let ov ← holding [v] (eval o X.env)
   let iv ← holding [v,ov] (eval i X.env)
   standAt pos
   holding [v,ov,iv] (setItem ov iv v)
   release [v,ov,iv] []):=by intro _;rfl):PG X (.Subscript o i pos) (qWp to ti t):=by
 intro pins s σ H v u Q I r h
 rw [ha]
 refine wpAny_bind (wpAny_holding (thn (ho pins s σ H _ I h) fun ov s1 ⟨x,H1,I1,r1,q1⟩=>?_))
 refine wpAny_bind (wpAny_holding (thn (hi pins s1 σ H1 _ I1 q1) fun iv s2 ⟨y,H2,I2,r2,q2⟩=>?_))
 refine wpAny_bind (wpAny_standAt (wpAny_bind (wpAny_holding (thn (hs pins s2 σ H2 x y v ov iv u _ I2 r1 r2 r q2) fun _ s3 ⟨H3,I3,q3⟩=>?_))))
 exact wpAny_release ⟨σ,H3,I3,q3⟩
def qSn (te:TE)(g:TG):TS:=fun D σ H=>te σ H fun x H1=>g x σ H1 D.nx
theorem qMu {tg e:Expr}{te:TE}{g:TG}(he:PE X e te)(hg:PG X tg g)(hs:swapsWithSole [tg] e pos.line X.env=pure false:=by rfl)(hw:swappedStores [tg] e X.env=pure none:=by rfl)
 (h1:(assignEach [tg] X.env).map (·.2)=[assign tg X.env]:=by rfl):PS X (.Assign [tg] e pos) (qSn te g):=by
 intro pins s σ H D I h
 refine wpAny_Assign_stores (thn (he pins s σ H _ I h) fun v s1 ⟨x,H1,I1,r1,q1⟩=>?_) hs hw
 rw [h1]
 exact thn (hg pins s1 σ H1 x v _ I1 r1 q1) fun _ s2 q=>q
theorem qE3 {i:Nat}{x:Str}{e:Expr}{te:TE}{pos':Pos}(hN:X.N.Nodup)(hi:X.N[i]? =some x)(hx:Loc X.env.scope x)(he:PE X e te)(hs:swapsWith e (some (.Name x pos')) pos.line X.env=pure false:=by rfl)(hf:X.fn x=true∨X.env.scope.names.lookup x=some .local:=by first | exact .inl rfl | exact .inr rfl | assumption):
 PS X (.Assign [.Name x pos'] e pos) (qSn te (qB4 i)):=by
 intro pins s σ H D I h
 refine wpAny_Assign_Name (thn (he pins s σ H _ I h) fun v s1 ⟨y,H1,I1,r1,q1⟩=>?_) hs
 exact vf I1 hN hi hx r1 (fun s2 I2=>⟨_,H1,I2,q1⟩) hf
inductive qVg (i:Nat)(j:Nat)(D:qLc)(σ:L2.St)(vs:List V)(H1:Hp):Prop
| mk v w (_:vs=[v,w]) (_:D.nx ((σ.set i (some v)).set j (some w)) H1)
def qWt (i j:Nat)(ta:TA):TS:=fun D σ H=>ta σ H fun vs H1=>qVg i j D σ vs H1
theorem qTy {i j:Nat}{x y:Str}{a b:Expr}{ta:TA}{px py pt:Pos}{kt k2 pt2}(hc:X.calm=true)(hN:X.N.Nodup)(hi:X.N[i]? =some x)(hj:X.N[j]? =some y)(hij:i≠j)
 (hx:X.env.scope.names.lookup x=some .local) (hy:X.env.scope.names.lookup y=some .local) (ha:PA X [a,b] ta)
 (hw:swappedStores [.Tuple [.Name x px,.Name y py] kt pt] (.Tuple [a,b] k2 pt2) X.env=pure (some [x,y]))
 (hs:swapsWithSole [.Tuple [.Name x px,.Name y py] kt pt] (.Tuple [a,b] k2 pt2) pos.line X.env=pure false:=by rfl):
 PS X (.Assign [.Tuple [.Name x px,.Name y py] kt pt] (.Tuple [a,b] k2 pt2) pos) (qWt i j ta):=by
 intro pins s σ H D I h
 rw [exec_Assign_arm]
 refine wpAny_bind (wpAny_standAt ?_)
 rw [hs]
 refine wpAny_bind (wpAny_pure ?_)
 rw [if_neg (by decide)]
 refine wpAny_bind (Tuple_ (thn (ha _ pins s σ H _ I h) fun us s1 ⟨vs,H1,I1,r1,q1⟩=>?_))
 obtain⟨v,w,e1,q1⟩:=q1
 subst e1
 obtain⟨u1,u2,rfl,rv,rw'⟩:∃ u1 u2,us=[u1,u2]∧RelV v u1∧RelV w u2:=by
  cases r1 with
  | cons p q=>
   cases q with
   | cons p' q'=>
    cases q'
    exact⟨_,_,rfl,p,p'⟩
 refine wpAny_newObj_type ?_ (by show 2≤sizeLine;decide)
 have I2:Inv X pins σ H1 {s1 with heap:=s1.heap.push {cls:=.type "tuple",data:=.seq [u1,u2].toArray}}:=I1.kept (t':=s1.toks) fun b o e=>Heap.get?_push_of_some _ e
 rw [hw]
 refine wpAny_bind (wpAny_pure ?_)
 show wpAny (model X.prog X.w) X.A (do rule "assign.swapped-stores";let items ← unpackItems (.ref s1.heap.objs.size) 2 none;assignInOrder [fun v=>bindName X.env y v,fun v=>bindName X.env x v] items.reverse;pure Flow.next) _ _ _
 refine wpAny_bind (wpAny_rule (wpAny_bind (unpackItems_tuple (items:=#[u1,u2]) (I.ok.hd hc) (IsTup.new s1.heap _) fun h' hx'=>?_)))
 have I3:=I2.kept (h':=h') (t':=s1.toks) fun b o e=>hx' b o (Nat.ne_of_lt (Heap.lt_size e)) e
 show wpAny _ _ (assignInOrder [fun v=>bindName X.env y v,fun v=>bindName X.env x v] [u2,u1] >>=fun _=>pure Flow.next) _ _ _
 refine wpAny_bind (assignInOrder_cons (wpAny_bindName (vf I3 hN hj (.inl hy) rw' (fun s2 I4=>?_) (.inr hy))))
 refine assignInOrder_cons (wpAny_bindName (vf I4 hN hi (.inl hx) rv (fun s3 I5=>assignInOrder_nil (wpAny_pure ?_)) (.inr hx)))
 rw [List.set_comm _ _ (Ne.symm hij)] at I5
 exact⟨_,H1,I5,q1⟩
inductive tAug (i:Nat)(te:TE)(ti:TIp)(D:qLc)(σ:L2.St)(H:Hp):Prop
| mk x (_:σ[i]? =some (some x)) (_:te σ H fun y H1=>ti x y H1 fun z H2=>D.nx (σ.set i (some z)) H2)
end
section
variable {X : Cx} {pos : Pos}
def qQl (c:TT)(tb:TS):TS:=fun D σ H=>∃ W:Nat→St→Hp→Prop,(∃ m,W m σ H)∧∀ m σ H,W m σ H→
 c σ H fun b H1=>if b=true then ∃ N:St→Hp→Prop,(∀ σ' H',N σ' H'→∃ m',m' < m∧W m' σ' H')∧tb {D with nx:=N,ct:=N,bk:=D.nx} σ H1 else D.nx σ H1
theorem qF7 {c:Expr}{body:List Stmt}{tc:TT}{tb:TS}(hp:PassesOwn (model X.prog X.w) X.A X.env X.xe)(hc:PT X c tc)(hb:PSs X body tb):PS X (.While c body [] pos) (qQl tc tb):=by
 intro pins s σ H D I h
 obtain⟨W,⟨m0,w0⟩,turn⟩:=h
 refine wpAny_While (codeAny_whileLoop (fun n s'=>∃ σ' H',Inv X pins σ' H' s'∧W n σ' H') ?_ m0 ⟨σ,H,I,w0⟩)
 rintro n s1 ⟨σ1,H1,I1,w1⟩
 refine wpAny_passesOwn hp (thn (hc pins s1 σ1 H1 _ I1 (turn n σ1 H1 w1)) fun b s2 ⟨H2,I2,q2⟩=>?_)
 cases b with
 | true=>
  obtain⟨N,hN,q2⟩:=q2
  rw [if_pos rfl]
  refine wpAny_passesOwn hp (thn (hb pins s2 σ1 H2 _ I2 q2) fun f s3 q3=>?_)
  cases f with
  | next=>
   obtain⟨σ3,H3,I3,n3⟩:=q3
   obtain⟨m',hm,w3⟩:=hN σ3 H3 n3
   exact⟨m',hm,σ3,H3,I3,w3⟩
  | cont=>
   obtain⟨σ3,H3,I3,n3⟩:=q3
   obtain⟨m',hm,w3⟩:=hN σ3 H3 n3
   exact⟨m',hm,σ3,H3,I3,w3⟩
  | brk=>exact q3
  | ret v=>exact q3
 | false=>
  rw [if_neg Bool.false_ne_true]
  exact wpAny_execs_nil ⟨σ1,H2,I2,q2⟩
end
structure It where
 go:Nat→Hp→Prop
 yld:Nat→Hp→V→Hp→Prop
 stop:Nat→Hp→Prop
def qPb (X:Cx)(pins:List (Addr × Obj))(H:Hp)(b:Addr):Prop:=
 H b=none∧b≠X.env.locals∧b ∉ X.fs∧(b∈X.ex∨X.s₀.heap.objs.size≤b)∧(∀ x c,X.env.cells.lookup x=some c→c≠b)∧∀ p∈X.pn++pins,p.1≠b
theorem Inv.fpOk {X:Cx}{pins:List (Addr × Obj)}{σ:St}{H H':Hp}{s:Shared}{b:Addr}(I:Inv X pins σ H s)(hb:s.heap.objs.size≤b)(hn:H' b=none):qPb X pins H' b:=by
 refine⟨hn,Nat.ne_of_gt (Nat.lt_of_lt_of_le I.lt hb),I.nofs hb,.inr (Nat.le_trans I.sz hb),fun x c e z=>?_,fun p hp z=>?_⟩
 · obtain⟨v,q⟩:=I.cell x c e
   exact absurd (Nat.lt_of_lt_of_le q.lt (by rw [z];exact hb)) (Nat.lt_irrefl _)
 · exact absurd (Nat.lt_of_lt_of_le (Heap.lt_size (I.pin p hp).1) (by rw [z];exact hb)) (Nat.lt_irrefl _)
structure qSm (P:Program)(w:World)(K:PySem.W.Frag)(tg:Expr)(J:It)(fp:List Addr)(it:Addr)(tn:Nat→Heap→Prop):Prop where
 mem:it∈fp
 obj:∀ i h,tn i h→∀ b∈fp,∃ o,h.get? b=some o∧∀ v,o.data≠ .cell v
 keep:∀ i h h',tn i h→(∀ b∈fp,∀ o,h.get? b=some o→h'.get? b=some o)→tn i h'
 item:∀ (X:Cx),X.prog=P→X.w=w→X.K=K→X.calm=true→∀ (i:Nat) (pins:List (Addr × Obj)) (s:Shared) (σ:St) (H:Hp) (E:Value→Shared→Prop),Inv X pins σ H s→(∀ b∈fp,qPb X pins H b)→tn i s.heap→J.go i H→
  wpAny (model P w) X.A (pyNext (.ref it)) (fun r s1=>∃ u,r=some u∧
   wpAny (model P w) X.A (letOwnedTupleGo tg (.ref it) u) (fun _ s2=>∃ x H',Inv X pins σ H' s2∧RelV x u∧J.yld i H x H'∧tn (i+1) s2.heap∧∀ b∈fp,H' b=none) E s1) E s
 done:∀ (X:Cx),X.prog=P→X.w=w→X.K=K→X.calm=true→∀ (i:Nat) (pins:List (Addr × Obj)) (s:Shared) (σ:St) (H:Hp) (E:Value→Shared→Prop),Inv X pins σ H s→(∀ b∈fp,qPb X pins H b)→tn i s.heap→J.stop i H→
  wpAny (model P w) X.A (pyNext (.ref it)) (fun r s1=>r=none∧Inv X pins σ H s1) E s
 self:∀ (A:Around) (i:Nat) (s:Shared) (Q:Value→Shared→Prop) (E:Value→Shared→Prop),tn i s.heap→Q (.ref it) s→wpAny (model P w) A (pyIter (.ref it)) Q E s
abbrev TI:=St→Hp→(It→Hp→Prop)→Prop
def PIE (X:Cx)(pins:List (Addr × Obj))(σ:St)(tg:Expr)(R:It→Hp→Prop)(itv:Value)(s2:Shared):Prop:=
 ∃ (it:Addr) (fp:List Addr) (tn:Nat→Heap→Prop) (J:It) (H':Hp),itv= .ref it∧Inv X pins σ H' s2∧qSm X.prog X.w X.K tg J fp it tn∧tn 0 s2.heap∧(∀ b∈fp,qPb X pins H' b)∧R J H'
def PI (X:Cx)(tg iter:Expr)(wi:TI):Prop:=
 ∀ (pins:List (Addr × Obj)) (s:Shared) (σ:St) (H:Hp) (R:It→Hp→Prop),Inv X pins σ H s→wi σ H R→
  wpAny (model X.prog X.w) X.A (eval iter X.env) (fun v s1=>wpAny (model X.prog X.w) X.A (pyIter v) (PIE X pins σ tg R) X.xe s1) X.xe s
theorem qSb {M:Model}{A:Around}{E:Value→Shared→Prop}{s:Shared}{tg:Expr}{it:Addr}{u:Value}{o:Obj}{n:String}{vs:Array Value}{Q:Unit→Shared→Prop}(ho:s.heap.get? it=some o)(hc:o.cls= .type n)(hd:o.data= .fields vs)
 (hn:["enumerate","zip","dict_itemiterator","dict_reverseitemiterator","odict_iterator","itertools.zip_longest","itertools.pairwise"].contains n=false) (hQ:Q () s):wpAny M A (letOwnedTupleGo tg (.ref it) u) Q E s:=by
 unfold letOwnedTupleGo
 cases tg <;> first
  | exact wpAny_pure hQ
  | (cases u <;> first
      | exact wpAny_pure hQ
      | (refine wpAny_bind (wpAny_load ho ?_)
         rw [hc,hd]
         show wpAny M A (if (["enumerate","zip","dict_itemiterator","dict_reverseitemiterator","odict_iterator","itertools.zip_longest","itertools.pairwise"].contains n && vs[0]? == some (rawInt _))=true then _ else _) Q E s
         rw [if_neg (by intro h;rw [hn,Bool.false_and] at h;cases h)]
         exact wpAny_pure hQ))
def Itl (K:PySem.W.Frag)(a:Addr):It:=
 ⟨fun i H=>∃ xs x,SqL K H a xs∧xs[i]? =some x,fun i H x H'=>H'=H∧∀ xs,SqL K H a xs→xs[i]? =some x,fun i H=>∃ xs,SqL K H a xs∧xs.length≤i⟩
def Itt (K:PySem.W.Frag)(a:Addr):It:=
 ⟨fun i H=>∃ xs x,SqT K H a xs∧xs[i]? =some x,fun i H x H'=>H'=H∧∀ xs,SqT K H a xs→xs[i]? =some x,fun i H=>∃ xs,SqT K H a xs∧xs.length≤i⟩
def Itr (lo:Int)(n:Nat):It:=⟨fun i _=>i < n,fun i H x H'=>H'=H∧x= .int (lo+i),fun i _=>n≤i⟩
theorem qM0 {P:Program}{w:World}{K:PySem.W.Frag}{tg:Expr}(a it:Addr):qSm P w K tg (Itl K a) [it] it (fun i h=>h.IsListIter it a i) where
 mem:=by simp
 obj:=fun i h st b hb=>by
  have e:b=it:=by simpa using hb
  subst e
  obtain⟨o,e,c,d⟩:=st
  exact⟨o,e,fun v z=>by rw [d] at z;cases z⟩
 keep:=fun i h h' st k=>st.at fun o e=>k it (by simp) o e
 item:=by
  intro X hP hw hK hc i pins s σ H E I hf st hg
  subst hP hw hK
  obtain⟨xs,x,hq,hx⟩:=hg
  obtain⟨its,rv,p,hz⟩:=I.list hq
  obtain⟨u,hu,ru⟩:=rv.get hx
  obtain⟨f0,f1,f2,f3,f4,f5⟩:=hf it (by simp)
  refine wpAny_pyNext_list_item st p.isList (x:=u) (by simpa using hu) fun h' st' sb=>?_
  have I1:Inv X pins σ H {s with heap:=h'}:=I.turned (t':=s.toks) (fun b o hb e=>(sb.2 b hb).trans e) f0 f1 f3 f4 f5
  obtain⟨o,e,c,d⟩:=id st'
  exact⟨u,rfl,qSb (s:={s with heap:=h'}) e c d (by decide) ⟨x,H,I1,ru,⟨rfl,fun ys hy=>by rw [I.list_inj hy hq];exact hx⟩,st',fun b hb=>(hf b hb).1⟩⟩
 done:=by
  intro X hP hw hK hc i pins s σ H E I hf st hg
  subst hP hw hK
  obtain⟨xs,hq,hx⟩:=hg
  obtain⟨its,rv,p,hz⟩:=I.list hq
  obtain⟨f0,f1,f2,f3,f4,f5⟩:=hf it (by simp)
  have hl:=rv.length
  exact wpAny_pyNext_list_end (I.ok.hd hc) st p.isList (by simp;omega) fun h' eb=>⟨rfl,I.turned (t':=s.toks) (fun b o hb e=>eb b o hb e) f0 f1 f3 f4 f5⟩
 self:=fun _ _ _ _ _ st h=>wpAny_pyIter_listiter st h
theorem qMi {P:Program}{w:World}{K:PySem.W.Frag}{tg:Expr}(it:Addr)(lo:Int)(n:Nat):qSm P w K tg (Itr lo n) [it] it (fun i h=>IsRangeIter h it (lo+(i:Nat)*1) ((n:Int) - (i:Nat)) 1) where
 mem:=by simp
 obj:=fun i h st b hb=>by
  have e:b=it:=by simpa using hb
  subst e
  exact⟨_,st,fun v z=>by
   have z':Data.fields _=Data.cell v:=z
   cases z'⟩
 keep:=fun i h h' st k=>k it (by simp) _ st
 item:=by
  intro X hP hw hK hc i pins s σ H E I hf st hg
  subst hP hw hK
  obtain⟨f0,f1,f2,f3,f4,f5⟩:=hf it (by simp)
  have W:=Walks.range (prog:=X.prog) (w:=X.w) (I.ok.hd hc) it lo 1 n
  refine W.item i s _ _ hg st fun v h' tk hv st' kk=>?_
  obtain⟨t,rfl⟩:=hv
  have I1:Inv X pins σ H {s with heap:=h',toks:=tk}:=I.turned (fun b o hb e=>kk b o (by simpa using hb) e) f0 f1 f3 f4 f5
  refine⟨_,rfl,qSb (s:={s with heap:=h',toks:=tk}) (n:="range_iterator") st' rfl rfl (by decide) ⟨.int (lo+i),H,I1,⟨t,?_⟩,⟨rfl,rfl⟩,st',fun b hb=>(hf b hb).1⟩⟩
  rw [Int.mul_one]
 done:=by
  intro X hP hw hK hc i pins s σ H E I hf st hg
  subst hP hw hK
  obtain⟨f0,f1,f2,f3,f4,f5⟩:=hf it (by simp)
  exact wpAny_pyNext_range_end (I.ok.hd hc) st (by have:n≤i:=hg;omega) fun h' eb=>⟨rfl,I.turned (t':=s.toks) (fun b o hb e=>eb b o hb e) f0 f1 f3 f4 f5⟩
 self:=fun _ _ _ _ _ st h=>wpAny_pyIter_rangeiter st h
end L2
namespace L2
open PySem PySem.Spec PyProof.Rows
section
variable {X : Cx} {tg : Expr}
inductive qSu (K:PySem.W.Frag)(R:It→Hp→Prop)(x:V)(H1:Hp):Prop
| mk a (_:x= .ref a) (_:(∃ xs,SqL K H1 a xs)) (_:R (Itl K a) H1)
def qVc (K:PySem.W.Frag)(tl:TE):TI:=fun σ H R=>tl σ H fun x H1=>qSu K R x H1
inductive iTupI (K:PySem.W.Frag)(R:It→Hp→Prop)(x:V)(H1:Hp):Prop
| mk a (_:x= .ref a) (_:(∃ xs,SqT K H1 a xs)) (_:R (Itt K a) H1)
theorem jW {l:Expr}{tl:TE}(hl:PE X l tl):PI X tg l (qVc X.K tl):=by
 intro pins s σ H R I h
 refine thn (hl pins s σ H _ I h) fun v s1 ⟨x,H1,I1,r1,q1⟩=>?_
 obtain⟨a,e,⟨xs,hq⟩,q⟩:=q1
 subst e
 cases r1
 obtain⟨its,rv,p,hz⟩:=I1.list hq
 refine wpAny_pyIter_list p.isList ?_
 refine⟨s1.heap.objs.size,[s1.heap.objs.size],_,_,H1,rfl,I1.kept (t':=s1.toks) fun b o e=>Heap.get?_push_of_some _ e,qM0 a _,⟨_,Heap.get?_push_size _ rfl,rfl,rfl⟩,fun b hb=>?_,q⟩
 have e:b=s1.heap.objs.size:=by simpa using hb
 subst e
 exact I1.fpOk (Nat.le_refl _) (I1.hok.fresh (Nat.le_refl _))
theorem qQd {pins:List (Addr × Obj)}{σ:St}{H:Hp}{s:Shared}{R:It→Hp→Prop}{E:Value→Shared→Prop}{lo hi:Int}{t u v:Tok}{tk:Nat}(I:Inv X pins σ H s)(h1:-(2 ^ 62)≤lo)(h2:lo < 2 ^ 62)(h3:-(2 ^ 62)≤hi)(h4:hi < 2 ^ 62)
 (q:R (Itr lo (hi - lo).toNat) H):wpAny (model X.prog X.w) X.A (pyIter (.ref s.heap.objs.size)) (PIE X pins σ tg R) E {s with heap:=s.heap.push {cls:=.type "range",data:=.fields #[.int lo t,.int hi u,.int 1 v]},toks:=tk}:=by
 refine wpAny_pyIter_range (IsRange.new ..) (small_one h1 h2 h3 h4) ?_
 have I1:Inv X pins σ H {s with heap:=s.heap.push {cls:=.type "range",data:=.fields #[.int lo t,.int hi u,.int 1 v]},toks:=tk}:=I.kept fun b o e=>Heap.get?_push_of_some _ e
 refine⟨(s.heap.push {cls:=.type "range",data:=.fields #[.int lo t,.int hi u,.int 1 v]}).objs.size,[(s.heap.push {cls:=.type "range",data:=.fields #[.int lo t,.int hi u,.int 1 v]}).objs.size],_,_,H,rfl,
  I1.kept (t':=tk) fun b o e=>Heap.get?_push_of_some _ e,qMi _ lo (hi - lo).toNat,?_,fun b hb=>?_,q⟩
 · have e1:lo+((0:Nat):Int)*1=lo:=by simp
   have e2:(((hi - lo).toNat:Nat):Int) - ((0:Nat):Int)=Builtin.Range.rangeSize lo hi 1:=by rw [rangeSize_one];split <;> omega
   show IsRangeIter _ _ (lo+((0:Nat):Int)*1) ((((hi - lo).toNat:Nat):Int) - ((0:Nat):Int)) 1
   rw [e1,e2]
   exact Heap.get?_push_size _ rfl
 · have e:b=(s.heap.push {cls:=.type "range",data:=.fields #[.int lo t,.int hi u,.int 1 v]}).objs.size:=by simpa using hb
   subst e
   exact I1.fpOk (Nat.le_refl _) (I1.hok.fresh (Nat.le_refl _))
def qVu (ta:TA):TI:=fun σ H R=>ta σ H fun vs H1=>∃ j:Int,vs=[.int j]∧-(2 ^ 62)≤j∧j < 2 ^ 62∧R (Itr 0 j.toNat) H1
theorem jg {a:Expr}{ta:TA}{p pos:Pos}(hg:Gl X "range")(hm:X.mg "range"=none)(ha:PA X [a] ta)(hs:starEach [a] X.env=[(false,eval a X.env)]:=by rfl):PI X tg (.Call (.Name "range" p) [a] [] pos) (qVu ta):=by
 intro pins s σ H R I h
 refine Call_ (qEs I hg hm boot_range (PyProof.Rows.callWith_type1 (thn (ha pos pins s σ H _ I h) fun us s1 ⟨vs,H1,I1,r1,q1⟩=>?_) hs rfl))
 obtain⟨j,e,q1,q2,q⟩:=q1
 subst e
 cases r1 with
 | cons r rr=>
  cases rr
  obtain⟨t,rfl⟩:=r
  exact call_range_1 (qQd I1 (by omega) (by omega) q1 q2 (by simpa using q))
def qV7 (wi:TI)(g:TG)(tb:TS):TS:=fun D σ H=>wi σ H fun J H1=>∃ W:Nat→Nat→St→Hp→Prop,(∃ m,W 0 m σ H1)∧∀ i m σ H,W i m σ H→
 (J.stop i H∧D.nx σ H)∨(J.go i H∧∃ N:St→Hp→Prop,(∀ σ' H',N σ' H'→∃ m',m' < m∧W (i+1) m' σ' H')∧∀ x H',J.yld i H x H'→g x σ H' fun σ2 H2=>tb {D with nx:=N,ct:=N,bk:=D.nx} σ2 H2)
def qIj (fp:List Addr)(h:Heap):List (Addr × Obj):=fp.filterMap fun b=>(h.get? b).map fun o=>(b,o)
theorem qAn {fp:List Addr}{h:Heap}{b:Addr}{o:Obj}(hb:b∈fp)(e:h.get? b=some o):(b,o)∈qIj fp h:=List.mem_filterMap.mpr ⟨b,hb,by rw [e];rfl⟩
theorem qMx {fp:List Addr}{h:Heap}{p:Addr × Obj}(hp:p∈qIj fp h):p.1∈fp∧h.get? p.1=some p.2:=by
 obtain⟨b,hb,e⟩:=List.mem_filterMap.mp hp
 cases q:h.get? b with
 | none=>rw [q] at e;cases e
 | some o=>
  rw [q] at e
  have e':(b,o)=p:=Option.some.inj e
  subst e'
  exact⟨hb,q⟩
theorem Inv.pinned {pins:List (Addr × Obj)}{σ:St}{H:Hp}{s:Shared}{fp:List Addr}(I:Inv X pins σ H s)(hf:∀ b∈fp,qPb X pins H b)(ho:∀ b∈fp,∃ o,s.heap.get? b=some o∧∀ v,o.data≠ .cell v):Inv X (pins++qIj fp s.heap) σ H s:=
 I.pins_of fun p hp=>(List.mem_append.mp hp).elim (fun z=>I.pin p (List.mem_append_right _ z)) fun z=>by
  obtain⟨hb,e⟩:=qMx z
  obtain⟨f0,f1,f2,_⟩:=hf p.1 hb
  obtain⟨o,e',d⟩:=ho p.1 hb
  rw [e] at e';cases e'
  exact⟨e,f0,f1,f2,d⟩
theorem Inv.unpinned {pins pl:List (Addr × Obj)}{σ:St}{H:Hp}{s:Shared}(I:Inv X (pins++pl) σ H s):Inv X pins σ H s:=I.pins_of fun p hp=>I.pin p (List.mem_append_right _ (List.mem_append_left _ hp))
theorem xg {iter:Expr}{body:List Stmt}{wi:TI}{g:TG}{tb:TS}{pos:Pos}(hp:PassesOwn (model X.prog X.w) X.A X.env X.xe)(hc:X.calm=true)(hi:PI X tg iter wi)(hg:PG X tg g)(hb:PSs X body tb)
 (hs:∀ x,foldedSetIterable iter X.env x=pure x:=by intro _;rfl):PS X (.For tg iter body [] pos) (qV7 wi g tb):=by
 intro pins s σ H D I h
 refine wpAny_For (thn (hi pins s σ H _ I h) fun v s1 h1=>thn h1 fun itv s2 h2=>?_) hs
 obtain⟨it,fp,tn,J,H2,e,I2,T,st2,f2,W,⟨m0,w0⟩,turn⟩:=h2
 subst e
 have stat:∀ {H':Hp},(∀ b∈fp,H' b=none)→∀ b∈fp,qPb X pins H' b:=fun hn b hb=>⟨hn b hb,(f2 b hb).2⟩
 refine codeAny_forLoop_any (fun n s'=>∃ i σ' H',Inv X pins σ' H' s'∧tn i s'.heap∧(∀ b∈fp,H' b=none)∧W i n σ' H') ?_ m0 ⟨0,σ,H2,I2,st2,fun b hb=>(f2 b hb).1,w0⟩
 rintro n s3 ⟨i,σ3,H3,I3,st3,fr3,w3⟩
 rcases turn i n σ3 H3 w3 with ⟨stop,qn⟩ | ⟨go,N,hN,step⟩
 · refine wpAny_passesOwn hp (thn (T.done X rfl rfl rfl hc i pins s3 σ3 H3 X.xe I3 (stat fr3) st3 stop) fun r s4 ⟨hr,I4⟩=>?_)
   subst hr
   exact wpAny_execs_nil ⟨σ3,H3,I4,qn⟩
 · refine wpAny_passesOwn hp (thn (T.item X rfl rfl rfl hc i pins s3 σ3 H3 X.xe I3 (stat fr3) st3 go) fun r s4 ⟨u,hr,h4⟩=>?_)
   subst hr
   refine wpAny_passesOwn hp (thn h4 fun _ s5 ⟨x,H5,I5,r5,y5,st5,fr5⟩=>?_)
   have I5':=I5.pinned (stat fr5) (T.obj _ _ st5)
   refine wpAny_passesOwn hp (thn (hg _ s5 σ3 H5 x u _ I5' r5 (step x H5 y5)) fun _ s6 ⟨σ6,H6,I6,q6⟩=>?_)
   refine wpAny_passesOwn hp (thn (hb _ s6 σ6 H6 _ I6 q6) fun f s7 q7=>?_)
   have again:∀ {σ7:St} {H7:Hp},Inv X (pins++qIj fp s5.heap) σ7 H7 s7→N σ7 H7→∃ m,m < n∧∃ i σ' H',Inv X pins σ' H' s7∧tn i s7.heap∧(∀ b∈fp,H' b=none)∧W i m σ' H':=fun {σ7 H7} I7 n7=>by
    obtain⟨m',hm,w7⟩:=hN σ7 H7 n7
    refine⟨m',hm,i+1,σ7,H7,I7.unpinned,T.keep _ _ _ st5 fun b hb o e=>(I7.pin (b,o) (List.mem_append_right _ (List.mem_append_right _ (qAn hb e)))).1,fun b hb=>?_,w7⟩
    obtain⟨o,e,d⟩:=T.obj _ _ st5 b hb
    exact(I7.pin (b,o) (List.mem_append_right _ (List.mem_append_right _ (qAn hb e)))).2.1
   cases f with
   | next=>obtain⟨σ7,H7,I7,n7⟩:=q7;exact again I7 n7
   | cont=>obtain⟨σ7,H7,I7,n7⟩:=q7;exact again I7 n7
   | brk=>obtain⟨σ7,H7,I7,q7⟩:=q7;exact⟨σ7,H7,I7.unpinned,q7⟩
   | ret v=>obtain⟨x7,σ7,H7,I7,r7,q7⟩:=q7;exact⟨x7,σ7,H7,I7.unpinned,r7,q7⟩
end
theorem xI {K:PySem.W.Frag}{a:Addr}{xs:List V}{g:TG}{tb:TS}{D:qLc}{σ:St}{H:Hp}(Pv:Nat→St→Hp→Prop)(h0:Pv 0 σ H)(hl:∀ i σ H,i≤xs.length→Pv i σ H→SqL K H a xs)
 (hs:∀ i x σ H,xs[i]? =some x→Pv i σ H→g x σ H fun σ2 H2=>tb {D with nx:=Pv (i+1),ct:=Pv (i+1),bk:=D.nx} σ2 H2) (hd:∀ σ H,Pv xs.length σ H→D.nx σ H):
 ∃ W:Nat→Nat→St→Hp→Prop,(∃ m,W 0 m σ H)∧∀ i m σ H,W i m σ H→
  ((Itl K a).stop i H∧D.nx σ H)∨((Itl K a).go i H∧∃ N:St→Hp→Prop,(∀ σ' H',N σ' H'→∃ m',m' < m∧W (i+1) m' σ' H')∧∀ x H',(Itl K a).yld i H x H'→g x σ H' fun σ2 H2=>tb {D with nx:=N,ct:=N,bk:=D.nx} σ2 H2):=by
 refine⟨fun i m σ H=>m=xs.length - i∧i≤xs.length∧Pv i σ H,⟨xs.length,by simp,Nat.zero_le _,h0⟩,?_⟩
 rintro i m σ H ⟨rfl,hi,p⟩
 have q:=hl i σ H hi p
 by_cases hlt:i < xs.length
 · refine .inr ⟨⟨xs,xs[i],q,by simp [hlt]⟩,Pv (i+1),fun σ' H' p'=>⟨xs.length - (i+1),by omega,rfl,hlt,p'⟩,fun x H' y=>?_⟩
   obtain⟨e,y⟩:=y
   subst e
   exact hs i x σ _ (y xs q) p
 · have e:i=xs.length:=by omega
   subst e
   exact .inl ⟨⟨xs,q,Nat.le_refl _⟩,hd σ H p⟩
theorem we {lo:Int}{n:Nat}{g:TG}{tb:TS}{D:qLc}{σ:St}{H:Hp}(Pv:Nat→St→Hp→Prop)(h0:Pv 0 σ H)
 (hs:∀ i σ H,i < n→Pv i σ H→g (.int (lo+i)) σ H fun σ2 H2=>tb {D with nx:=Pv (i+1),ct:=Pv (i+1),bk:=D.nx} σ2 H2) (hd:∀ σ H,Pv n σ H→D.nx σ H):
 ∃ W:Nat→Nat→St→Hp→Prop,(∃ m,W 0 m σ H)∧∀ i m σ H,W i m σ H→
  ((Itr lo n).stop i H∧D.nx σ H)∨((Itr lo n).go i H∧∃ N:St→Hp→Prop,(∀ σ' H',N σ' H'→∃ m',m' < m∧W (i+1) m' σ' H')∧∀ x H',(Itr lo n).yld i H x H'→g x σ H' fun σ2 H2=>tb {D with nx:=N,ct:=N,bk:=D.nx} σ2 H2):=by
 refine⟨fun i m σ H=>m=n - i∧i≤n∧Pv i σ H,⟨n,by simp,Nat.zero_le _,h0⟩,?_⟩
 rintro i m σ H ⟨rfl,hi,p⟩
 by_cases hlt:i < n
 · refine .inr ⟨hlt,Pv (i+1),fun σ' H' p'=>⟨n - (i+1),by omega,rfl,hlt,p'⟩,fun x H' y=>?_⟩
   obtain⟨e,y⟩:=y
   subst e y
   exact hs i σ _ hlt p
 · have e:i=n:=by omega
   subst e
   exact .inl ⟨Nat.le_refl _,hd σ H p⟩
theorem qKt {c:TT}{tb:TS}{D:qLc}{σ:St}{H:Hp}(Pv:St→Hp→Prop)(μ:St→Hp→Nat)(h0:Pv σ H)
 (hs:∀ σ H,Pv σ H→c σ H fun b H1=>if b=true then tb {D with nx:=fun σ' H'=>Pv σ' H'∧μ σ' H' < μ σ H,ct:=fun σ' H'=>Pv σ' H'∧μ σ' H' < μ σ H,bk:=D.nx} σ H1 else D.nx σ H1)
 (mono:∀ σ H Q Q',(∀ b H1,Q b H1→Q' b H1)→c σ H Q→c σ H Q'):qQl c tb D σ H:=by
 refine⟨fun m σ H=>m=μ σ H∧Pv σ H,⟨_,rfl,h0⟩,?_⟩
 rintro m σ H ⟨rfl,p⟩
 refine mono σ H _ _ (fun b H1 q=>?_) (hs σ H p)
 cases b with
 | true=>exact⟨_,fun σ' H' ⟨p',l⟩=>⟨_,l,rfl,p'⟩,q⟩
 | false=>exact q
end L2
namespace L2
open PySem PySem.Spec PyProof.Rows
abbrev R2:=V→V→Hp→VK→Prop
def OpR (X:Cx)(f:Value→Value→Sem Value)(r:R2):Prop:=
 ∀ (pins:List (Addr × Obj)) (s:Shared) (σ:St) (H:Hp) (x y:V) (v u:Value) (Q:VK),Inv X pins σ H s→RelV x v→RelV y u→r x y H Q→
  wpAny (model X.prog X.w) X.A (f v u) (EP X pins σ Q) X.xe s
def UnR (X:Cx)(f:Value→Sem Value)(r:V→Hp→VK→Prop):Prop:=
 ∀ (pins:List (Addr × Obj)) (s:Shared) (σ:St) (H:Hp) (x:V) (v:Value) (Q:VK),Inv X pins σ H s→RelV x v→r x H Q→
  wpAny (model X.prog X.w) X.A (f v) (EP X pins σ Q) X.xe s
def qA1 (X:Cx)(f:Value)(r:List V→Hp→VK→Prop):Prop:=
 ∀ (pins:List (Addr × Obj)) (s:Shared) (σ:St) (H:Hp) (xs:List V) (us:List Value) (Q:VK),Inv X pins σ H s→Vals xs us→r xs H Q→
  wpAny (model X.prog X.w) X.A (call f us) (EP X pins σ Q) X.xe s
def tOp (r:R2)(ta tb:TE):TE:=fun σ H Q=>ta σ H fun x H1=>tb σ H1 fun y H2=>r x y H2 Q
def tUn (r:V→Hp→VK→Prop)(ta:TE):TE:=fun σ H Q=>ta σ H fun x H1=>r x H1 Q
inductive rI (C:Int→Int→Prop)(g:Int→Int→V)(x:V)(y:V)(H:Hp)(Q:VK):Prop
| mk i j (_:x= .int i) (_:y= .int j) (_:C i j) (_:Q (g i j) H)
inductive rI0 (g:Int→Int→V)(x:V)(y:V)(H:Hp)(Q:VK):Prop
| mk i j (_:x= .int i) (_:y= .int j) (_:Q (g i j) H)
inductive rU (g:Int→V)(x:V)(H:Hp)(Q:VK):Prop
| mk i (_:x= .int i) (_:Q (g i) H)
section
variable {X : Cx} {a b c : Expr} {ta tb tc : TE} {pos : Pos}
theorem qU6 (ha:PE X a ta)(hb:PE X b tb){pins:List (Addr × Obj)}{s:Shared}{σ:St}{H:Hp}{R:V→V→Hp→Prop}(I:Inv X pins σ H s)
 (h:ta σ H fun x H1=>tb σ H1 fun y H2=>R x y H2) {Q:Value→Shared→Prop} {f:Value→Value→Sem Value}
 (hf:∀ v u s2 x y H2,Inv X pins σ H2 s2→RelV x v→RelV y u→R x y H2→wpAny (model X.prog X.w) X.A (f v u) Q X.xe s2):
 wpAny (model X.prog X.w) X.A (eval a X.env) (fun v s₁=>wpAny (model X.prog X.w) X.A (eval b X.env) (fun u s₂=>wpAny (model X.prog X.w) X.A (f v u) Q X.xe s₂) X.xe s₁) X.xe s:=by
 refine thn (ha pins s σ H _ I h) fun v s1 ⟨x,H1,I1,r1,q1⟩=>?_
 refine thn (hb pins s1 σ H1 _ I1 q1) fun u s2 ⟨y,H2,I2,r2,q2⟩=>?_
 exact hf v u s2 x y H2 I2 r1 r2 q2
theorem qO {op:Operator}{r:R2}(ho:OpR X (binaryOp op) r)(ha:PE X a ta)(hb:PE X b tb):PE X (.BinOp a op b pos) (tOp r ta tb):=by
 intro pins s σ H Q I h
 exact wpAny_BinOp (qU6 ha hb I h fun v u s2 x y H2 I2 rx ry q=>ho pins s2 σ H2 x y v u Q I2 rx ry q)
theorem kh {op:UnaryOp}{r:V→Hp→VK→Prop}(ho:UnR X (unaryOp op) r)(ha:PE X a ta):PE X (.UnaryOp op a pos) (tUn r ta):=by
 intro pins s σ H Q I h
 exact UnaryOp_ (thn (ha pins s σ H _ I h) fun v s1 ⟨x,H1,I1,r1,q1⟩=>ho pins s1 σ H1 x v Q I1 r1 q1)
theorem opI {f:Value→Value→Sem Value}{C:Int→Int→Prop}{g:Int→Int→Int}
 (rule:∀ (i j:Int) (t u:Tok) (s:Shared) (Q:Value→Shared→Prop) (E:Value→Shared→Prop),C i j→Q (.int (g i j) s.toks) {s with toks:=s.toks+1}→wpAny (model X.prog X.w) X.A (f (.int i t) (.int j u)) Q E s):
 OpR X f (rI C fun i j=>.int (g i j)):=by
 intro pins s σ H x y v u Q I rx ry h
 obtain⟨i,j,rfl,rfl,hc,q⟩:=h
 obtain⟨t,rfl⟩:=rx
 obtain⟨t',rfl⟩:=ry
 exact rule i j t t' s _ _ hc ⟨.int (g i j),H,I.tok _,⟨_,rfl⟩,q⟩
theorem qV0 {f:Value→Value→Sem Value}{g:Int→Int→Int}
 (rule:∀ (i j:Int) (t u:Tok) (s:Shared) (Q:Value→Shared→Prop) (E:Value→Shared→Prop),Q (.int (g i j) s.toks) {s with toks:=s.toks+1}→wpAny (model X.prog X.w) X.A (f (.int i t) (.int j u)) Q E s):
 OpR X f (rI0 fun i j=>.int (g i j)):=by
 intro pins s σ H x y v u Q I rx ry h
 obtain⟨i,j,rfl,rfl,q⟩:=h
 obtain⟨t,rfl⟩:=rx
 obtain⟨t',rfl⟩:=ry
 exact rule i j t t' s _ _ ⟨.int (g i j),H,I.tok _,⟨_,rfl⟩,q⟩
theorem qUb {f:Value→Value→Sem Value}{g:Int→Int→Bool}
 (rule:∀ (i j:Int) (t u:Tok) (s:Shared) (Q:Value→Shared→Prop) (E:Value→Shared→Prop),Q (.bool (g i j)) s→wpAny (model X.prog X.w) X.A (f (.int i t) (.int j u)) Q E s):
 OpR X f (rI0 fun i j=>.bl (g i j)):=by
 intro pins s σ H x y v u Q I rx ry h
 obtain⟨i,j,rfl,rfl,q⟩:=h
 obtain⟨t,rfl⟩:=rx
 obtain⟨t',rfl⟩:=ry
 exact rule i j t t' s _ _ ⟨.bl (g i j),H,I,rfl,q⟩
def qV6 (i j:Int):Prop:=0≤j∧j≤1000000∧i.natAbs < 2 ^ 64
def CMul (i j:Int):Prop:=(-(2 ^ 64) < i∧i < 2 ^ 64)∨(-(2 ^ 64) < j∧j < 2 ^ 64)
theorem CMul.ok {i j:Int}(h:CMul i j):IntMulOk i j:=by
 rcases h with ⟨h1,h2⟩ | ⟨h1,h2⟩
 · exact .of_left (intBits_le_64 h1 h2)
 · exact .of_right (intBits_le_64 h1 h2)
theorem qp:OpR X (binaryOp .Add) (rI0 fun i j=>.int (i+j)):=qV0 fun _ _ _ _ _ _ _ q=>add_int q
theorem jM:OpR X (binaryOp .Sub) (rI0 fun i j=>.int (i - j)):=qV0 fun _ _ _ _ _ _ _ q=>sub_int q
theorem qq:OpR X (binaryOp .Mod) (rI (fun _ j=>j≠0) fun i j=>.int (i.fmod j)):=opI fun _ _ _ _ _ _ _ hc q=>mod_int' hc q
theorem qQq:OpR X (binaryOp .Pow) (rI qV6 fun i j=>.int (i ^ j.toNat)):=opI fun _ _ _ _ _ _ _ hc q=>pow_int_small hc.1 hc.2.1 hc.2.2 q
theorem unI {f:Value→Sem Value}{g:Int→Int}
 (rule:∀ (i:Int) (t:Tok) (s:Shared) (Q:Value→Shared→Prop) (E:Value→Shared→Prop),Q (.int (g i) s.toks) {s with toks:=s.toks+1}→wpAny (model X.prog X.w) X.A (f (.int i t)) Q E s):
 UnR X f (rU fun i=>.int (g i)):=by
 intro pins s σ H x v Q I rx h
 obtain⟨i,rfl,q⟩:=h
 obtain⟨t,rfl⟩:=rx
 exact rule i t s _ _ ⟨.int (g i),H,I.tok _,⟨_,rfl⟩,q⟩
theorem xP:UnR X (unaryOp .USub) (rU fun i=>.int (-i)):=unI fun _ _ _ _ _ q=>neg_int q
end
def qVk:V→V→Bool
 | .non,.non=>true | .non,.int _=>true | .int _,.non=>true | .non,.bl _=>true | .bl _,.non=>true | .non,.str _=>true | .str _,.non=>true
 | .int _,.int _=>true | .bl _,.bl _=>true | .str _,.str _=>true | .byt _,.byt _=>true
 | .int _,.str _=>true | .str _,.int _=>true | .bl _,.str _=>true | .str _,.bl _=>true
 | _,_=>false
inductive rEq (x:V)(y:V)(H:Hp)(Q:VK):Prop
| mk (_:qVk x y=true) (_:Q (.bl (decide (x=y))) H)
inductive rNe (x:V)(y:V)(H:Hp)(Q:VK):Prop
| mk (_:qVk x y=true) (_:Q (.bl (!decide (x=y))) H)
theorem qN8 {i j:Int}:decide (V.int i=V.int j)=(i == j):=by
 rw [Bool.eq_iff_iff]
 simp
theorem qQm {i j:Bool}:decide (V.bl i=V.bl j)=(i == j):=by
 rw [Bool.eq_iff_iff]
 simp
theorem qOd {i j:Str}:decide (V.str i=V.str j)=(i == j):=by
 rw [Bool.eq_iff_iff]
 simp
theorem qN7 {i j:Array UInt8}:decide (V.byt i=V.byt j)=(i.toList == j.toList):=by
 rw [Bool.eq_iff_iff]
 cases i
 cases j
 simp
section
variable {X : Cx} {a b c : Expr} {ta tb tc : TE} {pos : Pos}
theorem jN {pins:List (Addr × Obj)}{σ:St}{H:Hp}{s:Shared}{Q:VK}{k k':Bool}(I:Inv X pins σ H s)(q:Q (.bl k) H)(e:k=k'):EP X pins σ Q (.bool k') s:=by
 subst e
 exact⟨.bl k,H,I,rfl,q⟩
theorem jX:OpR X (compareOp .Eq) rEq:=by
 intro pins s σ H x y v u Q I rx ry h
 obtain⟨hs,q⟩:=h
 cases x with
 | non=>
  cases rx
  cases y with
  | non=>cases ry;exact PySem.EqNone.eq_none_none (jN I q (by simp))
  | bl j=>cases ry;exact PySem.EqNone.eq_none_bool (jN I q (by simp))
  | int j=>obtain⟨t',rfl⟩:=ry;exact PySem.EqNone.eq_none_int (jN I q (by simp))
  | str j=>obtain⟨t',rfl⟩:=ry;exact PySem.EqNone.eq_none_str (jN I q (by simp))
  | _=>exact absurd (show false=true from hs) Bool.false_ne_true
 | bl i=>
  cases rx
  cases y with
  | non=>cases ry;exact PySem.EqNone.eq_bool_none (jN I q (by simp))
  | bl j=>cases ry;exact eq_bool (jN I q qQm)
  | str j=>obtain⟨t',rfl⟩:=ry;exact PySem.EqMixed.eq_bool_str (jN I q (by simp))
  | _=>exact absurd (show false=true from hs) Bool.false_ne_true
 | int i=>
  obtain⟨t,rfl⟩:=rx
  cases y with
  | non=>cases ry;exact PySem.EqNone.eq_int_none (jN I q (by simp))
  | int j=>obtain⟨t',rfl⟩:=ry;exact eq_int (jN I q qN8)
  | str j=>obtain⟨t',rfl⟩:=ry;exact PySem.EqMixed.eq_int_str (jN I q (by simp))
  | _=>exact absurd (show false=true from hs) Bool.false_ne_true
 | str i=>
  obtain⟨t,rfl⟩:=rx
  cases y with
  | non=>cases ry;exact PySem.EqNone.eq_str_none (jN I q (by simp))
  | bl j=>cases ry;exact PySem.EqMixed.eq_str_bool (jN I q (by simp))
  | int j=>obtain⟨t',rfl⟩:=ry;exact PySem.EqMixed.eq_str_int (jN I q (by simp))
  | str j=>obtain⟨t',rfl⟩:=ry;exact eq_str (jN I q qOd)
  | _=>exact absurd (show false=true from hs) Bool.false_ne_true
 | byt i=>
  obtain⟨t,rfl⟩:=rx
  cases y with
  | byt j=>obtain⟨t',rfl⟩:=ry;exact PySem.W.eq_bytes (jN I q qN7)
  | _=>exact absurd (show false=true from hs) Bool.false_ne_true
 | _=>cases y <;> exact absurd (show false=true from hs) Bool.false_ne_true
theorem zP:OpR X (compareOp .NotEq) rNe:=by
 intro pins s σ H x y v u Q I rx ry h
 obtain⟨hs,q⟩:=h
 cases x with
 | non=>
  cases rx
  cases y with
  | non=>cases ry;exact PySem.EqNone.ne_none_none (jN I q (by simp))
  | bl j=>cases ry;exact PySem.EqNone.ne_none_bool (jN I q (by simp))
  | int j=>obtain⟨t',rfl⟩:=ry;exact PySem.EqNone.ne_none_int (jN I q (by simp))
  | str j=>obtain⟨t',rfl⟩:=ry;exact PySem.EqNone.ne_none_str (jN I q (by simp))
  | _=>exact absurd (show false=true from hs) Bool.false_ne_true
 | bl i=>
  cases rx
  cases y with
  | non=>cases ry;exact PySem.EqNone.ne_bool_none (jN I q (by simp))
  | bl j=>cases ry;exact ne_bool (jN I q (congrArg not qQm))
  | str j=>obtain⟨t',rfl⟩:=ry;exact PySem.EqMixed.ne_bool_str (jN I q (by simp))
  | _=>exact absurd (show false=true from hs) Bool.false_ne_true
 | int i=>
  obtain⟨t,rfl⟩:=rx
  cases y with
  | non=>cases ry;exact PySem.EqNone.ne_int_none (jN I q (by simp))
  | int j=>obtain⟨t',rfl⟩:=ry;exact ne_int (jN I q (congrArg not qN8))
  | str j=>obtain⟨t',rfl⟩:=ry;exact PySem.EqMixed.ne_int_str (jN I q (by simp))
  | _=>exact absurd (show false=true from hs) Bool.false_ne_true
 | str i=>
  obtain⟨t,rfl⟩:=rx
  cases y with
  | non=>cases ry;exact PySem.EqNone.ne_str_none (jN I q (by simp))
  | bl j=>cases ry;exact PySem.EqMixed.ne_str_bool (jN I q (by simp))
  | int j=>obtain⟨t',rfl⟩:=ry;exact PySem.EqMixed.ne_str_int (jN I q (by simp))
  | str j=>obtain⟨t',rfl⟩:=ry;exact ne_str (jN I q (congrArg not qOd))
  | _=>exact absurd (show false=true from hs) Bool.false_ne_true
 | byt i=>
  obtain⟨t,rfl⟩:=rx
  cases y with
  | byt j=>obtain⟨t',rfl⟩:=ry;exact PySem.W.ne_bytes (jN I q (congrArg not qN7))
  | _=>exact absurd (show false=true from hs) Bool.false_ne_true
 | _=>cases y <;> exact absurd (show false=true from hs) Bool.false_ne_true
theorem xx:OpR X (compareOp .Lt) (rI0 fun i j=>.bl (decide (i < j))):=qUb fun _ _ _ _ _ _ _ q=>lt_int q
theorem qJ3:OpR X (compareOp .LtE) (rI0 fun i j=>.bl (decide (i≤j))):=qUb fun _ _ _ _ _ _ _ q=>le_int q
theorem qGr:OpR X (compareOp .Gt) (rI0 fun i j=>.bl (decide (j < i))):=qUb fun _ _ _ _ _ _ _ q=>gt_int q
theorem qGb:OpR X (compareOp .GtE) (rI0 fun i j=>.bl (decide (j≤i))):=qUb fun _ _ _ _ _ _ _ q=>ge_int q
theorem OpR.or {f:Value→Value→Sem Value}{r r':R2}(h:OpR X f r)(h':OpR X f r'):OpR X f (fun x y H Q=>r x y H Q∨r' x y H Q):=by
 intro pins s σ H x y v u Q I rx ry q
 rcases q with q | q
 · exact h pins s σ H x y v u Q I rx ry q
 · exact h' pins s σ H x y v u Q I rx ry q
theorem qN (b:Expr){op:CmpOp}(h:op≠ .In:=by decide)(h2:op≠ .NotIn:=by decide):behindInMarks op b=false:=by
 have e1:(op == CmpOp.In)=false:=by cases op <;> first | rfl | exact absurd rfl h
 have e2:(op == CmpOp.NotIn)=false:=by cases op <;> first | rfl | exact absurd rfl h2
 cases b <;> simp [behindInMarks,e1,e2]
theorem xD {op:CmpOp}{r:R2}(ho:OpR X (compareOp op) r)(ha:PE X a ta)(hb:PE X b tb)(hm:behindInMarks op b=false):PE X (.Compare a [op] [b] pos) (tOp r ta tb):=by
 intro pins s σ H Q I h
 exact wpAny_Compare1 (qU6 ha hb I h fun v u s2 x y H2 I2 rx ry q=>ho pins s2 σ H2 x y v u Q I2 rx ry q) hm
inductive qT6 (Q:Bool→Hp→Prop)(x:V)(H':Hp):Prop
| mk k (_:x= .bl k) (_:Q k H')
def qVr (t:TE):TT:=fun σ H Q=>t σ H fun x H'=>qT6 Q x H'
theorem qH {op:CmpOp}{r:R2}(ho:OpR X (compareOp op) r)(ha:PE X a ta)(hb:PE X b tb)(hm:behindInMarks op b=false):PT X (.Compare a [op] [b] pos) (qVr (tOp r ta tb)):=by
 intro pins s σ H Q I h
 refine wpAny_isTrue_Compare1 (thn (ha pins s σ H _ I h) fun v s1 ⟨x,H1,I1,r1,q1⟩=>thn (hb pins s1 σ H1 _ I1 q1) fun u s2 ⟨y,H2,I2,r2,q2⟩=>
  thn (ho pins s2 σ H2 x y v u _ I2 r1 r2 q2) fun c s3 ⟨z,H3,I3,r3,k,e,q3⟩=>?_) hm
 subst e
 cases r3
 exact wpAny_truthy_bool ⟨H3,I3,q3⟩
theorem qGz:(sizeLine:Nat) < 2 ^ 63:=by rw [sizeLine_eq];decide
theorem qG5 {x:V}{us:List Value}(r:Vals [x] us):∃ u,us=[u]∧RelV x u:=by
 cases r with
 | cons r1 r2=>cases r2;exact⟨_,rfl,r1⟩
theorem qRk {x y:V}{us:List Value}(r:Vals [x,y] us):∃ u w',us=[u,w']∧RelV x u∧RelV y w':=by
 cases r with
 | cons r1 r2=>
  cases r2 with
  | cons r3 r4=>cases r4;exact⟨_,_,rfl,r1,r3⟩
theorem qFs:qA1 X (.builtin "abs") (fun xs H Q=>∃ i,xs=[.int i]∧Q (.int (if i < 0 then -i else i)) H):=by
 intro pins s σ H xs us Q I r h
 obtain⟨i,rfl,q⟩:=h
 obtain⟨u,rfl,t,rfl⟩:=qG5 r
 exact call_abs_int fun u tk=>⟨.int (if i < 0 then -i else i),H,I.tok _,⟨_,rfl⟩,q⟩
theorem zr (hc:X.calm=true):qA1 X (.builtin "max") (fun xs H Q=>∃ i j,xs=[.int i,.int j]∧Q (.int (if j > i then j else i)) H):=by
 intro pins s σ H xs us Q I r h
 obtain⟨i,j,rfl,q⟩:=h
 obtain⟨u,w',rfl,⟨t,rfl⟩,⟨t',rfl⟩⟩:=qRk r
 refine max_two_ints (I.ok.hd hc) fun h' tk k=>⟨_,H,I.kept k,?_,q⟩
 by_cases hj:j > i
 · rw [if_pos hj,if_pos hj];exact⟨_,rfl⟩
 · rw [if_neg hj,if_neg hj];exact⟨_,rfl⟩
theorem vU (hc:X.calm=true):qA1 X (.builtin "min") (fun xs H Q=>∃ i j,xs=[.int i,.int j]∧Q (.int (if j < i then j else i)) H):=by
 intro pins s σ H xs us Q I r h
 obtain⟨i,j,rfl,q⟩:=h
 obtain⟨u,w',rfl,⟨t,rfl⟩,⟨t',rfl⟩⟩:=qRk r
 refine min_two_ints (I.ok.hd hc) fun h' tk k=>⟨_,H,I.kept k,?_,q⟩
 by_cases hj:j < i
 · rw [if_pos hj,if_pos hj];exact⟨_,rfl⟩
 · rw [if_neg hj,if_neg hj];exact⟨_,rfl⟩
theorem qMp:qA1 X (.type "int") (fun xs H Q=>(∃ i,xs=[.int i]∧Q (.int i) H)∨∃ k,xs=[.bl k]∧Q (.int (if k then 1 else 0)) H):=by
 intro pins s σ H xs us Q I r h
 rcases h with ⟨i,rfl,q⟩ | ⟨k,rfl,q⟩
 · obtain⟨u,rfl,t,rfl⟩:=qG5 r
   exact call_int_int ⟨.int i,H,I,⟨_,rfl⟩,q⟩
 · obtain⟨u,rfl,r1⟩:=qG5 r
   cases r1
   exact call_int_bool ⟨.int (if k then 1 else 0),H,I.tok _,⟨_,rfl⟩,q⟩
end
end L2
namespace L2
open PySem PySem.Spec PyProof.Rows
structure ObjM (h:Heap)(x dx C:Addr)(mA:Str→Option Value):Prop where
 obj:h.get? x=some (PySem.W.instObj C dx)
 ns:h.Ns1 dx mA
 ne:dx≠x
theorem qMy {h:Heap}{dx:Addr}{mA:Str→Option Value}(n:h.Ns1 dx mA):∃ od,h.get? dx=some od∧∀ name,PySem.W.lookIn name od=some (mA name):=by
 obtain⟨o,es,ep,ho,hd,hk,_,hm⟩:=n
 refine⟨o,ho,fun name=>?_⟩
 have e:=hm name
 unfold nsFind findBy at e
 rw [← Array.find?_toList] at e
 unfold PySem.W.lookIn
 rw [hd]
 dsimp only
 split
 · rename_i y q
   rw [q] at e
   exact congrArg some e
 · rename_i q
   rw [q] at e
   have a:es.toList.any (·.refKey)=false:=by
    rw [List.any_eq_false]
    intro y hy
    obtain⟨z,t,hkey⟩:=hk y (Array.mem_toList_iff.mp hy)
    simp [DictEntry.refKey,hkey]
   have a':¬ es.toList.any (·.refKey)=true:=by rw [a];exact Bool.false_ne_true
   rw [if_neg a']
   exact congrArg some e
theorem ObjM.look {h:Heap}{x dx C:Addr}{mA:Str→Option Value}(I:ObjM h x dx C mA):∃ od,PySem.W.InstAt h x (PySem.W.instObj C dx) C (some od)∧∀ name,PySem.W.lookIn name od=some (mA name):=
 let ⟨od,ho,hl⟩:=qMy I.ns
 ⟨od,⟨I.obj,rfl,rfl,ho⟩,hl⟩
section
variable {prog : Program} {w : World} {A : Around} {E : Value → Shared → Prop} {s : Shared} {K : PySem.W.Frag} {x dx C f : Addr} {mA : Str → Option Value} {name : Str} {v : Value}
end
theorem RelO.some_of {v:V}{o:Option Value}(r:RelO (some v) o):∃ u,o=some u∧RelV v u:=by
 cases o with
 | none=>exact(show False from r).elim
 | some u=>exact⟨u,rfl,r⟩
section
variable {P : Program} {w : World} {H H' : Hp} {h h' : Heap} {a C dx : Addr} {fs fs' : List (Str × V)}
theorem qRr (hok:HOk P w H h)(e:H a=some (.ins C dx fs)):∃ mA,ObjM h a dx C mA∧(∀ f,RelO (fs.lookup f) (mA f))∧PySem.Within mA (fs.map (·.1))∧fs.length≤1000∧H dx=some (.own a):=by
 obtain⟨d,z,ne,ob,mA,n,r,q⟩:=(show ObjOk P w H h a (.ins C dx fs) from hok a _ e)
 exact⟨mA,⟨ob,n,ne⟩,r,q,z,d⟩
end
structure Cls (K:PySem.W.Frag)(C:Addr):Prop where
 pg:PySem.W.plainGet K C Str.empty=true
 hd:PySem.W.hasDictIn K C=true
 po:PySem.W.plainOver K C=true
 sa:PySem.W.findIn K (.ref C) "__setattr__"=some (some (.builtin "object.__setattr__"))
theorem Cls.get {K:PySem.W.Frag}{C:Addr}(c:Cls K C)(f:Str):PySem.W.plainGet K C f=true:=c.pg
structure Con (K:PySem.W.Frag)(C:Addr)(f:Str)(v:V)(u:Value):Prop where
 at_:PySem.W.findIn K (.ref C) f=some (some u)
 rel:RelV v u
 get:PySem.W.specialIn K u "__get__"=some none
 cp:PySem.W.copiedNames.contains f=false
structure Meth (K:PySem.W.Frag)(C:Addr)(m:Str)(f:Addr):Prop where
 at_:PySem.W.findIn K (.ref C) m=some (some (.ref f))
 fn:PySem.W.isFn K (.ref f)=true
 kp:PySem.W.keepIn K (.ref f)=true
section
variable {X : Cx} {pins : List (Addr × Obj)} {σ : St} {H : Hp} {s : Shared} {a C dx : Addr} {fs : List (Str × V)} {f : Str} {v : V} {A : Around} {E : Value → Shared → Prop}
theorem Inv.made (I:Inv X pins σ H s):Inv X pins σ (upd (upd H s.heap.objs.size (.own (s.heap.objs.size+1))) (s.heap.objs.size+1) (.ins C s.heap.objs.size []))
 {s with heap:=(s.heap.push PySem.W.emptyDict).push (PySem.W.instObj C s.heap.objs.size)}:=by
 have e1:(s.heap.push PySem.W.emptyDict).get? s.heap.objs.size=some PySem.W.emptyDict:=Heap.get?_push_size s.heap rfl
 have e2:((s.heap.push PySem.W.emptyDict).push (PySem.W.instObj C s.heap.objs.size)).get? (s.heap.objs.size+1)=some (PySem.W.instObj C s.heap.objs.size):=by
  have:=Heap.get?_push_size (s.heap.push PySem.W.emptyDict) (o:=PySem.W.instObj C s.heap.objs.size) rfl
  rwa [Heap.size_push] at this
 have e3:(s.heap.push PySem.W.emptyDict).Ns s.heap.objs.size (fun _=>none):=⟨PySem.W.emptyDict,#[],_,e1,rfl,(fun e he=>absurd he (by simp)),fun _=>rfl⟩
 have I1:=I.laid (a:=s.heap.objs.size) (o:=.own (s.heap.objs.size+1)) (h':=s.heap.push PySem.W.emptyDict) (t':=s.toks) (fun b u q=>Heap.get?_push_of_some _ q) (Nat.le_refl _) ⟨_,e1⟩
 refine I1.laid (a:=s.heap.objs.size+1) (o:=.ins C s.heap.objs.size []) (t':=s.toks) (fun b u q=>Heap.get?_push_of_some _ q) (Nat.le_of_eq (Heap.size_push _ _)) ?_
 have ne:s.heap.objs.size≠s.heap.objs.size+1:=Nat.ne_of_lt (Nat.lt_succ_self _)
 refine⟨by rw [qW ne,qB],Nat.zero_le _,ne,e2,fun _=>none,(Heap.Ns1.of_empty e3).at fun o q=>Heap.get?_push_of_some _ q,fun _=>True.intro,fun y hy=>absurd rfl hy⟩
end
section
variable {X : Cx} {o e value : Expr} {f : Str} {pos pos' tpos : Pos} {ta tv : TE}
end
section
variable {X : Cx} {pins : List (Addr × Obj)} {σ : St} {H : Hp} {s : Shared} {A : Around} {E : Value → Shared → Prop} {Q : Value → Shared → Prop} {c : Value} {b : Bool}
inductive qEv (K:PySem.W.Frag)(H:Hp):V→Value→Prop where
 | non:qEv K H .non (.type "NoneType")
 | bl (x:Bool):qEv K H (.bl x) (.type "bool")
 | int (i:Int):qEv K H (.int i) (.type "int")
 | str (x:Str):qEv K H (.str x) (.type "str")
 | flt (x:UInt64):qEv K H (.flt x) (.type "float")
 | lst {a:Addr} {xs:List V} (e:H a=some (.lst xs)):qEv K H (.ref a) (.type "list")
 | frz {a:Addr} {o:Obj} {xs:List V} (e:H a=some (.frz o (.lst xs))):qEv K H (.ref a) (.type "list")
 | tup {a:Addr} {xs:List V} (e:H a=some (.tup xs)):qEv K H (.ref a) (.type "tuple")
 | dK {a:Addr} {kvs:List (Key × V)} (e:H a=some (.dK kvs)):qEv K H (.ref a) (.type "dict")
 | dT {a:Addr} {kvs:List (List Key × V)} (e:H a=some (.dT kvs)):qEv K H (.ref a) (.type "dict")
 | ins {a C dx:Addr} {fs:List (Str × V)} (e:H a=some (.ins C dx fs)) (cl:Cls K C) (ha:PySem.W.findIn K (.ref C) "__class__"=some (some (.builtin "object.__class__")))
  (hn:PySem.W.specialIn K (.builtin "object.__class__") "__get__"=some (some (.builtin "getset_descriptor.__get__"))) (htk:PySem.W.takesIn K (.builtin "object.__class__")=some true)
  (hm:PySem.W.mroIn K C (.type "object")=some true):qEv K H (.ref a) (.ref C)
theorem qHq {x:V}{u t:Value}(I:Inv X pins σ H s)(rx:RelV x u)(ty:qEv X.K H x t)(e:PySem.W.kitOne X.K t c=some b)(h:∀ tk,Q (.bool b) {s with toks:=tk}):
 wpAny (model X.prog X.w) A (call (.builtin "isinstance") [u,c]) Q E s:=by
 cases ty with
 | non=>cases (show u=Value.none from rx);exact PySem.W.kia_one PySem.W.kitx_none I.kIn True.intro e (fun z=>nomatch z) h
 | bl y=>cases (show u=Value.bool y from rx);exact PySem.W.kia_one PySem.W.kitx_bool I.kIn True.intro e (fun z=>nomatch z) h
 | int i=>obtain⟨t,q⟩:=(show ∃ t,u=Value.int i t from rx);cases q;exact PySem.W.kia_one PySem.W.kitx_int I.kIn True.intro e (fun z=>nomatch z) h
 | str y=>obtain⟨t,q⟩:=(show ∃ t,u=Value.str y t from rx);cases q;exact PySem.W.kia_one PySem.W.kitx_str I.kIn True.intro e (fun z=>nomatch z) h
 | flt y=>obtain⟨t,q⟩:=(show ∃ t,u=Value.float y t from rx);cases q;exact PySem.W.kia_one PySem.W.kitx_float I.kIn True.intro e (fun z=>nomatch z) h
 | @lst a xs ea=>
  cases (show u=Value.ref a from rx)
  obtain⟨_,_,n,_,h1⟩:=(show ObjOk X.prog X.w H s.heap a (.lst xs) from I.hok a _ ea)
  exact PySem.W.kia_one PySem.W.kitx_list I.kIn ⟨_,h1,rfl⟩ e (fun z=>nomatch z) h
 | @frz a ob xs ea=>
  cases (show u=Value.ref a from rx)
  obtain⟨_,_,_,n,_,h1⟩:=(show ObjOk X.prog X.w H s.heap a (.frz ob (.lst xs)) from I.hok a _ ea)
  exact PySem.W.kia_one PySem.W.kitx_list I.kIn ⟨_,h1,rfl⟩ e (fun z=>nomatch z) h
 | @tup a xs ea=>
  cases (show u=Value.ref a from rx)
  obtain⟨_,_,_,p⟩:=(show ObjOk X.prog X.w H s.heap a (.tup xs) from I.hok a _ ea)
  obtain⟨o,h1,h2,_⟩:=p
  exact PySem.W.kia_one PySem.W.kitx_tuple I.kIn ⟨o,h1,h2⟩ e (fun z=>nomatch z) h
 | @dK a kvs ea=>
  cases (show u=Value.ref a from rx)
  obtain⟨_,_,vs,_,p⟩:=(show ObjOk X.prog X.w H s.heap a (.dK kvs) from I.hok a _ ea)
  obtain⟨o,es,ep,h1,h2,_⟩:=p
  exact PySem.W.kia_one PySem.W.kitx_dict I.kIn ⟨o,h1,h2.1⟩ e (fun z=>nomatch z) h
 | @dT a kvs ea=>
  cases (show u=Value.ref a from rx)
  obtain⟨_,_,xs,_,o,es,ep,h1,h2,_⟩:=(show ObjOk X.prog X.w H s.heap a (.dT kvs) from I.hok a _ ea)
  exact PySem.W.kia_one PySem.W.kitx_dict I.kIn ⟨o,h1,h2.1⟩ e (fun z=>nomatch z) h
 | @ins a C dx fs ea cl ha hn htk hm=>
  cases (show u=Value.ref a from rx)
  obtain⟨mA,O,_⟩:=qRr I.hok ea
  obtain⟨od,J,_⟩:=O.look
  exact PySem.W.kia_one (PySem.W.kitx_own (cl.get _) cl.hd ha hn htk hm) I.kIn J e (fun z=>nomatch z) h
end
end L2
namespace L2
open PySem PySem.Spec PyProof.Rows
structure Room (k:Nat)(A:Around):Prop where
 hd:A.handled=none
 dp:A.depth+3*k+5 < recursionLimit
 un:A.units+16*k+200 < cLine
theorem Room.mono {j k:Nat}{A:Around}(r:Room k A)(h:j≤k):Room j A:=⟨r.hd,by have:=r.dp;omega,by have:=r.un;omega⟩
theorem Room.deeper {k:Nat}{A:Around}(r:Room (k+1) A)(env:Env):Room k (A.deeper env):=
 ⟨r.hd,by have:=r.dp;show A.depth+1+3*k+5 < _;omega,by have:=r.un;show A.units+3+16*k+200 < _;omega⟩
theorem Room.in1 {k:Nat}{A:Around}(r:Room (k+1) A):Room k A.in1:=
 ⟨r.hd,by have:=r.dp;show A.depth+3*k+5 < _;omega,by have:=r.un;show A.units+1+16*k+200 < _;omega⟩
theorem qL2 {A:Around}{C:Addr}{us:List Value}{kw:List (Str × Value)}:(A.under (.builtin "type.__call__" ⟨.ref C::us,kw⟩)).depth=A.depth+1:=by
 first | rfl | simp [Around.under,Code.weight,Code.isCreation,Code.isGuard,Code.isCaller,Code.frames,Code.isFrame,guardIds]
theorem qMj {A:Around}{C:Addr}{us:List Value}{kw:List (Str × Value)}:(A.under (.builtin "type.__call__" ⟨.ref C::us,kw⟩)).units=A.units+1:=by
 first | rfl | simp [Around.under,Code.cUnits,Code.frames,Code.isFrame]
theorem Room.make {k:Nat}{A:Around}(r:Room (k+1) A)(C:Addr)(us:List Value)(kw:List (Str × Value)):Room k (A.under (.builtin "type.__call__" ⟨.ref C::us,kw⟩)):=
 ⟨r.hd,by have:=r.dp;rw [qL2];omega,by have:=r.un;rw [qMj];omega⟩
theorem Room.depth {k:Nat}{A:Around}(r:Room k A):A.depth < recursionLimit:=by have:=r.dp;omega
theorem Room.units {k:Nat}{A:Around}(r:Room k A):A.units+64 < cLine:=by have:=r.un;omega
theorem Room.units0 {k:Nat}{A:Around}(r:Room k A):A.units < cLine:=by have:=r.un;omega
def qWb:TA:=fun _ H Q=>Q [] H
def qVw (ta:TE)(tr:TA):TA:=fun σ H Q=>ta σ H fun x H1=>tr σ H1 fun xs H2=>Q (x::xs) H2
section
variable {X : Cx} {e : Expr} {es : List Expr} {te : TE} {t : TA} {pos : Pos}
theorem qE:PA X [] qWb:=fun _ _ _ _ H Q I h=>Calls.spliced_nil ⟨[],H,I,.nil,h⟩
theorem qA (ha:PE X e te)(hr:PA X es t)(hs:starEach (e::es) X.env=(false,eval e X.env)::starEach es X.env:=by rfl):PA X (e::es) (qVw te t):=by
 intro pos pins s σ H Q I h
 rw [hs]
 show wpAny _ _ (spliced ((false,eval e X.env)::backTo pos (starEach es X.env))) _ _ s
 refine Calls.spliced_cons (thn (ha pins s σ H _ I h) fun u s1 ⟨x,H1,I1,r1,q1⟩=>?_)
 exact thn (hr pos pins s1 σ H1 _ I1 q1) fun us s2 ⟨xs,H2,I2,r2,q2⟩=>⟨x::xs,H2,I2,.cons r1 r2,q2⟩
inductive qUs (Q:VK)(xs:List V)(H1:Hp):Prop
| mk (_:xs.length≤sizeLine) (_:∀ p,H1 p=none→Q (.ref p) (upd H1 p (.tup xs)))
def qV8 (t:TA):TE:=fun σ H Q=>t σ H fun xs H1=>qUs Q xs H1
inductive qU0 (Q:VK)(xs:List V)(H1:Hp):Prop
| mk (_:xs.length≤sizeLine) (_:∀ p,H1 p=none→Q (.ref p) (upd H1 p (.lst xs)))
def qWy (t:TA):TE:=fun σ H Q=>t σ H fun xs H1=>qU0 Q xs H1
theorem qo {x1}(h:PA X es t):PE X (.Tuple es x1 pos) (qV8 t):=by
 intro pins s σ H Q I hq
 refine wpAny_Tuple_spliced (thn (h pos pins s σ H _ I hq) fun us s1 ⟨xs,H1,I1,r,z,q⟩=>⟨by rw [← r.length];exact z,?_⟩)
 have hf:H1 s1.heap.objs.size=none:=I1.hok.fresh (Nat.le_refl _)
 refine⟨.ref s1.heap.objs.size,upd H1 s1.heap.objs.size (.tup xs),I1.laid (t':=s1.toks) (fun b u e=>Heap.get?_push_of_some _ e) (Nat.le_refl _) ?_,rfl,q _ hf⟩
 exact⟨z,us,r,⟨_,Heap.get?_push_size _ rfl,rfl,_,rfl⟩⟩
theorem qr (h:PA X es t):PE X (.List es pos) (qWy t):=by
 intro pins s σ H Q I hq
 refine wpAny_List_spliced (thn (h pos pins s σ H _ I hq) fun us s1 ⟨xs,H1,I1,r,z,q⟩=>⟨by rw [← r.length];exact z,?_⟩)
 have hf:H1 s1.heap.objs.size=none:=I1.hok.fresh (Nat.le_refl _)
 refine⟨.ref s1.heap.objs.size,upd H1 s1.heap.objs.size (.lst xs),I1.laid (t':=s1.toks) (fun b u e=>Heap.get?_push_of_some _ e) (Nat.le_refl _) ?_,rfl,q _ hf⟩
 exact⟨z,us,0,r,Heap.get?_push_size _ rfl⟩
end
abbrev Sp:=List V→Hp→VK→XK→Prop
abbrev CXT:=List Env→Hp→Shared→XK→Value→Shared→Prop
structure Env0 (P:Program)(w:World)(K:PySem.W.Frag)(mg:Str→Option Value)(base:Heap)(A:Around)(outer:List Env)(s:Shared)(H:Hp):Prop where
 frames:A.frames=some outer
 mod:Mod K mg base
 bs:∀ b o,base.get? b=some o→s.heap.get? b=some o∧H b=none
 bsz:base.objs.size≤s.heap.objs.size
 funs:s.heap.FunFrames base outer
 frf:∀ b∈frs outer,H b=none
 hok:HOk P w H s.heap
 bare:AllBare s.gens
def CE (outer:List Env)(P:Program)(w:World)(H:Hp)(s:Shared)(Q:VK)(u:Value)(s':Shared):Prop:=
 ∃ v H',s'.os=s.os∧AllBare s'.gens∧Un (frs outer) [] H H' s.heap s'.heap∧HOk P w H' s'.heap∧RelV v u∧Q v H'
def CR (CX:CXT)(outer:List Env)(P:Program)(w:World)(H:Hp)(s:Shared)(Q:VK)(E:XK)(r:Result)(s':Shared):Prop:=
 match r with
 | .ok (.ret u)=>CE outer P w H s Q u s'
 | .ok _=>False
 | .error e=>CX outer H s E e s'
structure FnOk (P:Program)(w:World)(K:PySem.W.Frag)(mg:Str→Option Value)(base:Heap)(CX:CXT)(k:Nat)(f:Addr)(fd:FuncData)(ps:List Str)(sp:Sp):Prop where
 len:∀ vs H Q E,sp vs H Q E→vs.length=ps.length
 run:∀ (A:Around) (outer:List Env) (s:Shared) (H:Hp) (args:Args) (us:List Value) (vs:List V) (Q:VK) (E:XK),Room k A→Env0 P w K mg base A outer s H→BindsTo s fd args (ps.zip us)→Vals vs us→sp vs H Q E→
  codeAny (model P w) A (.call (.ref f) args) (CR CX outer P w H s Q E) s
theorem FnOk.imp {P:Program}{w:World}{K:PySem.W.Frag}{mg:Str→Option Value}{base:Heap}{CX:CXT}{k:Nat}{f:Addr}{fd:FuncData}{ps:List Str}{sp sp':Sp}(F:FnOk P w K mg base CX k f fd ps sp)
 (h:∀ vs H Q E,sp' vs H Q E→sp vs H Q E):FnOk P w K mg base CX k f fd ps sp':=
 ⟨fun vs H Q E q=>F.len vs H Q E (h _ _ _ _ q),fun A outer s H args us vs Q E hr he hb hv hs=>F.run A outer s H args us vs Q E hr he hb hv (h _ _ _ _ hs)⟩
theorem Env0.make {P:Program}{w:World}{K:PySem.W.Frag}{mg:Str→Option Value}{base:Heap}{A:Around}{outer:List Env}{s:Shared}{H:Hp}(e:Env0 P w K mg base A outer s H)(C:Addr)(us:List Value)(kw:List (Str × Value)):
 Env0 P w K mg base (A.under (.builtin "type.__call__" ⟨.ref C::us,kw⟩)) outer s H:=⟨by first | exact e.frames | (simpa [Around.under,Code.envs,Code.isFrame,pushEnvs] using e.frames),e.mod,e.bs,e.bsz,e.funs,e.frf,e.hok,e.bare⟩
section
variable {X : Cx} {pins : List (Addr × Obj)} {σ : St} {H : Hp} {s s' : Shared}
theorem Inv.env0 (I:Inv X pins σ H s):Env0 X.prog X.w X.K X.mg X.base X.A X.stack s H:=
 ⟨I.ok.frames,I.ok.mod,I.bs,Nat.le_trans I.ok.bsz I.sz,I.stack,I.stkFree,I.hok,I.bare⟩
theorem Inv.after {Q:VK}{u:Value}(I:Inv X pins σ H s)(h:CE X.stack X.prog X.w H s Q u s'):EP X pins σ Q u s':=by
 obtain⟨v,H',os,bare,un,hok,r,q⟩:=h
 obtain⟨hh,g,d,t,os'⟩:=s'
 obtain rfl:os'=s.os:=os
 exact⟨v,H',I.call (h':=hh) (g':=g) (d':=d) (t':=t) (ch:=[]) un hok bare (fun b z=>absurd z (by simp)),r,q⟩
end
def qRo (sp:Sp)(dvs:List V)(E:XK)(t:TA):TE:=fun σ H Q=>t σ H fun vs H1=>sp (vs++dvs) H1 Q E
def Binds (K:PySem.W.Frag)(fd:FuncData)(ps:List Str)(ds:List Value):Prop:=
 ∀ (s:Shared) (us:List Value),K.In s.heap→(us++ds).length=ps.length→BindsTo s fd ⟨us,[]⟩ (ps.zip (us++ds))
theorem Binds.all {K:PySem.W.Frag}{fd:FuncData}{ps:List Str}(h:∀ us:List Value,us.length=ps.length→bindArgs fd ⟨us,[]⟩=pure (ps.zip us)):Binds K fd ps []:=fun s us _ hl=>by
 rw [List.append_nil] at hl ⊢
 exact .of_eq (h us hl)
def qKl (CX:CXT)(X:Cx)(E:XK):Prop:=∀ (pins:List (Addr × Obj)) (σ:St) (H:Hp) (s:Shared) (e:Value) (s':Shared),Inv X pins σ H s→CX X.stack H s E e s'→X.xe e s'
section
variable {X : Cx} {CX : CXT} {k : Nat} {f C : Addr} {fd : FuncData} {ps : List Str} {sp : Sp} {dvs : List V} {ds : List Value} {E : XK} {x m : Str} {p pos apos : Pos} {e o : Expr} {es : List Expr} {ta : TE} {t : TA}
theorem qTi {pins:List (Addr × Obj)}{σ:St}{H:Hp}{s:Shared}{Q:VK}{us:List Value}{vs:List V}(F:FnOk X.prog X.w X.K X.mg X.base CX k f fd ps sp)(hr:Room k X.A)(hb:Binds X.K fd ps ds)(hd:Vals dvs ds)(hx:qKl CX X E)
 (I:Inv X pins σ H s) (r:Vals vs us) (h:sp (vs++dvs) H Q E):wpAny (model X.prog X.w) X.A (call (.ref f) us) (EP X pins σ Q) X.xe s:=by
 have r2:Vals (vs++dvs) (us++ds):=r.append hd
 have hl:(us++ds).length=ps.length:=by rw [← r2.length];exact F.len _ _ _ _ h
 refine wpAny_call (codeAny_mono (F.run X.A X.stack s H ⟨us,[]⟩ (us++ds) (vs++dvs) Q E hr I.env0 (hb s us I.kIn hl) r2 h) fun r s' hq=>?_)
 cases r with
 | error e=>exact hx pins σ H s e s' I hq
 | ok fl=>
  cases fl with
  | ret u=>exact I.after hq
  | next=>exact False.elim hq
  | brk=>exact False.elim hq
  | cont=>exact False.elim hq
theorem qOv (F:FnOk X.prog X.w X.K X.mg X.base CX k f fd ps sp)(hr:Room k X.A)(hg:Gl X x)(hm:X.mg x=some (.ref f))(hk:PySem.W.keepIn X.K (.ref f)=true)(hb:Binds X.K fd ps ds)(hd:Vals dvs ds)(hx:qKl CX X E)
 (ha:PA X (e::es) t) (hdb:(x == ("__debug__":Str))=false:=by decide) (he:starEach (e::es) X.env=(false,eval e X.env)::starEach es X.env:=by rfl) (hpl:(backTo pos (starEach es X.env)).any (·.1)=false:=by rfl):
 PE X (.Call (.Name x p) (e::es) [] pos) (qRo sp dvs E t):=by
 intro pins s σ H Q I h
 refine wpAny_Call_Name_kw (qA0 I hg hm ?_ hdb)
 refine PySem.W.callWith_K (h₀:=X.base) I.ok.mod.kin hk (thn (ha pos pins s σ H _ I h) fun us s1 ⟨vs,H1,I1,r,q⟩=>⟨I1.kIn,?_⟩) he hpl
 exact qTi F hr hb hd hx I1 r q
structure Mk (K:PySem.W.Frag)(C f:Addr):Prop where
 makes:PySem.W.makesIn K C=true
 init:PySem.W.findIn K (.ref C) "__init__"=some (some (.ref f))
 fn:PySem.W.isFn K (.ref f)=true
 kp:PySem.W.keepIn K (.ref C)=true
end
section
variable {X : Cx} {CX : CXT} {k : Nat} {f C : Addr} {fd : FuncData} {ps ks : List Str} {sp : Sp} {E : XK} {x m : Str} {p pos apos kpos : Pos} {e o : Expr} {es : List Expr} {kws : List Keyword} {te ta : TE} {t tk : TA} {nm : Option Str}
structure KBinds (K:PySem.W.Frag)(fd:FuncData)(ps ks:List Str)(g:List Value→List Value→List Value)(gV:List V→List V→List V):Prop where
 to:∀ (s:Shared) (us ws:List Value),K.In s.heap→(g us ws).length=ps.length→BindsTo s fd ⟨us,ks.zip ws⟩ (ps.zip (g us ws))
 rel:∀ {vs:List V} {us:List Value} {zs:List V} {ws:List Value},Vals vs us→Vals zs ws→Vals (gV vs zs) (g us ws)
variable {g : List Value → List Value → List Value} {gV : List V → List V → List V}
end
structure qQ (N P:List Str)(sc:Scope):Prop where
 kind:sc.kind= .function
 co:sc.isCoroutine=false
 gen:sc.isGenerator=false
 nd:N.Nodup
 pre:N.take P.length=P
 par:∀ x∈P,sc.names.lookup x=some .local∨sc.names.lookup x=some .cell
 nofree:∀ y∈sc.names,y.2≠ .free
theorem qIc {kindOf:Str→Option NameKind}{x:Str}:∀ {binds:List (Str × Value)} {m:Str→Option Value},(∀ v,(x,v) ∉ binds)→bindL kindOf binds m x=m x
 | [],_,_=>rfl
 | (n,v)::r,m,h=>by
  unfold bindL
  rw [qIc fun w hw=>h w (List.mem_cons_of_mem _ hw)]
  split
  · have:x≠n:=by rintro rfl;exact h v List.mem_cons_self
    simp [this]
  · rfl
theorem qHp {kindOf:Str→Option NameKind}{x:Str}:∀ {binds:List (Str × Value)} {m:Str→Option Value},(∀ v,(x,v) ∉ binds)→bindC kindOf binds m x=m x
 | [],_,_=>rfl
 | (n,v)::r,m,h=>by
  unfold bindC
  rw [qHp fun w hw=>h w (List.mem_cons_of_mem _ hw)]
  split
  · rfl
  · have:x≠n:=by rintro rfl;exact h v List.mem_cons_self
    simp [this]
theorem qIg {kindOf:Str→Option NameKind}{x:Str}{v:Value}:∀ {P:List Str} {vs:List Value} {i:Nat} {m:Str→Option Value},P.Nodup→P[i]? =some x→vs[i]? =some v→kindOf x=some .local→
 bindL kindOf (P.zip vs) m x=some v
 | [],_,_,_,_,h,_,_=>by simp at h
 | _::_,[],_,_,_,_,h,_=>by simp at h
 | p::P,w::vs,0,m,nd,h1,h2,hk=>by
  simp at h1 h2;subst h1;subst h2
  show bindL kindOf ((p,w)::P.zip vs) m p=_
  unfold bindL
  rw [qIc fun v hv=>(List.nodup_cons.mp nd).1 (List.of_mem_zip hv).1,if_pos hk]
  simp
 | p::P,w::vs,i+1,m,nd,h1,h2,hk=>by
  show bindL kindOf ((p,w)::P.zip vs) m x=_
  unfold bindL
  exact qIg (i:=i) (List.nodup_cons.mp nd).2 (by simpa using h1) (by simpa using h2) hk
theorem qHo {kindOf:Str→Option NameKind}{x:Str}{v:Value}:∀ {P:List Str} {vs:List Value} {i:Nat} {m:Str→Option Value},P.Nodup→P[i]? =some x→vs[i]? =some v→kindOf x≠some .local→
 bindC kindOf (P.zip vs) m x=some v
 | [],_,_,_,_,h,_,_=>by simp at h
 | _::_,[],_,_,_,_,h,_=>by simp at h
 | p::P,w::vs,0,m,nd,h1,h2,hk=>by
  simp at h1 h2;subst h1;subst h2
  show bindC kindOf ((p,w)::P.zip vs) m p=_
  unfold bindC
  rw [qHp fun v hv=>(List.nodup_cons.mp nd).1 (List.of_mem_zip hv).1,if_neg hk]
  simp
 | p::P,w::vs,i+1,m,nd,h1,h2,hk=>by
  show bindC kindOf ((p,w)::P.zip vs) m x=_
  unfold bindC
  exact qHo (i:=i) (List.nodup_cons.mp nd).2 (by simpa using h1) (by simpa using h2) hk
def start (N:List Str)(vs:List V):St:=vs.map some++List.replicate (N.length - vs.length) none
def qO3 (CX:CXT)(P:Program)(w:World)(K:PySem.W.Frag)(mg:Str→Option Value)(base:Heap)(N:List Str)(qual:Str)(scope:Scope)(f:Addr)(cd:Value)(A:Around)(outer:List Env)(s:Shared)(H:Hp)(E:XK):Cx where
 prog:=P
 w:=w
 K:=K
 mg:=mg
 base:=base
 A:=A.deeper (envOfC qual scope s.heap.objs.size f cd)
 N:=N
 s₀:=s
 H₀:=H
 env:=envOfC qual scope s.heap.objs.size f cd
 outer:=outer
 stack:=envOfC qual scope s.heap.objs.size f cd::outer
 ex:=[]
 calm:=true
 fn:=fun _=>true
 pn:=[]
 xe:=fun e s'=>wpAny (model P w) (A.deeper (envOfC qual scope s.heap.objs.size f cd)) (leaving (envOfC qual scope s.heap.objs.size f cd) e) (fun _ s''=>CX outer H s E e s'') (fun e' s''=>CX outer H s E e' s'') s'
theorem qKp {sc:Scope}{n:Nat}{x:Str}(h:sc.names.lookup x=some .cell):∃ c,(cellsFrom n sc.names []).lookup x=some c:=by
 have q:=PySem.W.cellsFrom_some sc.names n [] (.inl h)
 exact Option.isSome_iff_exists.mp q
theorem qNf {CX:CXT}{P:Program}{w:World}{K:PySem.W.Frag}{mg:Str→Option Value}{base:Heap}{N ps:List Str}{qual:Str}{scope:Scope}{f:Addr}{cd:Value}{A:Around}{outer:List Env}{s s1:Shared}{H:Hp}{E:XK}{us:List Value}{vs:List V}
 (S:qQ N ps scope) (hd:A.handled=none) (e0:Env0 P w K mg base A outer s H) (hl:vs.length=ps.length) (r:Vals vs us)
 (x:InCallC s s.heap.objs.size (bindL (envOfC qual scope s.heap.objs.size f cd).kindOf (ps.zip us) fun _=>none) (cellsFrom (s.heap.objs.size+1) scope.names []) (bindC (envOfC qual scope s.heap.objs.size f cd).kindOf (ps.zip us) fun _=>none) s1):
 Inv (qO3 CX P w K mg base N qual scope f cd A outer s H E) [] (start N vs) H s1:=by
 have hpl:ps.length≤N.length:=by have:=congrArg List.length S.pre;rw [List.length_take] at this;omega
 obtain⟨h1,tk,rfl,hk⟩:=x.done
 have noA:∀ b:Addr,b ∉ (qO3 CX P w K mg base N qual scope f cd A outer s H E).ex:=fun b z=>absurd (show b∈([]:List Addr) from z) (by simp)
 refine⟨⟨e0.mod,S.kind,rfl,rfl,Nat.le_refl _,fun y z c h1 h2=>?_,fun y hy=>?_,fun y c _ h=>?_,fun _=>hd,Around.frames_deeper e0.frames,.inr ⟨rfl,rfl⟩,fun b z=>absurd z (noA b),e0.bs,e0.bsz,fun b _ _=>noA b,fun b z=>absurd z (noA b),e0.funs,e0.frf⟩,
  rfl,e0.bare,Un.kept hk,⟨_,x.toInCall.ns,fun i y v h1 h2 h3=>?_⟩,fun y c h=>⟨_,x.cell y c h⟩,e0.hok.fresh (Nat.le_refl _),fun y c h=>?_,fun p hp=>absurd (show p∈([]:List (Addr × Obj)) from hp) (by simp),e0.hok.kept hk,?_⟩
 · exact name_of_addr x.apart (PySem.mem_of_lookup h1) (PySem.mem_of_lookup h2)
 · have hy:scope.names.lookup y=some .cell∨scope.names.lookup y=some .free:=hy
   rcases hy with hy | hy
   · exact qKp hy
   · exact absurd rfl (S.nofree _ (PySem.mem_of_lookup hy))
 · exact Nat.le_of_lt (x.above y c (PySem.mem_of_lookup h))
 · have hi:i < vs.length:=by
    unfold start at h2
    by_cases hi:i < vs.length
    · exact hi
    · rw [List.getElem?_append_right (by simpa using hi)] at h2
      rw [List.getElem?_replicate] at h2
      split at h2 <;> cases h2
   have ha:vs[i]? =some v:=by
    unfold start at h2
    rw [List.getElem?_append_left (by simpa using hi),List.getElem?_map] at h2
    cases e:vs[i]? with
    | none=>rw [e] at h2;cases h2
    | some a=>rw [e] at h2;cases h2;rfl
   obtain⟨u,hu,rv⟩:=r.get ha
   have hp:ps[i]? =some y:=by
    rw [← S.pre,List.getElem?_take_of_lt (by omega)];exact h1
   have ndP:ps.Nodup:=by rw [← S.pre];exact S.nd.sublist (List.take_sublist _ _)
   refine⟨u,rv,?_⟩
   rcases S.par y (List.mem_of_getElem? hp) with k | k
   · exact .inl ⟨k,qIg ndP hp hu k⟩
   · obtain⟨c,e⟩:=qKp (n:=s.heap.objs.size+1) k
     refine .inr ⟨.inl k,c,e,?_⟩
     have q:=x.cell y c e
     rw [qHo ndP hp hu (by show scope.names.lookup y≠_;rw [k];decide)] at q
     exact q
 · exact e0.hok.fresh (Nat.le_of_lt (x.above y c (PySem.mem_of_lookup h)))
 · unfold start
   show _=N.length
   rw [List.length_append,List.length_map,List.length_replicate]
   omega
theorem qS6 {CX:CXT}{P:Program}{w:World}{K:PySem.W.Frag}{mg:Str→Option Value}{base:Heap}{k:Nat}{f:Addr}{name qual:Str}{params:Arguments}{body:List Stmt}{scope:Scope}{dV kV doc pm cdv ct oc:Value}{an od:Option Addr}
 {osl:Array (Option Value)} {N ps:List Str} {sp:Sp} (lk:K.lookup f=some ⟨oc,od,.func (PySem.W.fnOf name qual params body scope dV kV doc pm an cdv ct),osl⟩) (hcd:PySem.W.codeIn K cdv qual=true) (S:qQ N ps scope)
 (len:∀ vs H Q E,sp vs H Q E→vs.length=ps.length)
 (hbody:∀ (A:Around) (outer:List Env) (s:Shared) (H:Hp) (vs:List V) (Q:VK) (E:XK),Room k (A.deeper (envOfC qual scope s.heap.objs.size f cdv))→sp vs H Q E→
   ∃ t,PSs (qO3 CX P w K mg base N qual scope f cdv A outer s H E) body t∧t {nx:=fun _ H'=>Q .non H',rt:=Q} (start N vs) H):
 FnOk P w K mg base CX (k+1) f (PySem.W.fnOf name qual params body scope dV kV doc pm an cdv ct) ps sp:=by
 refine⟨len,fun A outer s H args us vs Q E hr e0 hb r hsp=>?_⟩
 have hl:=len _ _ _ _ hsp
 have KX:K.In s.heap:=e0.mod.kin.keeps fun b o e=>(e0.bs b o e).1
 have lim:s.heap.NoLimit:=e0.mod.nolimit.keeps fun b o e=>(e0.bs b o e).1
 have hkind:∀ y∈ps.zip us,scope.names.lookup y.1=some .local∨(scope.names.lookup y.1=some .cell∧((cellsFrom (s.heap.objs.size+1) scope.names []).lookup y.1).isSome=true):=fun⟨n,v⟩ hy=>by
  rcases S.par n (List.of_mem_zip hy).1 with q | q
  · exact .inl q
  · exact .inr ⟨q,PySem.W.cellsFrom_some _ _ _ (.inl q)⟩
 refine codeAny_call_function hr.depth (KX _ _ lk) rfl S.co S.gen rfl (PySem.W.codeRec_of KX hcd) (hb _ _ _ _ ?_)
 refine wpAny_newFunctionEnv_cells S.kind hkind fun env he s1 x=>?_
 subst he
 refine⟨lim.keeps x.toInCall.keep,codeAny_func ?_⟩
 obtain⟨t,ht,hq⟩:=hbody A outer s H vs Q E (hr.deeper _) hsp
 have I:Inv (qO3 CX P w K mg base N qual scope f cdv A outer s H E) [] (start N vs) H s1:=qNf S hr.hd e0 hl r x
 refine wpAny_mono (ht [] s1 (start N vs) H _ I hq) (fun fl s' hs=>?_) fun e s' hs=>hs
 have fin:∀ {σ':St} {H':Hp} {v:V} {u:Value},Inv (qO3 CX P w K mg base N qual scope f cdv A outer s H E) [] σ' H' s'→RelV v u→Q v H'→CE outer P w H s Q u s':=
  fun {σ' H' v u} J rv q=>⟨v,H',J.os,J.bare,J.base,J.hok,rv,q⟩
 cases fl with
 | ret u=>
  obtain⟨v,σ',H',J,rv,q⟩:=hs
  exact fin J rv q
 | next=>
  obtain⟨σ',H',J,q⟩:=hs
  exact fin (v:=V.non) (u:=Value.none) J rfl q
 | brk=>
  obtain⟨_,_,_,q⟩:=hs
  exact False.elim q
 | cont=>
  obtain⟨_,_,_,q⟩:=hs
  exact False.elim q
end L2
namespace L2
open PySem PySem.Spec PyProof.Rows
section
variable {X : Cx} {x : Str} {p pos : Pos} {e : Expr} {es : List Expr} {t : TA} {id T : String} {r : List V → Hp → VK → Prop}
def tCB (r:List V→Hp→VK→Prop)(t:TA):TE:=fun σ H Q=>t σ H fun vs H1=>r vs H1 Q
theorem qc (hc:qA1 X (.builtin id) r)(hg:Gl X x)(hm:X.mg x=none)(hv:bootBuiltins x=some (.builtin id))(ha:PA X (e::es) t)(hn:x≠"__name__":=by decide)(hdb:(x == ("__debug__":Str))=false:=by decide)
 (he:starEach (e::es) X.env=(false,eval e X.env)::starEach es X.env:=by rfl) (hpl:(backTo pos (starEach es X.env)).any (·.1)=false:=by rfl):PE X (.Call (.Name x p) (e::es) [] pos) (tCB r t):=by
 intro pins s σ H Q I h
 refine wpAny_Call_Name_kw (qEs I hg hm hv ?_ hn hdb)
 exact PyProof.Rows.callWith_builtin1 (thn (ha pos pins s σ H _ I h) fun us s1 ⟨vs,H1,I1,r1,q1⟩=>hc pins s1 σ H1 vs us Q I1 r1 q1) he hpl
theorem kn (hc:qA1 X (.type T) r)(hg:Gl X x)(hm:X.mg x=none)(hv:bootBuiltins x=some (.type T))(ha:PA X (e::es) t)(hn:x≠"__name__":=by decide)(hdb:(x == ("__debug__":Str))=false:=by decide)
 (he:starEach (e::es) X.env=(false,eval e X.env)::starEach es X.env:=by rfl) (hpl:(backTo pos (starEach es X.env)).any (·.1)=false:=by rfl):PE X (.Call (.Name x p) (e::es) [] pos) (tCB r t):=by
 intro pins s σ H Q I h
 refine wpAny_Call_Name_kw (qEs I hg hm hv ?_ hn hdb)
 exact PyProof.Rows.callWith_type1 (thn (ha pos pins s σ H _ I h) fun us s1 ⟨vs,H1,I1,r1,q1⟩=>hc pins s1 σ H1 vs us Q I1 r1 q1) he hpl
end
end L2
namespace HT
open PySem PyProof.Rows
def lexLt:List Int→List Int→Bool
 | [],[]=>false
 | [],_::_=>true
 | _::_,[]=>false
 | x::xs,y::ys=>if x=y then lexLt xs ys else decide (x < y)
section
open PySem.SeqAt
open PySem.AutoSeq1 (wpAny_loadPart')
open PySem.MeetsSeq PySem.MeetsSeq2 PySem.MeetsSeq3
end
section
variable {prog : Program} {w : World} {A : Around} {E : Value → Shared → Prop} {s : Shared}
def sIx (n d:Nat):Option Int→Nat
 | none=>d
 | some v=>if v < 0 then (v+(n:Int)).toNat else min v.toNat n
theorem sIx_none (n d:Nat):sIx n d none=d:=rfl
theorem sIx_nat (n d k:Nat):sIx n d (some (k:Int))=min k n:=by
 show (if (k:Int) < 0 then ((k:Int)+(n:Int)).toNat else min (k:Int).toNat n)=min k n
 rw [if_neg (by omega),Int.toNat_natCast]
end
end HT
namespace L2
open PySem PySem.Spec PyProof.Rows
abbrev TO:=St→Hp→(Option Int→Hp→Prop)→Prop
def PO (X:Cx)(e:Option Expr)(t:TO):Prop:=
 ∀ (pins:List (Addr × Obj)) (s:Shared) (σ:St) (H:Hp) (Q:Option Int→Hp→Prop),Inv X pins σ H s→t σ H Q→
  wpAny (model X.prog X.w) X.A (evalPart e X.env) (fun u s'=>∃ o H',Inv X pins σ H' s'∧IsPart u o∧Q o H') X.xe s
def qQ5:TO:=fun _ H Q=>Q none H
inductive qTj (Q:Option Int→Hp→Prop)(x:V)(H1:Hp):Prop
| mk i (_:x= .int i) (_:Q (some i) H1)
def qUm (t:TE):TO:=fun σ H Q=>t σ H fun x H1=>qTj Q x H1
section
variable {X : Cx} {e : Expr} {te : TE} {lo hi : Option Expr} {tl th : TO} {pos p2 : Pos}
theorem wB:PO X none qQ5:=by
 intro pins s σ H Q I h
 rw [evalPart_none]
 exact wpAny_pure ⟨none,H,I,.none,h⟩
theorem zX (h:PE X e te):PO X (some e) (qUm te):=by
 intro pins s σ H Q I hw
 rw [evalPart_some]
 refine thn (h pins s σ H _ I hw) fun u s1 ⟨x,H1,I1,r1,q1⟩=>?_
 obtain⟨i,rfl,q⟩:=q1
 obtain⟨t,rfl⟩:=r1
 exact⟨some i,H1,I1,.int i t,q⟩
def SlR (X:Cx)(r:V→Option Int→Option Int→Hp→VK→Prop):Prop:=
 ∀ (pins:List (Addr × Obj)) (s:Shared) (σ:St) (H:Hp) (x:V) (v vl vu:Value) (lo hi:Option Int) (sl:Addr) (Q:VK),Inv X pins σ H s→RelV x v→s.heap.IsSliceOf sl vl vu .none→IsPart vl lo→IsPart vu hi→r x lo hi H Q→
  ∃ T id,typeLookup (.type T) "__getitem__"=pure (some (.builtin id))∧s.TypeIs v T∧wpAny (model X.prog X.w) X.A (getItem v (.ref sl)) (EP X pins σ Q) X.xe s
def tSl (r:V→Option Int→Option Int→Hp→VK→Prop)(te:TE)(tl th:TO):TE:=fun σ H Q=>te σ H fun x H1=>tl σ H1 fun l H2=>th σ H2 fun u H3=>r x l u H3 Q
theorem zV {r:V→Option Int→Option Int→Hp→VK→Prop}(hr:SlR X r)(he:PE X e te)(hl:PO X lo tl)(hu:PO X hi th):PE X (.Subscript e (.Slice lo hi none p2) pos) (tSl r te tl th):=by
 intro pins s σ H Q I h
 refine Subscript_ (thn (he pins s σ H _ I h) fun v s1 ⟨x,H1,I1,r1,q1⟩=>?_)
 refine wpAny_Slice (thn (hl pins s1 σ H1 _ I1 q1) fun vl s2 ⟨l,H2,I2,pl,q2⟩=>thn (hu pins s2 σ H2 _ I2 q2) fun vu s3 ⟨u,H3,I3,pu,q3⟩=>?_)
 rw [evalPart_none]
 refine wpAny_pure ?_
 have I4:Inv X pins σ H3 {s3 with heap:=s3.heap.push {cls:=.type "slice",data:=.fields #[vl,vu,.none]}}:=I3.kept (t':=s3.toks) fun b ob q=>Heap.get?_push_of_some _ q
 obtain⟨T,id,hT,ht,hg⟩:=hr pins {s3 with heap:=s3.heap.push {cls:=.type "slice",data:=.fields #[vl,vu,.none]}} σ H3 x v vl vu l u s3.heap.objs.size Q I4 r1 (Heap.IsSliceOf.new ..) pl pu q3
 show wpAny (model X.prog X.w) X.A (subscriptTail e (.Slice lo hi none p2) v (.ref s3.heap.objs.size)) (EP X pins σ Q) X.xe {s3 with heap:=s3.heap.push {cls:=.type "slice",data:=.fields #[vl,vu,.none]}}
 exact tail_any (ops:=[.ref s3.heap.objs.size,v]) ht hT hg (by with_unfolding_all rfl)
def qIz (xs:List V)(lo hi:Option Int):List V:=(xs.drop (HT.sIx xs.length 0 lo)).take (HT.sIx xs.length xs.length hi - HT.sIx xs.length 0 lo)
theorem qI3 (xs:List V)(lo hi:Option Int):(qIz xs lo hi).length≤xs.length:=by
 unfold qIz
 rw [List.length_take,List.length_drop]
 omega
inductive rSlT (K:PySem.W.Frag)(x:V)(lo:Option Int)(hi:Option Int)(H:Hp)(Q:VK):Prop
| mk a xs (_:x= .ref a) (_:SqT K H a xs) (_:¬ (HT.sIx xs.length 0 lo=0∧HT.sIx xs.length xs.length hi=xs.length)) (_:∀ p,H p=none→Q (.ref p) (upd H p (.tup (qIz xs lo hi))))
inductive rLtT (K:PySem.W.Frag)(x:V)(y:V)(H:Hp)(Q:VK):Prop
| mk a b ns ms (_:x= .ref a) (_:y= .ref b) (_:SqT K H a (ns.map V.int)) (_:SqT K H b (ms.map V.int)) (_:Q (.bl (HT.lexLt ns ms)) H)
end
end L2
namespace L2
open PySem PySem.Spec PyProof.Rows
def ixN (n:Nat)(i:Int):Option Nat:=if 0≤i then (if i < n then some i.toNat else none) else if -(n:Int)≤i then some (i+n).toNat else none
def atI {α:Type}(xs:List α)(i:Int):Option α:=(ixN xs.length i).bind fun j=>xs[j]?
theorem qM8 {n:Nat}{i:Int}{j:Nat}(h:ixN n i=some j):seqIndex? i n=some j∧j < n∧-(n:Int)≤i∧i < n:=by
 unfold ixN at h
 by_cases h0:0≤i
 · rw [if_pos h0] at h
   by_cases h1:i < n
   · rw [if_pos h1] at h
     have e:i.toNat=j:=Option.some.inj h
     exact⟨by rw [seqIndex_of h0 h1,e],by omega,by omega,h1⟩
   · rw [if_neg h1] at h;cases h
 · rw [if_neg h0] at h
   by_cases h1:-(n:Int)≤i
   · rw [if_pos h1] at h
     have e:(i+n).toNat=j:=Option.some.inj h
     exact⟨by rw [seqIndex_neg (by omega) h1,e],by omega,h1,by omega⟩
   · rw [if_neg h1] at h;cases h
theorem qOz {α:Type}{xs:List α}{i:Int}{v:α}(h:atI xs i=some v):∃ j,seqIndex? i xs.length=some j∧xs[j]? =some v∧j < xs.length∧-(xs.length:Int)≤i∧i < xs.length:=by
 unfold atI at h
 cases e:ixN xs.length i with
 | none=>rw [e] at h;cases h
 | some j=>
  rw [e] at h
  obtain⟨h1,h2,h3,h4⟩:=qM8 e
  exact⟨j,h1,h,h2,h3,h4⟩
theorem jJ {α:Type}{xs:List α}{j:Nat}{v:α}(h:xs[j]? =some v):atI xs (j:Int)=some v:=by
 have hj:j < xs.length:=(List.getElem?_eq_some_iff.mp h).1
 have e:ixN xs.length (j:Int)=some j:=by
  unfold ixN
  rw [if_pos (by omega),if_pos (by omega)];simp
 unfold atI;rw [e];exact h
theorem qQf {α:Type}(xs:List α)(v:α):atI (xs++[v]) (-1)=some v:=by
 have hl:(xs++[v]).length=xs.length+1:=by simp
 have e:ixN (xs++[v]).length (-1)=some xs.length:=by
  unfold ixN
  rw [hl,if_neg (by decide),if_pos (by omega)]
  congr 1
  omega
 unfold atI
 rw [e]
 show (xs++[v])[xs.length]? =some v
 simp
def qRd (b:Expr):Prop:=∀ o i,subscripted b false o i=operate [o,i] (getItem o i)
def IxR (X:Cx)(r:R2):Prop:=
 ∀ (value slice:Expr) (pins:List (Addr × Obj)) (s:Shared) (σ:St) (H:Hp) (x y:V) (v u:Value) (Q:VK),Inv X pins σ H s→RelV x v→RelV y u→r x y H Q→
  subscripted slice false v u=operate [v,u] (getItem v u)→wpAny (model X.prog X.w) X.A (subscriptTail value slice v u) (EP X pins σ Q) X.xe s
def MtR (X:Cx)(id:String)(r:V→List V→Hp→VK→Prop):Prop:=
 ∀ (pins:List (Addr × Obj)) (s:Shared) (σ:St) (H:Hp) (x:V) (xs:List V) (v:Value) (us:List Value) (Q:VK),Inv X pins σ H s→RelV x v→Vals xs us→r x xs H Q→
  wpAny (model X.prog X.w) X.A (call (.builtin id) (v::us)) (EP X pins σ Q) X.xe s
section
variable {X : Cx} {a b : Expr} {ta tb : TE} {pos : Pos}
theorem jK {r:R2}(hr:IxR X r)(ha:PE X a ta)(hb:PE X b tb)(hs:qRd b):PE X (.Subscript a b pos) (tOp r ta tb):=by
 intro pins s σ H Q I h
 exact Subscript_ (qU6 ha hb I h fun v u s2 x y H2 I2 rx ry q=>hr a b pins s2 σ H2 x y v u Q I2 rx ry q (hs _ _))
inductive qV1 (K:PySem.W.Frag)(x:V)(y:V)(H:Hp)(Q:VK):Prop
| mk p xs i v (_:x= .ref p) (_:y= .int i) (_:SqL K H p xs) (_:atI xs i=some v) (_:Q v H)
inductive qSl (K:PySem.W.Frag)(x:V)(y:V)(H:Hp)(Q:VK):Prop
| mk p xs i v (_:x= .ref p) (_:y= .int i) (_:SqT K H p xs) (_:atI xs i=some v) (_:Q v H)
theorem q9:IxR X (qV1 X.K):=by
 intro value slice pins s σ H x y v u Q I rx ry h hs
 obtain⟨p,xs,i,z,rfl,rfl,hq,he,q⟩:=h
 cases rx
 obtain⟨t,rfl⟩:=ry
 obtain⟨its,r,pl,hz⟩:=I.list hq
 obtain⟨j,h1,h2,h3,h4,h5⟩:=qOz he
 obtain⟨w,ew,rw'⟩:=r.get h2
 have hl:=r.length
 have hn:=qGz
 have fin:EP X pins σ Q w s:=⟨z,H,I,rw',q⟩
 by_cases h0:0≤i
 · have hj:i.toNat=j:=by
    rw [seqIndex_of h0 h5] at h1
    exact Option.some.inj h1
   exact item_listR pl.isList h0 (by omega) (by rw [hj];simpa using ew) fin hs
 · have hj:(i+(its.toArray.size:Int)).toNat=j:=by
    rw [seqIndex_neg (by omega) h4] at h1
    rw [List.size_toArray,← hl]
    exact Option.some.inj h1
   exact subscriptTail_builtinR (x:=w) pl.isList.typeIs slot_list_getitem.lookup
    (wpAny_getItem_list_neg (Q:=fun r s'=>r=w∧EP X pins σ Q r s') pl.isList (by omega) (by rw [List.size_toArray] <;> omega) (by omega) (by rw [hj];simpa using ew) ⟨rfl,fin⟩) hs
theorem qBp:IxR X (qSl X.K):=by
 intro value slice pins s σ H x y v u Q I rx ry h hs
 obtain⟨p,xs,i,z,rfl,rfl,hq,he,q⟩:=h
 cases rx
 obtain⟨t,rfl⟩:=ry
 obtain⟨its,r,pl,hz⟩:=I.tuple hq
 obtain⟨j,h1,h2,h3,h4,h5⟩:=qOz he
 obtain⟨w,ew,rw'⟩:=r.get h2
 have hl:=r.length
 have hn:=qGz
 have fin:EP X pins σ Q w s:=⟨z,H,I,rw',q⟩
 exact subscriptTail_builtinR (x:=w) pl.typeIs slot_tuple_getitem.lookup
  (getItem_tuple (j:=j) (Q:=fun r s'=>r=w∧EP X pins σ Q r s') pl (by omega) (by omega) (by rw [List.size_toArray,← hl];exact h1) (by simpa using ew) ⟨rfl,fin⟩) hs
theorem qLz (its:List Value)(n j:Nat)(u:Value):Obj.mapSeq (·.setIfInBounds j u) {cls:=.type "list",data:=.seq its.toArray n}={cls:=.type "list",data:=.seq (its.set j u).toArray n}:=by
 simp [Obj.mapSeq]
theorem Inv.lst {pins:List (Addr × Obj)}{σ:St}{H:Hp}{s:Shared}{p:Addr}{xs:List V}(I:Inv X pins σ H s)(h:H p=some (.lst xs)):
 ∃ (its:List Value) (n:Nat),Vals xs its∧s.heap.get? p=some {cls:=.type "list",data:=.seq its.toArray n}∧xs.length≤sizeLine:=by
 obtain⟨z,its,n,r,e⟩:=I.hok p _ h
 exact⟨its,n,r,e,z⟩
theorem Inv.lstUpd {pins:List (Addr × Obj)}{σ:St}{H:Hp}{s:Shared}{p:Addr}{xs ys:List V}{its its':List Value}{n n':Nat}{f:Obj→Obj}(I:Inv X pins σ H s)(h:H p=some (.lst xs))
 (ho:s.heap.get? p=some {cls:=.type "list",data:=.seq its.toArray n}) (hf:f {cls:=.type "list",data:=.seq its.toArray n}={cls:=.type "list",data:=.seq its'.toArray n'}) (r:Vals ys its') (hz:ys.length≤sizeLine) (t:Nat):
 Inv X pins σ (upd H p (.lst ys)) {s with heap:=s.heap.update p f,toks:=t}:=by
 have e:(s.heap.update p f).get? p=some {cls:=.type "list",data:=.seq its'.toArray n'}:=by
  rw [Heap.get?_update_self f ho (by rw [hf] <;> rfl),hf]
 refine I.write (x:=p) (e:=p) (by rw [h];trivial) (.inl rfl) (fun b u hb q=>(Heap.get?_update_other _ _ (Ne.symm hb)).trans q) ⟨_,e⟩ ?_
 exact⟨hz,its',n',r,e⟩
def qU2:V→V→V→Hp→(Hp→Prop)→Prop:=fun o i v H Q=>∃ p xs k j,o= .ref p∧i= .int k∧H p=some (.lst xs)∧ixN xs.length k=some j∧Q (upd H p (.lst (xs.set j v)))
theorem qO7:qV4 X qU2:=by
 intro pins s σ H o i v ov iv u Q I ro ri rv h
 obtain⟨p,xs,k,j,rfl,rfl,hp,hj,q⟩:=h
 cases ro
 obtain⟨t,rfl⟩:=ri
 obtain⟨its,n,r,ho,hz⟩:=I.lst hp
 obtain⟨h1,h2,h3,h4⟩:=qM8 hj
 have hl:=r.length
 have hn:=qGz
 have I':Inv X pins σ (upd H p (.lst (xs.set j v))) {s with heap:=s.heap.update p (Obj.mapSeq (·.setIfInBounds j u))}:=
  I.lstUpd hp ho (qLz its n j u) (r.set rv j) (by rw [List.length_set];exact hz) s.toks
 by_cases h0:0≤k
 · have hk:k.toNat=j:=by
    rw [seqIndex_of h0 h4] at h1
    exact Option.some.inj h1
   exact PySem.W.ki_setAt ho h0 (by omega) (by rw [List.size_toArray,← hl];exact h4) (by rw [hk];exact⟨_,I',q⟩)
 · have hk:(k+(its.toArray.size:Int)).toNat=j:=by
    rw [seqIndex_neg (by omega) h3] at h1
    rw [List.size_toArray,← hl]
    exact Option.some.inj h1
   exact PySem.W.ki_setBack ho (by omega) (by rw [List.size_toArray,← hl];exact h3) (by omega) (by rw [hk];exact⟨_,I',q⟩)
theorem qIi (lo hi:Option Int)(n:Nat):(sliceBounds lo hi none n).1=((HT.sIx n 0 lo:Nat):Int)∧(sliceBounds lo hi none n).2.1=((HT.sIx n n hi:Nat):Int)∧(sliceBounds lo hi none n).2.2=1:=by
 refine⟨?_,?_,rfl⟩
 · cases lo with
   | none=>simp [sliceBounds,HT.sIx]
   | some i=>
    simp only [sliceBounds,HT.sIx,Option.getD_none,show (1:Int) > 0 by decide,if_true]
    by_cases h:i < 0
    · simp only [h,if_true] <;> omega
    · simp only [h,if_false] <;> omega
 · cases hi with
   | none=>simp [sliceBounds,HT.sIx]
   | some i=>
    simp only [sliceBounds,HT.sIx,Option.getD_none,show (1:Int) > 0 by decide,if_true]
    by_cases h:i < 0
    · simp only [h,if_true] <;> omega
    · simp only [h,if_false] <;> omega
theorem qGo (its:List Value)(lo hi:Option Int):slicePick its.toArray lo hi none=((its.drop (HT.sIx its.length 0 lo)).take (HT.sIx its.length its.length hi - HT.sIx its.length 0 lo)).toArray:=by
 obtain⟨h1,h2,h3⟩:=qIi lo hi its.toArray.size
 unfold slicePick
 rw [h1,h2,h3]
 simp only [sliceRange_one,pick_run,List.size_toArray] <;> rfl
inductive qV9 (K:PySem.W.Frag)(x:V)(lo:Option Int)(hi:Option Int)(H:Hp)(Q:VK):Prop
| mk a xs (_:x= .ref a) (_:SqL K H a xs) (_:∀ p,H p=none→Q (.ref p) (upd H p (.lst (qIz xs lo hi))))
theorem vF:SlR X (qV9 X.K):=by
 intro pins s σ H x v vl vu lo hi sl Q I rx hs pl pu h
 obtain⟨a,xs,rfl,hx,q⟩:=h
 cases rx
 obtain⟨its,r,ht,hz⟩:=I.list hx
 have hlen:=r.length
 refine⟨"list",_,slot_list_getitem.lookup,ht.isList.typeIs,?_⟩
 refine wpAny_getItem_list_slice ht.isList hs pl pu .none (by simp) ?_ (by rw [List.size_toArray] <;> omega)
 rw [qGo,← hlen]
 refine⟨.ref s.heap.objs.size,_,I.laid (t':=s.toks) (o:=.lst (qIz xs lo hi)) (fun b ob q=>Heap.get?_push_of_some _ q) (Nat.le_refl _) ?_,rfl,q _ (I.hok.fresh (Nat.le_refl _))⟩
 exact⟨Nat.le_trans (qI3 xs lo hi) hz,_,0,(r.drop (HT.sIx xs.length 0 lo)).take (HT.sIx xs.length xs.length hi - HT.sIx xs.length 0 lo),Heap.get?_push_size _ rfl⟩
def xn:V→Bool
 | .non=>true
 | .bl _=>true
 | .int _=>true
 | .str _=>true
 | _=>false
def eqV:V→V→Bool
 | .non,.non=>true
 | .bl a,.bl b=>a == b
 | .bl a,.int b=>(if a then 1 else 0) == b
 | .int a,.bl b=>a == (if b then 1 else 0)
 | .int a,.int b=>a == b
 | .str a,.str b=>a == b
 | _,_=>false
theorem qLf {A:Around}{s:Shared}{y x:V}{u v:Value}(ry:RelV y u)(rx:RelV x v)(fy:xn y=true)(fx:xn x=true):SeqAt.EqAt A s u v (eqV y x):=by
 cases y with
 | non=>
  cases ry
  cases x with
  | non=>cases rx;exact SeqAt.EqAt.same _
  | bl b=>cases rx;exact SeqAt.EqAt.none_bool b
  | int b=>obtain⟨t,rfl⟩:=rx;exact SeqAt.EqAt.none_int b t
  | str b=>obtain⟨t,rfl⟩:=rx;exact SeqAt.EqAt.none_str b t
  | _=>exact absurd (show false=true from fx) Bool.false_ne_true
 | bl a=>
  cases ry
  cases x with
  | non=>cases rx;exact SeqAt.EqAt.bool_none a
  | bl b=>cases rx;exact SeqAt.EqAt.bool_bool a b
  | int b=>obtain⟨t,rfl⟩:=rx;exact SeqAt.EqAt.bool_int a b t
  | str b=>obtain⟨t,rfl⟩:=rx;exact SeqAt.EqAt.bool_str a b t
  | _=>exact absurd (show false=true from fx) Bool.false_ne_true
 | int a=>
  obtain⟨t',rfl⟩:=ry
  cases x with
  | non=>cases rx;exact SeqAt.EqAt.int_none a t'
  | bl b=>cases rx;exact SeqAt.EqAt.int_bool a t' b
  | int b=>obtain⟨t,rfl⟩:=rx;exact SeqAt.EqAt.int_int a t' b t
  | str b=>obtain⟨t,rfl⟩:=rx;exact SeqAt.EqAt.int_str a t' b t
  | _=>exact absurd (show false=true from fx) Bool.false_ne_true
 | str a=>
  obtain⟨t',rfl⟩:=ry
  cases x with
  | non=>cases rx;exact SeqAt.EqAt.str_none a t'
  | bl b=>cases rx;exact SeqAt.EqAt.str_bool a t' b
  | int b=>obtain⟨t,rfl⟩:=rx;exact SeqAt.EqAt.str_int a t' b t
  | str b=>obtain⟨t,rfl⟩:=rx;exact SeqAt.EqAt.str_str a t' b t
  | _=>exact absurd (show false=true from fx) Bool.false_ne_true
 | _=>exact absurd (show false=true from fy) Bool.false_ne_true
def eqU (x:V)(u:Value):Bool:=match u with
 | .none=>eqV .non x
 | .bool b=>eqV (.bl b) x
 | .int i _=>eqV (.int i) x
 | .str z _=>eqV (.str z) x
 | _=>false
theorem qQk {x y:V}{u:Value}(r:RelV y u)(f:xn y=true):eqU x u=eqV y x:=by
 cases y with
 | non=>cases r;rfl
 | bl b=>cases r;rfl
 | int i=>obtain⟨t,rfl⟩:=r;rfl
 | str z=>obtain⟨t,rfl⟩:=r;rfl
 | _=>exact absurd (show false=true from f) Bool.false_ne_true
theorem qDi {x:V}:∀ {xs:List V} {us:List Value},Vals xs us→xs.all xn=true→us.any (eqU x)=xs.any fun y=>eqV y x
 | _,_,.nil,_=>rfl
 | y::xs,u::us,.cons r t,f=>by
  rw [List.all_cons,Bool.and_eq_true] at f
  rw [List.any_cons,List.any_cons,qQk r f.1,qDi t f.2]
theorem wY {A:Around}{s:Shared}{x:V}{v:Value}(rx:RelV x v)(fx:xn x=true):∀ {xs:List V} {us:List Value},Vals xs us→xs.all xn=true→∀ u∈us,SeqAt.EqAt A s u v (eqU x u)
 | _,_,.nil,_=>fun u hu=>by cases hu
 | y::xs,u::us,.cons r t,f=>fun u' hu=>by
  rw [List.all_cons,Bool.and_eq_true] at f
  rcases List.mem_cons.mp hu with rfl | hu
  · rw [qQk r f.1];exact qLf r rx f.1 fx
  · exact wY rx fx t f.2 u' hu
def inV (x:V)(xs:List V):Bool:=xs.any fun y=>eqV y x
inductive rIn (K:PySem.W.Frag)(neg:Bool)(x:V)(y:V)(H:Hp)(Q:VK):Prop
| mk p xs (_:y= .ref p) (_:(SqL K H p xs∨SqT K H p xs)) (_:xn x=true) (_:xs.all xn=true) (_:Q (.bl (if neg then !inV x xs else inV x xs)) H)
theorem xj:OpR X (compareOp .In) (rIn X.K false):=by
 intro pins s σ H x y v u Q I rx ry h
 obtain⟨p,xs,rfl,hq,fx,fs,q⟩:=h
 cases ry
 rcases hq with hq | hq
 · obtain⟨its,r,pl,hz⟩:=I.list hq
   refine SeqAt.in_listAt (eqU x) pl.isList (fun w hw=>wY rx fx r fs w (by simpa using hw)) ⟨.bl _,H,I,rfl,?_⟩
   rw [show its.toArray.any (eqU x)=its.any (eqU x) by simp,qDi r fs]
   exact q
 · obtain⟨its,r,pl,hz⟩:=I.tuple hq
   refine SeqAt.in_tupleAt (eqU x) pl (fun w hw=>wY rx fx r fs w (by simpa using hw)) ⟨.bl _,H,I,rfl,?_⟩
   rw [show its.toArray.any (eqU x)=its.any (eqU x) by simp,qDi r fs]
   exact q
theorem vN:OpR X (compareOp .NotIn) (rIn X.K true):=by
 intro pins s σ H x y v u Q I rx ry h
 obtain⟨p,xs,rfl,hq,fx,fs,q⟩:=h
 cases ry
 rcases hq with hq | hq
 · obtain⟨its,r,pl,hz⟩:=I.list hq
   refine SeqAt.notIn_listAt (eqU x) pl.isList (fun w hw=>wY rx fx r fs w (by simpa using hw)) ⟨.bl _,H,I,rfl,?_⟩
   rw [show its.toArray.any (eqU x)=its.any (eqU x) by simp,qDi r fs]
   exact q
 · obtain⟨its,r,pl,hz⟩:=I.tuple hq
   refine SeqAt.notIn_tupleAt (eqU x) pl (fun w hw=>wY rx fx r fs w (by simpa using hw)) ⟨.bl _,H,I,rfl,?_⟩
   rw [show its.toArray.any (eqU x)=its.any (eqU x) by simp,qDi r fs]
   exact q
theorem jY:qA1 X (.builtin "len") (fun xs H Q=>∃ p ys,xs=[.ref p]∧(SqL X.K H p ys∨SqT X.K H p ys)∧Q (.int ys.length) H):=by
 intro pins s σ H xs us Q I r h
 obtain⟨p,ys,rfl,hq,q⟩:=h
 obtain⟨u,rfl,rx⟩:=qG5 r
 cases rx
 have hn:=qGz
 rcases hq with hq | hq
 · obtain⟨its,r',pl,hz⟩:=I.list hq
   have hlen:=r'.length
   exact Calls.call_len_list pl.isList (by simp only [List.size_toArray] <;> omega) ⟨.int ys.length,H,I.tok _,⟨s.toks+1,by rw [List.size_toArray,hlen]⟩,q⟩
 · obtain⟨its,r',pl,hz⟩:=I.tuple hq
   have hlen:=r'.length
   exact len_tuple pl (by simp only [List.size_toArray] <;> omega) ⟨.int ys.length,H,I.tok _,⟨s.toks+1,by rw [List.size_toArray,hlen]⟩,q⟩
theorem qBi:qA1 X (.builtin "len") (fun xs H Q=>∃ z,xs=[.str z]∧z.length≤sizeLine∧Q (.int z.length) H):=by
 intro pins s σ H xs us Q I r h
 obtain⟨z,rfl,hz,q⟩:=h
 obtain⟨u,rfl,t,rfl⟩:=qG5 r
 have hn:=qGz
 exact len_str (by omega) ⟨.int z.length,H,I.tok _,⟨_,rfl⟩,q⟩
theorem vQ:qA1 X (.type "list") (fun xs H Q=>∃ p ys,xs=[.ref p]∧(SqL X.K H p ys∨SqT X.K H p ys)∧∀ l,H l=none→Q (.ref l) (upd H l (.lst ys))):=by
 intro pins s σ H xs us Q I r h
 obtain⟨p,ys,rfl,hq,q⟩:=h
 obtain⟨u,rfl,rx⟩:=qG5 r
 cases rx
 have fin:∀ (its:List Value),Vals ys its→ys.length≤sizeLine→∀ (h':Heap) (c':Nat),(∀ b o',s.heap.get? b=some o'→h'.get? b=some o')→
  h'.get? s.heap.objs.size=some {cls:=.type "list",dict:=none,data:=.seq its.toArray c',slots:=#[]}→EP X pins σ Q (.ref s.heap.objs.size) {s with heap:=h'}:=fun its r' hz h' c' kp e=>
  ⟨.ref s.heap.objs.size,_,I.laid (t':=s.toks) kp (Nat.le_refl _) (show ObjOk X.prog X.w _ h' _ (.lst ys) from ⟨hz,its,c',r',e⟩),rfl,q _ (I.hok.fresh (Nat.le_refl _))⟩
 rcases hq with hq | hq
 · obtain⟨its,r',pl,hz⟩:=I.list hq
   have hlen:=r'.length
   obtain⟨o,ho,hc,n,hd⟩:=pl.isList
   exact call_list_seq p (.inl rfl) ho hc hd (fun h' c' kp e=>fin its r' hz h' c' kp e) (by simp only [List.size_toArray] <;> omega)
 · obtain⟨its,r',pl,hz⟩:=I.tuple hq
   have hlen:=r'.length
   obtain⟨o,ho,hc,n,hd⟩:=pl
   exact call_list_seq p (.inr rfl) ho hc hd (fun h' c' kp e=>fin its r' hz h' c' kp e) (by simp only [List.size_toArray] <;> omega)
def tyV (K:PySem.W.Frag)(T:String)(x:V)(H:Hp):Prop:=match x with
 | .str _=>T="str"
 | .int _=>T="int"
 | .ref p=>(T="list"∧∃ xs,SqL K H p xs)∨(T="tuple"∧∃ o,K.lookup p=some o∧o.cls= .type "tuple"∧o.dict=none)∨
  (T="dict"∧((∃ kvs,H p=some (.dK kvs))∨∃ kvs,H p=some (.dT kvs)))∨(T="set"∧∃ S n,H p=some (.set S n))
 | _=>False
theorem qQx {pins:List (Addr × Obj)}{σ:St}{H:Hp}{s:Shared}{T:String}{x:V}{v:Value}(I:Inv X pins σ H s)(r:RelV x v)(ty:tyV X.K T x H):
 s.TypeIs v T∧∀ a,v= .ref a→∃ ob,s.heap.get? a=some ob∧ob.dict=none:=by
 cases x with
 | str z=>
  obtain⟨t,rfl⟩:=r
  cases (show T="str" from ty)
  exact⟨typeIs_str s z t,fun _ e=>nomatch e⟩
 | int i=>
  obtain⟨t,rfl⟩:=r
  cases (show T="int" from ty)
  exact⟨typeIs_int s i t,fun _ e=>nomatch e⟩
 | ref p=>
  cases r
  rcases ty with ⟨rfl,xs,hq⟩ | ⟨rfl,o,hk,hc,hd⟩ | ⟨rfl,hk⟩ | ⟨rfl,S,n,hk⟩
  · obtain⟨its,_,pl,_⟩:=I.list hq
    refine⟨pl.isList.typeIs,fun a e=>?_⟩
    cases e
    obtain⟨o,n,e,c,hd,_⟩:=pl
    exact⟨o,e,hd⟩
  · refine⟨⟨o,I.kIn p o hk,hc⟩,fun a e=>?_⟩
    cases e
    exact⟨o,I.kIn _ o hk,hd⟩
  · have z:∃ o,s.heap.get? p=some o∧o.ExactDict:=by
     rcases hk with ⟨kvs,hk⟩ | ⟨kvs,hk⟩
     · obtain⟨_,_,_,_,o,_,_,e,ex,_⟩:=I.hok p _ hk
       exact⟨o,e,ex⟩
     · obtain⟨_,_,_,_,o,_,_,e,ex,_⟩:=I.hok p _ hk
       exact⟨o,e,ex⟩
    obtain⟨o,e,ex⟩:=z
    refine⟨⟨o,e,ex.1⟩,fun a e2=>?_⟩
    cases e2
    exact⟨o,e,ex.2.1⟩
  · obtain⟨o,_,_,_,e,ex,_⟩:=I.hok p _ hk
    refine⟨⟨o,e,ex.1⟩,fun a e2=>?_⟩
    cases e2
    exact⟨o,e,ex.2.1⟩
 | _=>exact False.elim ty
def qWf (K:PySem.W.Frag)(T:String)(r:V→List V→Hp→VK→Prop)(to:TE):TE:=fun σ H Q=>to σ H fun x H1=>tyV K T x H1∧r x [] H1 Q
def tBM (K:PySem.W.Frag)(T:String)(r:V→List V→Hp→VK→Prop)(to:TE)(t:TA):TE:=fun σ H Q=>to σ H fun x H1=>tyV K T x H1∧t σ H1 fun xs H2=>r x xs H2 Q
variable {o e : Expr} {es : List Expr} {to : TE} {t : TA} {name : Str} {apos cpos : Pos} {T id : String} {r : V → List V → Hp → VK → Prop}
theorem j6 (pa:PlainAttrs T)(slot:Slot T name id)(hty:typeOf (.builtin id)=pure (.type "method_descriptor"))(hm:MtR X id r)(ho:PE X o to)
 (hbase:attributeBase o name X.env (eval o X.env)=eval o X.env:=by rfl) (hline:(apos.endLine == cpos.line)=true:=by rfl):PE X (.Call (.Attribute o name apos) [] [] cpos) (qWf X.K T r to):=by
 intro pins s σ H Q I h
 refine wpAny_Call_method0_late hbase hline (thn (ho pins s σ H _ I h) fun v s1 ⟨x,H1,I1,r1,ty,q1⟩=>?_)
 obtain⟨h1,h2⟩:=qQx I1 r1 ty
 exact⟨T,id,pa,slot,hty,h1,h2,Calls.callWith_builtin rfl (PySem.evalArgs_none (hm pins s1 σ H1 x [] v [] Q I1 r1 .nil q1))⟩
theorem qDj (pa:PlainAttrs T)(slot:Slot T name id)(hty:typeOf (.builtin id)=pure (.type "method_descriptor"))(hm:MtR X id r)(ho:PE X o to)(ha:PA X (e::es) t)
 (hbase:attributeBase o name X.env (eval o X.env)=eval o X.env:=by rfl)
 (hfew:((backTo cpos (starEach (e::es) X.env)).all (fun x=>!x.1) && (backToKw cpos (keywordEach [] X.env)).all (fun x=>x.1.isSome)
   && decide ((e::es).length+([]:List Keyword).length+(if ([]:List Keyword).isEmpty then 0 else 1) < 30))=true:=by rfl)
 (hline:(apos.endLine == cpos.line)=true:=by rfl) (hs:starEach (e::es) X.env=(false,eval e X.env)::starEach es X.env:=by rfl) (hplain:(backTo cpos (starEach es X.env)).any (·.1)=false:=by rfl):
 PE X (.Call (.Attribute o name apos) (e::es) [] cpos) (tBM X.K T r to t):=by
 intro pins s σ H Q I h
 refine wpAny_Call_method_late hbase hfew hline rfl (thn (ho pins s σ H _ I h) fun v s1 ⟨x,H1,I1,r1,ty,q1⟩=>?_)
 obtain⟨h1,h2⟩:=qQx I1 r1 ty
 refine⟨T,id,pa,slot,hty,h1,h2,?_⟩
 have hA:=ha cpos pins s1 σ H1 _ I1 q1
 rw [hs] at hA ⊢
 refine Calls.callWith_builtin (by show (false || (backTo cpos (starEach es X.env)).any (·.1))=false;rw [hplain] <;> rfl) (Calls.evalArgs_plain ?_)
 exact thn hA fun us s2 ⟨vs,H2,I2,r2,q2⟩=>hm pins s2 σ H2 x vs v us Q I2 r1 r2 q2
end
end L2
namespace L2
open PySem PySem.Spec PyProof.Rows
def MtM (X:Cx)(id:String)(r:V→List V→Hp→VK→Prop):Prop:=
 ∀ (pins:List (Addr × Obj)) (s:Shared) (σ:St) (H:Hp) (x:V) (xs:List V) (v:Value) (us:List Value) (Q:VK),Inv X pins σ H s→RelV x v→Vals xs us→r x xs H Q→
  wpAny (model X.prog X.w) X.A (call (.builtin id) (v::us)) (EP X pins σ Q) X.xe s
theorem Vals.one:∀ {x:V} {us:List Value},Vals [x] us→∃ u,us=[u]∧RelV x u
 | _,_,.cons r .nil=>⟨_,rfl,r⟩
theorem Vals.two:∀ {x y:V} {us:List Value},Vals [x,y] us→∃ u v,us=[u,v]∧RelV x u∧RelV y v
 | _,_,_,.cons r (.cons q .nil)=>⟨_,_,rfl,r,q⟩
theorem Vals.zero:∀ {us:List Value},Vals [] us→us=[]
 | _,.nil=>rfl
theorem Vals.dropLast {xs:List V}{us:List Value}(h:Vals xs us):Vals xs.dropLast us.dropLast:=by
 induction h with
 | nil=>exact .nil
 | cons r t ih=>
  cases t with
  | nil=>exact .nil
  | cons q t'=>exact .cons r ih
theorem Vals.eraseIdx:∀ {xs:List V} {us:List Value} (i:Nat),Vals xs us→Vals (xs.eraseIdx i) (us.eraseIdx i)
 | _,_,_,.nil=>.nil
 | _,_,0,.cons _ t=>t
 | _,_,i+1,.cons r t=>.cons r (Vals.eraseIdx i t)
theorem Vals.reverse {xs:List V}{us:List Value}(h:Vals xs us):Vals xs.reverse us.reverse:=by
 induction h with
 | nil=>exact .nil
 | cons r t ih=>rw [List.reverse_cons,List.reverse_cons];exact Vals.append ih (.cons r .nil)
theorem qMd {α:Type}(l:List α):l.eraseIdx (l.length - 1)=l.dropLast:=by
 induction l with
 | nil=>rfl
 | cons a r ih=>
  cases r with
  | nil=>rfl
  | cons b r=>
   have e:(a::b::r).length - 1=((b::r).length - 1)+1:=by
    have h1:(a::b::r).length=r.length+2:=rfl
    have h2:(b::r).length=r.length+1:=rfl
    omega
   rw [e,List.eraseIdx_cons_succ,ih]
   all_goals rfl
section
variable {X : Cx} {pins : List (Addr × Obj)} {σ : St} {H : Hp} {s : Shared} {l b : Addr} {xs ys zs : List V}
theorem Inv.lset {its its':List Value}{n:Nat}{f:Array Value→Array Value}{t':Nat}(I:Inv X pins σ H s)(hH:H l=some (.lst xs))
 (e:s.heap.get? l=some {cls:=.type "list",data:=.seq its.toArray n}) (hf:f its.toArray=its'.toArray) (hv:Vals ys its') (hz:ys.length≤sizeLine):
 Inv X pins σ (upd H l (.lst ys)) {s with heap:=s.heap.update l (Obj.mapSeq f),toks:=t'}:=by
 have q:=PySem.IsL.update e f
 rw [hf] at q
 refine I.write (x:=l) (e:=l) (by rw [hH];exact trivial) (.inl rfl) (fun b' u hb hu=>(Heap.get?_update_other s.heap (Obj.mapSeq f) (Ne.symm hb)).trans hu) ⟨_,q⟩ ?_
 exact⟨hz,its',_,hv,q⟩
theorem Inv.lnew {its:List Value}{t':Nat}(I:Inv X pins σ H s)(hv:Vals ys its)(hz:ys.length≤sizeLine):
 Inv X pins σ (upd H s.heap.objs.size (.lst ys)) {s with heap:=s.heap.push {cls:=.type "list",data:=.seq its.toArray},toks:=t'}:=
 I.laid (fun _ _ q=>Heap.get?_push_of_some _ q) (Nat.le_refl _) ⟨hz,its,0,hv,Heap.get?_push_size _ rfl⟩
theorem Inv.fresh (I:Inv X pins σ H s):H s.heap.objs.size=none:=I.hok.fresh (Nat.le_refl _)
theorem Inv.lstM (I:Inv X pins σ H s)(hH:H l=some (.lst xs)):xs.length≤sizeLine∧∃ (its:List Value) (n:Nat),Vals xs its∧xs.length=its.length∧s.heap.get? l=some {cls:=.type "list",data:=.seq its.toArray n}:=by
 obtain⟨z,its,n,r,e⟩:=I.hok l _ hH
 exact⟨z,its,n,r,r.length,e⟩
theorem qPp {n:Nat}(h:n≤sizeLine):Builtin.List.listTooLong n=false:=by
 unfold Builtin.List.listTooLong
 exact decide_eq_false (by omega)
end
section
variable {X : Cx}
inductive qQ4 (x:V)(vs:List V)(H:Hp)(Q:VK):Prop
| mk l xs y (_:x= .ref l) (_:vs=[y]) (_:H l=some (.lst xs)) (_:xs.length < sizeLine) (_:Q .non (upd H l (.lst (xs++[y]))))
theorem jm:MtM X "list.append" qQ4:=by
 intro pins s σ H x vs v us Q I rx rv h
 obtain⟨l,xs,y,rfl,rfl,hH,hz,q⟩:=h
 cases rx
 obtain⟨u,rfl,ru⟩:=rv.one
 obtain⟨z,its,n,r,hl,e⟩:=I.lstM hH
 refine call_meets F.slot_list_append ⟨_,e,rfl⟩ F.entry_list_append (F.args_list_append_2 _ _) (PySem.list_append l its.toArray n u (by rw [List.size_toArray];omega)) ⟨e,?_⟩
 refine⟨.non,_,I.lset (its':=its++[u]) hH e (by simp) (r.append (.cons ru .nil)) ?_,rfl,q⟩
 rw [List.length_append,List.length_singleton]
 omega
inductive qR3 (x:V)(vs:List V)(H:Hp)(Q:VK):Prop
| mk l b xs zs (_:x= .ref l) (_:vs=[.ref b]) (_:H l=some (.lst xs)) (_:H b=some (.lst zs)) (_:xs.length+zs.length≤sizeLine) (_:Q .non (upd H l (.lst (xs++zs))))
theorem mt_extend:MtM X "list.extend" qR3:=by
 intro pins s σ H x vs v us Q I rx rv h
 obtain⟨l,b,xs,zs,rfl,rfl,hH,hB,hz,q⟩:=h
 cases rx
 obtain⟨u,rfl,ru⟩:=rv.one
 cases ru
 obtain⟨z,its,n,r,hl,e⟩:=I.lstM hH
 obtain⟨z2,its2,n2,r2,hl2,e2⟩:=I.lstM hB
 have hsz:its.toArray.size+its2.toArray.size≤sizeLine:=by rw [List.size_toArray,List.size_toArray];omega
 have hlong:¬ (!its.toArray.isEmpty && Builtin.List.listTooLong (its.toArray.size+its2.toArray.size))=true:=by
  rw [qPp hsz,Bool.and_false]
  exact Bool.false_ne_true
 refine call_meets F.slot_list_extend ⟨_,e,rfl⟩ F.entry_list_extend (F.args_list_extend_2 _ _)
  (AutoSeq1.list_extend_list_list_0 l its.toArray n b its2.toArray n2 hlong (by rw [List.size_toArray];omega) (by omega)) ⟨e,e2,?_⟩
 refine⟨.non,_,I.lset (its':=its++its2) hH e (by simp) (r.append r2) ?_,rfl,q⟩
 rw [List.length_append]
 omega
def qVz:V→List V→Hp→VK→Prop:=fun x vs H Q=>∃ l xs y,x= .ref l∧vs=[]∧H l=some (.lst xs)∧xs[xs.length - 1]? =some y∧Q y (upd H l (.lst xs.dropLast))
theorem j8:MtM X "list.pop" qVz:=by
 intro pins s σ H x vs v us Q I rx rv h
 obtain⟨l,xs,y,rfl,rfl,hH,hy,q⟩:=h
 cases rx
 have hus:=rv.zero
 subst hus
 obtain⟨z,its,n,r,hl,e⟩:=I.lstM hH
 obtain⟨u,hu,ru⟩:=r.get hy
 have hy':its.toArray[its.toArray.size - 1]? =some u:=by
  show its.toArray[its.length - 1]? =some u
  rw [← Array.getElem?_toList,← hl]
  exact hu
 refine call_meets F.slot_list_pop ⟨_,e,rfl⟩ F.entry_list_pop (F.args_list_pop_1 _) (MeetsSeq.list_pop_last l its.toArray n u hy' (by rw [List.size_toArray];omega)) ⟨e,?_⟩
 refine⟨y,_,I.lset (its':=its.dropLast) hH e ?_ r.dropLast ?_,ru,q⟩
 · show its.toArray.eraseIdxIfInBounds (its.toArray.size - 1)=its.dropLast.toArray
   rw [List.size_toArray,List.eraseIdxIfInBounds_toArray,qMd]
 · rw [List.length_dropLast]
   omega
inductive qWs (x:V)(y:V)(H:Hp)(Q:VK):Prop
| mk l b xs zs (_:x= .ref l) (_:y= .ref b) (_:H l=some (.lst xs)) (_:H b=some (.lst zs)) (_:xs.length+zs.length≤sizeLine) (_:∀ p,H p=none→Q (.ref p) (upd H p (.lst (xs++zs))))
theorem kf:OpR X (binaryOp .Add) qWs:=by
 intro pins s σ H x y v u Q I rx ry h
 obtain⟨l,b,xs,zs,rfl,rfl,hH,hB,hz,q⟩:=h
 cases rx
 cases ry
 obtain⟨z,its,n,r,hl,e⟩:=I.lstM hH
 obtain⟨z2,its2,n2,r2,hl2,e2⟩:=I.lstM hB
 refine PySem.P.add_list e e2 ?_ (by rw [List.size_toArray,List.size_toArray];omega)
 have ea:its.toArray++its2.toArray=(its++its2).toArray:=by simp
 rw [ea]
 exact⟨.ref _,_,I.lnew (t':=s.toks) (r.append r2) (by rw [List.length_append];omega),rfl,q _ I.fresh⟩
end
section
variable {prog : Program} {w : World} {A : Around} {E : Value → Shared → Prop} {s : Shared}
end
section
variable {X : Cx}
end
end L2
namespace Att
open PySem PySem.W PySem.Calls PyProof.Rows
theorem qDr {P:Params}{h:Heap}:∀ (ns:List Int) (vs:List Value),WellAll P h vs (ns.map WData.int)→IntsAre vs ns:=by
 intro ns
 induction ns with
 | nil=>
  intro vs w
  rw [List.map_nil] at w
  cases w
  exact .nil
 | cons n ns ih=>
  intro vs w
  rw [List.map_cons] at w
  cases w with
  | cons a b=>
   cases a
   exact .cons _ _ (ih _ b)
theorem qOg {l:OpenLaw}{n:Nat}(hn:l.most=some n){P:Params}{h:Heap}{args:List WData}{vals:List Value}
 (hpre:l.row.toRowW.claim.pre args=true) (hwl:WellAll P h vals args):
 ∃ a vs ns,vals=[Value.ref a]∧args=[WData.list (ns.map WData.int)]∧h.get? a=some {cls:=.type "list",data:=.seq vs.toArray}∧IntsAre vs ns∧ns.length≤n:=by
 have hsh:WShape.hasAll [] args [.list .int]=true:=(pre_splitW hpre).1
 have hc:l.pre.holds [] {args:=args}=true:=(pre_splitW hpre).2
 obtain⟨d,r,rfl,h1,h2⟩:=hasAllW_cons hsh
 obtain rfl:=hasAllW_nil h2
 obtain⟨xs,rfl,h3⟩:=hasW_list h1
 obtain⟨ns,rfl⟩:=items_int h3
 have hlen:ns.length≤n:=by
  unfold OpenLaw.pre at hc
  have h4:(WTm.not (.lt (.lit (.int (n:Int))) (.len (.arg 0)))).holds [] {args:=[.list (ns.map .int)]}=true:=by
   have h4:=(holds_andW hc).1
   rw [hn] at h4
   exact h4
  have h5:=condW_of h4 (w_not (w_lt w_lit (w_len_list (w_arg rfl))))
  rw [List.length_map] at h5
  refine Nat.le_of_not_lt fun q=>?_
  have q':(n:Int) < ((ns.length:Nat):Int):=by omega
  first
   | (rw [decide_eq_true q'] at h5;exact absurd h5 (by decide))
   | (simp at h5;omega)
 cases hwl with
 | cons w1 w2=>
  cases w2
  cases w1 with
  | list ho hall=>exact⟨_,_,ns,rfl,rfl,ho,qDr ns _ hall,hlen⟩
theorem qNq (l:OpenLaw)(args:List WData):l.row.toRowW.claim.post args (.bool true) args=true:=
 postW_of (r:=l.row.toRowW) (X:=(true == true))
  (show WShape.has [] (.bool true) .bool=true by first | rfl | decide | simp [WShape.has,WShape.arms,WShape.armsAll])
  (show (WTm.eq .res (.lit (.bool true))).value [] {args:=args,res:=some (.bool true),after:=args}=some (.bool (true == true)) from w_eq_bool (w_res rfl) w_lit) rfl
theorem attach_call {l:OpenLaw}{n:Nat}{q:Program}{loose:List Str}{XP:(Str→Option Value)→Heap→Prop}{YP:World→Heap→Prop}{d:DefRec}
 (hn:l.most=some n) (hdf:d.params.defaults=[])
 (call:∀ (w:World) (s₀ s₁:Shared) (mg mb:Str→Option Value) (fa:Addr) (o:Obj) (pm cd doc:Value) (a:Addr) (vs:List Value) (ns:List Int),
   Ground q loose [] XP w s₀ mg mb s₁.heap→YP w s₁.heap→
   s₁.heap.get? fa=some o→o.data= .func (docDef d.name d.params d.body d.scope pm cd doc)→s₁.heap.CodeRec cd d.name→mg d.name=some (.ref fa)→
   s₁.heap.get? a=some {cls:=.type "list",data:=.seq vs.toArray}→IntsAre vs ns→ns.length≤n→s₁.gens=#[]→
   codeAny (model l.prog w) callerA (.call (.ref fa) ⟨[.ref a],[]⟩) (fun r s'=>r= .ok (.ret (.bool true))∧OldK s₁.heap s'.heap∧s'.os=s₁.os∧AllBare s'.gens) s₁):
 WalkO q loose XP YP l.row.toRowW d [] (fun f vs=>PySem.call f vs):=by
 intro w s₀ s₁ mg mb G Y fa o pm cd doc dV kV ho hd hcd hD hmg hg args vals as hpre hlay hrd hwl hlo
 obtain rfl:dV= .none:=Dflts.none hD hdf
 obtain rfl:kV= .none:=Dflts.noKw hD
 obtain⟨a,vs,ns,rfl,rfl,hobj,hints,hlen⟩:=qOg hn hpre hwl
 refine enter_call (codeAny_mono (call w s₀ s₁ mg mb fa o pm cd doc a vs ns G Y ho (fd_plain hd) hcd hmg hobj hints hlen hg) fun r s' hq=>?_)
 obtain⟨rfl,h2,h3,h4⟩:=hq
 exact⟨.inl ⟨.bool true,.bool true,[],rfl,fun _=>rfl,.bool true,qNq l _,fun _=>⟨List.Pairwise.nil,fun _ hm=>(nomatch hm)⟩⟩,h2,h3,h4⟩
section
variable {prog : Program} {w : World} {A : Around} {E : Value → Shared → Prop} {s : Shared} {K : Frag}
def ledger (h:Heap)(L d:Addr):List (Addr × Obj):=(List.range h.objs.size).filterMap fun a=>if a=L∨a=d then none else (h.get? a).map fun o=>(a,o)
end
end Att
namespace L2
open PySem PySem.Spec PyProof.Rows
theorem qIk:∀ {vs:List Value} {ns:List Int},IntsAre vs ns→Vals (ns.map V.int) vs
 | _,_,.nil=>.nil
 | _,_,.cons n t h=>.cons ⟨t,rfl⟩ (qIk h)
def qUz (H:Hp):Prop:=∀ b,H b=none∨∃ o xs,H b=some (.frz o (.lst xs))
theorem qP9 {P:Program}{w:World}{K:PySem.W.Frag}{mg mb:Str→Option Value}{CX:CXT}{k:Nat}{fa a:Addr}{fd:FuncData}{x:Str}{sp:Sp}{s₁:Shared}{vs:List Value}{ns:List Int}
 (KX:K.In s₁.heap) (hns:s₁.heap.Ns mainGlobals mg) (hb:s₁.heap.Ns builtinsNs mb) (hbb:∀ x:Str,x≠"__name__"→mb x=bootBuiltins x) (hlim:s₁.heap.NoLimit) (hg:s₁.gens=#[])
 (ha:s₁.heap.get? a=some {cls:=.type "list",data:=.seq vs.toArray}) (hi:IntsAre vs ns) (hl:ns.length≤sizeLine) (hr:Room k callerA)
 (F:∀ base:Heap,K.In base→base.Ns mainGlobals mg→FnOk P w K mg base CX k fa fd [x] sp) (hbind:∀ (s:Shared) (u:Value),BindsTo s fd ⟨[u],[]⟩ [(x,u)])
 (hsp:∀ H:Hp,qUz H→SqL K H a (ns.map V.int)→sp [.ref a] H (fun v _=>v= .bl true) fun _ _ _=>False)
 (hCX:∀ H e s',CX [] H s₁ (fun _ _ _=>False) e s'→False):
 codeAny (model P w) callerA (.call (.ref fa) ⟨[.ref a],[]⟩) (fun r s'=>r= .ok (.ret (.bool true))∧OldK s₁.heap s'.heap∧s'.os=s₁.os∧AllBare s'.gens) s₁:=by
 have rv:=qIk hi
 have lenV:=hi.length
 have core:∀ H:Hp,qUz H→SqL K H a (ns.map V.int)→HOk P w H s₁.heap→(∀ b,H b≠none→b=a)→(H a≠none→K.lookup a=none)→
  codeAny (model P w) callerA (.call (.ref fa) ⟨[.ref a],[]⟩) (fun r s'=>r= .ok (.ret (.bool true))∧OldK s₁.heap s'.heap∧s'.os=s₁.os∧AllBare s'.gens) s₁:=by
  intro H hO hS hok hA hK
  have base_of:∀ {b:Addr} {o:Obj},s₁.heap.get? b=some o→H b=none→(qP8 s₁.heap H).get? b=some o:=fun e n=>qP7 e n
  have noA:∀ {b:Addr} {o:Obj} {es:Array DictEntry} {ep:Nat},s₁.heap.get? b=some o→o.data= .dict es ep→H b=none:=fun {b o es ep} e d=>by
   cases q:H b with
   | none=>rfl
   | some u=>
    have e':b=a:=hA b (by rw [q];simp)
    subst e'
    rw [ha] at e;cases e
    have d':Data.seq vs.toArray _=Data.dict es ep:=d
    cases d'
  have nsK:∀ {b:Addr} {m:Str→Option Value},s₁.heap.Ns b m→(qP8 s₁.heap H).Ns b m:=fun {b m} ⟨o,es,ep,e,d,r⟩=>⟨o,es,ep,base_of e (noA e d),d,r⟩
  have hKb:K.In (qP8 s₁.heap H):=fun b o e=>base_of (KX b o e) (by
   cases q:H b with
   | none=>rfl
   | some u=>
    have e':b=a:=hA b (by rw [q];simp)
    subst e'
    rw [hK (by rw [q];simp)] at e;cases e)
  have hM:Mod K mg (qP8 s₁.heap H):=⟨hKb,nsK hns,⟨mb,nsK hb,hbb⟩,let ⟨mc,h1,h2⟩:=hlim;⟨mc,nsK h1,h2⟩⟩
  have e0:Env0 P w K mg (qP8 s₁.heap H) callerA [] s₁ H:=⟨rfl,hM,fun b o e=>qR0 e,Nat.le_of_eq (qM9 _ _),trivial,fun b hb=>absurd (show b∈([]:List Addr) from hb) (by simp),hok,.of_eq hg⟩
  refine codeAny_mono ((F _ hKb (nsK hns)).run callerA [] s₁ H ⟨[.ref a],[]⟩ [.ref a] [.ref a] _ _ hr e0 (hbind s₁ (.ref a)) (.cons rfl .nil) (hsp H hO hS)) fun r s' h=>?_
  cases r with
  | error e=>exact(hCX H e s' h).elim
  | ok fl=>
   cases fl with
   | next=>exact False.elim h
   | brk=>exact False.elim h
   | cont=>exact False.elim h
   | ret u=>
    obtain⟨v,H',os,bare,un,hok',r',q⟩:=h
    have q':v= .bl true:=q
    subst q'
    obtain rfl:u=Value.bool true:=r'
    refine⟨rfl,OldK.of_keep fun b o e=>?_,os,bare⟩
    cases q:H b with
    | none=>exact un.keep b o e q (by intro z;exact absurd (show b∈([]:List Addr) from z) (by simp)) (by simp)
    | some u=>
     rcases hO b with z | ⟨ob,xs,z⟩
     · rw [q] at z;cases z
     · have z2:=un.frzs b ob _ z
       obtain⟨e1,_⟩:=hok b _ z
       obtain⟨e2,_⟩:=hok' b _ z2
       rw [e] at e1;cases e1
       exact e2
 cases hk:K.lookup a with
 | some o=>
  have e:=KX a o hk
  rw [ha] at e
  cases e
  refine core (fun _=>none) (fun _=>.inl rfl) (.inr ⟨_,vs.toArray,_,hk,rfl,rfl,rfl,by rw [List.size_toArray,lenV];exact hl,by simpa using rv⟩) (fun b u z=>by have z':(none:Option HO)=some u:=z;cases z') (fun b z=>absurd rfl z) fun z=>absurd rfl z
 | none=>
  refine core (fun b=>if b=a then some (.frz {cls:=.type "list",data:=.seq vs.toArray} (.lst (ns.map V.int))) else none) (fun b=>?_) (.inl (.inr ⟨{cls:=.type "list",data:=.seq vs.toArray},if_pos rfl⟩)) (fun b u z=>?_) (fun b z=>?_) fun _=>hk
  · by_cases hb:b=a
    · exact .inr ⟨_,_,if_pos hb⟩
    · exact .inl (if_neg hb)
  · by_cases hb:b=a
    · have z':=(if_pos hb).symm.trans z
      cases z'
      subst hb
      exact⟨ha,by rw [List.length_map];exact hl,vs,_,rv,ha⟩
    · have z':=(if_neg hb).symm.trans z
      cases z'
  · by_cases hb:b=a
    · exact hb
    · exact absurd (if_neg hb) z
end L2
namespace L2
open PySem PySem.Spec PyProof.Rows
theorem walk_of {l:PySem.W.OpenLaw}{n k:Nat}{q:Program}{loose:List Str}{XP:(Str→Option Value)→Heap→Prop}{YP:World→Heap→Prop}{d:DefRec}{K:Params→PySem.W.Frag}{CX:World→CXT}{sp:World→Sp}{x:Str}
 (hn:l.most=some n) (hn2:n≤sizeLine) (hdf:d.params.defaults=[]) (hr:Room k callerA)
 (hY:∀ (w:World) (h:Heap),YP w h→(K w.params).In h)
 (F:∀ (w:World) (mg:Str→Option Value) (fa:Addr) (h:Heap),(K w.params).In h→h.Ns mainGlobals mg→mg d.name=some (.ref fa)→
   ∃ fd:FuncData,(∀ (s:Shared) (u:Value),BindsTo s fd ⟨[u],[]⟩ [(x,u)])∧
    ∀ base:Heap,(K w.params).In base→base.Ns mainGlobals mg→FnOk l.prog w (K w.params) mg base (CX w) k fa fd [x] (sp w))
 (hsp:∀ (w:World) (H:Hp) (a:Addr) (ns:List Int),ns.length≤n→qUz H→SqL (K w.params) H a (ns.map V.int)→sp w [.ref a] H (fun v _=>v= .bl true) fun _ _ _=>False)
 (hCX:∀ (w:World) (H:Hp) (s:Shared) (e:Value) (s':Shared),CX w [] H s (fun _ _ _=>False) e s'→False):
 PySem.W.WalkO q loose XP YP l.row.toRowW d [] (fun f vs=>PySem.call f vs):=by
 refine Att.attach_call hn hdf fun w s₀ s₁ mg mb fa o pm cd doc a vs ns G Y ho hd hcd hmg hobj hints hlen hg=>?_
 have KX:=hY w _ Y
 obtain⟨fd,hb,hF⟩:=F w mg fa _ KX G.T.g hmg
 exact qP9 KX G.T.g G.T.b G.T.builtins G.T.nolimit hg hobj hints (Nat.le_trans hlen hn2) hr hF hb (fun H hO hS=>hsp w H a ns hlen hO hS) fun H e s'=>hCX w H s₁ e s'
end L2
namespace L2
open PySem PySem.Spec PyProof.Rows
def qQ8 (s:Stmt)(j:Nat):Stmt:=match s with
 | .ClassDef _ _ _ body _ _ _ _ _ _ _=>body.getD j (.Pass ⟨0,0,0,0⟩)
 | _=>.Pass ⟨0,0,0,0⟩
def vE (s:Stmt):Arguments:=match s with
 | .FunctionDef _ a _ _ _ _ _ _ _ _=>a
 | _=>{posonlyargs:=[],args:=[],vararg:=none,kwonlyargs:=[],kw_defaults:=[],kwarg:=none,defaults:=[]}
def zg (s:Stmt):List Stmt:=match s with
 | .FunctionDef _ _ b _ _ _ _ _ _ _=>b
 | _=>[]
def qI (s:Stmt):Scope:=match s with
 | .FunctionDef _ _ _ _ _ _ sc _ _ _=>sc
 | _=>{kind:=.function,names:=[],isGenerator:=false,isCoroutine:=false}
abbrev CX0:CXT:=fun _ _ _ _ _ _=>False
abbrev E0:XK:=fun _ _ _=>False
theorem qVs {X:Cx}:qKl CX0 X E0:=fun _ _ _ _ _ _ _ h=>h.elim
structure Fun (K:PySem.W.Frag)(x qual:Str)(st:Stmt)(f:Addr)(fd:FuncData):Prop where
 ex:∃ (oc:Value) (od:Option Addr) (kV doc pm:Value) (an:Option Addr) (cdv ct:Value) (osl:Array (Option Value)),
  fd=PySem.W.fnOf x qual (vE st) (zg st) (qI st) .none kV doc pm an cdv ct∧K.lookup f=some ⟨oc,od,.func fd,osl⟩∧PySem.W.codeIn K cdv qual=true
 kp:PySem.W.keepIn K (.ref f)=true
section
variable {P : Program} {w : World} {K : PySem.W.Frag} {mg : Str → Option Value} {base : Heap}
theorem Fun.ok {x qual:Str}{st:Stmt}{f:Addr}{fd:FuncData}{N ps:List Str}{k:Nat}{sp:Sp}(F:Fun K x qual st f fd)(S:qQ N ps (qI st))(len:∀ vs H Q E,sp vs H Q E→vs.length=ps.length)
 (hbody:∀ (cdv:Value) (A:Around) (outer:List Env) (s:Shared) (H:Hp) (vs:List V) (Q:VK) (E:XK),Room k (A.deeper (envOfC qual (qI st) s.heap.objs.size f cdv))→sp vs H Q E→
   ∃ t,PSs (qO3 CX0 P w K mg base N qual (qI st) f cdv A outer s H E).nox (zg st) t∧t {nx:=fun _ H'=>Q .non H',rt:=Q} (start N vs) H):FnOk P w K mg base CX0 (k+1) f fd ps sp:=by
 obtain⟨oc,od,kV,doc,pm,an,cdv,ct,osl,rfl,lk,hcd⟩:=F.ex
 refine qS6 lk hcd S len fun A outer s H vs Q E hr hsp=>?_
 obtain⟨t,h,q⟩:=hbody cdv A outer s H vs Q E hr hsp
 exact⟨t,h.nox,q⟩
theorem Fun.binds {x qual:Str}{st:Stmt}{f:Addr}{fd:FuncData}{ps:List Str}(F:Fun K x qual st f fd)
 (h:∀ (kV doc pm:Value) (an:Option Addr) (cdv ct:Value) (us:List Value),us.length=ps.length→bindArgs (PySem.W.fnOf x qual (vE st) (zg st) (qI st) .none kV doc pm an cdv ct) ⟨us,[]⟩=pure (ps.zip us)):Binds K fd ps []:=by
 obtain⟨oc,od,kV,doc,pm,an,cdv,ct,osl,rfl,lk,hcd⟩:=F.ex
 exact .all (h kV doc pm an cdv ct)
theorem qQj {x qual:Str}{st:Stmt}{f:Addr}{oc:Value}{od an:Option Addr}{osl:Array (Option Value)}{kV doc pm cdv ct:Value}(l:K.lookup f=some ⟨oc,od,.func (PySem.W.fnOf x qual (vE st) (zg st) (qI st) .none kV doc pm an cdv ct),osl⟩)
 (c:PySem.W.codeIn K cdv qual=true) (k:PySem.W.keepIn K (.ref f)=true):Fun K x qual st f (PySem.W.fnOf x qual (vE st) (zg st) (qI st) .none kV doc pm an cdv ct):=⟨⟨oc,od,kV,doc,pm,an,cdv,ct,osl,rfl,l,c⟩,k⟩
end
theorem qRg {A:Around}{k:Nat}(hr:Room k A):A.units+1 < cLine:=Nat.lt_of_le_of_lt (Nat.add_le_add_left (by decide:1≤64) _) hr.units
theorem qY {n:Nat}(h:n≤1000):n < sizeLine:=Nat.lt_of_le_of_lt h (by decide)
section
variable {X : Cx}
theorem pv (i:Nat){x:Str}{pos:Pos}(hN:X.N[i]? =some x:=by rfl)(hv:Vis X.env.scope x:=by first | exact Or.inl rfl | exact Or.inr (Or.inl rfl) | exact Or.inr (Or.inr rfl))(hd:(x == ("__debug__":Str))=false:=by decide)
 (hcd:(x == ("__classdict__":Str))=false:=by decide):PE X (.Name x pos) (qUa i):=qTt hN hv hd hcd
end
theorem qm {A B:Prop}(h:B):if false=true then A else B:=by
 rw [if_neg Bool.false_ne_true]
 exact h
theorem jI {A B:Prop}(h:A):if true=true then A else B:=by
 rw [if_pos rfl]
 exact h
theorem ju {c A B:Prop} [Decidable c] (h1:c→A)(h2:¬ c→B):if c then A else B:=by
 by_cases h:c
 · rw [if_pos h]
   exact h1 h
 · rw [if_neg h]
   exact h2 h
theorem qL6 {c A B:Prop} [Decidable c] (hc:c)(h:B):if (!decide c)=true then A else B:=by
 rw [decide_eq_true hc]
 exact qm h
def Same (H H':Hp):Prop:=∀ b o,H b=some o→H' b=some o
theorem Same.refl (H:Hp):Same H H:=fun _ _ h=>h
theorem Same.trans {H H1 H2:Hp}(a:Same H H1)(b:Same H1 H2):Same H H2:=fun c o h=>b c o (a c o h)
theorem Same.free {H H':Hp}(e:Same H H'){l:Addr}(h:H' l=Option.none):H l=Option.none:=by
 cases q:H l with
 | none=>rfl
 | some o=>
  rw [e l o q] at h
  cases h
theorem Same.seq {K:PySem.W.Frag}{H H':Hp}{a:Addr}{xs:List V}(e:Same H H')(h:SqL K H a xs):SqL K H' a xs:=by
 rcases h with (h | ⟨o,h⟩) | h
 · exact .inl (.inl (e _ _ h))
 · exact .inl (.inr ⟨o,e _ _ h⟩)
 · exact .inr h
end L2
namespace L2
open PySem PySem.Spec PyProof.Rows
section
variable {κ : Type} [DecidableEq κ]
def qL1 (kvs:List (κ × V))(k:κ):Option V:=(kvs.find? fun kv=>decide (kv.1=k)).map (·.2)
def qMq (kvs:List (κ × V))(k:κ)(v:V):List (κ × V):=
 if (kvs.any fun kv=>decide (kv.1=k))=true then kvs.map (fun kv=>if kv.1=k then (kv.1,v) else kv) else kvs++[(k,v)]
theorem qLj {p:κ × V}{r:List (κ × V)}{k:κ}(e:p.1=k):qL1 (p::r) k=some p.2:=by simp [qL1,List.find?_cons,e]
theorem qKz {p:κ × V}{r:List (κ × V)}{k:κ}(e:¬ p.1=k):qL1 (p::r) k=qL1 r k:=by simp [qL1,List.find?_cons,e]
theorem qJv (kvs:List (κ × V))(k:κ)(v:V):(qMq kvs k v).length≤kvs.length+1:=by
 unfold qMq
 split
 · rw [List.length_map];omega
 · rw [List.length_append,List.length_cons,List.length_nil];omega
theorem RelO.isSome_eq {o:Option V}{u:Option Value}(r:RelO o u):o.isSome=u.isSome:=by
 cases o with
 | none=>cases u with
  | none=>rfl
  | some _=>exact(show False from r).elim
 | some _=>cases u with
  | none=>exact(show False from r).elim
  | some _=>rfl
theorem RelO.getD {o:Option V}{u:Option Value}{d:V}{d':Value}(r:RelO o u)(rd:RelV d d'):RelV (o.getD d) (u.getD d'):=by
 cases o with
 | none=>cases u with
  | none=>exact rd
  | some _=>exact(show False from r).elim
 | some _=>cases u with
  | none=>exact(show False from r).elim
  | some _=>exact r
theorem KV.val {kvs:List (κ × V)}{vs:List (κ × Value)}(r:KV kvs vs)(k:κ):RelO (qL1 kvs k) (valueAt vs k):=by
 unfold KV at r
 induction r with
 | nil=>exact True.intro
 | @cons p q ps qs h t ih=>
  obtain⟨h1,h2⟩:=h
  by_cases e:p.1=k
  · have e':q.1=k:=h1.symm.trans e
    have b:valueAt (q::qs) k=some q.2:=by simp [valueAt,List.find?_cons,e']
    rw [qLj e,b];exact h2
  · have e':¬ q.1=k:=fun z=>e (h1.trans z)
    have b:valueAt (q::qs) k=valueAt qs k:=by simp [valueAt,List.find?_cons,e']
    rw [qKz e,b];exact ih
theorem KV.any {kvs:List (κ × V)}{vs:List (κ × Value)}(r:KV kvs vs)(k:κ):(kvs.any fun kv=>decide (kv.1=k))=vs.any fun kv=>decide (kv.1=k):=by
 unfold KV at r
 induction r with
 | nil=>rfl
 | cons h t ih=>rw [List.any_cons,List.any_cons,ih,h.1]
theorem KV.repl {kvs:List (κ × V)}{vs:List (κ × Value)}(r:KV kvs vs)(k:κ){y:V}{u:Value}(ry:RelV y u):
 KV (kvs.map fun kv=>if kv.1=k then (kv.1,y) else kv) (vs.map fun kv=>if kv.1=k then (kv.1,u) else kv):=by
 unfold KV at r ⊢
 induction r with
 | nil=>exact .nil
 | @cons p q ps qs h t ih=>
  rw [List.map_cons,List.map_cons]
  refine .cons ?_ ih
  obtain⟨h1,h2⟩:=h
  by_cases e:p.1=k
  · rw [if_pos e,if_pos (h1.symm.trans e)];exact⟨h1,ry⟩
  · rw [if_neg e,if_neg (fun z=>e (h1.trans z))];exact⟨h1,h2⟩
theorem KV.put {kvs:List (κ × V)}{vs:List (κ × Value)}(r:KV kvs vs)(k:κ){y:V}{u:Value}(ry:RelV y u):KV (qMq kvs k y) (stored vs k u):=by
 unfold qMq stored
 rw [r.any k]
 by_cases e:(vs.any fun kv=>decide (kv.1=k))=true
 · rw [if_pos e,if_pos e];exact r.repl k ry
 · rw [if_neg e,if_neg e];exact Paired.snoc r ⟨rfl,ry⟩
theorem KV.keys {kvs:List (κ × V)}{vs:List (κ × Value)}(r:KV kvs vs):kvs.map (·.1)=vs.map (·.1):=by
 unfold KV at r
 induction r with
 | nil=>rfl
 | cons h t ih=>rw [List.map_cons,List.map_cons,ih,h.1]
end
theorem qPo {P:Program}{w:World}{k:Key}{u:Value}(r:RelV (kV k) u):(xN P w).is k u=true:=by
 cases k with
 | inl i=>obtain⟨t,e⟩:=(show ∃ t,u=Value.int i t from r);subst e;exact qJa P w i t
 | inr x=>obtain⟨t,e⟩:=(show ∃ t,u=Value.str x t from r);subst e;exact qJp P w x t
theorem qHa {P:Program}{w:World}:∀ {ks:List Key} {us:List Value},Vals (ks.map kV) us→ItemsAre (xN P w) ks us
 | [],_,r=>by rw [List.map_nil] at r;cases r;exact .nil
 | k::ks,_,r=>by
  rw [List.map_cons] at r
  cases r with
  | cons h t=>exact .cons (qPo h) (qHa t)
abbrev KT (H:Hp):List (List Key × V)→List (List Key × Addr × Value)→Prop:=Paired fun p q=>p.1=q.1∧H q.2.1=some (.tup (p.1.map kV))∧RelV p.2 q.2.2
theorem KT.val {H:Hp}{kvs:List (List Key × V)}{xs:List (List Key × Addr × Value)}(r:KT H kvs xs)(k:List Key):RelO (qL1 kvs k) ((atKey xs k).map (·.2)):=by
 induction r with
 | nil=>exact True.intro
 | @cons p q ps qs h t ih=>
  obtain⟨h1,_,h2⟩:=h
  by_cases e:p.1=k
  · have e':q.1=k:=h1.symm.trans e
    have b:atKey (q::qs) k=some q.2:=by simp [atKey,List.find?_cons,e']
    rw [qLj e,b];exact h2
  · have e':¬ q.1=k:=fun z=>e (h1.trans z)
    have b:atKey (q::qs) k=atKey qs k:=by simp [atKey,List.find?_cons,e']
    rw [qKz e,b];exact ih
theorem KT.keeps {H H':Hp}{kvs:List (List Key × V)}{xs:List (List Key × Addr × Value)}(r:KT H kvs xs)(ht:∀ b ys,H b=some (.tup ys)→H' b=some (.tup ys)):KT H' kvs xs:=
 Paired.mapP r fun _ _ z=>⟨z.1,ht _ _ z.2.1,z.2.2⟩
section
variable {P : Program} {w : World} {H : Hp} {h : Heap} {a : Addr}
theorem qTv {u:HO}(ok:HOk P w H h)(e:Rd H a u):ObjOk P w H h a u:=e.ok ok
theorem qO4 {kvs:List (Key × V)}(ok:HOk P w H h)(e:Rd H a (.dK kvs)):kvs.length≤sizeLine∧(a == sysModules)=false∧∃ vs,KV kvs vs∧h.DictOf (xN P w) a vs:=
 show ObjOk P w H h a (.dK kvs) from qTv ok e
theorem qVb {kvs:List (Key × V)}(ok:HOk P w H h)(e:H a=some (.dK kvs)):kvs.length≤sizeLine∧(a == sysModules)=false∧∃ vs,KV kvs vs∧h.DictOf (xN P w) a vs:=qO4 ok (.inl e)
theorem qOc {ks:List Key}(ok:HOk P w H h)(e:H a=some (.tup (ks.map kV))):(tupleKind (xN P w)).is h ks a:=by
 obtain⟨_,its,r,o,h1,h2,n,h3⟩:=(show ObjOk P w H h a (.tup (ks.map kV)) from ok a _ e)
 exact⟨o,its.toArray,n,h1,h2,h3,by simpa using qHa r⟩
theorem qQ1 {kvs:List (List Key × V)}(ok:HOk P w H h)(e:Rd H a (.dT kvs)):kvs.length≤sizeLine∧(a == sysModules)=false∧
 ∃ xs,KT H kvs xs∧h.DictOfH (tupleKind (xN P w)) a xs:=by
 obtain⟨z,y,xs,r,o,es,ep,h1,h2,h3,h4,h5⟩:=(show ObjOk P w H h a (.dT kvs) from qTv ok e)
 refine⟨z,y,xs,r,o,es,ep,h1,h2,h3,h4,fun x hx=>?_,h5⟩
 have all:∀ {l:List (List Key × V)} {m:List (List Key × Addr × Value)},KT H l m→∀ x∈m,(tupleKind (xN P w)).is h x.1 x.2.1:=by
  intro l m q
  induction q with
  | nil=>intro x hx;exact nomatch hx
  | @cons p q ps qs hq t ih=>
   intro x hx
   rcases List.mem_cons.mp hx with e | hx
   · subst e
     exact qOc ok (by rw [← hq.1];exact hq.2.1)
   · exact ih x hx
 exact all r x hx
end
def DGet (H:Hp)(a:Addr)(y:V)(r:Option V):Prop:=
 (∃ kvs k,Rd H a (.dK kvs)∧y=kV k∧r=qL1 kvs k)∨∃ kvs k b,Rd H a (.dT kvs)∧y= .ref b∧H b=some (.tup (k.map kV))∧r=qL1 kvs k
def DPut (H:Hp)(a:Addr)(y v:V)(H':Hp):Prop:=
 (∃ kvs k,H a=some (.dK kvs)∧y=kV k∧kvs.length < sizeLine∧H'=upd H a (.dK (qMq kvs k v)))∨
 ∃ kvs k b,H a=some (.dT kvs)∧y= .ref b∧H b=some (.tup (k.map kV))∧kvs.length < sizeLine∧H'=upd H a (.dT (qMq kvs k v))
theorem DGet.k {H:Hp}{a:Addr}{kvs:List (Key × V)}{k:Key}(e:H a=some (.dK kvs)):DGet H a (kV k) (qL1 kvs k):=.inl ⟨kvs,k,.inl e,rfl,rfl⟩
theorem DPut.k {H:Hp}{a:Addr}{kvs:List (Key × V)}{k:Key}{v:V}(e:H a=some (.dK kvs))(hl:kvs.length < sizeLine):DPut H a (kV k) v (upd H a (.dK (qMq kvs k v))):=.inl ⟨kvs,k,e,rfl,hl,rfl⟩
section
variable {X : Cx} {pins : List (Addr × Obj)} {σ : St} {H : Hp} {s : Shared} {a : Addr} {y v : V} {u r : Value} {o : Option V} {A : Around} {E : Value → Shared → Prop}
theorem Inv.big (I:Inv X pins σ H s):sysModules < s.heap.objs.size:=by
 have h:mainGlobals < s.heap.objs.size:=(I.mod.glob.keeps I.bk).lt
 exact Nat.lt_trans (by decide) h
theorem qM2 {Q:Value→Shared→Prop}(hu:A.units+1 < cLine)(I:Inv X pins σ H s)(g:DGet H a y (some v))(ry:RelV y u)(h:∀ w' s',Inv X pins σ H s'→RelV v w'→Q w' s'):
 wpAny (model X.prog X.w) A (getItem (.ref a) u) Q E s:=by
 rcases g with ⟨kvs,k,e,ey,l⟩ | ⟨kvs,k,b,e,ey,eb,l⟩
 · subst ey
   obtain⟨z,hd,vs,rel,dd⟩:=qO4 I.hok e
   obtain⟨w',hw,rw'⟩:=RelO.some_of (v:=v) (o:=valueAt vs k) (by rw [l];exact rel.val k)
   exact wpAny_getItem_of (qPo ry) dd.mapOf hw (h w' _ (I.tok _) rw')
 · subst ey
   cases (show u=Value.ref b from ry)
   obtain⟨z,hd,xs,rel,dd⟩:=qQ1 I.hok e
   obtain⟨w',hw,rw'⟩:=RelO.some_of (v:=v) (o:=(atKey xs k).map (·.2)) (by rw [l];exact rel.val k)
   obtain⟨p,hp,hp2⟩:=Option.map_eq_some_iff.mp hw
   refine wpAny_getItem_heap (tupleKind_room_in1 hu) (qOc I.hok eb) dd hp ?_
   rw [hp2]
   exact h w' _ (I.tok _) rw'
theorem qQ9 {Q:Value→Shared→Prop}(hu:A.units+1 < cLine)(I:Inv X pins σ H s)(g:DGet H a y o)(ry:RelV y u)(h:∀ s',Inv X pins σ H s'→Q (.bool (!o.isSome)) s'):
 wpAny (model X.prog X.w) A (compareOp .NotIn u (.ref a)) Q E s:=by
 rcases g with ⟨kvs,k,e,ey,l⟩ | ⟨kvs,k,b,e,ey,eb,l⟩
 · subst ey
   obtain⟨z,hd,vs,rel,dd⟩:=qO4 I.hok e
   refine wpAny_notIn_of (qPo ry) hd dd.mapOf ?_
   rw [← (rel.val k).isSome_eq,← l]
   exact h _ (I.tok _)
 · subst ey
   cases (show u=Value.ref b from ry)
   obtain⟨z,hd,xs,rel,dd⟩:=qQ1 I.hok e
   refine wpAny_notIn_heap (tupleKind_room_in1 hu) (qOc I.hok eb) hd dd ?_
   have q:=(rel.val k).isSome_eq
   rw [Option.isSome_map] at q
   rw [← q,← l]
   exact h _ (I.tok _)
theorem qRf {h':Heap}{t':Nat}{ob:HO}(I:Inv X pins σ H s)(mu:Mut (H a))(hs:Heap.SameBut a s.heap h')(he:∃ q,h'.get? a=some q)(new:ObjOk X.prog X.w (upd H a ob) h' a ob):
 Inv X pins σ (upd H a ob) {s with heap:=h',toks:=t'}:=
 I.write (x:=a) (e:=a) mu (.inl rfl) (fun b q hb z=>(hs.2 b hb).trans z) he new
theorem qS5 {P:Program}{w:World}{H':Hp}{h':Heap}{kvs:List (Key × V)}{vs:List (Key × Value)}(z:kvs.length≤sizeLine)(hd:(a == sysModules)=false)(rel:KV kvs vs)(dd:h'.DictOf (xN P w) a vs):
 ObjOk P w H' h' a (.dK kvs):=⟨z,hd,vs,rel,dd⟩
end
section
variable {X : Cx} {pins : List (Addr × Obj)} {σ : St} {H : Hp} {s : Shared} {a : Addr} {kvs : List (Key × V)} {k : Key} {u : Value} {A : Around} {E : Value → Shared → Prop}
end
def qV5 (i:Expr):Prop:=∀ ov iv,subscripted i false ov iv=operate [ov,iv] (getItem ov iv)
theorem qSa {prog:Program}{w:World}{A:Around}{E:Value→Shared→Prop}{s:Shared}{env:Env}{value slice:Expr}{pos:Pos}{T id:String}{Q:Value→Shared→Prop}
 (hl:typeLookup (.type T) "__getitem__"=pure (some (.builtin id))) (hs:qV5 slice)
 (h:wpAny (model prog w) A (eval value env) (fun o s₁=>wpAny (model prog w) A (eval slice env) (fun i s₂=>s₂.TypeIs o T∧wpAny (model prog w) A (getItem o i) Q E s₂) E s₁) E s):
 wpAny (model prog w) A (eval (.Subscript value slice pos) env) Q E s:=by
 refine Subscript_ (wpAny_mono h (fun o s₁ h₁=>wpAny_mono h₁ (fun i s₂ h₂=>?_) fun _ _ x=>x) fun _ _ x=>x)
 obtain⟨hT,h₂⟩:=h₂
 unfold subscriptTail
 refine wpAny_bind ?_
 rw [getitemInPython_of_ne hT.not_modules]
 refine wpAny_bind (wpAny_specialOf hT hl ?_)
 have fin:wpAny (model prog w) A (subscripted slice false o i) (fun r s₃=>wpAny (model prog w) A (letTemporaryGo value o r >>=fun _=>pure r) Q E s₃) E s₂:=by
  rw [hs o i]
  exact wpAny_operating (wpAny_mono h₂ (fun r s₃ h₃=>wpAny_bind (wpAny_letTemporaryGo (wpAny_pure h₃))) fun _ _ x=>x)
 first
  | exact wpAny_pure (wpAny_bind fin)
  | exact wpAny_bind (wpAny_pure (wpAny_bind fin))
  | exact wpAny_bind fin
theorem qJe {X:Cx}{pins:List (Addr × Obj)}{σ:St}{H:Hp}{s:Shared}{a:Addr}{y:V}{o:Option V}(I:Inv X pins σ H s)(g:DGet H a y o):s.TypeIs (.ref a) "dict":=by
 rcases g with ⟨kvs,k,e,_,_⟩ | ⟨kvs,k,b,e,_,_,_⟩
 · obtain⟨_,_,vs,_,dd⟩:=qO4 I.hok e
   exact dd.typeIs
 · obtain⟨_,_,xs,_,dd⟩:=qQ1 I.hok e
   exact dd.typeIs
def qVh (td ty:TE):TE:=fun σ H Q=>td σ H fun x H1=>ty σ H1 fun y H2=>∃ a v,x= .ref a∧DGet H2 a y (some v)∧Q v H2
def qRm (ty td:TE):TE:=fun σ H Q=>ty σ H fun y H1=>td σ H1 fun x H2=>∃ a o,x= .ref a∧DGet H2 a y o∧Q (.bl (!o.isSome)) H2
section
variable {X : Cx} {o i e value : Expr} {pos pos' tpos : Pos} {td ty tv : TE}
theorem qAh (hu:X.A.units+1 < cLine)(ho:PE X o td)(hi:PE X i ty)(hs:qV5 i):PE X (.Subscript o i pos) (qVh td ty):=by
 intro pins s σ H Q I h
 refine qSa PySem.F.slot_dict_getitem.lookup hs (thn (ho pins s σ H _ I h) fun u s1 ⟨x,H1,I1,rx,q1⟩=>thn (hi pins s1 σ H1 _ I1 q1) fun iv s2 ⟨y,H2,I2,ry,a,v,ex,g,q2⟩=>?_)
 subst ex
 obtain rfl:u=Value.ref a:=rx
 exact⟨qJe I2 g,qM2 hu I2 g ry fun w' s3 I3 rw'=>⟨v,H2,I3,rw',q2⟩⟩
theorem qN3 (hu:X.A.units+1 < cLine)(hi:PE X i ty)(ho:PE X o td):PC X .NotIn i o (qRm ty td):=by
 intro pins s σ H Q I h
 refine thn (hi pins s σ H _ I h) fun iv s1 ⟨y,H1,I1,ry,q1⟩=>thn (ho pins s1 σ H1 _ I1 q1) fun u s2 ⟨x,H2,I2,rx,a,ov,ex,g,q2⟩=>?_
 subst ex
 obtain rfl:u=Value.ref a:=rx
 exact qQ9 hu I2 g ry fun s3 I3=>⟨.bl (!ov.isSome),H2,I3,rfl,q2⟩
end
theorem qPj {P:Program}{w:World}{H:Hp}(h:Heap)(hb:sysModules < h.objs.size):ObjOk P w H (h.push {cls:=.type "dict",data:=.dict #[]}) h.objs.size (.dK []):=
 ⟨Nat.zero_le _,beq_eq_false_iff_ne.mpr (Ne.symm (Nat.ne_of_lt hb)),[],.nil,Heap.DictOf.new h⟩
section
variable {X : Cx} {pos : Pos}
end
def qOk:List (TE × TE)→St→Hp→(List (V × V)→Hp→Prop)→Prop
 | [],_,H,Q=>Q [] H
 | (tk,tv)::r,σ,H,Q=>tk σ H fun x H1=>tv σ H1 fun y H2=>qOk r σ H2 fun ps H3=>Q ((x,y)::ps) H3
abbrev VV:List (V × V)→List (Value × Value)→Prop:=Paired fun p q=>RelV p.1 q.1∧RelV p.2 q.2
def PPs (X:Cx)(pos:Pos)(keys:List (Option Expr))(values:List Expr)(trs:List (TE × TE)):Prop:=
 ∀ (pins:List (Addr × Obj)) (s:Shared) (σ:St) (H:Hp) (Q:List (V × V)→Hp→Prop),Inv X pins σ H s→qOk trs σ H Q→
  wpAny (model X.prog X.w) X.A (evalPairs (pairTrees keys values X.env pos)) (fun vs s'=>∃ ps H',Inv X pins σ H' s'∧VV ps vs∧Q ps H') X.xe s
theorem qOm {X:Cx}{pos:Pos}:PPs X pos [] [] []:=fun pins s σ H Q I h=>pairTrees_nil_walk ⟨[],H,I,.nil,h⟩
theorem qFt {X:Cx}{pos:Pos}{k v:Expr}{ks:List (Option Expr)}{vs:List Expr}{tk tv:TE}{trs:List (TE × TE)}(hk:PE X k tk)(hv:PE X v tv)(hr:PPs X pos ks vs trs):
 PPs X pos (some k::ks) (v::vs) ((tk,tv)::trs):=fun pins s σ H Q I h=>
 pairTrees_cons_walk (thn (hk pins s σ H _ I h) fun u s1 ⟨x,H1,I1,rx,q1⟩=>thn (hv pins s1 σ H1 _ I1 q1) fun w2 s2 ⟨y,H2,I2,ry,q2⟩=>
  thn (hr pins s2 σ H2 _ I2 q2) fun ws s3 ⟨ps,H3,I3,rel,q3⟩=>⟨(x,y)::ps,H3,I3,.cons ⟨rx,ry⟩ rel,q3⟩)
def qCr (kvs more:List (Key × V)):List (Key × V):=more.foldl (fun acc kv=>qMq acc kv.1 kv.2) kvs
theorem KV.merge:∀ {more:List (Key × V)} {rs:List (Key × Value)} {kvs:List (Key × V)} {vs:List (Key × Value)},KV more rs→KV kvs vs→KV (qCr kvs more) (merged vs rs):=by
 intro more rs kvs vs r
 unfold KV at r
 induction r generalizing kvs vs with
 | nil=>intro q;exact q
 | @cons p q ps qs h t ih=>
  intro r0
  have e:KV (qMq kvs p.1 p.2) (stored vs q.1 q.2):=by
   have:=r0.put p.1 h.2
   rw [← h.1];exact this
  exact ih e
theorem wZ:∀ (more kvs:List (Key × V)),(qCr kvs more).length≤kvs.length+more.length
 | [],kvs=>by show kvs.length≤kvs.length+0;omega
 | p::r,kvs=>by
  have h1:=wZ r (qMq kvs p.1 p.2)
  have h2:=qJv kvs p.1 p.2
  show (qCr (qMq kvs p.1 p.2) r).length≤_
  rw [List.length_cons];omega
theorem qEt {P:Program}{w:World}:∀ {kvs:List (Key × V)} {ws:List (Value × Value)},VV (kvs.map fun kv=>(kV kv.1,kv.2)) ws→∃ rs,Carries (xN P w) ws rs∧KV kvs rs
 | [],_,r=>by rw [List.map_nil] at r;cases r;exact⟨[],True.intro,.nil⟩
 | p::kvs,_,r=>by
  rw [List.map_cons] at r
  cases r with
  | @cons a b as bs h t=>
   obtain⟨rs,c,q⟩:=qEt (P:=P) (w:=w) t
   obtain⟨b1,b2⟩:=b
   exact⟨(p.1,b2)::rs,⟨qPo h.1,rfl,c⟩,.cons ⟨rfl,h.2⟩ q⟩
def qUf (trs:List (TE × TE)):TE:=fun σ H Q=>∀ p,H p=none→qOk trs σ (upd H p (.dK [])) fun ps H2=>H2 p=some (.dK [])∧∃ kvs:List (Key × V),ps=kvs.map (fun kv=>(kV kv.1,kv.2))∧kvs.length≤15∧Q (.ref p) (upd H2 p (.dK (qCr [] kvs)))
theorem qNb {X:Cx}{pos:Pos}{keys:List (Option Expr)}{values:List Expr}{trs:List (TE × TE)}(h:PPs X pos keys values trs)(hall:keys.all (·.isSome)=true)(hl:keys.length=values.length)(h0:keys≠[])
 (h15:keys.length≤15):PE X (.Dict keys values pos) (qUf trs):=by
 intro pins s σ H Q I q
 have hn:=I.hok.fresh (Nat.le_refl s.heap.objs.size)
 have I1:=I.laid (a:=s.heap.objs.size) (o:=.dK []) (h':=s.heap.push {cls:=.type "dict",data:=.dict #[]}) (t':=s.toks) (fun _ _ q=>Heap.get?_push_of_some _ q) (Nat.le_refl _) (qPj s.heap I.big)
 refine wpAny_Dict_walk (knd:=xN X.prog X.w) hall hl h0 h15 (thn (h pins _ σ _ _ I1 (q _ hn)) fun ws s2 ⟨ps,H2,I2,rel,e,kvs,ep,lk,q2⟩=>?_)
 subst ep
 obtain⟨rs,c,rk⟩:=qEt (P:=X.prog) (w:=X.w) rel
 obtain⟨z,hd,vs0,r0,dd⟩:=qVb I2.hok e
 cases r0
 refine⟨rs,c,dd,fun h' dd' hs=>⟨.ref s.heap.objs.size,_,?_,rfl,q2⟩⟩
 have hz:(qCr [] kvs).length≤sizeLine:=by
  have h1:=wZ kvs []
  rw [List.length_nil] at h1
  rw [sizeLine_eq];omega
 have he:∃ q,h'.get? s.heap.objs.size=some q:=let ⟨q,_,_,hq,_⟩:=dd';⟨q,hq⟩
 exact qRf I2 (by rw [e];exact True.intro) hs he (qS5 hz hd (rk.merge .nil) dd')
structure M1 (X:Cx)(o:Expr)(m:Str)(apos:Pos)(e:Expr)(cpos:Pos):Prop where
 base:attributeBase o m X.env (eval o X.env)=eval o X.env
 few:((backTo cpos (starEach [e] X.env)).all (fun x=>!x.1) && (backToKw cpos (keywordEach [] X.env)).all (fun x=>x.1.isSome)
  && decide (([e]:List Expr).length+([]:List Keyword).length+(if ([]:List Keyword).isEmpty then 0 else 1) < 30))=true
 line:(apos.endLine == cpos.line)=true
 trees:backTo cpos (starEach [e] X.env)=[(false,eval e X.env)]
structure M2 (X:Cx)(o:Expr)(m:Str)(apos:Pos)(e f:Expr)(cpos:Pos):Prop where
 base:attributeBase o m X.env (eval o X.env)=eval o X.env
 few:((backTo cpos (starEach [e,f] X.env)).all (fun x=>!x.1) && (backToKw cpos (keywordEach [] X.env)).all (fun x=>x.1.isSome)
  && decide (([e,f]:List Expr).length+([]:List Keyword).length+(if ([]:List Keyword).isEmpty then 0 else 1) < 30))=true
 line:(apos.endLine == cpos.line)=true
 trees:backTo cpos (starEach [e,f] X.env)=[(false,eval e X.env),(false,eval f X.env)]
section
variable {X : Cx} {pins : List (Addr × Obj)} {σ : St} {H : Hp} {s : Shared} {a : Addr} {y d : V} {u r : Value} {o : Option V} {A : Around} {E : Value → Shared → Prop}
end
section
variable {X : Cx} {o e f : Expr} {apos cpos : Pos} {td ty tx : TE}
end
section
variable {X : Cx} {pins : List (Addr × Obj)} {σ : St} {H : Hp} {s : Shared} {a : Addr} {kvs : List (Key × V)} {A : Around} {E : Value → Shared → Prop}
end
section
variable {X : Cx} {pins : List (Addr × Obj)} {σ : St} {H : Hp} {s : Shared} {a : Addr} {y : V} {u : Value} {A : Around} {E : Value → Shared → Prop}
end
end L2
namespace Att
open PySem PySem.W PySem.Calls PyProof.Rows
section
variable {prog : Program} {w : World} {A : Around} {E : Value → Shared → Prop} {s : Shared} {K : Frag}
end
end Att
namespace L2
open PySem PySem.Spec PyProof.Rows
end L2
namespace L2
open PySem PySem.Spec PyProof.Rows
end L2
namespace L2
open PySem PySem.Spec PyProof.Rows
section
variable {P : Program} {w : World} {K : PySem.W.Frag} {mg : Str → Option Value} {base : Heap}
end
section
variable {X : Cx}
end
section
variable {κ : Type} [DecidableEq κ]
end
end L2
namespace Mt
theorem qSg (a b:Int):a.fmod b=a - b*a.fdiv b:=by
 have:=Int.fmod_add_mul_fdiv a b
 omega
theorem qLg (a b:Int):Int.gcd b (a.fmod b)=Int.gcd a b:=by
 apply Nat.dvd_antisymm
 · refine Int.dvd_gcd ?_ (Int.gcd_dvd_left b (a.fmod b))
   have h1:((Int.gcd b (a.fmod b):Nat):Int) ∣ b:=Int.gcd_dvd_left ..
   have h2:((Int.gcd b (a.fmod b):Nat):Int) ∣ a.fmod b:=Int.gcd_dvd_right ..
   have h3:=Int.dvd_add h2 (Int.dvd_trans h1 (Int.dvd_mul_right b (a.fdiv b)))
   have e:a.fmod b+b*a.fdiv b=a:=Int.fmod_add_mul_fdiv a b
   rwa [e] at h3
 · refine Int.dvd_gcd (Int.gcd_dvd_right ..) ?_
   rw [qSg]
   exact Int.dvd_sub (Int.gcd_dvd_left ..) (Int.dvd_trans (Int.gcd_dvd_right ..) (Int.dvd_mul_right ..))
theorem qM6 (a b:Int)(h:b≠0):(a.fmod b).natAbs < b.natAbs:=by
 rcases Int.lt_or_gt_of_ne h with h | h
 · have h1:=Int.fmod_lt_of_pos (-a) (show 0 < -b by omega)
   have h2:=Int.fmod_nonneg_of_pos (-a) (show 0 < -b by omega)
   rw [Int.neg_fmod_neg] at h1 h2
   omega
 · have h1:=Int.fmod_lt_of_pos a h
   have h2:=Int.fmod_nonneg_of_pos a h
   omega
def sg (t b:Int):Int:=if b < 0 then -((Int.gcd t b:Nat):Int) else ((Int.gcd t b:Nat):Int)
def jk (t b:Int):Int:=t.fdiv (sg t b)
def jU (t b:Int):Int:=b.fdiv (sg t b)
theorem qAx {t b:Int}(h:b≠0):0 < Int.gcd t b:=by
 rcases Nat.eq_zero_or_pos (Int.gcd t b) with z | z
 · rw [Int.gcd_eq_zero_iff] at z
   exact absurd z.2 h
 · exact z
theorem qVx {t b:Int}(h:b≠0):sg t b≠0:=by
 have:=qAx (t:=t) h
 unfold sg;split <;> omega
theorem qPr (t b:Int):sg t b ∣ t:=by
 unfold sg;split
 · exact Int.neg_dvd.mpr (Int.gcd_dvd_left ..)
 · exact Int.gcd_dvd_left ..
theorem qPy (t b:Int):sg t b ∣ b:=by
 unfold sg;split
 · exact Int.neg_dvd.mpr (Int.gcd_dvd_right ..)
 · exact Int.gcd_dvd_right ..
theorem qLi (t b:Int):(sg t b).natAbs=Int.gcd t b:=by
 unfold sg;split <;> omega
theorem qQa (t b:Int):jk t b*sg t b=t:=Int.fdiv_mul_cancel (qPr t b)
theorem qMr (t b:Int):jU t b*sg t b=b:=Int.fdiv_mul_cancel (qPy t b)
theorem xE {t b:Int}(h:b≠0):0 < jU t b:=by
 have e:=qMr t b
 have g:=qAx (t:=t) h
 by_cases hb:b < 0
 · have s:sg t b= -((Int.gcd t b:Nat):Int):=by unfold sg;rw [if_pos hb]
   rw [s] at e
   rcases Int.lt_trichotomy (jU t b) 0 with z | z | z
   · have:=Int.mul_pos_of_neg_of_neg z (show -((Int.gcd t b:Nat):Int) < 0 by omega)
     omega
   · rw [z] at e;omega
   · exact z
 · have s:sg t b=((Int.gcd t b:Nat):Int):=by unfold sg;rw [if_neg hb]
   rw [s] at e
   rcases Int.lt_trichotomy (jU t b) 0 with z | z | z
   · have:=Int.mul_neg_of_neg_of_pos z (show 0 < ((Int.gcd t b:Nat):Int) by omega)
     omega
   · rw [z] at e;omega
   · exact z
theorem qCu {t b:Int}(h:b≠0):Int.gcd (jk t b) (jU t b)=1:=by
 have e:=Int.gcd_mul_right (jk t b) (sg t b) (jU t b)
 rw [qQa,qMr,qLi] at e
 have g:=qAx (t:=t) h
 have e':1*Int.gcd t b=(jk t b).gcd (jU t b)*Int.gcd t b:=by omega
 exact(Nat.eq_of_mul_eq_mul_right g e').symm
theorem xc (t b:Int):jk t b*b=t*jU t b:=by
 have e1:=qQa t b
 have e2:=qMr t b
 calc jk t b*b=jk t b*(jU t b*sg t b):=by rw [e2]
  _=(jk t b*sg t b)*jU t b:=by rw [Int.mul_comm (jU t b),Int.mul_assoc]
  _=t*jU t b:=by rw [e1]
theorem qCb {t b:Int}(h:b≠0):(jk t b).natAbs≤t.natAbs:=by
 have e:=congrArg Int.natAbs (qQa t b)
 rw [Int.natAbs_mul,qLi] at e
 have g:=qAx (t:=t) h
 rw [← e]
 exact Nat.le_mul_of_pos_right _ g
theorem kA {t b:Int}(h:b≠0):(jU t b).natAbs≤b.natAbs:=by
 have e:=congrArg Int.natAbs (qMr t b)
 rw [Int.natAbs_mul,qLi] at e
 have g:=qAx (t:=t) h
 have:=Nat.le_mul_of_pos_right (jU t b).natAbs g
 omega
end Mt
namespace Mt
theorem qQ7 {p q p' q':Int}(hq:0 < q)(hq':0 < q')(g:Int.gcd p q=1)(g':Int.gcd p' q'=1)(c:p*q'=p'*q):p=p'∧q=q':=by
 have d1:q ∣ q':=by
  have h:q ∣ p*q':=by rw [c];exact Int.dvd_mul_left ..
  have n:q.natAbs ∣ p.natAbs*q'.natAbs:=by
   have:=Int.natAbs_dvd_natAbs.mpr h
   rwa [Int.natAbs_mul] at this
  have co:Nat.Coprime q.natAbs p.natAbs:=by
   show Nat.gcd q.natAbs p.natAbs=1
   rw [Nat.gcd_comm];exact g
  exact Int.natAbs_dvd_natAbs.mp (Nat.Coprime.dvd_of_dvd_mul_left co n)
 have d2:q' ∣ q:=by
  have h:q' ∣ p'*q:=by rw [← c];exact Int.dvd_mul_left ..
  have n:q'.natAbs ∣ p'.natAbs*q.natAbs:=by
   have:=Int.natAbs_dvd_natAbs.mpr h
   rwa [Int.natAbs_mul] at this
  have co:Nat.Coprime q'.natAbs p'.natAbs:=by
   show Nat.gcd q'.natAbs p'.natAbs=1
   rw [Nat.gcd_comm];exact g'
  exact Int.natAbs_dvd_natAbs.mp (Nat.Coprime.dvd_of_dvd_mul_left co n)
 have e:q=q':=by
  have h1:=Int.le_of_dvd hq' d1
  have h2:=Int.le_of_dvd hq d2
  omega
 subst e
 exact⟨Int.eq_of_mul_eq_mul_right (by omega) c,rfl⟩
theorem qHg {t b p q:Int}(h:b≠0)(hq:0 < q)(g:Int.gcd p q=1)(c:p*b=t*q):jk t b=p∧jU t b=q:=by
 have e:=xc t b
 have k:jk t b*q=p*jU t b:=by
  have:(jk t b*q)*b=(p*jU t b)*b:=by
   calc (jk t b*q)*b=(jk t b*b)*q:=by rw [Int.mul_assoc,Int.mul_comm q b,← Int.mul_assoc]
    _=(t*jU t b)*q:=by rw [e]
    _=(t*q)*jU t b:=by rw [Int.mul_assoc,Int.mul_comm (jU t b) q,← Int.mul_assoc]
    _=(p*b)*jU t b:=by rw [c]
    _=(p*jU t b)*b:=by rw [Int.mul_assoc,Int.mul_comm b,← Int.mul_assoc]
  exact Int.eq_of_mul_eq_mul_right h this
 exact qQ7 (xE h) hq (qCu h) g k
theorem qKk {p q:Int}(hq:0 < q)(g:Int.gcd p q=1):jk p q=p∧jU p q=q:=qHg (by omega) hq g rfl
theorem qt {p q:Int}(hq:0 < q):p.fdiv q*q≤p∧p < (p.fdiv q+1)*q:=by
 have e:=Int.fmod_add_mul_fdiv p q
 have h1:=Int.fmod_nonneg_of_pos p hq
 have h2:=Int.fmod_lt_of_pos p hq
 have c:q*p.fdiv q=p.fdiv q*q:=Int.mul_comm ..
 have d:(p.fdiv q+1)*q=p.fdiv q*q+q:=by rw [Int.add_mul,Int.one_mul]
 omega
end Mt
namespace Mt
theorem vj {A B C D:Int}(hB:0 < B)(hD:0 < D)(h:A*D=C*B):A.fdiv B=C.fdiv D:=by
 obtain⟨h1,h2⟩:=qt (p:=A) hB
 obtain⟨h3,h4⟩:=qt (p:=C) hD
 generalize A.fdiv B=f at h1 h2 ⊢
 generalize C.fdiv D=g at h3 h4 ⊢
 have k1:f*B*D≤A*D:=Int.mul_le_mul_of_nonneg_right h1 (by omega)
 have k2:C*B < (g+1)*D*B:=Int.mul_lt_mul_of_pos_right h4 hB
 have k3:g*D*B≤C*B:=Int.mul_le_mul_of_nonneg_right h3 (by omega)
 have k4:A*D < (f+1)*B*D:=Int.mul_lt_mul_of_pos_right h2 hD
 have p:=Int.mul_pos hB hD
 have e1:f*(B*D) < (g+1)*(B*D):=by grind
 have e2:g*(B*D) < (f+1)*(B*D):=by grind
 have:=Int.lt_of_mul_lt_mul_right e1 (by omega)
 have:=Int.lt_of_mul_lt_mul_right e2 (by omega)
 omega
theorem qPi {A B C D:Int}(hB:B≠0)(hD:D≠0)(h:A*D=C*B):jk A B=jk C D∧jU A B=jU C D:=by
 refine qHg hB (xE hD) (qCu hD) ?_
 have c:=xc C D
 generalize jk C D=u at c ⊢
 generalize jU C D=v at c ⊢
 refine Int.eq_of_mul_eq_mul_right hD ?_
 grind
def plP (p q r s k:Int):Int:=jk (p*s+k*r*q) (q*s)
def plQ (p q r s k:Int):Int:=jU (p*s+k*r*q) (q*s)
theorem qHd {p q r s k:Int}(hq:0 < q)(hs:0 < s):0 < plQ p q r s k:=xE (Int.ne_of_gt (Int.mul_pos hq hs))
theorem qTc {p q r s k:Int}(hq:0 < q)(hs:0 < s):Int.gcd (plP p q r s k) (plQ p q r s k)=1:=qCu (Int.ne_of_gt (Int.mul_pos hq hs))
theorem qKq (p q r s k:Int):plP p q r s k*(q*s)=(p*s+k*r*q)*plQ p q r s k:=xc _ _
theorem qRz {p q r s lo k:Int}(hq:0 < q)(hs:0 < s):plP (plP p q r s lo) (plQ p q r s lo) r s k=plP p q r s (lo+k)∧plQ (plP p q r s lo) (plQ p q r s lo) r s k=plQ p q r s (lo+k):=by
 have c:=qKq p q r s lo
 have h:=qHd (p:=p) (r:=r) (k:=lo) hq hs
 generalize plP p q r s lo=u at c ⊢
 generalize plQ p q r s lo=v at c h ⊢
 refine qPi (Int.ne_of_gt (Int.mul_pos h hs)) (Int.ne_of_gt (Int.mul_pos hq hs)) ?_
 grind
theorem qS9 {p q r s lo k:Int}(hq:0 < q)(hs:0 < s):(plP p q r s lo*s+k*r*plQ p q r s lo).fdiv (plQ p q r s lo*s)=(p*s+(lo+k)*r*q).fdiv (q*s):=by
 have c:=qKq p q r s lo
 have h:=qHd (p:=p) (r:=r) (k:=lo) hq hs
 generalize plP p q r s lo=u at c ⊢
 generalize plQ p q r s lo=v at c h ⊢
 refine vj (Int.mul_pos h hs) (Int.mul_pos hq hs) ?_
 grind
theorem qNd {p q r s:Int}(hq:0 < q)(hs:0 < s)(g:Int.gcd p q=1):plP p q r s 0=p∧plQ p q r s 0=q:=by
 refine qHg (Int.ne_of_gt (Int.mul_pos hq hs)) hq g ?_
 grind
theorem qOw {p q r s k:Int}(hq:0 < q)(hs:0 < s):(plP p q r s k).natAbs≤(p*s+k*r*q).natAbs:=qCb (Int.ne_of_gt (Int.mul_pos hq hs))
theorem qNy {p q r s k:Int}(hq:0 < q)(hs:0 < s):(plQ p q r s k).natAbs≤(q*s).natAbs:=kA (Int.ne_of_gt (Int.mul_pos hq hs))
end Mt
namespace Mt
def InR (N D m:Int):Prop:=0≤N∧N < m*D
theorem qJb {N D m:Int}(hD:0 < D):InR N D m↔(0≤N.fdiv D∧N.fdiv D < m):=by
 obtain⟨h1,h2⟩:=qt (p:=N) hD
 generalize N.fdiv D=f at h1 h2 ⊢
 unfold InR
 constructor
 · rintro ⟨a,b⟩
   constructor
   · have:0*D < (f+1)*D:=by rw [Int.zero_mul];omega
     have:=Int.lt_of_mul_lt_mul_right this (by omega)
     omega
   · exact Int.lt_of_mul_lt_mul_right (a:=D) (by omega) (by omega)
 · rintro ⟨a,b⟩
   constructor
   · have:=Int.mul_nonneg a (by omega:0≤D)
     omega
   · have:(f+1)*D≤m*D:=Int.mul_le_mul_of_nonneg_right (by omega) (by omega)
     omega
theorem qN4 {X Y E D m:Int}(hE:0 < E)(hD:0 < D)(h:X*D=Y*E):InR X E m↔InR Y D m:=by
 rw [qJb hE,qJb hD,vj hE hD h]
def qA6 (N R D m:Int):Int:=
 if R=0 then 1000000 else if ¬ (0≤N.fdiv D∧N.fdiv D < m) then 0
 else if 1000000 < (if R < 0 then N.fdiv (-R)+1 else -((N - m*D).fdiv R)) then 1000000 else (if R < 0 then N.fdiv (-R)+1 else -((N - m*D).fdiv R))
end Mt
namespace L3
open PySem PySem.Spec PyProof.Rows L2
def CMulB (i j:Int):Prop:=CMul i j∨(i.natAbs < 2 ^ 60000∧j.natAbs < 2 ^ 60000)
theorem wx {i:Int}(h:i.natAbs < 2 ^ 60000):Builtin.Int.intBits i≤2 ^ 20:=by
 unfold Builtin.Int.intBits
 split
 · exact Nat.zero_le _
 · rename_i h0
   have hz:i.natAbs≠0:=by
    intro z
    apply h0
    have:i=0:=by omega
    rw [this];rfl
   have:=(Nat.log2_lt hz).mpr h
   have e:(2:Nat) ^ 20=1048576:=by decide
   omega
theorem CMulB.ok {i j:Int}(h:CMulB i j):IntMulOk i j:=by
 rcases h with h | ⟨h1,h2⟩
 · exact h.ok
 · exact IntMulOk.of_bits (wx h1) (wx h2)
def CDivB (_ j:Int):Prop:=j≠0∧j.natAbs < 2 ^ 8000
theorem CDivB.ok {i j:Int}(h:CDivB i j):Builtin.divisionGoesByPylong i j=false:=by
 refine PyProof.noPylong_of_log2 ?_
 have hz:j.natAbs≠0:=by have:=h.1;omega
 have:=(Nat.log2_lt hz).mpr h.2
 omega
section
variable {X : Cx}
theorem jC:OpR X (binaryOp .Mult) (rI CMulB fun i j=>.int (i*j)):=opI fun _ _ _ _ _ _ _ hc q=>mul_int q hc.ok
theorem qg:OpR X (binaryOp .FloorDiv) (rI CDivB fun i j=>.int (i.fdiv j)):=opI fun _ _ _ _ _ _ _ hc q=>floordiv_int hc.1 q (.inl hc.ok)
theorem jQ:qA1 X (.builtin "isinstance") (fun xs H Q=>∃ x c t b,xs=[x,c]∧qEv X.K H x t∧
 (∃ n,c= .ty n∧PySem.W.kitOne X.K t (.type n)=some b∨∃ a,c= .ref a∧PySem.W.kitOne X.K t (.ref a)=some b)∧Q (.bl b) H):=by
 intro pins s σ H xs us Q I r h
 obtain⟨x,c,t,b,rfl,ty,hk,q⟩:=h
 obtain⟨u,u',rfl,rx,rc⟩:=qRk r
 obtain⟨n,⟨rfl,e⟩ | ⟨a,rfl,e⟩⟩:=hk
 · cases rc
   exact qHq I rx ty e fun tk=>⟨.bl b,H,I.tok _,rfl,q⟩
 · cases rc
   exact qHq I rx ty e fun tk=>⟨.bl b,H,I.tok _,rfl,q⟩
def qLr (xs ys:List V):Bool:=(List.range (min xs.length ys.length)).all (fun j=>eqV (xs.getD j .non) (ys.getD j .non)) && xs.length == ys.length
theorem qLn {A:Around}{s:Shared}{xs ys:List V}{us ws:List Value}(r1:Vals xs us)(r2:Vals ys ws)(f1:xs.all xn=true)(f2:ys.all xn=true):
 ∀ j (h1:j < us.toArray.size) (h2:j < ws.toArray.size),SeqAt.EqAt A s us.toArray[j] ws.toArray[j] (eqV (xs.getD j .non) (ys.getD j .non)):=by
 intro j h1 h2
 have l1:=r1.length
 have l2:=r2.length
 rw [List.size_toArray] at h1 h2
 have g1:xs[j]? =some xs[j]:=List.getElem?_eq_getElem (by omega)
 have g2:ys[j]? =some ys[j]:=List.getElem?_eq_getElem (by omega)
 obtain⟨u,e1,q1⟩:=r1.get g1
 obtain⟨w,e2,q2⟩:=r2.get g2
 have d1:xs.getD j .non=xs[j]:=by rw [List.getD_eq_getElem?_getD,g1];rfl
 have d2:ys.getD j .non=ys[j]:=by rw [List.getD_eq_getElem?_getD,g2];rfl
 have c1:us.toArray[j]=u:=by
  have:=(List.getElem?_eq_some_iff.mp e1).2
  simpa using this
 have c2:ws.toArray[j]=w:=by
  have:=(List.getElem?_eq_some_iff.mp e2).2
  simpa using this
 rw [d1,d2,c1,c2]
 exact qLf q1 q2 (List.all_eq_true.mp f1 _ (List.getElem_mem _)) (List.all_eq_true.mp f2 _ (List.getElem_mem _))
inductive qWh (K:PySem.W.Frag)(neg:Bool)(x:V)(y:V)(H:Hp)(Q:VK):Prop
| mk p q xs ys (_:x= .ref p) (_:y= .ref q) (_:SqT K H p xs) (_:SqT K H q ys) (_:xs.all xn=true) (_:ys.all xn=true) (_:Q (.bl (if neg then !qLr xs ys else qLr xs ys)) H)
theorem qSv (hu:X.A.units < cLine):OpR X (compareOp .Eq) (qWh X.K false):=by
 intro pins s σ H x y v u Q I rx ry h
 obtain⟨p,q,xs,ys,rfl,rfl,h1,h2,f1,f2,k⟩:=h
 cases rx;cases ry
 obtain⟨us,r1,t1,_⟩:=I.tuple h1
 obtain⟨ws,r2,t2,_⟩:=I.tuple h2
 have l1:us.toArray.size=xs.length:=by rw [List.size_toArray];exact r1.length.symm
 have l2:ws.toArray.size=ys.length:=by rw [List.size_toArray];exact r2.length.symm
 refine SeqAt.eq_tupleAt t1 t2 hu (qLn r1 r2 f1 f2) ?_
 rw [l1,l2]
 exact⟨.bl (qLr xs ys),H,I,rfl,k⟩
end
def jR (X:Cx)(scope:Scope)(cl:List (Str × Addr))(C:Addr)(N:List Str)(s:Shared)(H:Hp)(fp:List Addr):Cx:=
 {X with N:=N,s₀:=s,H₀:=H,env:=compEnvC scope cl C X.env,outer:=X.stack,stack:=X.stack,ex:=fp,fn:=fun _=>false,pn:=[]}
def vo (js:List Nat)(σ:L2.St):L2.St:=js.map fun j=>(σ[j]?).join
theorem qLq {prog:Program}{w:World}{A:Around}{R:Result→Shared→Prop}{s0:Shared}{el tg src:Expr}{cs:List Expr}{sco:Scope}{po:Pos}{itv lst:Value}{en:Env}(J:Nat→Shared→Prop)
 (step:∀ k st,J k st→wpAny (model prog w) A (pyNext itv) (fun got s1=>match got with
   | none=>R (.ok .next) s1
   | some u=>wpAny (model prog w) A (letOwnedTupleGo tg itv u) (fun _ s1'=>wpAny (model prog w) A (assign tg en u) (fun _ s2=>
    wpAny (model prog w) A (forIn cs true fun c r=>if r=true then do let ok ← isTrue c en (eval c en);pure (ForInStep.yield ok) else pure (ForInStep.yield r)) (fun good s3=>
     if good=true then wpAny (model prog w) A (eval el en) (fun y s4=>
      wpAny (model prog w) A (call (.builtin "list.append") [lst,y]) (fun _ s5=>∃ j,j < k∧J j s5) (notedBy (model prog w) A en fun x z=>R (.error x) z) s4) (notedBy (model prog w) A en fun x z=>R (.error x) z) s3
     else ∃ j,j < k∧J j s3) (notedBy (model prog w) A en fun x z=>R (.error x) z) s2) (notedBy (model prog w) A en fun x z=>R (.error x) z) s1') (notedBy (model prog w) A en fun x z=>R (.error x) z) s1) (notedBy (model prog w) A en fun x z=>R (.error x) z) st)
 (k:Nat) (hJ:J k s0):codeAny (model prog w) A (.compLoop (.ListComp el [⟨tg,src,cs,0⟩] sco po) 0 itv lst en) R s0:=by
 refine codeAny_loop rfl J (fun k st hk=>?_) k hJ
 show wpAny _ A ((compTurn (.ListComp el [⟨tg,src,cs,0⟩] sco po) 0 itv lst en).onRaise (fun x=>do noteFrame x en;theTreesLotGoes x)) _ _ st
 refine wpAny_noted ?_
 rw [compTurn_list]
 refine wpAny_bind (wpAny_standAt (wpAny_bind (wpAny_mono (step k st hk) (fun got s1 g1=>?_) fun _ _ q=>q)))
 match got with
 | none=>exact wpAny_pure g1
 | some u=>
  refine wpAny_bind (wpAny_mono g1 (fun _ s1' g2=>?_) fun _ _ q=>q)
  refine wpAny_bind (wpAny_mono g2 (fun _ s2 g3=>wpAny_bind (wpAny_mono g3 (fun good s3 g4=>?_) fun _ _ q=>q)) fun _ _ q=>q)
  match good with
  | false=>exact wpAny_pure ⟨rfl,g4⟩
  | true=>
   refine wpAny_bind (wpAny_bind (wpAny_mono g4 (fun y s4 g5=>?_) fun _ _ q=>q))
   exact wpAny_bind (wpAny_mono g5 (fun _ s5 g6=>wpAny_pure (wpAny_pure ⟨rfl,g6⟩)) fun _ _ q=>q)
structure COk (X:Cx)(scope:Scope)(cl:List (Str × Addr))(iter:Expr)(xs ys:List Str)(js:List Nat):Prop where
 clos:closureFor scope X.env=pure cl
 cls:cl.map (fun p=>X.env.cells.lookup p.1)=cl.map (fun p=>some p.2)
 cell:(scope.names.all fun p=>p.2 != .cell)=true
 kind:scope.kind= .function
 names:(scope.names.all fun p=>p.2 != .local || scope.names.lookup p.1 == some .local)=true
 has:((relabel scope X.env).names.all fun p=>(p.2 != .cell && p.2 != .free) || (cl.lookup p.1).isSome)=true
 hjs:js.map (fun j=>X.N[j]?)=ys.map some
 hys:(ys.all fun y=>((relabel scope X.env).names.lookup y == some .cell || (relabel scope X.env).names.lookup y == some .free) && (X.env.scope.names.lookup y == some .cell || X.env.scope.names.lookup y == some .free))=true
 set:∀ x,foldedSetIterable iter X.env x=pure x
 nd:(xs++ys).Nodup
def PTs (X:Cx)(cs:List Expr)(t:TT):Prop:=
 ∀ (pins:List (Addr × Obj)) (s:Shared) (σ:L2.St) (H:Hp) (Q:Bool→Hp→Prop),Inv X pins σ H s→t σ H Q→wpAny (model X.prog X.w) X.A (forIn cs true fun c r=>if r=true then do let ok ← isTrue c X.env (eval c X.env);pure (ForInStep.yield ok) else pure (ForInStep.yield r)) (TP X pins σ Q) X.xe s
theorem qNx {X:Cx}:PTs X [] fun _ H Q=>Q true H:=fun _ _ _ H _ I h=>wpAny_pure ⟨H,I,h⟩
theorem qOf {X:Cx}{c:Expr}{t:TT}(hc:PT X c t):PTs X [c] t:=fun pins s σ H Q I h=>by
 simp only [List.forIn_cons,List.forIn_nil,if_true]
 exact wpAny_bind (wpAny_bind (thn (hc pins s σ H Q I h) fun _ _ q=>wpAny_pure (wpAny_pure q)))
def ve (n:Nat)(js:List Nat)(g:TG)(tc:TT)(te:TE)(σ:L2.St)(Q:VK)(J:It)(H1:Hp):Prop:=∃ W:Nat→Nat→List V→Hp→Prop,(∃ m,W 0 m [] H1)∧∀ i m acc H2,W i m acc H2→
 acc.length < sizeLine∧((J.stop i H2∧∀ D,H2 D=none→Q (.ref D) (upd H2 D (.lst acc)))∨
  (J.go i H2∧∀ x H3,J.yld i H2 x H3→g x (List.replicate n none++vo js σ) H3 fun σ' H4=>∃ vs:L2.St,σ'=vs++vo js σ∧vs.length=n∧tc σ' H4 fun ok H5=>if ok=true then te σ' H5 fun v H6=>∃ m',m' < m∧W (i+1) m' (acc++[v]) H6 else ∃ m',m' < m∧W (i+1) m' acc H5))
theorem qEq {X:Cx}{elt iter tg:Expr}{cs:List Expr}{scope:Scope}{cl:List (Str × Addr)}{pos:Pos}{wi:TI}{g:TG}{tc:TT}{te:TE}{xs ys:List Str}{js:List Nat}{E:It→Hp→Prop}
 (hcm:X.calm=true) (hi:PI X tg iter wi) (hg:∀ C s H fp,PG (jR X scope cl C (xs++ys) s H fp).nox tg g) (hc:∀ C s H fp,PTs (jR X scope cl C (xs++ys) s H fp).nox cs tc) (he:∀ C s H fp,PE (jR X scope cl C (xs++ys) s H fp).nox elt te)
 (hC:COk X scope cl iter xs ys js)
 {pins:List (Addr × Obj)} {s:Shared} {σ:L2.St} {H:Hp} (R:V→Hp→Prop) (use:Option (Value→Sem Unit)) (Q:Value→Shared→Prop) (I:Inv X pins σ H s) (h:wi σ H E) (hE:∀ J H1,E J H1→ve xs.length js g tc te σ R J H1)
 (fin:∀ (v:V) (u:Value) (H':Hp) (s':Shared) (C:Addr),Inv X pins σ H' s'→RelV v u→R v H'→(∃ m,s'.heap.Ns C m)→H' C=none→C≠X.env.locals→X.s₀.heap.objs.size≤C→(∀ y c,X.env.cells.lookup y=some c→c≠C)→(∀ p∈X.pn++pins,p.1≠C)→
   compPost (model X.prog X.w) X.A X.xe use Q u C (.ok .next) s'):
 wpAny (model X.prog X.w) X.A (comprehension (.ListComp elt [⟨tg,iter,cs,0⟩] scope pos) scope X.env (firstIterPos [⟨tg,iter,cs,0⟩] pos) (newList []) false (eval iter X.env) use) Q X.xe s:=by
 obtain⟨hclos,hcl,hcell,hkind,hnames,hhas,hjs,hys,hs,hnd⟩:=hC
 have hcell':∀ y∈scope.names,y.2≠ .cell:=fun y hy=>by
  have:=List.all_eq_true.mp hcell y hy
  simpa using this
 have hnm:∀ y∈scope.names,y.2= .local→scope.names.lookup y.1=some .local:=fun y hy e=>by
  have:=List.all_eq_true.mp hnames y hy
  rw [e] at this
  simpa using this
 have clX:∀ y c,cl.lookup y=some c→X.env.cells.lookup y=some c:=fun y c e=>by
  have hm:=PySem.mem_of_lookup e
  obtain⟨k,hk,e2⟩:=List.mem_iff_getElem.mp hm
  have:=congrArg (fun l=>l[k]?) hcl
  simp only [List.getElem?_map,List.getElem?_eq_getElem hk,Option.map_some,e2] at this
  exact Option.some.inj this
 have has:∀ y,((relabel scope X.env).names.lookup y=some .cell∨(relabel scope X.env).names.lookup y=some .free)→∃ c,cl.lookup y=some c:=fun y hy=>by
  have key:∀ k:NameKind,(k= .cell∨k= .free)→(relabel scope X.env).names.lookup y=some k→∃ c,cl.lookup y=some c:=fun k hk e=>by
   have:=List.all_eq_true.mp hhas _ (PySem.mem_of_lookup e)
   rcases hk with rfl | rfl <;> exact Option.isSome_iff_exists.mp (by simpa using this)
  rcases hy with e | e
  · exact key _ (.inl rfl) e
  · exact key _ (.inr rfl) e
 refine wpAny_comprehension_free (use:=use) rfl hs hclos hkind hnm (thn (hi pins s σ H _ I h) fun v s1 h1=>thn h1 fun itv s2 h2=>?_)
 obtain⟨it,fp,tn,J,H2,e,I2,T,st2,f2,hw⟩:=h2
 obtain⟨W,⟨m0,w0⟩,turn⟩:=hE J H2 hw
 subst e
 refine wpAny_newObj_type (wpAny_newFunctionEnv hcell' (by intro y hy;simp at hy) (fun h₁ hns hsb=>?_) hkind)
 dsimp only at hns hsb ⊢
 generalize hG:s2.heap.push {cls:=.type "list",dict:=none,data:=.seq ([]:List Value).toArray}=G at hns hsb ⊢
 have szG:G.objs.size=s2.heap.objs.size+1:=by rw [← hG,Heap.size_push]
 have inG:∀ b o,s2.heap.get? b=some o→G.get? b=some o:=fun b o e=>hG ▸ Heap.get?_push_of_some _ e
 have ltC:∀ b o,s2.heap.get? b=some o→b≠G.objs.size:=fun b o e=>by rw [szG];exact Nat.ne_of_lt (Nat.lt_succ_of_lt (Heap.lt_size e))
 have ltD:∀ b o,s2.heap.get? b=some o→b≠s2.heap.objs.size:=fun b o e=>Nat.ne_of_lt (Heap.lt_size e)
 have DC:s2.heap.objs.size≠G.objs.size:=by rw [szG];omega
 have old:∀ b o,s2.heap.get? b=some o→h₁.get? b=some o:=fun b o e=>hsb.extBut b o (ltC b o e) (Heap.get?_push_of_some _ (inG b o e))
 have hacc:h₁.PlainList s2.heap.objs.size #[]:=⟨_,hsb.extBut _ _ DC (Heap.get?_push_of_some _ (hG ▸ Heap.get?_push_size _ rfl))⟩
 have fpO:∀ b∈fp,∃ o,s2.heap.get? b=some o:=fun b hb=>let ⟨o,e,_⟩:=T.obj 0 _ st2 b hb;⟨o,e⟩
 have stkO:∀ b∈frs X.stack,∃ o,s2.heap.get? b=some o:=fun b hb=>by
  obtain⟨_,o,ho,_⟩:=I2.stack.mem hb
  exact⟨o,ho⟩
 have freshH:∀ a,s2.heap.objs.size≤a→H2 a=none:=fun a ha=>I2.hok.fresh ha
 have stkFp:∀ b∈fp,b ∉ frs X.stack:=fun b hb z=>by
  rcases List.mem_cons.mp (I2.stkSub b z) with q | q
  · exact(f2 b hb).2.1 q
  · exact(f2 b hb).2.2.1 q
 have okX:(jR X scope cl G.objs.size (xs++ys) s2 H2 fp).Ok:={
  mod:=I2.ok.mod
  kind:=hkind
  glob:=I2.ok.glob
  blt:=I2.ok.blt
  above:=by show s2.heap.objs.size≤G.objs.size;rw [szG];omega
  inj:=fun y z c e1 e2=>I2.ok.inj y z c (clX y c e1) (clX z c e2)
  has:=fun y hy=>has y hy
  cab:=fun y c e _=>absurd (show false=true from e) Bool.false_ne_true
  hd:=I2.ok.hd
  frames:=I2.ok.frames
  stk:=.inl rfl
  exf:=fun b hb=>by
   obtain⟨o,e⟩:=fpO b hb
   exact⟨ltC b o e,fun y c e1=>(f2 b hb).2.2.2.2.1 y c (clX y c e1)⟩
  bs:=I2.bs
  bsz:=Nat.le_trans I2.ok.bsz I2.sz
  noex:=fun b o e hb=>by
   rcases (f2 b hb).2.2.2.1 with q | q
   · exact I2.ok.noex b o e q
   · exact Nat.lt_irrefl _ (Nat.lt_of_lt_of_le (Nat.lt_of_lt_of_le (Heap.lt_size e) I2.ok.bsz) q)
  exfs:=stkFp
  funs:=I2.stack
  frf:=I2.stkFree}
 have lenY:js.length=ys.length:=by have:=congrArg List.length hjs;simpa using this
 have I0:Inv (jR X scope cl G.objs.size (xs++ys) s2 H2 fp) [] (List.replicate xs.length none++vo js σ) H2 {s2 with heap:=h₁,toks:=s2.toks+([]:List (Str × Value)).length}:=by
  refine⟨okX,rfl,I2.bare,Un.kept old,⟨_,hns,fun k y v e1 e2 e3=>?_⟩,fun y c e=>?_,freshH _ (by show s2.heap.objs.size≤G.objs.size;rw [szG];omega),fun y c e=>I2.freeC y c (clX y c e),fun p hp=>absurd (show p∈([]:List (Addr × Obj)) from hp) (by simp),I2.hok.kept old,?_⟩
  · obtain⟨k,e1',e2'⟩:∃ k,ys[k]? =some y∧(vo js σ)[k]? =some (some v):=by
     have e1:(xs++ys)[k]? =some y:=e1
     by_cases hk:k < xs.length
     · rw [List.getElem?_append_left (by simpa using hk),List.getElem?_replicate,if_pos hk] at e2
       cases e2
     · rw [List.getElem?_append_right (by simpa using hk),List.length_replicate] at e2
       rw [List.getElem?_append_right (Nat.le_of_not_lt hk)] at e1
       exact⟨_,e1,e2⟩
    unfold vo at e2'
    rw [List.getElem?_map] at e2'
    cases ej:js[k]? with
    | none=>rw [ej] at e2';cases e2'
    | some j=>
     rw [ej] at e2'
     have e4:(σ[j]?).join=some v:=Option.some.inj e2'
     have e5:σ[j]? =some (some v):=by
      cases q:σ[j]? with
      | none=>rw [q] at e4;cases e4
      | some o=>rw [q] at e4;exact congrArg some e4
     have e6:X.N[j]? =some y:=by
      have:=congrArg (fun l=>l[k]?) hjs
      simp only [List.getElem?_map,ej,e1',Option.map_some] at this
      exact Option.some.inj this
     have hy:=List.all_eq_true.mp hys y (List.mem_of_getElem? e1')
     simp only [Bool.and_eq_true,Bool.or_eq_true,beq_iff_eq] at hy
     obtain⟨ky,ko⟩:=hy
     obtain⟨m,hn,hl⟩:=I2.loc
     obtain⟨u,r,lk⟩:=hl j y v e6 e5 (.inr ko)
     refine⟨u,r,.inr ⟨ky,?_⟩⟩
     rcases lk with ⟨kl,_⟩ | ⟨_,c,ec,hc⟩
     · have kl':X.env.scope.names.lookup y=some .local:=kl
       rw [kl'] at ko
       rcases ko with z | z <;> cases z
     · obtain⟨c',ec'⟩:=has y ky
       have:=clX y c' ec'
       rw [ec] at this
       cases this
       obtain⟨o,ho,hd⟩:=hc
       exact⟨c,ec',o,old c o ho,hd⟩
  · obtain⟨v,o,ho,hd⟩:=I2.cell y c (clX y c e)
    exact⟨v,o,old c o ho,hd⟩
  · show (List.replicate xs.length none++vo js σ).length=(xs++ys).length
    simp [vo,lenY]
 have loop:∀ s3:Shared,s3={s2 with heap:=h₁,toks:=s2.toks+([]:List (Str × Value)).length}→
  codeAny (model X.prog X.w) X.A (.compLoop (.ListComp elt [⟨tg,iter,cs,0⟩] scope pos) 0 (.ref it) (.ref s2.heap.objs.size) (compEnvC scope cl G.objs.size X.env))
   (compPost (model X.prog X.w) X.A X.xe use Q (.ref s2.heap.objs.size) G.objs.size) s3:=by
  rintro s3 rfl
  have stat:∀ {H':Hp} (o:Obj),(∀ b∈fp,H' b=none)→∀ b∈fp,qPb (jR X scope cl G.objs.size (xs++ys) s2 H2 fp) [(s2.heap.objs.size,o)] H' b:=fun {H'} o hn b hb=>by
   obtain⟨ob,eb⟩:=fpO b hb
   refine⟨hn b hb,ltC b ob eb,stkFp b hb,.inl hb,fun y c e1=>(f2 b hb).2.2.2.2.1 y c (clX y c e1),fun p hp=>?_⟩
   have hp':p=(s2.heap.objs.size,o):=by
    have:p∈[(s2.heap.objs.size,o)]:=hp
    simpa using this
   rw [hp']
   exact Ne.symm (ltD b ob eb)
  refine qLq (fun n s'=>∃ i acc its H3,Inv (jR X scope cl G.objs.size (xs++ys) s2 H2 fp) [] (List.replicate xs.length none++vo js σ) H3 s'∧tn i s'.heap∧(∀ b∈fp,H3 b=none)∧s'.heap.PlainList s2.heap.objs.size its.toArray∧Vals acc its∧H3 s2.heap.objs.size=none∧W i n acc H3)
   ?_ m0 ⟨0,[],[],H2,I0,T.keep _ _ _ st2 fun b _ o e=>old b o e,fun b hb=>(f2 b hb).1,hacc,.nil,freshH _ (Nat.le_refl _),w0⟩
  rintro n s3 ⟨i,acc,its,H3,I3,st3,fr3,⟨nn,pl3⟩,va3,hD3,w3⟩
  obtain⟨hlen,cs⟩:=turn i n acc H3 w3
  have hal:acc.length=its.length:=va3.length
  have nD:s2.heap.objs.size ∉ frs X.stack:=fun z=>by
   obtain⟨o,e⟩:=stkO _ z
   exact ltD _ o e rfl
  have I3p:Inv (jR X scope cl G.objs.size (xs++ys) s2 H2 fp) [(s2.heap.objs.size,{cls:=.type "list",data:=.seq its.toArray nn})] (List.replicate xs.length none++vo js σ) H3 s3:=I3.pins_of fun p hp=>by
   have e:p=(s2.heap.objs.size,{cls:=.type "list",data:=.seq its.toArray nn}):=by simpa using hp
   subst e
   exact⟨pl3,hD3,DC,nD,fun v z=>nomatch z⟩
  rcases cs with ⟨stop,q⟩ | ⟨go,step⟩
  · refine thn (T.done (jR X scope cl G.objs.size (xs++ys) s2 H2 fp) rfl rfl rfl hcm i _ s3 _ H3 _ I3p (stat _ fr3) st3 stop) fun r s4 hr=>?_
    obtain⟨hr,I4⟩:=hr
    subst hr
    have pl4:=(I4.pin (s2.heap.objs.size,{cls:=.type "list",data:=.seq its.toArray nn}) (by simp)).1
    obtain⟨m,hn,_⟩:=I4.loc
    have B:=I4.base
    have un':Un (frs X.stack) fp H2 (upd H3 s2.heap.objs.size (.lst acc)) s2.heap s4.heap:=by
     refine⟨fun b o e n hb hx=>B.keep b o e n hb hx,fun b o e n hb hx=>B.slot b o e n hb hx,fun b o e n hx=>?_,fun b o e hx=>B.there b o e hx,fun b xs e=>?_,fun b o u e=>?_,fun b ps e=>?_⟩
     · rw [qW (ltD b o e)]
       exact B.free b o e n hx
     · have z:=B.tups b xs e
       rw [qW (qU z hD3)]
       exact z
     · have z:=B.frzs b o u e
       rw [qW (qU z hD3)]
       exact z
     · obtain⟨more,z⟩:=B.tbls b ps e
       exact⟨more,by rw [qW (qU z hD3)];exact z⟩
    have freeC4:H3 G.objs.size=none:=I4.free
    have hok':HOk X.prog X.w (upd H3 s2.heap.objs.size (.lst acc)) s4.heap:=fun b u e=>by
     by_cases hb:b=s2.heap.objs.size
     · subst hb
       rw [qB] at e
       cases e
       exact⟨Nat.le_of_lt hlen,its,nn,va3,pl4⟩
     · rw [qW hb] at e
       exact(I4.hok b u e).stay (fun c v hc z=>z) (fun c z=>by rw [qW (qU z hD3)];exact z) fun c xs z=>by rw [qW (qU z hD3)];exact z
    have hch:∀ b∈fp,(b∈X.ex∨X.s₀.heap.objs.size≤b)∧b≠X.env.locals∧(∀ y c,X.env.cells.lookup y=some c→c≠b)∧∀ p∈X.pn++pins,p.1≠b:=fun b hb=>by
     obtain⟨_,z1,_,z3,z4,z5⟩:=f2 b hb
     exact⟨z3,z1,z4,z5⟩
    have I5:=I2.call' (s':=s4) (ch:=fp) I4.os un' hok' I4.bare hch
    refine fin (.ref s2.heap.objs.size) _ _ s4 G.objs.size I5 rfl (q _ hD3) ⟨m,hn⟩ ?_ ?_ ?_ (fun y c e=>?_) fun p hp=>?_
    · rw [qW (Ne.symm DC)];exact freeC4
    · rw [szG];exact Nat.ne_of_gt (Nat.lt_succ_of_lt I2.lt)
    · rw [szG];exact Nat.le_succ_of_le I2.sz
    · obtain⟨v,o,ho,_⟩:=I2.cell y c e
      exact ltC c o ho
    · exact ltC p.1 p.2 (I2.pin p hp).1
  · refine thn (T.item (jR X scope cl G.objs.size (xs++ys) s2 H2 fp) rfl rfl rfl hcm i _ s3 _ H3 _ I3p (stat _ fr3) st3 go) fun r s4 hr=>?_
    obtain⟨u,hr,h4⟩:=hr
    subst hr
    refine thn h4 fun _ s5 h5=>?_
    obtain⟨v,H5,I5,r5,y5,st5,fr5⟩:=h5
    have I5':=I5.pinned (stat _ fr5) (T.obj _ _ st5)
    refine wpAny_mono (hg G.objs.size s2 H2 fp _ s5 _ H5 v u _ (I5'.wish _) r5 (step v H5 y5)) (fun _ s6 h6=>?_) fun _ _ z=>z.elim
    obtain⟨σ6,H6',I6',vs,eσ,hv,q5⟩:=h6
    subst eσ
    have back:∀ (H7:Hp) (s7:Shared) (σ7:L2.St) (h':Heap) (acc':List V) (its':List Value) (m':Nat),Inv (jR X scope cl G.objs.size (xs++ys) s2 H2 fp) ([(s2.heap.objs.size,{cls:=.type "list",data:=.seq its.toArray nn})]++qIj fp s5.heap) (vs++vo js σ) H7 s7→
     Heap.SameBut s2.heap.objs.size s7.heap h'→h'.PlainList s2.heap.objs.size its'.toArray→Vals acc' its'→m' < n→W (i+1) m' acc' H7→
     ∃ m,m < n∧∃ i acc its H3,Inv (jR X scope cl G.objs.size (xs++ys) s2 H2 fp) [] (List.replicate xs.length none++vo js σ) H3 {s7 with heap:=h'}∧tn i h'∧(∀ b∈fp,H3 b=none)∧h'.PlainList s2.heap.objs.size its.toArray∧Vals acc its∧H3 s2.heap.objs.size=none∧W i m acc H3:=by
     intro H7 s7 _ h' acc' its' m' I7 hsb' hp' va' hm' w7
     have pinD:=I7.pin (s2.heap.objs.size,{cls:=.type "list",data:=.seq its.toArray nn}) (by simp)
     have pf:∀ b∈fp,∀ o,s5.heap.get? b=some o→s7.heap.get? b=some o∧H7 b=none:=fun b hb o e=>by
      have z:=I7.pin (b,o) (List.mem_append_right _ (List.mem_append_right _ (qAn hb e)))
      exact⟨z.1,z.2.1⟩
     have I8:Inv (jR X scope cl G.objs.size (xs++ys) s2 H2 fp) [] (List.replicate xs.length none++vo js σ) H7 {s7 with heap:=h'}:=by
      have I7u:Inv (jR X scope cl G.objs.size (xs++ys) s2 H2 fp) [] (List.replicate xs.length none++vo js σ) H7 s7:=(I7.pins_of (pins':=[]) fun p hp=>absurd hp (by simp)).weak (by simp [hv]) fun k v e=>by
       by_cases hk:k < xs.length
       · rw [List.getElem?_append_left (by simpa using hk),List.getElem?_replicate,if_pos hk] at e
         cases e
       · rw [List.getElem?_append_right (by simpa using hk),List.length_replicate] at e
         rw [List.getElem?_append_right (by rw [hv];exact Nat.le_of_not_lt hk),hv]
         exact e
      refine I7u.turned (t':=s7.toks) (it:=s2.heap.objs.size) (fun b o hb e=>hsb'.extBut b o hb e) pinD.2.1 DC (.inr (Nat.le_refl _)) (fun y c e=>?_) fun p hp=>absurd (show p∈([]:List (Addr × Obj)) from hp) (by simp)
      obtain⟨v,o,ho,_⟩:=I2.cell y c (clX y c e)
      exact ltD c o ho
     refine⟨m',hm',i+1,acc',its',H7,I8,?_,fun b hb=>?_,hp',va',pinD.2.1,w7⟩
     · refine T.keep _ _ _ st5 fun b hb o e=>hsb'.extBut b o ?_ (pf b hb o e).1
       obtain⟨ob,eb⟩:=fpO b hb
       exact ltD b ob eb
     · obtain⟨o,e,_⟩:=T.obj _ _ st5 b hb
       exact(pf b hb o e).2
    refine wpAny_mono (hc G.objs.size s2 H2 fp _ s6 _ _ _ I6' q5) (fun ok s6a h6=>?_) fun _ _ z=>z.elim
    obtain⟨H6,I6a,q6⟩:=h6
    cases ok with
    | false=>
     rw [if_neg (by decide)] at q6 ⊢
     obtain⟨m',hm',w7⟩:=q6
     have I7:=I6a.unwish
     have pinD:=I7.pin (s2.heap.objs.size,{cls:=.type "list",data:=.seq its.toArray nn}) (by simp)
     exact back H6 s6a (List.replicate xs.length none++vo js σ) s6a.heap acc its m' I7 (Heap.SameBut.refl _ _) ⟨nn,pinD.1⟩ va3 hm' w7
    | true=>
     rw [if_pos rfl] at q6 ⊢
     refine wpAny_mono (he G.objs.size s2 H2 fp _ s6a _ H6 _ I6a q6) (fun y s7 h7=>?_) fun _ _ z=>z.elim
     obtain⟨v7,H7,I7,r7,m',hm',w7⟩:=h7
     have I7:=I7.unwish
     have pinD:=I7.pin (s2.heap.objs.size,{cls:=.type "list",data:=.seq its.toArray nn}) (by simp)
     refine wpAny_list_append_plain (items:=its.toArray) ⟨nn,pinD.1⟩ (fun h' hp' hsb'=>?_) (by rw [List.size_toArray,← hal];exact Nat.le_of_lt hlen)
     have e8:its.toArray.push y=(its++[y]).toArray:=by simp
     rw [e8] at hp'
     exact back H7 s7 (List.replicate xs.length none++vo js σ) h' (acc++[v7]) (its++[y]) m' I7 hsb' hp' (va3.append (.cons r7 .nil)) hm' w7
 exact codeAny_compStart_list (loop _ rfl) (T.self _ 0 _ _ _ (T.keep _ _ _ st2 fun b _ o e=>old b o e) (loop _ rfl))
theorem qKj {X:Cx}{pins:List (Addr × Obj)}{σ:L2.St}{H:Hp}{s:Shared}{C:Addr}{h':Heap}(I:Inv X pins σ H s)(hsb:Heap.SameBut C s.heap h')(h0:H C=none)(h1:C≠X.env.locals)(h2:X.s₀.heap.objs.size≤C)
 (h3:∀ y c,X.env.cells.lookup y=some c→c≠C) (h4:∀ p∈X.pn++pins,p.1≠C):Inv X pins σ H {s with heap:=h'}:=
 I.turned (t':=s.toks) (it:=C) (fun b o hb e=>hsb.extBut b o hb e) h0 h1 (.inr h2) h3 h4
theorem qK0 {X:Cx}{elt iter tg:Expr}{cs:List Expr}{scope:Scope}{cl:List (Str × Addr)}{pos:Pos}{wi:TI}{g:TG}{tc:TT}{te:TE}{xs ys:List Str}{js:List Nat}{T:L2.St→VK→It→Hp→Prop}
 (hcm:X.calm=true) (hi:PI X tg iter wi) (hg:∀ C s H fp,PG (jR X scope cl C (xs++ys) s H fp).nox tg g) (hc:∀ C s H fp,PTs (jR X scope cl C (xs++ys) s H fp).nox cs tc) (he:∀ C s H fp,PE (jR X scope cl C (xs++ys) s H fp).nox elt te) (hC:COk X scope cl iter xs ys js) (hE:∀ σ Q J H1,T σ Q J H1→ve xs.length js g tc te σ Q J H1):PE X (.ListComp elt [⟨tg,iter,cs,0⟩] scope pos) (fun σ H Q=>wi σ H (T σ Q)):=by
 intro pins s σ H Q I h
 rw [eval_ListComp]
 refine qEq hcm hi hg hc he hC Q none (EP X pins σ Q) I h (hE σ Q) fun v u H' s' C I' r q hm h0 h1 h2 h3 h4=>?_
 obtain⟨m,hm⟩:=hm
 exact⟨m,hm,fun h' hsb=>⟨v,H',qKj I' hsb h0 h1 h2 h3 h4,r,q⟩⟩
theorem qLl {X:Cx}{elt iter tg:Expr}{cs:List Expr}{scope:Scope}{cl:List (Str × Addr)}{pos:Pos}{wi:TI}{g:TG}{tc:TT}{te:TE}{xs ys:List Str}{js:List Nat}{T:L2.St→VK→It→Hp→Prop}{i:Nat}{y:Str}{py spos:Pos}(hN:X.N.Nodup)(hi':X.N[i]? =some y)(hy:X.env.kindOf y=some .local)
 (hcm:X.calm=true) (hi:PI X tg iter wi) (hg:∀ C s H fp,PG (jR X scope cl C (xs++ys) s H fp).nox tg g) (hc:∀ C s H fp,PTs (jR X scope cl C (xs++ys) s H fp).nox cs tc) (he:∀ C s H fp,PE (jR X scope cl C (xs++ys) s H fp).nox elt te) (hC:COk X scope cl iter xs ys js) (hE:∀ σ Q J H1,T σ Q J H1→ve xs.length js g tc te σ Q J H1) (hsw:swapsWith (.ListComp elt [⟨tg,iter,cs,0⟩] scope pos) (some (.Name y py)) spos.line X.env=pure true):PS X (.Assign [.Name y py] (.ListComp elt [⟨tg,iter,cs,0⟩] scope pos) spos) (qSn (fun σ H Q=>wi σ H (T σ Q)) (qB4 i)):=by
 intro pins s σ H D I h
 rw [exec_Assign_Name_used _ _ _ _ hsw]
 refine wpAny_bind (wpAny_standAt (wpAny_bind ?_))
 have key:=qEq (pos:=pos) hcm hi hg hc he hC (fun v H'=>D.nx (σ.set i (some v)) H') (some (assign (.Name y py) X.env)) (fun _ s'=>SP X pins D .next s') I h (hE σ _) fun v u H' s' C I' r q hm h0 h1 h2 h3 h4=>?_
 · exact wpAny_bind (thn key fun _ s' hq=>wpAny_pure (wpAny_pure hq))
 · refine wpAny_assign_Name (qIx I' hN hi' (.inl hy) r (fun s2 I2 ch=>?_) (.inr hy))
   obtain⟨b,sb,hb⟩:=ch
   obtain⟨m,hm⟩:=hm
   have nb:C≠b:=by
    rcases hb with rfl | hb
    · exact h1
    · exact Ne.symm (h3 y b hb)
   exact⟨m,hm.sameBut sb nb,fun h' hsb=>⟨_,H',qKj I2 hsb h0 h1 h2 h3 h4,q⟩⟩
def CompEnd (js:List Nat)(te:TE)(σ:L2.St)(Q:VK)(J:It)(H1:Hp):Prop:=∃ W:Nat→Nat→List V→Hp→Prop,(∃ m,W 0 m [] H1)∧∀ i m acc H2,W i m acc H2→
 acc.length < sizeLine∧((J.stop i H2∧∀ D,H2 D=none→Q (.ref D) (upd H2 D (.lst acc)))∨
  (J.go i H2∧∀ x H3,J.yld i H2 x H3→te (some x::vo js σ) H3 fun v H4=>∃ m',m' < m∧W (i+1) m' (acc++[v]) H4))
def qTo (js:List Nat)(wi:TI)(te:TE):TE:=fun σ H Q=>wi σ H (CompEnd js te σ Q)
theorem CompEnd.g {js:List Nat}{te:TE}(σ:L2.St)(Q:VK)(J:It)(H1:Hp):CompEnd js te σ Q J H1→ve 1 js (qB4 0) (fun _ H Q=>Q true H) te σ Q J H1:=fun⟨W,w0,st⟩=>
 ⟨W,w0,fun i m acc H2 w=>⟨(st i m acc H2 w).1,(st i m acc H2 w).2.imp id fun⟨go,y⟩=>⟨go,fun x H3 z=>⟨[some x],rfl,rfl,(if_pos rfl).mpr (y x H3 z)⟩⟩⟩⟩
theorem zd {X:Cx}{elt iter:Expr}{x:Str}{px:Pos}{scope:Scope}{cl:List (Str × Addr)}{pos:Pos}{wi:TI}{te:TE}(ys:List Str)(js:List Nat)
 (hcm:X.calm=true) (hi:PI X (.Name x px) iter wi) (he:∀ C s H fp,PE (jR X scope cl C (x::ys) s H fp).nox elt te) (hx:scope.names.lookup x=some .local:=by rfl) (hC:COk X scope cl iter [x] ys js:=by exact⟨rfl,rfl,rfl,rfl,rfl,rfl,rfl,rfl,fun _=>rfl,by decide⟩):PE X (.ListComp elt [⟨.Name x px,iter,[],0⟩] scope pos) (qTo js wi te):=
 qK0 (xs:=[x]) (T:=CompEnd js te) hcm hi (fun _ _ _ _=>qz (i:=0) hC.nd rfl (.inl (lookup_relabel_local hx)) (.inr (lookup_relabel_local hx))) (fun _ _ _ _=>qNx) he hC CompEnd.g
theorem qQ2 {X:Cx}{elt iter:Expr}{x:Str}{px:Pos}{scope:Scope}{cl:List (Str × Addr)}{pos:Pos}{wi:TI}{te:TE}(ys:List Str)(js:List Nat){i:Nat}{y:Str}{py spos:Pos}(hN:X.N.Nodup)(hi':X.N[i]? =some y)(hy:X.env.kindOf y=some .local)
 (hcm:X.calm=true) (hi:PI X (.Name x px) iter wi) (he:∀ C s H fp,PE (jR X scope cl C (x::ys) s H fp).nox elt te) (hx:scope.names.lookup x=some .local:=by rfl) (hC:COk X scope cl iter [x] ys js:=by exact⟨rfl,rfl,rfl,rfl,rfl,rfl,rfl,rfl,fun _=>rfl,by decide⟩) (hsw:swapsWith (.ListComp elt [⟨.Name x px,iter,[],0⟩] scope pos) (some (.Name y py)) spos.line X.env=pure true:=by rfl):PS X (.Assign [.Name y py] (.ListComp elt [⟨.Name x px,iter,[],0⟩] scope pos) spos) (qSn (qTo js wi te) (qB4 i)):=
 qLl (xs:=[x]) (T:=CompEnd js te) hN hi' hy hcm hi (fun _ _ _ _=>qz (i:=0) hC.nd rfl (.inl (lookup_relabel_local hx)) (.inr (lookup_relabel_local hx))) (fun _ _ _ _=>qNx) he hC CompEnd.g hsw
def Nxt (n i:Nat)(P:Prop):Prop:=∃ m',m' < n - i∧m'=n - (i+1)∧i+1≤n∧P
theorem Nxt.mk {n i:Nat}{P:Prop}(h:i < n)(p:P):Nxt n i P:=⟨n - (i+1),by omega,rfl,h,p⟩
theorem wW {K:PySem.W.Frag}{a:Addr}{xs:List V}{js:List Nat}{te:TE}{σ:L2.St}{H:Hp}{Q:VK}(Pv:Nat→List V→Hp→Prop)(h0:Pv 0 [] H)(hl:∀ i acc H,i≤xs.length→Pv i acc H→SqL K H a xs∧acc.length < sizeLine)
 (hs:∀ i x acc H,i < xs.length→xs[i]? =some x→Pv i acc H→te (some x::vo js σ) H fun v H'=>Nxt xs.length i (Pv (i+1) (acc++[v]) H')) (hd:∀ acc H,Pv xs.length acc H→∀ D,H D=none→Q (.ref D) (upd H D (.lst acc))):CompEnd js te σ Q (Itl K a) H:=by
 refine⟨fun i m acc H=>m=xs.length - i∧i≤xs.length∧Pv i acc H,⟨xs.length,by simp,Nat.zero_le _,h0⟩,?_⟩
 rintro i m acc H2 ⟨rfl,hi,p⟩
 obtain⟨q,hz⟩:=hl i acc H2 hi p
 refine⟨hz,?_⟩
 by_cases hlt:i < xs.length
 · refine .inr ⟨⟨xs,xs[i],q,by simp [hlt]⟩,fun x H3 y=>?_⟩
   obtain⟨e,y⟩:=y
   subst e
   exact hs i x acc _ hlt (y xs q) p
 · have e:i=xs.length:=by omega
   subst e
   exact .inl ⟨⟨xs,q,Nat.le_refl _⟩,hd acc H2 p⟩
theorem zC {lo:Int}{n:Nat}{js:List Nat}{te:TE}{σ:L2.St}{H:Hp}{Q:VK}(Pv:Nat→List V→Hp→Prop)(h0:Pv 0 [] H)(hl:∀ i acc H,i≤n→Pv i acc H→acc.length < sizeLine)
 (hs:∀ i acc H,i < n→Pv i acc H→te (some (.int (lo+i))::vo js σ) H fun v H'=>Nxt n i (Pv (i+1) (acc++[v]) H')) (hd:∀ acc H,Pv n acc H→∀ D,H D=none→Q (.ref D) (upd H D (.lst acc))):CompEnd js te σ Q (Itr lo n) H:=by
 refine⟨fun i m acc H=>m=n - i∧i≤n∧Pv i acc H,⟨n,by simp,Nat.zero_le _,h0⟩,?_⟩
 rintro i m acc H2 ⟨rfl,hi,p⟩
 refine⟨hl i acc H2 hi p,?_⟩
 by_cases hlt:i < n
 · refine .inr ⟨hlt,fun x H3 y=>?_⟩
   obtain⟨e,y⟩:=y
   subst e y
   exact hs i acc _ hlt p
 · have e:i=n:=by omega
   subst e
   exact .inl ⟨Nat.le_refl _,hd acc H2 p⟩
structure Def (K:PySem.W.Frag)(mg:Str→Option Value)(x:Str)(st:Stmt)(ps:List Str)(f:Addr)(fd:FuncData):Prop where
 F:Fun K x x st f fd
 b:Binds K fd ps []
 m:mg x=some (.ref f)
section
variable {X : Cx}
theorem qK {k j:Nat}{x:Str}{st:Stmt}{ps:List Str}{f:Addr}{fd:FuncData}{sp:Sp}{e:Expr}{es:List Expr}{t:TA}{p pos:Pos}(D:Def X.K X.mg x st ps f fd)(F:FnOk X.prog X.w X.K X.mg X.base CX0 j f fd ps sp)(hr:Room k X.A)(hg:Gl X x)(ha:PA X (e::es) t)(hj:j≤k:=by decide)
 (hdb:(x == ("__debug__":Str))=false:=by decide) (he:starEach (e::es) X.env=(false,eval e X.env)::starEach es X.env:=by rfl) (hpl:(backTo pos (starEach es X.env)).any (·.1)=false:=by rfl):
 PE X (.Call (.Name x p) (e::es) [] pos) (qRo sp [] E0 t):=qOv F (hr.mono hj) hg D.m D.F.kp D.b .nil qVs ha hdb he hpl
theorem qD2 {x:Str}{n:String}{pos:Pos}(hg:Gl X x)(hm:X.mg x=none)(hv:bootBuiltins x=some (.type n))(hn:x≠"__name__":=by decide)(hd:(x == ("__debug__":Str))=false:=by decide):PE X (.Name x pos) (tC (.ty n)):=
 qRi hg hm hv rfl hn hd
end
theorem qFx {X:Cx}{K:PySem.W.Frag}(h:X.K=K):IxR X (qV1 K):=h ▸ q9
theorem xr {X:Cx}{K:PySem.W.Frag}(h:X.K=K):IxR X (qSl K):=h ▸ qBp
def qVf (t:TS):TS:=fun D σ H=>∃ R:L2.St→Hp→Prop,t {D with nx:=R} σ H∧∀ σ' H',R σ' H'→D.nx σ' H'
theorem kM {X:Cx}{st:Stmt}{t:TS}(h:PS X st t):PS X st (qVf t):=by
 rintro pins s σ H D I ⟨R,ht,hR⟩
 refine thn (h pins s σ H {D with nx:=R} I ht) fun f s' q=>?_
 cases f with
 | next=>obtain⟨σ',H',I',r⟩:=q;exact⟨σ',H',I',hR _ _ r⟩
 | brk=>exact q
 | cont=>exact q
 | ret u=>exact q
theorem qC {H:Hp}{p:Addr}(h:H p=none)(o:HO):Same H (upd H p o):=fun b u q=>by rw [qW (qU q h)];exact q
theorem Same.tup {K:PySem.W.Frag}{H H':Hp}{a:Addr}{xs:List V}(e:Same H H')(h:SqT K H a xs):SqT K H' a xs:=by
 rcases h with (h | ⟨o,h⟩) | h
 · exact .inl (.inl (e _ _ h))
 · exact .inl (.inr ⟨o,e _ _ h⟩)
 · exact .inr h
section
variable {X : Cx}
def DE1 (K:PySem.W.Frag)(H:Hp)(x y:V)(b:Bool):Prop:=(xn x=true∧xn y=true∧b=eqV x y)∨
 ∃ p q xs ys,x= .ref p∧y= .ref q∧SqT K H p xs∧SqT K H q ys∧xs.all xn=true∧ys.all xn=true∧b=qLr xs ys∧(p=q→b=true)
inductive rEqC (K:PySem.W.Frag)(neg:Bool)(x:V)(y:V)(H:Hp)(Q:VK):Prop
| mk p q xs ys (e:Nat→Bool) (_:x= .ref p) (_:y= .ref q) (_:SqT K H p xs) (_:SqT K H q ys) (_:(∀ j a c,xs[j]? =some a→ys[j]? =some c→DE1 K H a c (e j))) (_:Q (.bl (if neg then !((List.range (min xs.length ys.length)).all e && xs.length == ys.length) else ((List.range (min xs.length ys.length)).all e && xs.length == ys.length))) H)
end
abbrev EC:=Value × Option Addr
def vV (h:Heap)(e:Addr)(C:EC)(hd:Option Addr):Prop:=
 ∃ (vs:Array Value) (sl:Array (Option Value)),h.get? e=some {cls:=C.1,dict:=C.2,data:=.fields vs,slots:=sl}∧
  match hd with
  | none=>vs[1]? =some .none
  | some T=>vs[1]? =some (.ref T)∧T≠e∧∃ oT ts m,h.get? T=some oT∧oT.data= .fields ts∧ts[3]? =some m
structure Noted (fs:List Addr)(e:Addr)(hd:Option Addr)(C:EC)(h h':Heap):Prop where
 keep:∀ b o,h.get? b=some o→b ∉ fs→b≠e→some b≠hd→h'.get? b=some o
 slot:∀ b o,h.get? b=some o→b∈fs→b≠e→some b≠hd→∃ sl,h'.get? b=some {o with slots:=sl}
 ent:∃ T,(h.get? T=none∨hd=some T)∧vV h' e C (some T)
theorem Noted.before {fs:List Addr}{e T:Addr}{C:EC}{h h1 h':Heap}(x:Noted fs e none C h1 h')(k:∀ b,b≠T→h1.get? b=h.get? b)(t:∃ o,h1.get? T=some o):Noted fs e (some T) C h h':=by
 refine⟨fun b o q hf he ht=>x.keep b o ?_ hf he (by simp),fun b o q hf he ht=>x.slot b o ?_ hf he (by simp),?_⟩
 · rw [k b (fun z=>ht (by rw [z]))];exact q
 · rw [k b (fun z=>ht (by rw [z]))];exact q
 · obtain⟨T',n | n,r⟩:=x.ent
   · refine⟨T',.inl ?_,r⟩
     rw [← k T' (fun z=>?_)];exact n
     obtain⟨o,q⟩:=t
     rw [z,q] at n;cases n
   · cases n
section
variable {M : Model} {A : Around} {E : Value → Shared → Prop} {s : Shared}
theorem Noted.then {fs:List Addr}{e T:Addr}{hd:Option Addr}{C:EC}{h h1 h2:Heap}(x:Noted fs e hd C h h1)(hT:h.get? T=none∨hd=some T)(y:Noted fs e (some T) C h1 h2):Noted fs e hd C h h2:=by
 have nt:∀ b o,h.get? b=some o→some b≠hd→(some b:Option Addr)≠some T:=fun b o q hb z=>by
  cases z
  rcases hT with n | n
  · rw [q] at n;cases n
  · exact hb n.symm
 have n1:∀ T',h1.get? T'=none→T'≠e→some T'≠hd→h.get? T'=none:=fun T' n he ht=>by
  cases q:h.get? T' with
  | none=>rfl
  | some o=>
   by_cases hs:T'∈fs
   · obtain⟨sl,z⟩:=x.slot T' o q hs he ht
     rw [n] at z;cases z
   · have z:=x.keep T' o q hs he ht
     rw [n] at z;cases z
 refine⟨fun b o q hf he ht=>y.keep b o (x.keep b o q hf he ht) hf he (nt b o q ht),fun b o q hf he ht=>?_,?_⟩
 · obtain⟨sl,z⟩:=x.slot b o q hf he ht
   obtain⟨sl',z'⟩:=y.slot b _ z hf he (nt b o q ht)
   exact⟨sl',z'⟩
 · obtain⟨T',n,r⟩:=y.ent
   refine⟨T',?_,r⟩
   rcases n with n | n
   · by_cases hh:hd=some T'
     · exact .inr hh
     · refine .inl (n1 T' n (fun z=>?_) (Ne.symm hh))
       obtain⟨vs,sl,q,r1,nT,_⟩:=r
       exact nT z
   · cases n
     exact hT
theorem qHk {base:Heap}{env:Env}{outer:List Env}{L e:Addr}{C:EC}{head:Value}{vs:Array Value}{sl:Array (Option Value)}{had:Bool}{Q:Unit→Shared→Prop}
 (fr:A.frames=some (env::outer)) (ff:s.heap.FunFrames base (env::outer)) (ef:env.frame=some L) (re:s.heap.get? e=some {cls:=C.1,dict:=C.2,data:=.fields vs,slots:=sl}) (v1:1 < vs.size)
 (k:∀ h',Noted (frs (env::outer)) e none C s.heap h'→Q () {s with heap:=h'}):
 wpAny M A (do let a ← frameOf env;let pl ← entryPlaceOf L had;let b ← EntryCells.newEntry head a .none (rawInt L) .none pl;setField (.ref e) 1 b) Q E s:=by
 have efs:e ∉ frs (env::outer):=fun z=>by
  obtain⟨_,o,q,nf⟩:=ff.mem z
  rw [re] at q;cases q
  exact nf vs rfl
 refine wpAny_bind (wpAny_frameOf_fun fr ff ef fun g so=>?_)
 refine wpAny_bind (wpAny_entryPlaceOf fun pl ip=>?_)
 unfold EntryCells.newEntry newFields
 refine wpAny_bind (wpAny_newObj_type ?_ (ip.sizeOk5 _ _ _ _ _))
 generalize hN:({cls:=.type "traceback",dict:=none,data:=.fields ([head,.ref L,.none,rawInt L,.none]++(if pl.isEmpty then List.replicate 6 Value.none else pl)).toArray}:Obj)=N
 have Nd:N.data= .fields ([head,.ref L,.none,rawInt L,.none]++(if pl.isEmpty then List.replicate 6 Value.none else pl)).toArray:=by rw [← hN]
 have q1:g.get? e=some {cls:=C.1,dict:=C.2,data:=.fields vs,slots:=sl}:=(so.2.1 e efs).trans re
 have q2:=Heap.get?_push_of_some (h:=g) N q1
 have ne:g.objs.size≠e:=Nat.ne_of_gt (Heap.lt_size q1)
 refine wpAny_setField q2 rfl v1 (k _ ?_)
 have q3:=Heap.get?_update_self (Obj.mapFields (·.setIfInBounds 1 (Value.ref g.objs.size))) q2 rfl
 have nf:N.isFreed=false:=Obj.isFreed_of_fields Nd
 have t3:((g.push N).update e (Obj.mapFields (·.setIfInBounds 1 (Value.ref g.objs.size)))).get? g.objs.size=some N:=
  (Heap.get?_update_other (g.push N) _ (Ne.symm ne)).trans (Heap.get?_push_size g nf)
 have oth:∀ b o,b≠e→g.get? b=some o→((g.push N).update e (Obj.mapFields (·.setIfInBounds 1 (Value.ref g.objs.size)))).get? b=some o:=fun b o hb q=>by
  rw [Heap.get?_update_other _ _ (Ne.symm hb)]
  exact Heap.get?_push_of_some _ q
 refine⟨fun b o q hf he _=>oth b o he ((so.2.1 b hf).trans q),fun b o q hf he _=>?_,g.objs.size,.inl ?_,vs.setIfInBounds 1 (.ref g.objs.size),sl,q3,by simp [v1],ne,N,_,rawInt L,t3,Nd,?_⟩
 · obtain⟨sl',q'⟩:=so.2.2 b o q
   exact⟨sl',oth b _ he q'⟩
 · rw [so.1]
   exact Heap.get?_none_of_le (Nat.le_refl _)
 · simp
theorem qK3 {base:Heap}{env:Env}{outer:List Env}{L e:Addr}{C:EC}{hd:Option Addr}{Q:Unit→Shared→Prop}
 (fr:A.frames=some (env::outer)) (ff:s.heap.FunFrames base (env::outer)) (ef:env.frame=some L) (re:vV s.heap e C hd)
 (k:∀ h',Noted (frs (env::outer)) e hd C s.heap h'→Q () {s with heap:=h'}):wpAny M A (noteFrame (.ref e) env) Q E s:=by
 have re0:=re
 obtain⟨vs,sl,q,r⟩:=re
 unfold noteFrame
 simp only [ef]
 cases hd with
 | none=>
  refine wpAny_bind (wpAny_field q rfl r ?_)
  rw [if_neg (by decide)]
  exact qHk fr ff ef q (Array.getElem?_eq_some_iff.mp r).1 k
 | some T=>
  obtain⟨r1,nT,oT,ts,m,qT,dT,r3⟩:=r
  refine wpAny_bind (wpAny_field q rfl r1 ?_)
  rw [if_pos (by simp)]
  refine wpAny_bind (wpAny_field qT dT r3 ?_)
  by_cases hm:(m == rawInt L)=true
  · rw [if_pos hm]
    exact wpAny_pure (k s.heap ⟨fun b o q _ _ _=>q,fun b o q _ _ _=>⟨o.slots,q⟩,T,.inr rfl,re0⟩)
  rw [if_neg hm]
  refine wpAny_bind (wpAny_setField qT dT (Array.getElem?_eq_some_iff.mp r3).1 ?_)
  have oth:∀ b,b≠T→(s.heap.update T (Obj.mapFields (·.setIfInBounds 3 Value.none))).get? b=s.heap.get? b:=fun b z=>Heap.get?_update_other _ _ (Ne.symm z)
  have qT':=Heap.get?_update_self (Obj.mapFields (·.setIfInBounds 3 Value.none)) qT (Obj.isFreed_of_fields (Obj.data_mapFields dT _))
  have nf:∀ b o,s.heap.get? b=some o→(∀ vs,o.data≠ .fields vs)→b≠T:=fun b o z n w=>by
   rw [w,qT] at z;cases z
   exact n ts dT
  refine qHk (s:={s with heap:=s.heap.update T (Obj.mapFields (·.setIfInBounds 3 Value.none))}) fr (ff.of_keeps fun b o z n=>⟨o,(oth b (nf b o z n)).trans z,rfl⟩) ef ((oth e (Ne.symm nT)).trans q) (Array.getElem?_eq_some_iff.mp r1).1 fun h' x=>?_
  exact k h' (x.before oth ⟨_,qT'⟩)
theorem qE2 {e T:Addr}{C:EC}{fo:Option Addr}{Q:Unit→Shared→Prop}(re:vV s.heap e C (some T))
 (k:∀ h',(∀ fs,Noted fs e (some T) C s.heap h')→Q () {s with heap:=h'}):wpAny M A (setFlight (.ref e) fo) Q E s:=by
 obtain⟨vs,sl,q,r1,nT,oT,ts,m,qT,dT,r3⟩:=re
 unfold setFlight
 refine wpAny_bind (wpAny_field q rfl r1 ?_)
 rw [if_pos (by simp)]
 have oth:∀ b,b≠T→(s.heap.update T (Obj.mapFields (·.setIfInBounds 3 (fo.elim Value.none fun f=>rawInt f)))).get? b=s.heap.get? b:=fun b z=>Heap.get?_update_other _ _ (Ne.symm z)
 refine wpAny_setField qT dT (Array.getElem?_eq_some_iff.mp r3).1 (k _ fun fs=>⟨fun b o q _ _ z=>?_,fun b o q _ _ z=>⟨o.slots,?_⟩,T,.inr rfl,?_⟩)
 · rw [oth b fun w=>z (by rw [w])];exact q
 · rw [oth b fun w=>z (by rw [w])];exact q
 · refine⟨vs,sl,(Heap.get?_update_other _ _ nT).trans q,r1,nT,_,_,fo.elim Value.none fun f=>rawInt f,Heap.get?_update_self _ qT (Obj.isFreed_of_fields (Obj.data_mapFields dT _)),Obj.data_mapFields dT _,?_⟩
   have h3:=(Array.getElem?_eq_some_iff.mp r3).1
   simp [h3]
theorem qCj {e T:Addr}{C:EC}{Q:Unit→Shared→Prop}(re:vV s.heap e C (some T))
 (k:∀ h',(∀ fs,Noted fs e (some T) C s.heap h')→Q () {s with heap:=h'}):wpAny M A (setFlight (.ref e) none) Q E s:=qE2 re k
theorem qNn {base:Heap}{env:Env}{outer:List Env}{L e:Addr}{C:EC}{hd:Option Addr}{Q:Unit→Shared→Prop}
 (fr:A.frames=some (env::outer)) (ff:s.heap.FunFrames base (env::outer)) (ef:env.frame=some L) (re:vV s.heap e C hd)
 (k:∀ h',Noted (frs (env::outer)) e hd C s.heap h'→Q () {s with heap:=h'}):wpAny M A (noteFrame (.ref e) env) (fun _ s'=>wpAny M A (setFlight (.ref e) none) Q E s') E s:=by
 refine qK3 fr ff ef re fun h1 N1=>?_
 obtain⟨T,hT,rT⟩:=N1.ent
 exact qCj (s:={s with heap:=h1}) rT fun h2 N2=>k h2 (N1.then hT (N2 _))
theorem qO5 {base:Heap}{env:Env}{outer:List Env}{L e:Addr}{C:EC}{hd:Option Addr}{E2:Value→Shared→Prop}
 (fr:A.frames=some (env::outer)) (ff:s.heap.FunFrames base (env::outer)) (ef:env.frame=some L) (re:vV s.heap e C hd)
 (k:∀ h',Noted (frs (env::outer)) e hd C s.heap h'→E2 (.ref e) {s with heap:=h'}):notedBy M A env (cameBackBy M A env E2) (.ref e) s:=by
 refine qK3 fr ff ef re fun h1 N1=>?_
 obtain⟨T,hT,rT⟩:=N1.ent
 obtain⟨vs,sl,q,r1,_⟩:=id rT
 show wpAny M A _ _ _ _
 refine wpAny_bind (wpAny_field (s:={s with heap:=h1}) q rfl r1 ?_)
 rw [if_neg (by simp)]
 exact qE2 (s:={s with heap:=h1}) rT fun h2 N2=>k h2 (N1.then hT (N2 _))
end
theorem qQn {P:Program}{w:World}{H:Hp}{h:Heap}{a:Addr}{o:HO}(x:ObjOk P w H h a o):∃ ob,h.get? a=some ob:=by
 cases o with
 | lst xs=>obtain⟨_,_,_,_,e⟩:=x;exact⟨_,e⟩
 | tup xs=>obtain⟨_,_,_,ob,e,_⟩:=x;exact⟨ob,e⟩
 | dK kvs=>obtain⟨_,_,_,_,o,_,_,e,_⟩:=x;exact⟨_,e⟩
 | dT kvs=>obtain⟨_,_,_,_,o,_,_,e,_⟩:=x;exact⟨_,e⟩
 | set S n=>obtain⟨o,_,_,_,e,_⟩:=x;exact⟨_,e⟩
 | ins C dx fs=>obtain⟨_,_,_,e,_⟩:=x;exact⟨_,e⟩
 | own y=>exact x
 | xd fs=>obtain⟨_,⟨_,_,_,e,_⟩,_⟩:=x;exact⟨_,e⟩
 | rng lo hi=>obtain⟨_,_,_,e⟩:=x;exact⟨_,e⟩
 | frz ob u=>obtain⟨e,_⟩:=x;exact⟨_,e⟩
 | tbl ps=>exact⟨_,x⟩
 | met f y=>exact⟨_,x⟩
 | ext φ=>exact x.2.1
def qNv (h₀:Heap)(H:Hp)(ps:List (Addr × Obj))(e:Addr):Prop:=h₀.get? e=none∧H e=none∧∀ p∈ps,p.1≠e
def qPv (h₀:Heap)(H:Hp)(ps:List (Addr × Obj))(h:Heap)(e:Addr)(C:EC):Prop:=
 qNv h₀ H ps e∧∃ hd,vV h e C hd∧∀ T,hd=some T→qNv h₀ H ps T
def CXR (P:Program)(w:World):CXT:=fun outer H s E e s'=>∃ ea C H',e= .ref ea∧s'.os=s.os∧AllBare s'.gens∧Un (frs outer) [] H H' s.heap s'.heap∧HOk P w H' s'.heap∧qPv s.heap H' [] s'.heap ea C∧E C.1 C.2 H'
def XE (X:Cx)(Ex:Value→Option Addr→Hp→Prop):Value→Shared→Prop:=fun e s'=>∃ ea C σ H',e= .ref ea∧Inv X [] σ H' s'∧qPv X.s₀.heap H' X.pn s'.heap ea C∧Ex C.1 C.2 H'
section
variable {X : Cx} {σ : L2.St} {H : Hp} {s : Shared}
theorem vI {e:Addr}{hd:Option Addr}{C:EC}{h':Heap}(I:Inv X [] σ H s)(hex:X.ex=[])(re:vV s.heap e C hd)(n1:qNv X.s₀.heap H X.pn e)(n3:∀ T,hd=some T→qNv X.s₀.heap H X.pn T)
 (N:Noted (frs X.stack) e hd C s.heap h'):Inv X [] σ H {s with heap:=h'}∧qPv X.s₀.heap H X.pn h' e C:=by
 have B:=I.base
 rw [hex] at B
 have ne:∀ b o,X.s₀.heap.get? b=some o→b≠e∧some b≠hd∧b≠X.env.locals:=fun b o q=>by
  refine⟨fun z=>?_,fun z=>?_,Nat.ne_of_lt (Nat.lt_of_lt_of_le (Heap.lt_size q) I.ok.above)⟩
  · rw [z,n1.1] at q;cases q
  · rw [(n3 b z.symm).1] at q;cases q
 have nin:∀ b,b ∉ ([]:List Addr):=fun b z=>nomatch z
 have nfl:∀ b o,s.heap.get? b=some o→(∀ vs,o.data≠ .fields vs)→b≠e∧some b≠hd:=fun b o q nf=>by
  obtain⟨vs,sl,qe,r⟩:=re
  refine⟨fun z=>?_,fun z=>?_⟩
  · rw [z,qe] at q;cases q
    exact nf vs rfl
  · subst z
    obtain⟨_,_,oT,ts,_,qT,dT,_⟩:=r
    rw [qT] at q;cases q
    exact nf ts dT
 have up:∀ b o,s.heap.get? b=some o→b≠e→some b≠hd→∃ sl,h'.get? b=some {o with slots:=sl}:=fun b o q z1 z2=>by
  by_cases hs:b∈frs X.stack
  · exact N.slot b o q hs z1 z2
  · exact⟨o.slots,N.keep b o q hs z1 z2⟩
 have un:Un X.fs [] X.H₀ H X.s₀.heap h':=by
  refine⟨fun b o q n hb hx=>?_,fun b o q n hb hx=>?_,fun b o q n hx=>B.free b o q n hx,fun b o q hx=>?_,B.tups,B.frzs,B.tbls⟩
  · obtain⟨z1,z2,z3⟩:=ne b o q
    refine N.keep b o (B.keep b o q n hb hx) (fun z=>?_) z1 z2
    rcases List.mem_cons.mp (I.stkSub b z) with w | w
    · exact z3 w
    · exact hb w
  · obtain⟨z1,z2,z3⟩:=ne b o q
    obtain⟨sl,q1⟩:=B.slot b o q n hb hx
    obtain⟨sl',q2⟩:=up b _ q1 z1 z2
    exact⟨sl',q2⟩
  · obtain⟨z1,z2,z3⟩:=ne b o q
    obtain⟨o',q1⟩:=B.there b o q hx
    obtain⟨sl',q2⟩:=up b _ q1 z1 z2
    exact⟨_,q2⟩
 have hok:HOk X.prog X.w H h':=fun a u q=>by
  have key:∀ c,H c=none→¬ (c=a∨H c=some (.own a)):=fun c z w=>by
   rcases w with w | w
   · rw [w,q] at z;cases z
   · rw [z] at w;cases w
  exact(I.hok a u q).stay (fun c v hc z=>N.keep c v z (fun w=>key c (I.stkFree c w) hc) (fun w=>key c (by rw [w];exact n1.2.1) hc) fun w=>key c (n3 c w.symm).2.1 hc) (fun _ z=>z) fun _ _ z=>z
 have cellK:∀ c v,s.heap.IsCell c v→h'.IsCell c v:=fun c v ⟨o,q,d⟩=>by
  obtain⟨z1,z2⟩:=nfl c o q fun vs w=>by rw [d] at w;cases w
  obtain⟨sl,q'⟩:=up c o q z1 z2
  exact⟨_,q',d⟩
 have I':Inv X [] σ H {s with heap:=h'}:=by
  refine⟨I.ok,I.os,I.bare,by rw [hex];exact un,?_,fun y c e=>?_,I.free,I.freeC,fun p hp=>?_,hok,I.len⟩
  · obtain⟨m,⟨o,es,ep,ho,hd',r⟩,hl⟩:=I.loc
    obtain⟨z1,z2⟩:=nfl _ o ho fun vs w=>by rw [hd'] at w;cases w
    obtain⟨sl,q'⟩:=up _ o ho z1 z2
    refine⟨m,⟨_,es,ep,q',hd',r⟩,fun i x v e1 e2 e3=>?_⟩
    obtain⟨u,r,l⟩:=hl i x v e1 e2 e3
    refine⟨u,r,?_⟩
    rcases l with l | ⟨k,c,ec,z⟩
    · exact .inl l
    · exact .inr ⟨k,c,ec,cellK c _ z⟩
  · obtain⟨v,z⟩:=I.cell y c e
    exact⟨v,cellK c v z⟩
  · obtain⟨q,n,nl,nf,d⟩:=I.pin p hp
    have hp':p∈X.pn:=by simpa using hp
    refine⟨N.keep p.1 p.2 q (fun z=>?_) (n1.2.2 p hp') fun z=>(n3 p.1 z.symm).2.2 p hp' rfl,n,nl,nf,d⟩
    rcases List.mem_cons.mp (I.stkSub p.1 z) with w | w
    · exact nl w
    · exact nf w
 refine⟨I',n1,?_⟩
 obtain⟨T,nT,r⟩:=N.ent
 refine⟨some T,r,fun T' e'=>?_⟩
 cases e'
 rcases nT with nT | nT
 rotate_left
 · exact n3 T nT
 refine⟨?_,?_,fun p hp z=>?_⟩
 · cases q:X.s₀.heap.get? T with
   | none=>rfl
   | some o=>
    obtain⟨o',z⟩:=B.there T o q (nin T)
    rw [nT] at z;cases z
 · cases q:H T with
   | none=>rfl
   | some u=>
    obtain⟨o',z⟩:=qQn (I.hok T u q)
    rw [nT] at z;cases z
 · have q:=(I.pin p (List.mem_append_left _ hp)).1
   rw [z,nT] at q;cases q
end
theorem qUp {X:Cx}{Ex:Value→Option Addr→Hp→Prop}{L:Addr}{env:Env}{outer:List Env}(hst:X.stack=env::outer)(he:X.env=env)(hf:env.frame=some L)(hex:X.ex=[]):PassesOwn (model X.prog X.w) X.A X.env (XE X Ex):=by
 rintro e s' ⟨ea,C,σ,H',rfl,I,⟨n1,hd,r,n3⟩,z⟩
 subst he
 have fr:=I.ok.frames
 rw [hst] at fr
 have ff:=I.stack
 rw [hst] at ff
 refine qO5 fr ff hf r fun h' N'=>?_
 rw [← hst] at N'
 obtain⟨I',x'⟩:=vI I hex r n1 n3 N'
 exact⟨ea,C,σ,H',rfl,I',x',z⟩
theorem qQy {X:Cx}{E:Value→Shared→Prop}{st:List Stmt}{t:TS}(h:PSs (X.wish E) st t)(hE:∀ e s',E e s'→X.xe e s'):PSs X st t:=fun pins s σ H D I hw=>
 wpAny_mono (h pins s σ H D (I.wish E) hw) (fun _ _ q=>q.unwish) hE
section
variable {P : Program} {w : World} {K : PySem.W.Frag} {mg : Str → Option Value} {base : Heap}
theorem okX {x qual:Str}{st:Stmt}{f:Addr}{fd:FuncData}{N ps:List Str}{k:Nat}{sp:Sp}(F:Fun K x qual st f fd)(S:qQ N ps (qI st))(len:∀ vs H Q E,sp vs H Q E→vs.length=ps.length)
 (hbody:∀ (cdv:Value) (A:Around) (outer:List Env) (s:Shared) (H:Hp) (vs:List V) (Q:VK) (E:XK),Room k (A.deeper (envOfC qual (qI st) s.heap.objs.size f cdv))→sp vs H Q E→
   ∃ t,PSs ((qO3 (CXR P w) P w K mg base N qual (qI st) f cdv A outer s H E).wish (XE (qO3 (CXR P w) P w K mg base N qual (qI st) f cdv A outer s H E) E)) (zg st) t∧
    t {nx:=fun _ H'=>Q .non H',rt:=Q} (start N vs) H):FnOk P w K mg base (CXR P w) (k+1) f fd ps sp:=by
 obtain⟨oc,od,kV,doc,pm,an,cdv,ct,osl,rfl,lk,hcd⟩:=F.ex
 refine qS6 lk hcd S len fun A outer s H vs Q E hr hsp=>?_
 obtain⟨t,h,q⟩:=hbody cdv A outer s H vs Q E hr hsp
 refine⟨t,qQy h ?_,q⟩
 rintro e s' ⟨ea,C,σ,H',rfl,I,⟨n1,hd,r,n3⟩,z⟩
 show wpAny _ _ (leaving _ _) _ _ _
 unfold leaving
 refine wpAny_bind (qNn I.ok.frames I.stack rfl r fun h' N'=>?_)
 obtain⟨I',x'⟩:=vI I rfl r n1 n3 N'
 exact⟨ea,C,H',rfl,I.os,I.bare,I'.base,I'.hok,x',z⟩
end
theorem qVn {X:Cx}{Ex:Value→Option Addr→Hp→Prop}(hex:X.ex=[]):qKl (CXR X.prog X.w) (X.wish (XE X Ex)) Ex:=by
 rintro pins σ H s e s' I ⟨ea,C,H',rfl,os,bare,un,hok,⟨n1,hd,r,n3⟩,q⟩
 have I0:=I.unwish
 have I1:Inv X pins σ H' s':=I0.call' (ch:=[]) os un hok bare fun b z=>nomatch z
 have old:∀ b,s.heap.get? b=none→X.s₀.heap.get? b=none:=fun b z=>by
  cases w:X.s₀.heap.get? b with
  | none=>rfl
  | some o=>
   obtain⟨o',w'⟩:=I0.base.there b o w (by rw [hex];intro y;cases y)
   rw [z] at w';cases w'
 have pn:∀ b,s.heap.get? b=none→∀ p∈X.pn,p.1≠b:=fun b z p hp w=>by
  have q:=(I0.pin p (List.mem_append_left _ hp)).1
  rw [w,z] at q;cases q
 exact⟨ea,C,σ,H',rfl,I1.pins_of (pins':=[]) fun p hp=>(nomatch hp),⟨⟨old _ n1.1,n1.2.1,pn _ n1.1⟩,hd,r,fun T e=>⟨old _ (n3 T e).1,(n3 T e).2.1,pn _ (n3 T e).1⟩⟩,q⟩
theorem wJ {X:Cx}{Ex:Value→Option Addr→Hp→Prop}{k j:Nat}{x:Str}{st:Stmt}{ps:List Str}{f:Addr}{fd:FuncData}{sp:Sp}{e:Expr}{es:List Expr}{t:TA}{p pos:Pos}(D:Def X.K X.mg x st ps f fd)(F:FnOk X.prog X.w X.K X.mg X.base (CXR X.prog X.w) j f fd ps sp)(hr:Room k X.A)(hg:Gl X x)
 (ha:PA (X.wish (XE X Ex)) (e::es) t) (hj:j≤k:=by decide) (hex:X.ex=[]:=by rfl)
 (hdb:(x == ("__debug__":Str))=false:=by decide) (he:starEach (e::es) X.env=(false,eval e X.env)::starEach es X.env:=by rfl) (hpl:(backTo pos (starEach es X.env)).any (·.1)=false:=by rfl):
 PE (X.wish (XE X Ex)) (.Call (.Name x p) (e::es) [] pos) (qRo sp [] Ex t):=
 qOv (X:=X.wish (XE X Ex)) (CX:=CXR X.prog X.w) F (hr.mono hj) hg D.m D.F.kp D.b .nil (qVn hex) ha hdb he hpl
def qRu:List Value:=[.type "ValueError",.type "Exception",.type "BaseException",.type "object"]
def OwnX (K:PySem.W.Frag)(C:Addr):Prop:=PySem.W.excIn K C qRu "ValueError.__new__"=true
theorem qQ6 {K:PySem.W.Frag}{h:Heap}{mg:Str→Option Value}{x:Str}{C:Addr}(X:K.In h)(b:mg x=some (.ref C))(q:OwnX K C):OwnCls x C qRu "ValueError.__new__" mg h:=by
 refine⟨b,?_⟩
 unfold OwnX PySem.W.excIn at q
 split at q
 · rename_i dd cd sl ho
   split at q
   · rename_i C' bm k0 k1 k2 k3 n k5 hm hs
     simp only [Bool.and_eq_true,beq_iff_eq,Bool.not_eq_true'] at q
     obtain⟨⟨⟨⟨⟨eC,en⟩,del⟩,ht⟩,ok⟩,ni⟩:=q
     subst eC en
     obtain⟨nm,bs,mro,ns,qn,hd,sn,sub,ab,col,dl⟩:=cd
     dsimp only at hm del ok ni
     subst hm del
     have hsl:sl=#[k0,k1,k2,k3,some (.builtin "ValueError.__new__"),k5]:=by
      obtain⟨l⟩:=sl
      simp only at hs
      rw [hs]
     subst hsl
     exact⟨bm,ns,nm,qn,bs,hd,sn,sub,ab,col,dd,k0,k1,k2,k3,k5,_,X _ _ ho,.of_isNs (PySem.W.isNs_of_in X ok),PySem.W.nsMap_none_of_in X ok ni,PySem.W.tail_of_in X ht⟩
   · cases q
 · cases q
def qS7 (C:Addr)(Ex:Value→Option Addr→Hp→Prop)(t:TA):TS:=fun _ σ H=>t σ H fun vs H1=>vs.length≤sizeLine∧Ex (.ref C) none H1
theorem j4 {X:Cx}{Ex:Value→Option Addr→Hp→Prop}{x:Str}{C:Addr}{np cpos pos:Pos}{e₀:Expr}{rest:List Expr}{t:TA}(hcm:X.calm=true)(hg:Gl X x)(hm:X.mg x=some (.ref C))(hx:OwnX X.K C)(ha:PA (X.wish (XE X Ex)) (e₀::rest) t)
 (he:starEach (e₀::rest) X.env=(false,eval e₀ X.env)::starEach rest X.env:=by rfl) (hpl:(backTo cpos (starEach rest X.env)).any (·.1)=false:=by rfl) (hex:X.ex=[]:=by rfl) (hdb:(x == ("__debug__":Str))=false:=by decide):
 PS (X.wish (XE X Ex)) (.Raise (some (.Call (.Name x np) (e₀::rest) [] cpos)) none pos) (qS7 C Ex t):=by
 intro pins s σ H D I h
 obtain⟨tl,N,nm,q,bs,hdct,sn,sub,ab,col,dd,k0,k1,k2,k3,k5,mN,hC,hN,hni,T⟩:=
  (qQ6 (X:=I.ok.mod.kin) hm hx).obj
 refine wpAny_Raise_call_subT (bm:=tl) (C:=C) (N:=N) (nm:=nm) (q:=q) (bs:=bs) (hdct:=hdct) (sn:=sn) (sub:=sub) (ab:=ab) (col:=col) (dd:=dd) (k5:=k5) (k0:=k0) (k1:=k1) (k2:=k2) (k3:=k3)
  PySem.F.excBase_ValueError (mN:=mN) (T.hasType PySem.F.excBase_ValueError.hasBase) (I.ok.hd hcm) (by rw [he];show (false || (backTo cpos (starEach rest X.env)).any (·.1))=false;rw [hpl];rfl) hni (qA0 I hg hm ⟨rfl,?_⟩ hdb)
 have z:=ha cpos pins s σ H _ I h
 rw [show (X.wish (XE X Ex)).env=X.env from rfl] at z
 rw [he] at z ⊢
 refine Calls.evalArgs_plain (wpAny_mono z (fun us s2 w=>?_) fun _ _ y=>y)
 obtain⟨vs,H1,I1,r1,hl,ex⟩:=w
 have I1':=I1.unwish
 refine⟨rfl,by rw [← r1.length];exact hl,I1.bk _ _ hC,hN.keeps I1.bk,T.keeps I1.bk,fun h' e hmk=>?_⟩
 obtain⟨tt,q1,q2,q3⟩:=hmk.there
 have I2:Inv X pins σ H1 {s2 with heap:=h'}:=I1'.kept (t':=s2.toks) hmk.keeps
 refine⟨e,(.ref C,none),σ,H1,rfl,I2.pins_of (pins':=[]) fun p hp=>(nomatch hp),⟨⟨?_,?_,fun p hp z=>?_⟩,none,⟨_,_,q1,rfl⟩,fun T e'=>nomatch e'⟩,ex⟩
 · cases w:X.s₀.heap.get? e with
   | none=>rfl
   | some o=>
    obtain⟨o',w'⟩:=I1'.base.there e o w (by rw [hex];intro y;cases y)
    rw [hmk.new] at w';cases w'
 · cases w:H1 e with
   | none=>rfl
   | some u=>
    obtain⟨o',w'⟩:=qQn (I1'.hok e u w)
    rw [hmk.new] at w';cases w'
 · have q':=(I1'.pin p (List.mem_append_left _ hp)).1
   rw [z,hmk.new] at q';cases q'
def pnX (X:Cx)(l:List (Addr × Obj)):Cx:={X with pn:=l}
def hdX (X:Cx)(ea:Addr):Cx:={X with A:=X.A.mark (some (.ref ea)),calm:=false}
section
variable {X : Cx} {pins : List (Addr × Obj)} {σ : L2.St} {H : Hp} {s : Shared}
theorem qTa (I:Inv X pins σ H s):Inv (pnX X (X.pn++pins)) [] σ H s:=by
 obtain⟨a1,a2,a3,a4,a5,a6,a7,a8,a9,a10,a11,a12,a13,a14,a15,a16,a17,a18⟩:=I.ok
 exact⟨⟨a1,a2,a3,a4,a5,a6,a7,a8,a9,a10,a11,a12,a13,a14,a15,a16,a17,a18⟩,I.os,I.bare,I.base,I.loc,I.cell,I.free,I.freeC,fun p hp=>I.pin p (by have z:p∈(X.pn++pins)++[]:=hp;simpa using z),I.hok,I.len⟩
theorem qB6 (I:Inv (pnX X (X.pn++pins)) [] σ H s):Inv X pins σ H s:=by
 obtain⟨a1,a2,a3,a4,a5,a6,a7,a8,a9,a10,a11,a12,a13,a14,a15,a16,a17,a18⟩:=I.ok
 exact⟨⟨a1,a2,a3,a4,a5,a6,a7,a8,a9,a10,a11,a12,a13,a14,a15,a16,a17,a18⟩,I.os,I.bare,I.base,I.loc,I.cell,I.free,I.freeC,fun p hp=>I.pin p (by show p∈(X.pn++pins)++[];simpa using hp),I.hok,I.len⟩
theorem qMn {ea:Addr}(I:Inv X pins σ H s):Inv (hdX X ea) pins σ H s:=by
 obtain⟨a1,a2,a3,a4,a5,a6,a7,a8,a9,a10,a11,a12,a13,a14,a15,a16,a17,a18⟩:=I.ok
 exact⟨⟨a1,a2,a3,a4,a5,a6,a7,a8,fun h=>absurd (show false=true from h) Bool.false_ne_true,a10,a11,a12,a13,a14,a15,a16,a17,a18⟩,I.os,I.bare,I.base,I.loc,I.cell,I.free,I.freeC,I.pin,I.hok,I.len⟩
theorem qGu {ea:Addr}(I:Inv (hdX X ea) pins σ H s)(hd:X.calm=true→X.A.handled=none):Inv X pins σ H s:=by
 obtain⟨a1,a2,a3,a4,a5,a6,a7,a8,a9,a10,a11,a12,a13,a14,a15,a16,a17,a18⟩:=I.ok
 exact⟨⟨a1,a2,a3,a4,a5,a6,a7,a8,hd,a10,a11,a12,a13,a14,a15,a16,a17,a18⟩,I.os,I.bare,I.base,I.loc,I.cell,I.free,I.freeC,I.pin,I.hok,I.len⟩
def qM1 (e:Addr)(C:EC):HO:=.ext fun h=>∃ (vs:Array Value) (sl:Array (Option Value)),h.get? e=some {cls:=C.1,dict:=C.2,data:=.fields vs,slots:=sl}
theorem qIq {a:Addr}{C:EC}{hd:Option Addr}(I:Inv X [] σ H s)(_:X.ex=[])(n:qNv X.s₀.heap H X.pn a)(r:vV s.heap a C hd):Inv X [] σ (upd H a (qM1 a C)) s:=by
 obtain⟨vs,sl,q,_⟩:=r
 have B:=I.base
 have ne:∀ b o,X.s₀.heap.get? b=some o→b≠a:=fun b o w z=>by rw [z,n.1] at w;cases w
 refine⟨I.ok,I.os,I.bare,⟨B.keep,B.slot,fun b o w z hx=>?_,B.there,fun b xs w=>?_,fun b o u w=>?_,fun b ps w=>?_⟩,I.loc,I.cell,?_,fun y c e=>?_,fun p hp=>?_,fun b u w=>?_,I.len⟩
 · rw [qW (ne b o w)];exact B.free b o w z hx
 · have z:=B.tups b xs w
   rw [qW (qU z n.2.1)];exact z
 · have z:=B.frzs b o u w
   rw [qW (qU z n.2.1)];exact z
 · obtain⟨more,z⟩:=B.tbls b ps w
   exact⟨more,by rw [qW (qU z n.2.1)];exact z⟩
 · obtain⟨m,⟨o,es,ep,ho,hd',_⟩,_⟩:=I.loc
   rw [qW (fun z=>by rw [z,q] at ho;cases ho;cases hd')]
   exact I.free
 · obtain⟨v,o,ho,hd'⟩:=I.cell y c e
   rw [qW (fun z=>by rw [z,q] at ho;cases ho;cases hd')]
   exact I.freeC y c e
 · obtain⟨w1,w2,w3⟩:=I.pin p hp
   have hp':p∈X.pn:=by simpa using hp
   rw [qW (n.2.2 p hp')]
   exact⟨w1,w2,w3⟩
 · by_cases hb:b=a
   · subst hb
     rw [qB] at w
     cases w
     refine⟨⟨vs,sl,q⟩,⟨_,q⟩,fun h1 h2 z k=>?_⟩
     obtain⟨vs',sl',z⟩:=z
     exact⟨vs',sl',k _ z⟩
   · rw [qW hb] at w
     exact(I.hok b u w).stay (fun _ _ _ z=>z) (fun c z=>by rw [qW (qU z n.2.1)];exact z) fun c xs z=>by rw [qW (qU z n.2.1)];exact z
theorem wg {M:Model}{A:Around}{E:Value→Shared→Prop}{i:Nat}{n:Str}{pos:Pos}{Q:Unit→Shared→Prop}(I:Inv X pins σ H s)(hN:X.N.Nodup)(hi:X.N[i]? =some n)(hl:X.env.scope.names.lookup n=some .local)
 (h:∀ s',Inv X pins (σ.set i none) H s'→Q () s'):wpAny M A (do bindName X.env n .none;unbindBehindTheSuite X.env n pos) Q E s:=by
 refine wpAny_bind (wpAny_bindName (vf (v:=.non) I hN hi (.inl hl) rfl (fun s1 I1=>?_) (.inr hl)))
 unfold unbindBehindTheSuite
 refine wpAny_onRaise ?_
 have hcls:(X.env.scope.kind == .class || (X.env.scope.kind == .module && X.env.locals != X.env.globals))=false:=by rw [I1.ok.kind];rfl
 have hiσ:i < σ.length:=by rw [I.len];exact(List.getElem?_eq_some_iff.mp hi).1
 obtain⟨m,hn,hlk⟩:=I1.loc
 obtain⟨u,r,lk⟩:=hlk i n .non hi (by rw [List.getElem?_set_self hiσ]) (.inl hl)
 have hm:m n=some u:=by
  rcases lk with ⟨_,z⟩ | ⟨z,_⟩
  · exact z
  · have hl':X.env.kindOf n=some .local:=hl
    rw [hl'] at z
    rcases z with z | z <;> cases z
 obtain⟨oL,es,ep,hoL,hdL,_⟩:=id hn
 refine wpAny_unbindName_local hl hn hm hcls fun h' u' hn' hs=>h _ ?_
 have B:=I1.base
 have neL:∀ b o,X.s₀.heap.get? b=some o→b≠X.env.locals:=fun b o e=>Nat.ne_of_lt (Nat.lt_of_lt_of_le (Heap.lt_size e) I1.ok.above)
 refine⟨I1.ok,I1.os,I1.bare,⟨fun b o e n hb hx=>(hs.2 b (neL b o e)).trans (B.keep b o e n hb hx),fun b o e n hb hx=>?_,B.free,fun b o e hx=>?_,B.tups,B.frzs,B.tbls⟩,⟨_,hn',fun j y v e1 e2 e3=>?_⟩,fun y c e=>?_,I1.free,I1.freeC,fun p hp=>?_,fun b ob e=>?_,?_⟩
 · obtain⟨sl,z⟩:=B.slot b o e n hb hx
   exact⟨sl,(hs.2 b (neL b o e)).trans z⟩
 · obtain⟨o',z⟩:=B.there b o e hx
   exact⟨o',(hs.2 b (neL b o e)).trans z⟩
 · have hj:j≠i:=fun z=>by
    subst z
    rw [List.getElem?_set_self hiσ] at e2
    cases e2
   rw [List.getElem?_set_ne (Ne.symm hj)] at e2
   obtain⟨u2,r2,l2⟩:=hlk j y v e1 (by rw [List.getElem?_set_ne (Ne.symm hj)];exact e2) e3
   refine⟨u2,r2,?_⟩
   rcases l2 with ⟨k,z⟩ | ⟨k,c,ec,z⟩
   · refine .inl ⟨k,?_⟩
     have:y≠n:=fun w=>hj (qFj hN e1 (w ▸ hi))
     simp [this,z]
   · exact .inr ⟨k,c,ec,z.sameBut hs (I1.cne y c ec)⟩
 · obtain⟨w',z⟩:=I1.cell y c e
   exact⟨w',z.sameBut hs (I1.cne y c e)⟩
 · obtain⟨e,n,ne,nf,d⟩:=I1.pin p hp
   exact⟨(hs.2 p.1 ne).trans e,n,ne,nf,d⟩
 · refine(I1.hok b ob e).stay (fun c w' hc q=>(hs.2 c fun z=>?_).trans q) (fun _ q=>q) fun _ _ q=>q
   have fr:=I1.free
   rcases hc with hc | hc
   · rw [← hc,z,fr] at e;cases e
   · rw [z,fr] at hc;cases hc
 · have:=I1.len
   simpa using this
end
def qR9 (D:qLc)(i:Option Nat):qLc:=
 let f:(L2.St→Hp→Prop)→L2.St→Hp→Prop:=fun q σ H=>match i with | some i=>q (σ.set i none) H | none=>q σ H
 {nx:=f D.nx,rt:=D.rt,bk:=f D.bk,ct:=f D.ct}
def qVq (i:Option Nat)(ea:Addr)(σ:L2.St):L2.St:=match i with | some i=>σ.set i (some (.ref ea)) | none=>σ
inductive qHy (X:Cx):Option Str→Option Nat→Prop where
 | none:qHy X none none
 | some {n:Str} {i:Nat} (hi:X.N[i]? =some n) (hl:X.env.scope.names.lookup n=some .local):qHy X (some n) (some i)
end L3
set_option maxRecDepth 100000
namespace L3
open PySem PySem.Spec PySem.Calls PyProof.Rows PySem.W
section
variable {prog : Program} {w : World} {A : Around} {E : Value → Shared → Prop} {K : Frag} {h : Heap} {g : Array GenState} {d : Drawn} {t : Nat} {os : OsState} {a D : Addr} {ox : Obj} {od : Option Obj}
structure qWo (K:Frag)(D:Addr):Prop where
 ga:findIn K (.ref D) "__getattribute__"=some (some (.builtin "BaseException.__getattribute__"))
 gt:findIn K (.ref D) "__getattr__"=some none
 ca:findIn K (.ref D) "__class__"=some (some (.builtin "object.__class__"))
 sg:specialIn K (.builtin "object.__class__") "__get__"=some (some (.builtin "getset_descriptor.__get__"))
 tk:takesIn K (.builtin "object.__class__")=some true
 mo:mroIn K D (.type "object")=some true
 mb:mroIn K D (.type "BaseException")=some true
end
end L3
namespace L3
open PySem PySem.Spec PyProof.Rows L2
end L3
set_option maxRecDepth 100000
namespace L3
open PySem PySem.Spec PySem.Calls PySem.Builtin PySem.Builtin.ObjectAttr PyProof.Rows
def exOver (K:PySem.W.Frag)(C D:Addr):Bool:=(PySem.W.clsIn K C).any fun cd=>cd.mro == .ref C:: .ref D::qRu
section
variable {prog : Program} {w : World} {A : Around} {E : Value → Shared → Prop} {K : PySem.W.Frag} {s : Shared} {x C D : Addr} {vs : Array Value} {sl : Array (Option Value)} {R : Result → Shared → Prop}
open PySem.W in
theorem qNl {ox:Obj}{od:Option Obj}{name:Str}{tk:Tok}{v:Value}(X:K.In s.heap)(I:InstAt s.heap x ox C od)(hp:exOver K C D=true)(ht:takerIn K C name=some none)
 (h:∀ b,wpAny (model prog w) A.in1 (storeInOwnDict (.ref x) (.ref C) (.str name tk) name v b)
   (fun fin s'=>match fin with | .done f=>R (.ok f) s' | .again c'=>c'.quiet=true∧codeAny (model prog w) A c' R s') (fun e s'=>R (.error e) s') s):
 codeAny (model prog w) A (.call (.builtin "object.__setattr__") ⟨[.ref x,.str name tk,v],[]⟩) R s:=by
 have SF:=PySem.F.store_object
 obtain⟨cd,hc,ho⟩:=any_some hp
 have ho:cd.mro= .ref C:: .ref D::qRu:=beq_iff_eq.mp ho
 have sub:Looks (model prog w) s.heap (isInstance (.ref x) (.type "object")) true:=I.type.andThen (looks_mroIn X (by unfold mroIn;rw [hc,Option.bind_some,ho];rfl))
 refine codeAny_call_builtin SF.slot.plain SF.entry (@check_slot (model prog w) _ _ s "object.__setattr__" "object" "__setattr__" (.ref x) [.str name tk,v] [] _ SF.kind SF.split sub (SF.args (.ref x) (.str name tk) v) ?_)
 obtain⟨attr,ha,hr⟩:=Option.bind_eq_some_iff.mp ht
 have hm:Looks (model prog w) s.heap (mroOf (.ref C)) cd.mro:=(looks_clsIn X hc).andThen .now
 have L3:Looks (model prog w) s.heap (storeTaker? attr) none:=by
  cases attr with
  | none=>cases hr;exact .now
  | some a=>
   obtain⟨b,hb,hb2⟩:=Option.map_eq_some_iff.mp hr
   refine(looks_takesIn X hb).andThen ?_
   cases b
   · exact .now
   · cases hb2
 rw [osa_eq,refuse_eq]
 refine wpAny_bind (wpAny_bind (I.type.here (wpAny_bind (hm.here ?_))))
 rw [ho,refuseLoop_ref,refuseLoop_ref]
 rw [show refuseLoop (.ref x) "__setattr__" qRu=pure () from PySem.F.store_ValueError.passes (.ref x)]
 refine wpAny_pure (wpAny_bind (I.type.here (wpAny_bind ((looks_findIn X ha).here (wpAny_bind (L3.here ?_))))))
 exact h _
open PySem.W in
theorem qRa {name:Str}{v:Value}{Q:Unit→Shared→Prop}(X:K.In s.heap)(hx:s.heap.get? x=some {cls:=.ref C,dict:=none,data:=.fields vs,slots:=sl})
 (hs:findIn K (.ref C) "__setattr__"=some (some (.builtin "object.__setattr__"))) (hp:exOver K C D=true) (ht:takerIn K C name=some none) (hh:hasDictIn K C=true)
 (h:∀ h' tk,h'.get? x=some {cls:=.ref C,dict:=some s.heap.objs.size,data:=.fields vs,slots:=sl}→h'.Ns1 s.heap.objs.size (fun y=>if y=name then some v else none)→(∀ b o,b≠x→s.heap.get? b=some o→h'.get? b=some o)→Q () {s with heap:=h',toks:=tk}):
 wpAny (model prog w) A (setAttr (.ref x) name v) Q E s:=by
 have J:InstAt s.heap x {cls:=.ref C,dict:=none,data:=.fields vs,slots:=sl} C none:=⟨hx,rfl,rfl,trivial⟩
 refine PySem.W.set_plain X J hs (qNl (s:={s with toks:=s.toks+1}) X J hp ht fun b=>?_)
 obtain⟨cd,hc,hd'⟩:=PySem.W.any_some hh
 refine wpAny_bind (wpAny_pure (wpAny_bind (wpAny_bind (wpAny_loadPart hx (wpAny_bind (PySem.W.Looks.here (s:={s with toks:=s.toks+1}) (PySem.W.looks_clsIn X hc) ?_))))))
 rw [hd']
 have hx₁:(s.heap.push {cls:=.type "dict",data:=.dict #[]}).get? x=some {cls:=.ref C,dict:=none,data:=.fields vs,slots:=sl}:=Heap.get?_push_of_some _ hx
 have hxs:x≠s.heap.objs.size:=Nat.ne_of_lt (Heap.lt_size hx)
 refine wpAny_bind (wpAny_alloc' ?_)
 refine wpAny_bind (wpAny_update' hx₁ ?_)
 refine wpAny_pure ?_
 have hgd:((s.heap.push {cls:=.type "dict",data:=.dict #[]}).update x fun o=>{o with dict:=some s.heap.objs.size}).get? s.heap.objs.size=some {cls:=.type "dict",data:=.dict #[]}:=
  (Heap.get?_update_ne _ _ _ _ hxs.symm).trans (Heap.get?_push_at rfl rfl)
 have hnd:((s.heap.push {cls:=.type "dict",data:=.dict #[]}).update x fun o=>{o with dict:=some s.heap.objs.size}).Ns s.heap.objs.size (fun _=>none):=
  ⟨_,#[],_,hgd,rfl,fun e he=>absurd he (by simp),fun _=>rfl⟩
 refine wpAny_bind (wpAny_pure (wpAny_bind ?_))
 refine wpAny_nsSet1 (s:={s with heap:=_,toks:=s.toks+1}) (Heap.Ns1.of_empty hnd) fun h' hn' hs2=>?_
 obtain⟨oD,esD,epD,hoD,hdD,hcD⟩:=hn'.count (Within.cons name v Within.nil)
 refine wpAny_bind (wpAny_lookBehind hoD (by rw [hdD];exact pastItsLine_dict (Nat.le_trans hcD (by rw [List.length_cons,List.length_nil,sizeLine_eq];omega))) ?_)
 refine wpAny_pure (h _ _ ?_ hn' ?_)
 · refine(hs2.2 x hxs).trans (Heap.get?_update_self _ hx₁ rfl)
 · intro b o hb ho
   exact(hs2.2 b (Nat.ne_of_lt (Heap.lt_size ho))).trans ((Heap.get?_update_ne _ _ _ _ hb).trans (Heap.get?_push_of_some _ ho))
end
section
variable {prog : Program} {w : World} {A : Around} {E : Value → Shared → Prop} {h : Heap} {g : Array GenState} {d : Drawn} {t : Nat} {os : OsState}
variable {nm q : Str} {C N : Addr} {bs bm bmB : List Value} {hdct : Bool} {sn : List Str} {sub : List Value} {ab : Bool} {col : Option Bool} {dd : Option Addr} {k0 k1 k2 k3 k5 : Option Value} {B newId initId : String}
theorem qC0 (F:ExcBaseFacts B newId initId bmB)(T:OwnTail h bmB bm){mN:Str→Option Value}{rest:List Value}{fI:Addr}{oI:Obj}{Q:PySem.Fin→Shared→Prop}
 (hC:h.get? C=some (excClassObj nm q C N bs bm hdct sn sub ab col dd k0 k1 k2 k3 k5 newId)) (hn:h.Ns N mN) (hi:mN "__init__"=some (.ref fI))
 (hfI:h.get? fI=some oI) (hfc:oI.cls= .type "function")
 (hq:∀ h' e,Heap.MadeExcOf h h' e (.ref C) rest→h'.objs.size=h.objs.size+2→e=h.objs.size+1→
   wpAny (model prog w) A (call (.ref fI) (.ref e::rest)) (fun r s'=>r= .none∧Q (.done (.ret (.ref e))) s') E ⟨h',g,d,t,os⟩) (hrest:rest.length≤sizeLine:=by size_fits):
 wpAny (model prog w) A (Builtin.«type.__call__» ⟨.ref C::rest,[]⟩) Q E ⟨h,g,d,t,os⟩:=by
 repeat (first | with_reducible refine wpAny_loadPart_at hC ?_ | with_reducible refine wpAny_madeBy_exc hC ?_ | wp_step)
 refine codeAny_call_builtin_code (Code.quiet_builtin _ F.quiet) (wpAny_check_new_subT F T hC ?_)
 refine codeAny_exc_new_subT F T hC ?_ hrest
 show wpAny _ _ _ _ _ _
 have hC₁:=Heap.get?_push_of_some {cls:=.ref C,data:=.fields #[.ref h.objs.size,.none,.none,.none,.bool false,.none]}
  (Heap.get?_push_of_some {cls:=.type "tuple",data:=.seq rest.toArray} hC)
 have hfI₁:=Heap.get?_push_of_some {cls:=.ref C,data:=.fields #[.ref h.objs.size,.none,.none,.none,.bool false,.none]}
  (Heap.get?_push_of_some {cls:=.type "tuple",data:=.seq rest.toArray} hfI)
 have hn₁:((h.push {cls:=.type "tuple",data:=.seq rest.toArray}).push {cls:=.ref C,data:=.fields #[.ref h.objs.size,.none,.none,.none,.bool false,.none]}).Ns N mN:=
  let ⟨o,es,ep,e,r⟩:=hn;⟨o,es,ep,Heap.get?_push_of_some _ (Heap.get?_push_of_some _ e),r⟩
 have hget:((h.push {cls:=.type "tuple",data:=.seq rest.toArray}).push
  {cls:=.ref C,data:=.fields #[.ref h.objs.size,.none,.none,.none,.bool false,.none]}).get? (h.objs.size+1)=some
  {cls:=.ref C,data:=.fields #[.ref h.objs.size,.none,.none,.none,.bool false,.none]}:=by heap_get
 have hcC:(Value.ref C::bm).contains (.ref C)=true:=by simp
 have T₁:=T.keeps (h':=(h.push {cls:=.type "tuple",data:=.seq rest.toArray}).push {cls:=.ref C,data:=.fields #[.ref h.objs.size,.none,.none,.none,.bool false,.none]})
  fun b o e=>Heap.get?_push_of_some _ (Heap.get?_push_of_some _ e)
 unfold isInstance
 repeat (first | with_reducible refine wpAny_loadPart_at hget ?_ | (with_reducible refine wpAny_isSubtype_exc hC₁ ?_;rw [hcC]) | wp_step)
 show wpAny _ _ (typeLookup (.ref C) _) _ _ _
 refine wpAny_typeLookup_tail hC₁ hn₁ T₁ F.mroIs F.init.lookup ?_
 rw [hi]
 refine wpAny_holding (wpAny_bind ?_)
 unfold bindSpecial
 refine wpAny_bind (wpAny_typeOf (T:="function") ⟨_,hfI₁,hfc⟩ ?_)
 rw [if_pos (by decide)]
 refine wpAny_pure (wpAny_bind (wpAny_mono (hq _ (h.objs.size+1) ⟨fun b o hb=>Heap.get?_push_of_some _ (Heap.get?_push_of_some _ hb),Heap.get?_none_of_le (Nat.le_succ _),h.objs.size,hget,Heap.get?_none_of_le (Nat.le_refl _),?_⟩ (by simp only [Heap.size_push]) rfl) (fun r s' hr=>?_) fun _ _ x=>x))
 · exact Heap.get?_push_of_some _ (Heap.get?_push_at rfl rfl)
 · obtain⟨rfl,hQ⟩:=hr
   wp_walk
   exact hQ
theorem qLo (F:ExcBaseFacts B newId initId bmB)(T:OwnTail h bmB bm){mN:Str→Option Value}{rest:List Value}{fI:Addr}{oI:Obj}{Q:Value→Shared→Prop}
 (hC:h.get? C=some (excClassObj nm q C N bs bm hdct sn sub ab col dd k0 k1 k2 k3 k5 newId)) (hn:h.Ns N mN) (hi:mN "__init__"=some (.ref fI))
 (hfI:h.get? fI=some oI) (hfc:oI.cls= .type "function")
 (hq:∀ h' e,Heap.MadeExcOf h h' e (.ref C) rest→h'.objs.size=h.objs.size+2→e=h.objs.size+1→
   wpAny (model prog w) (A.under (.builtin "type.__call__" ⟨.ref C::rest,[]⟩)) (call (.ref fI) (.ref e::rest)) (fun r s'=>r= .none∧Q (.ref e) s') E ⟨h',g,d,t,os⟩) (hrest:rest.length≤sizeLine:=by size_fits):
 wpAny (model prog w) A (call (.ref C) rest) Q E ⟨h,g,d,t,os⟩:=by
 have f1:=tc_lookup
 have f2:=tc_bind (.ref C)
 have hT:(⟨h,g,d,t,os⟩:Shared).TypeIs (.ref C) "type":=⟨_,hC,rfl⟩
 refine wpAny_call (codeAny_of_tree ?_)
 show wpAny _ _ (callAny (.ref C) _) _ _ _
 repeat (any_goals (first | assumption | with_reducible refine wpAny_loadPart_at hC ?_ | wp_step))
 refine⟨rfl,?_⟩
 refine codeAny_call_builtin_at (Code.quiet_builtin _ (by decide+kernel)) entry_typeCall (wpAny_check_type_call_sub hC (qC0 (hrest:=hrest) F T hC hn hi hfI hfc fun h' e hm h1 h2=>?_))
 exact hq h' e hm h1 h2
end
section
variable {prog : Program} {w : World} {A : Around} {E : Value → Shared → Prop} {s : Shared} {env : Env}
variable {nm q : Str} {C N : Addr} {bs bm bmB : List Value} {hdct : Bool} {sn : List Str} {sub : List Value} {ab : Bool} {col : Option Bool} {dd : Option Addr} {k0 k1 k2 k3 k5 : Option Value} {B newId initId : String}
theorem qLv {M:Model}{x:Sem Value}{Q:Flow→Shared→Prop}(hbase:bm.contains (.type "BaseException")=true)(hh:A.handled=none)
 (h:wpAny M A x (fun v s₁=>∃ e od vs sl,v= .ref e∧s₁.heap.get? C=some (excClassObj nm q C N bs bm hdct sn sub ab col dd k0 k1 k2 k3 k5 newId)∧
   s₁.heap.get? e=some {cls:=.ref C,dict:=od,data:=.fields vs,slots:=sl}∧vs[1]? =some .none∧E (.ref e) s₁) E s):
 wpAny M A (raiseStmt env (some x) none) Q E s:=by
 have hcB:(Value.ref C::bm).contains (.type "BaseException")=true:=by rw [List.contains_cons,hbase,Bool.or_true]
 unfold raiseStmt
 refine wpAny_bind (wpAny_mono h (fun v s₁ h₁=>?_) fun _ _ x=>x)
 obtain⟨e,od,vs,sl,rfl,hC,he,hv,hE⟩:=h₁
 obtain⟨hp,g,d,tk,os⟩:=s₁
 repeat (first | with_reducible refine wpAny_loadPart_at he ?_ | with_reducible refine wpAny_loadPart_at hC ?_ | (with_reducible refine wpAny_isSubtype_exc hC ?_;rw [hcB]) | wp_step)
 rw [hv]
 refine wpAny_pure ?_
 rw [if_neg (by decide)]
 refine wpAny_pure ?_
 exact wpAny_raiseNew_none hh hE
theorem qJ8 (F:ExcBaseFacts B newId initId bmB){mN:Str→Option Value}{x:Str}{np cpos pos:Pos}{args:List Expr}{fI:Addr}{oI:Obj}{Q:Flow→Shared→Prop}
 (hbase:bm.contains (.type "BaseException")=true) (hh:A.handled=none) (hplain:(backTo cpos (starEach args env)).any (·.1)=false) (hi:mN "__init__"=some (.ref fI)) (hfc:oI.cls= .type "function")
 (h:wpAny (model prog w) A (eval (.Name x np) env) (fun f s₁=>f= .ref C∧wpAny (model prog w) A (evalArgs (.ref C) true (backTo cpos (starEach args env)) [])
   (fun a s₂=>a.kw=[]∧a.pos.length≤sizeLine∧s₂.heap.get? C=some (excClassObj nm q C N bs bm hdct sn sub ab col dd k0 k1 k2 k3 k5 newId)∧s₂.heap.Ns N mN∧OwnTail s₂.heap bmB bm∧s₂.heap.get? fI=some oI∧
     ∀ h' e,Heap.MadeExcOf s₂.heap h' e (.ref C) a.pos→h'.objs.size=s₂.heap.objs.size+2→e=s₂.heap.objs.size+1→
      wpAny (model prog w) (A.under (.builtin "type.__call__" ⟨.ref C::a.pos,[]⟩)) (call (.ref fI) (.ref e::a.pos))
       (fun r s'=>r= .none∧s'.heap.get? C=some (excClassObj nm q C N bs bm hdct sn sub ab col dd k0 k1 k2 k3 k5 newId)∧(∃ od vs sl,s'.heap.get? e=some {cls:=.ref C,dict:=od,data:=.fields vs,slots:=sl}∧vs[1]? =some .none)∧E (.ref e) s') E {s₂ with heap:=h'}) E s₁) E s):
 wpAny (model prog w) A (exec (.Raise (some (.Call (.Name x np) args [] cpos)) none pos) env) Q E s:=by
 rw [arm_exec_Raise]
 refine wpAny_bind (wpAny_standAt (qLv (C:=C) (nm:=nm) (q:=q) (N:=N) (bs:=bs) (bm:=bm) (hdct:=hdct) (sn:=sn) (sub:=sub) (ab:=ab) (col:=col) (dd:=dd) (k0:=k0) (k1:=k1) (k2:=k2) (k3:=k3) (k5:=k5) (newId:=newId) hbase hh (wpAny_bind (wpAny_mono (wpAny_Call_ofName (wpAny_mono h (fun f s₁ h₁=>?_) fun _ _ x=>x)) (fun v s₃ h₃=>wpAny_bind (wpAny_standAt (wpAny_pure h₃))) fun _ _ x=>x))))
 obtain⟨rfl,h₁⟩:=h₁
 unfold callWith
 refine wpAny_bind (wpAny_holding (wpAny_mono h₁ (fun a s₂ h₂=>wpAny_bind (wpAny_standAt ?_)) fun _ _ x=>x))
 obtain⟨apos,akw⟩:=a
 obtain⟨hkw,hlen,hC,hn,T,hfI,h₂⟩:=h₂
 obtain rfl:akw=[]:=hkw
 obtain⟨hp,g,d,tk,os⟩:=s₂
 simp only [hplain]
 refine wpAny_bind (wpAny_keeperOf_exc hC ?_)
 refine wpAny_bind (qLo (hrest:=hlen) F T hC hn hi hfI hfc fun h' e hm h1 h2=>wpAny_mono (h₂ h' e hm h1 h2) (fun r s' z=>⟨z.1,?_⟩) fun _ _ x=>x)
 obtain⟨_,hC',⟨od,vs,sl,he,hv⟩,hE⟩:=z
 refine wpAny_bind (wpAny_holding (wpAny_point (wpAny_pure ?_)))
 exact⟨e,od,vs,sl,rfl,hC',he,hv,hE⟩
end
end L3
namespace L3
open PySem PySem.Spec PyProof.Rows L2
def qCi (e:Addr)(C:Value):HO:=.ext fun h=>∃ (vs:Array Value) (sl:Array (Option Value)),h.get? e=some {cls:=C,dict:=none,data:=.fields vs,slots:=sl}∧vs[1]? =some .none
def qDv (e:Addr)(C:EC):HO:=.ext fun h=>vV h e C none
def excInitIn (K:PySem.W.Frag)(C f:Addr):Bool:=match K.lookup C with
 | some ⟨.type "type",_,.cls cd,sl⟩=>(match cd.mro,sl.toList with
  | .ref C'::bm,[_,_,_,_,some (.builtin n),_]=>C' == C && n == "ValueError.__new__" && !cd.hasDel && PySem.W.tailIn K qRu bm && PySem.W.nsOkIn K cd.ns && PySem.W.nsIn K cd.ns "__init__" == some (some (.ref f))
  | _,_=>false)
 | _=>false
structure XMk (K:PySem.W.Frag)(C D f:Addr):Prop where
 ov:exOver K C D=true
 hd:PySem.W.hasDictIn K C=true
 sa:PySem.W.findIn K (.ref C) "__setattr__"=some (some (.builtin "object.__setattr__"))
 ex:excInitIn K C f=true
 fn:PySem.W.isFn K (.ref f)=true
theorem qLs {K:PySem.W.Frag}{h:Heap}{N:Addr}{mg:Str→Option Value}{n:Str}{v:Value}(X:K.In h)(G:h.Ns N mg)(e:PySem.W.nsIn K N n=some (some v)):mg n=some v:=by
 obtain⟨o,es,ep,ho,hd,_,hf⟩:=G
 unfold PySem.W.nsIn at e
 split at e
 · rename_i c d es' n' sl q
   have:=X _ _ q
   rw [ho] at this
   cases this
   cases hd
   split at e
   · rename_i en he
     cases e
     rw [← hf]
     unfold nsFind findBy
     rw [← Array.find?_toList,he]
     rfl
   · split at e <;> cases e
 · cases e
theorem qPd {K:PySem.W.Frag}{h:Heap}{C f:Addr}(X:K.In h)(q:excInitIn K C f=true):
 ∃ bm N nm qn bs hdct sn sub ab col dd k0 k1 k2 k3 k5 mN,h.get? C=some (excClassObj nm qn C N bs bm hdct sn sub ab col dd k0 k1 k2 k3 k5 "ValueError.__new__")∧h.Ns N mN∧mN "__init__"=some (.ref f)∧OwnTail h qRu bm:=by
 unfold excInitIn at q
 split at q
 · rename_i dd cd sl ho
   split at q
   · rename_i C' bm k0 k1 k2 k3 n k5 hm hs
     simp only [Bool.and_eq_true,beq_iff_eq,Bool.not_eq_true'] at q
     obtain⟨⟨⟨⟨⟨eC,en⟩,del⟩,ht⟩,ok⟩,ni⟩:=q
     subst eC en
     obtain⟨nm,bs,mro,ns,qn,hd,sn,sub,ab,col,dl⟩:=cd
     dsimp only at hm del ok ni
     subst hm del
     have hsl:sl=#[k0,k1,k2,k3,some (.builtin "ValueError.__new__"),k5]:=by
      obtain⟨l⟩:=sl
      simp only at hs
      rw [hs]
     subst hsl
     have N1:h.Ns ns (h.nsMap ns):=.of_isNs (PySem.W.isNs_of_in X ok)
     refine⟨bm,ns,nm,qn,bs,hd,sn,sub,ab,col,dd,k0,k1,k2,k3,k5,_,X _ _ ho,N1,qLs X N1 ni,PySem.W.tail_of_in X ht⟩
   · cases q
 · cases q
section
variable {X : Cx} {pins : List (Addr × Obj)} {σ : L2.St} {H : Hp} {s : Shared}
theorem qPu {e:Addr}{φ:Heap→Prop}(I:Inv X pins σ (upd H e (.ext φ)) s)(h0:H e=none)(hs:X.s₀.heap.get? e=none):Inv X pins σ H s:=by
 have B:=I.base
 have nn:∀ b u,upd H e (.ext φ) b=some u→(∀ ψ,u≠ .ext ψ)→H b=some u:=fun b u z n=>by
  by_cases hb:b=e
  · subst hb
    rw [qB] at z
    cases z
    exact absurd rfl (n φ)
  · rwa [qW hb] at z
 have n0:∀ b,upd H e (.ext φ) b=none→H b=none:=fun b z=>by
  by_cases hb:b=e
  · rw [hb,qB] at z;cases z
  · rwa [qW hb] at z
 refine⟨I.ok,I.os,I.bare,⟨B.keep,B.slot,fun b o w z hx=>n0 _ (B.free b o w z hx),B.there,fun b xs w=>nn _ _ (B.tups b xs w) (fun _ z=>nomatch z),fun b o u w=>nn _ _ (B.frzs b o u w) (fun _ z=>nomatch z),fun b ps w=>?_⟩,I.loc,I.cell,n0 _ I.free,fun y c z=>n0 _ (I.freeC y c z),fun p hp=>?_,fun b u w=>?_,I.len⟩
 · obtain⟨more,z⟩:=B.tbls b ps w
   exact⟨more,nn _ _ z (fun _ z=>nomatch z)⟩
 · obtain⟨w1,w2,w3⟩:=I.pin p hp
   exact⟨w1,n0 _ w2,w3⟩
 · have hb:b≠e:=fun z=>by rw [z,h0] at w;cases w
   refine(I.hok b u (by rw [qW hb];exact w)).stay (fun _ _ _ z=>z) (fun c z=>nn _ _ z (fun _ z=>nomatch z)) fun c xs z=>nn _ _ z (fun _ z=>nomatch z)
end
theorem qMa {X:Cx}{pins:List (Addr × Obj)}{σ:L2.St}{H:Hp}{s:Shared}{dx:Addr}{fs:List (Str × V)}(I:Inv X pins σ H s)(h0:H dx=none)(hs0:X.s₀.heap.get? dx=none)(hp:∀ p∈X.pn++pins,p.1≠dx)
 (hl:dx≠X.env.locals) (hc:∀ y c,X.env.cells.lookup y=some c→c≠dx) (ok:∃ mA,s.heap.Ns1 dx mA∧∀ f,RelO (fs.lookup f) (mA f)):Inv X pins σ (upd H dx (.xd fs)) s:=by
 have B:=I.base
 have ne:∀ b o,X.s₀.heap.get? b=some o→b≠dx:=fun b o w z=>by rw [z,hs0] at w;cases w
 refine⟨I.ok,I.os,I.bare,⟨B.keep,B.slot,fun b o w z hx=>?_,B.there,fun b xs w=>?_,fun b o u w=>?_,fun b ps w=>?_⟩,I.loc,I.cell,?_,fun y c e=>?_,fun p hp'=>?_,fun b u w=>?_,I.len⟩
 · rw [qW (ne b o w)];exact B.free b o w z hx
 · have z:=B.tups b xs w
   rw [qW (qU z h0)];exact z
 · have z:=B.frzs b o u w
   rw [qW (qU z h0)];exact z
 · obtain⟨more,z⟩:=B.tbls b ps w
   exact⟨more,by rw [qW (qU z h0)];exact z⟩
 · rw [qW (Ne.symm hl)];exact I.free
 · rw [qW (hc y c e)];exact I.freeC y c e
 · obtain⟨w1,w2,w3⟩:=I.pin p hp'
   rw [qW (hp p hp')]
   exact⟨w1,w2,w3⟩
 · by_cases hb:b=dx
   · subst hb
     rw [qB] at w
     cases w
     exact ok
   · rw [qW hb] at w
     exact(I.hok b u w).stay (fun _ _ _ z=>z) (fun c z=>by rw [qW (qU z h0)];exact z) fun c xs z=>by rw [qW (qU z h0)];exact z
def qUd (K:PySem.W.Frag)(ta tv:TE)(f:Str):TS:=fun D σ H=>tv σ H fun y H1=>ta σ H1 fun x H2=>∃ a C B,x= .ref a∧H2 a=some (qCi a (.ref C))∧exOver K C B=true∧PySem.W.hasDictIn K C=true∧
 PySem.W.findIn K (.ref C) "__setattr__"=some (some (.builtin "object.__setattr__"))∧PySem.W.takerIn K C f=some none∧∀ dx,H2 dx=none→D.nx σ (upd (upd H2 a (qDv a (.ref C,some dx))) dx (.xd [(f,y)]))
theorem qRe {X:Cx}{o value:Expr}{f:Str}{pos pos':Pos}{ta tv:TE}(ha:PE X o ta)(hv:PE X value tv)(hs:swapsWith value (some (.Attribute o f pos')) pos.line X.env=pure false:=by rfl):
 PS X (.Assign [.Attribute o f pos'] value pos) (qUd X.K ta tv f):=by
 intro pins s σ H D I h
 refine plainObj_wpAny_Assign_Attribute (thn (hv pins s σ H _ I h) fun u s1 ⟨y,H1,I1,ry,q⟩=>thn (ha pins s1 σ H1 _ I1 q) fun ov s2 ⟨x,H2,I2,rx,a,C,B,ex,ea,o1,o2,o3,o4,q2⟩=>?_) hs
 subst ex
 obtain rfl:ov=Value.ref a:=rx
 obtain⟨⟨vs,sl,he,hv1⟩,_,_⟩:=I2.hok a _ ea
 have hf:H2 s2.heap.objs.size=none:=I2.hok.fresh (Nat.le_refl _)
 refine qRa I2.kIn he o3 o1 o4 o2 fun h' tk he' hn k=>⟨σ,_,?_,q2 _ hf⟩
 have I3:Inv X pins σ (upd H2 a (qDv a (.ref C,some s2.heap.objs.size))) {s2 with heap:=h',toks:=tk}:=by
  refine I2.write (x:=a) (e:=a) (by rw [ea];exact True.intro) (.inl rfl) k ⟨_,he'⟩ ?_
  refine⟨⟨vs,sl,he',hv1⟩,⟨_,he'⟩,fun h1 h2 z k=>?_⟩
  obtain⟨vs',sl',z,z2⟩:=z
  exact⟨vs',sl',k _ z,z2⟩
 have na:s2.heap.objs.size≠a:=fun z=>by rw [z,ea] at hf;cases hf
 refine qMa I3 (by rw [qW na];exact hf) ?_ (fun p hp=>Nat.ne_of_lt (Heap.lt_size (I2.pin p hp).1)) (Nat.ne_of_gt I2.lt) (fun y c e=>?_) ⟨_,hn,fun g=>?_⟩
 · cases w:X.s₀.heap.get? s2.heap.objs.size with
   | none=>rfl
   | some o=>exact absurd (Nat.lt_of_lt_of_le (Heap.lt_size w) I2.sz) (Nat.lt_irrefl _)
 · obtain⟨v,o,ho,_⟩:=I2.cell y c e
   exact Nat.ne_of_lt (Heap.lt_size ho)
 · by_cases hg:g=f
   · subst hg
     simp [List.lookup]
     exact ry
   · have e1:([(f,y)]:List (Str × V)).lookup g=none:=by
      rw [List.lookup_cons]
      have:(g == f)=false:=beq_eq_false_iff_ne.mpr hg
      rw [this]
      rfl
     rw [e1,if_neg hg]
     trivial
inductive qJc (C:Addr)(f:Str)(vs:List V)(H:Hp)(Q:VK)(_:XK):Prop
| mk (e:Addr) (v:V) (_:vs=[.ref e,v]) (_:H e=some (qCi e (.ref C))) (_:∀ dx,H dx=none→Q .non (upd (upd H e (qDv e (.ref C,some dx))) dx (.xd [(f,v)])))
def qRn (C:Addr)(fn:Str)(Ex:Value→Option Addr→Hp→Prop)(t:TA):TS:=fun _ σ H=>t σ H fun vs H1=>∃ v,vs=[v]∧∀ dx,H1 dx=none→Ex (.ref C) (some dx) (upd H1 dx (.xd [(fn,v)]))
theorem qMt {X:Cx}{Ex:Value→Option Addr→Hp→Prop}{fn:Str}{k:Nat}{x:Str}{C B f:Addr}{fd:FuncData}{ps:List Str}{np cpos pos:Pos}{e₀:Expr}{rest:List Expr}{t:TA}(M:XMk X.K C B f)
 (F:FnOk X.prog X.w X.K X.mg X.base CX0 k f fd ps (qJc C fn)) (hb:Binds X.K fd ps []) (hr:Room (k+1) X.A) (hcm:X.calm=true) (hg:Gl X x) (hm:X.mg x=some (.ref C)) (ha:PA (X.wish (XE X Ex)) (e₀::rest) t)
 (he:starEach (e₀::rest) X.env=(false,eval e₀ X.env)::starEach rest X.env:=by rfl) (hpl:(backTo cpos (starEach rest X.env)).any (·.1)=false:=by rfl) (hex:X.ex=[]:=by rfl) (hdb:(x == ("__debug__":Str))=false:=by decide):
 PS (X.wish (XE X Ex)) (.Raise (some (.Call (.Name x np) (e₀::rest) [] cpos)) none pos) (qRn C fn Ex t):=by
 intro pins s σ H D I h
 obtain⟨tl,N,nm,q,bs,hdct,sn,sub,ab,col,dd,k0,k1,k2,k3,k5,mN,hC,hN,hni,T⟩:=qPd (K:=X.K) I.ok.mod.kin M.ex
 have hfn:PySem.W.typeIn X.K (.ref f)=some (.type "function"):=beq_iff_eq.mp M.fn
 have hfo:∃ oI:Obj,X.base.get? f=some oI∧oI.cls= .type "function":=by
  replace hfn:(X.K.lookup f).map (·.cls)=some (.type "function"):=hfn
  cases hl:X.K.lookup f with
  | none=>rw [hl] at hfn;cases hfn
  | some o=>
   rw [hl] at hfn
   exact⟨o,I.ok.mod.kin _ _ hl,by simpa using hfn⟩
 obtain⟨oI,hfI,hfc⟩:=hfo
 refine qJ8 (bm:=tl) (C:=C) (N:=N) (nm:=nm) (q:=q) (bs:=bs) (hdct:=hdct) (sn:=sn) (sub:=sub) (ab:=ab) (col:=col) (dd:=dd) (k5:=k5) (k0:=k0) (k1:=k1) (k2:=k2) (k3:=k3)
  PySem.F.excBase_ValueError (mN:=mN) (fI:=f) (oI:=oI) (T.hasType PySem.F.excBase_ValueError.hasBase) (I.ok.hd hcm) (by rw [he];show (false || (backTo cpos (starEach rest X.env)).any (·.1))=false;rw [hpl];rfl) hni hfc (qA0 I hg hm ⟨rfl,?_⟩ hdb)
 have z:=ha cpos pins s σ H _ I h
 rw [show (X.wish (XE X Ex)).env=X.env from rfl] at z
 rw [he] at z ⊢
 refine Calls.evalArgs_plain (wpAny_mono z (fun us s2 w=>?_) fun _ _ y=>y)
 obtain⟨vs,H1,I1,r1,v,rfl,ex⟩:=w
 have I1':=I1.unwish
 have hl1:us.length=1:=r1.length.symm
 refine⟨rfl,by rw [hl1,sizeLine_eq];decide,I1.bk _ _ hC,hN.keeps I1.bk,T.keeps I1.bk,I1.bk _ _ hfI,fun h' e hmk hsz hes=>?_⟩
 obtain⟨tt,q1,q2,q3⟩:=hmk.there
 have hle:s2.heap.objs.size≤e:=by rw [hes];exact Nat.le_succ _
 have e0:H1 e=none:=I1'.hok.fresh hle
 have I2:Inv X pins σ (upd H1 e (qCi e (.ref C))) {s2 with heap:=h'}:=I1'.laid (t':=s2.toks) hmk.keeps hle ⟨⟨_,_,q1,rfl⟩,⟨_,q1⟩,fun h1 h2 z k=>by
  obtain⟨vs',sl',z,z2⟩:=z
  exact⟨vs',sl',k _ z,z2⟩⟩
 have r2:Vals [V.ref e,v] (Value.ref e::us):=.cons rfl r1
 have hsp:qJc C fn [V.ref e,v] (upd H1 e (qCi e (.ref C))) (fun u H2=>u= .non∧∃ dx,H1 dx=none∧dx≠e∧H2=upd (upd H1 dx (.xd [(fn,v)])) e (qDv e (.ref C,some dx))) E0:=⟨e,v,rfl,qB,fun dx hdx=>⟨rfl,dx,?_⟩⟩
 rotate_left
 · have hne:dx≠e:=fun z=>by rw [z,qB] at hdx;cases hdx
   refine⟨by rwa [qW hne] at hdx,hne,?_⟩
   funext b
   by_cases hb:b=e
   · subst hb
     rw [qB,qW (Ne.symm hne),qB]
   · rw [qW hb (o:=qDv e (.ref C,some dx)) (H:=upd H1 dx (.xd [(fn,v)]))]
     by_cases hb2:b=dx
     · subst hb2
       rw [qB,qB]
     · rw [qW hb2,qW hb,qW hb,qW hb2]
 have hl:((Value.ref e::us)++[]).length=ps.length:=by
  have:=F.len _ _ _ _ hsp
  rw [List.append_nil,List.length_cons,hl1]
  simpa using this
 have hbb:=hb _ (Value.ref e::us) I2.kIn hl
 rw [List.append_nil] at hbb
 refine wpAny_call (codeAny_mono (F.run _ X.stack _ _ ⟨Value.ref e::us,[]⟩ (Value.ref e::us) _ _ E0 (hr.make C us []) (I2.env0.make C us []) hbb r2 hsp) fun r s' hq'=>?_)
 cases r with
 | error e=>exact False.elim hq'
 | ok fl=>
  cases fl with
  | ret u=>
   obtain⟨v',H',I3,rv,ev,dx,hdx,hne,rfl⟩:=I2.after hq'
   subst ev
   cases rv
   obtain⟨⟨vs',sl',g1,g2⟩,_,_⟩:=I3.hok e _ qB
   have e0':(upd H1 dx (.xd [(fn,v)])) e=none:=by rw [qW (Ne.symm hne)];exact e0
   have hs0:X.s₀.heap.get? e=none:=by
    cases w:X.s₀.heap.get? e with
    | none=>rfl
    | some o=>
     obtain⟨o',w'⟩:=I1'.base.there e o w (by rw [hex];intro y;cases y)
     rw [hmk.new] at w';cases w'
   refine⟨rfl,I3.bk _ _ hC,⟨some dx,vs',sl',g1,g2⟩,e,(.ref C,some dx),σ,upd H1 dx (.xd [(fn,v)]),rfl,(qPu I3 e0' hs0).pins_of (pins':=[]) fun p hp=>(nomatch hp),⟨⟨hs0,e0',fun p hp z=>?_⟩,none,⟨vs',sl',g1,g2⟩,fun T e'=>nomatch e'⟩,ex dx hdx⟩
   have q':=(I1'.pin p (List.mem_append_left _ hp)).1
   rw [z,hmk.new] at q';cases q'
  | next=>exact False.elim hq'
  | brk=>exact False.elim hq'
  | cont=>exact False.elim hq'
end L3
set_option maxRecDepth 100000
namespace L3
open PySem PySem.Spec PySem.Calls PyProof.Rows PySem.W
section
variable {prog : Program} {w : World} {A : Around} {E : Value → Shared → Prop} {K : Frag} {h : Heap} {g : Array GenState} {d : Drawn} {t : Nat} {os : OsState} {a D : Addr} {ox o : Obj} {name : Str} {v : Value}
end
end L3
namespace L3
open PySem PySem.Spec PyProof.Rows L2
inductive tXgetI (K:PySem.W.Frag)(f:Str)(Q:VK)(x:V)(H1:Hp):Prop
| mk a D dx fs i (_:x= .ref a) (_:H1 a=some (qM1 a (.ref D,some dx))) (_:H1 dx=some (.xd fs)) (_:fs.lookup f=some (.int i)) (_:qWo K D) (_:PySem.W.hasDictIn K D=true) (_:PySem.W.findIn K (.ref D) f=some none) (_:Q (.int i) H1)
end L3
set_option maxRecDepth 100000
namespace L3
open PySem PySem.Spec PyProof.Rows L2
inductive PHs (X:Cx):List ExceptHandler→List (Addr × Option Nat × TS)→Prop where
 | nil:PHs X [] []
 | cons {x:Str} {np hpos:Pos} {nm:Option Str} {i:Option Nat} {b₀:Stmt} {suite:List Stmt} {C:Addr} {ts:TS} {hs:List ExceptHandler} {cs:List (Addr × Option Nat × TS)} (hcl:qHy X nm i) (hg:Gl X x) (hm:X.mg x=some (.ref C))
  (h:∀ l ea,PSs (hdX (pnX X l) ea).nox (b₀::suite) ts) (r:PHs X hs cs) (hdb:(x == ("__debug__":Str))=false:=by decide):PHs X (.ExceptHandler (some (.Name x np)) nm (b₀::suite) hpos::hs) ((C,i,ts)::cs)
section
variable {X : Cx}
theorem qQc {bs:List Bool}{its:List Value}{P:Program}{w:World}{A:Around}(r:Vals (bs.map V.bl) its):TruthOf P w A (fun i v=>its.toArray[i]? =some v) (fun i=>(bs[i]?).getD false):=by
 intro i v s Q E hv hq
 have hv':its[i]? =some v:=by simpa using hv
 have hl:=r.length
 have hi:i < bs.length:=by
  have:=(List.getElem?_eq_some_iff.mp hv').1
  rw [List.length_map] at hl
  omega
 obtain⟨u,e1,q1⟩:=r.get (i:=i) (x:=.bl bs[i]) (by rw [List.getElem?_map,List.getElem?_eq_getElem hi];rfl)
 rw [hv'] at e1
 cases e1
 cases q1
 have e:(bs[i]?).getD false=bs[i]:=by rw [List.getElem?_eq_getElem hi];rfl
 have hq':Q ((bs[i]?).getD false) s:=hq
 rw [e] at hq'
 exact wpAny_truthy_bool hq'
theorem qN0 (bs:List Bool):(List.range bs.length).all (fun i=>(bs[i]?).getD false)=bs.all id:=by
 rw [Bool.eq_iff_iff,List.all_eq_true,List.all_eq_true]
 constructor
 · intro h x hx
   obtain⟨i,hi,e⟩:=List.mem_iff_getElem.mp hx
   have:=h i (by simpa using hi)
   rw [List.getElem?_eq_getElem hi,e] at this
   exact this
 · intro h i hi
   have hi:i < bs.length:=by simpa using hi
   rw [List.getElem?_eq_getElem hi]
   exact h _ (List.getElem_mem hi)
theorem qOo (hc:X.calm=true):qA1 X (.builtin "all") (fun xs H Q=>∃ (p:Addr) (bs:List Bool),xs=[.ref p]∧SqL X.K H p (bs.map V.bl)∧Q (.bl (bs.all id)) H):=by
 intro pins s σ H xs us Q I r h
 obtain⟨p,bs,rfl,hq,q⟩:=h
 obtain⟨u,rfl,rx⟩:=qG5 r
 cases rx
 obtain⟨its,rv,pl,hz⟩:=I.list hq
 have hp:p≠s.heap.objs.size:=by
  obtain⟨o,n,e,_⟩:=pl
  exact Nat.ne_of_lt (Heap.lt_size e)
 have hh:X.A.in1.handled=none:=I.ok.hd hc
 have hl:its.toArray.size=bs.length:=by rw [List.size_toArray,← rv.length,List.length_map]
 refine call_all_walk (wpAny_pyIter_list pl.isList ?_)
 refine⟨s.heap.objs.size,_,_,_,_,_,_,rfl,Walks.list hh _ p hp its.toArray,⟨⟨_,Heap.get?_push_size _ rfl,rfl,rfl⟩,pl.isList.at fun o e=>Heap.get?_push_of_some _ e⟩,qQc rv,fun h' tk hk=>?_⟩
 rw [hl,qN0]
 refine⟨.bl _,H,I.kept fun b o e=>hk b o (fun z=>?_) (Heap.get?_push_of_some _ e),rfl,q⟩
 have z':b=s.heap.objs.size:=by simpa using z
 exact absurd (Heap.lt_size e) (by rw [z'];exact Nat.lt_irrefl _)
theorem qTd:OpR X (compareOp .In) (fun x y H Q=>∃ (a b:Str),x= .str a∧y= .str b∧Q (.bl (!(Builtin.Str.occurrences b a 0 b.length 1).isEmpty)) H):=by
 intro pins s σ H x y v u Q I rx ry h
 obtain⟨a,b,rfl,rfl,q⟩:=h
 obtain⟨t,rfl⟩:=rx
 obtain⟨t',rfl⟩:=ry
 exact P.in_str ⟨.bl _,H,I,rfl,q⟩
def Its (z:Str):It:=⟨fun i _=>i < z.cps.size,fun i H x H'=>H'=H∧∃ c,z.cps[i]? =some c∧x= .str ⟨#[c]⟩,fun i _=>z.cps.size≤i⟩
theorem qNj {P:Program}{w:World}{K:PySem.W.Frag}{tg:Expr}(it:Addr)(z:Str)(t:Tok)(ty:String)(hty:ty="str_ascii_iterator"∨ty="str_iterator"):
 qSm P w K tg (Its z) [it] it (fun i h=>h.IsStrIter it ty z t i∧i≤z.cps.size) where
 mem:=by simp
 obj:=fun i h st b hb=>by
  have e:b=it:=by simpa using hb
  subst e
  obtain⟨⟨o,e,c,d⟩,_⟩:=st
  exact⟨o,e,fun v z=>by rw [d] at z;cases z⟩
 keep:=fun i h h' st k=>⟨let ⟨o,ho,r⟩:=st.1;⟨o,k it (by simp) o ho,r⟩,st.2⟩
 item:=by
  intro X hP hw hK hc i pins s σ H E I hf st hg
  subst hP hw hK
  have hi:i < z.cps.size:=hg
  have hx:z.cps[i]? =some z.cps[i]:=by simp [hi]
  obtain⟨f0,f1,f2,f3,f4,f5⟩:=hf it (by simp)
  have fin:∀ h',h'.IsStrIter it ty z t (i+1)→Heap.SameBut it s.heap h'→∃ u,some (Value.str ⟨#[z.cps[i]]⟩ s.toks)=some u∧wpAny (model X.prog X.w) X.A (letOwnedTupleGo tg (.ref it) u) (fun _ s2=>∃ x H',Inv X pins σ H' s2∧RelV x u∧(Its z).yld i H x H'∧(s2.heap.IsStrIter it ty z t (i+1)∧i+1≤z.cps.size)∧∀ b∈[it],H' b=none) E {s with heap:=h',toks:=s.toks+1}:=fun h' st' sb=>by
   have I1:Inv X pins σ H {s with heap:=h',toks:=s.toks+1}:=I.turned (t':=s.toks+1) (fun b o hb e=>(sb.2 b hb).trans e) f0 f1 f3 f4 f5
   obtain⟨o,e,c,d⟩:=id st'
   refine⟨_,rfl,qSb (s:={s with heap:=h',toks:=s.toks+1}) e c d (by rcases hty with rfl | rfl <;> decide) ⟨.str ⟨#[z.cps[i]]⟩,H,I1,⟨_,rfl⟩,⟨rfl,_,hx,rfl⟩,⟨st',hi⟩,fun b hb=>(hf b hb).1⟩⟩
  rcases hty with rfl | rfl
  · exact wpAny_pyNext_ascii_item st.1 hx fin
  · exact wpAny_pyNext_wide_item st.1 hx fin
 done:=by
  intro X hP hw hK hc i pins s σ H E I hf st hg
  subst hP hw hK
  have hi:z.cps.size≤i:=hg
  have hx:z.cps[i]? =none:=by simp [hi]
  obtain⟨f0,f1,f2,f3,f4,f5⟩:=hf it (by simp)
  rcases hty with rfl | rfl
  · exact wpAny_pyNext_ascii_end (I.ok.hd hc) st.1 hx fun h' eb=>⟨rfl,I.turned (t':=s.toks) (fun b o hb e=>eb b o hb e) f0 f1 f3 f4 f5⟩
  · exact wpAny_pyNext_wide_end (I.ok.hd hc) st.1 hx fun h' eb=>⟨rfl,I.turned (t':=s.toks) (fun b o hb e=>eb b o hb e) f0 f1 f3 f4 f5⟩
 self:=fun _ _ _ _ _ st h=>by
  rcases hty with rfl | rfl
  · exact wpAny_pyIter_striter_ascii st.1 h
  · exact wpAny_pyIter_striter_wide st.1 h
def qWn (tl:TE):TI:=fun σ H R=>tl σ H fun x H1=>∃ z,x= .str z∧R (Its z) H1
theorem qS8 {tg l:Expr}{tl:TE}(hl:PE X l tl):PI X tg l (qWn tl):=by
 intro pins s σ H R I h
 refine thn (hl pins s σ H _ I h) fun v s1 ⟨x,H1,I1,r1,q1⟩=>?_
 obtain⟨z,e,q⟩:=q1
 subst e
 obtain⟨t,rfl⟩:=r1
 have key:∀ ty:String,(ty="str_ascii_iterator"∨ty="str_iterator")→PIE X pins σ tg R (.ref s1.heap.objs.size) {s1 with heap:=s1.heap.push {cls:=.type ty,data:=.fields #[.str z t,.int 0 0]}}:=fun ty hty=>by
  refine⟨s1.heap.objs.size,[s1.heap.objs.size],_,_,H1,rfl,I1.kept (t':=s1.toks) fun b o e=>Heap.get?_push_of_some _ e,qNj _ z t ty hty,⟨⟨_,Heap.get?_push_size _ rfl,rfl,rfl⟩,Nat.zero_le _⟩,fun b hb=>?_,q⟩
  have e:b=s1.heap.objs.size:=by simpa using hb
  subst e
  exact I1.fpOk (Nat.le_refl _) (I1.hok.fresh (Nat.le_refl _))
 cases ha:z.cps.all (· < 128)
 · exact wpAny_pyIter_wide ha (key _ (.inr rfl))
 · exact wpAny_pyIter_ascii ha (key _ (.inl rfl))
theorem qPg {z:Str}{js:List Nat}{te:TE}{σ:L2.St}{H:Hp}{Q:VK}(Pv:Nat→List V→Hp→Prop)(h0:Pv 0 [] H)(hl:∀ i acc H,i≤z.cps.size→Pv i acc H→acc.length < sizeLine)
 (hs:∀ i c acc H,i < z.cps.size→z.cps[i]? =some c→Pv i acc H→te (some (.str ⟨#[c]⟩)::vo js σ) H fun v H'=>Nxt z.cps.size i (Pv (i+1) (acc++[v]) H')) (hd:∀ acc H,Pv z.cps.size acc H→∀ D,H D=none→Q (.ref D) (upd H D (.lst acc))):CompEnd js te σ Q (Its z) H:=by
 refine⟨fun i m acc H=>m=z.cps.size - i∧i≤z.cps.size∧Pv i acc H,⟨z.cps.size,by simp,Nat.zero_le _,h0⟩,?_⟩
 rintro i m acc H2 ⟨rfl,hi,p⟩
 refine⟨hl i acc H2 hi p,?_⟩
 by_cases hlt:i < z.cps.size
 · refine .inr ⟨hlt,fun x H3 y=>?_⟩
   obtain⟨e,c,hc,rfl⟩:=y
   subst e
   exact hs i c acc _ hlt hc p
 · have e:i=z.cps.size:=by omega
   subst e
   exact .inl ⟨Nat.le_refl _,hd acc H2 p⟩
end
section
variable {X : Cx}
end
inductive D where
 | leaf (v:V)
 | tup (xs:List D)
 | lst (xs:List D)
mutual
def Rep (K:PySem.W.Frag)(H:Hp):D→V→Prop
 | .leaf v,x=>x=v∧xn v=true
 | .tup ds,x=>∃ p xs,x= .ref p∧SqT K H p xs∧Reps K H ds xs
 | .lst ds,x=>∃ p xs,x= .ref p∧SqL K H p xs∧Reps K H ds xs
def Reps (K:PySem.W.Frag)(H:Hp):List D→List V→Prop
 | [],[]=>True
 | d::ds,x::xs=>Rep K H d x∧Reps K H ds xs
 | _,_=>False
end
mutual
def eqD:D→D→Bool
 | .leaf v,.leaf w=>eqV v w
 | .tup xs,.tup ys=>zN xs ys
 | .lst xs,.lst ys=>zN xs ys
 | _,_=>false
def zN:List D→List D→Bool
 | [],[]=>true
 | x::xs,y::ys=>eqD x y && zN xs ys
 | _,_=>false
end
mutual
def dep:D→Nat
 | .leaf _=>0
 | .tup xs=>kj xs+1
 | .lst xs=>kj xs+1
def kj:List D→Nat
 | []=>0
 | x::xs=>max (dep x) (kj xs)
end
theorem Reps.length {K:PySem.W.Frag}{H:Hp}:∀ {ds:List D} {xs:List V},Reps K H ds xs→ds.length=xs.length
 | [],[],_=>rfl
 | _::_,_::_,h=>by
  unfold Reps at h
  rw [List.length_cons,List.length_cons,h.2.length]
 | [],_::_,h=>by unfold Reps at h;exact h.elim
 | _::_,[],h=>by unfold Reps at h;exact h.elim
theorem qPm {v:V}(h:xn v=true):eqV v v=true:=by
 cases v <;> simp_all [xn,eqV]
theorem qCg:∀ {xs ys:List D},zN xs ys=true→xs.length=ys.length
 | [],[],_=>rfl
 | x::xs,y::ys,h=>by
  unfold zN at h
  rw [Bool.and_eq_true] at h
  rw [List.length_cons,List.length_cons,qCg h.2]
 | [],_::_,h=>by simp [zN] at h
 | _::_,[],h=>by simp [zN] at h
def itE (xs ys:List D)(j:Nat):Bool:=match xs[j]?,ys[j]? with
 | some a,some b=>eqD a b
 | _,_=>false
theorem qIo:∀ (xs ys:List D),((List.range (min xs.length ys.length)).all (itE xs ys) && xs.length == ys.length)=zN xs ys
 | [],[]=>by simp [zN]
 | [],y::ys=>by simp [zN]
 | x::xs,[]=>by simp [zN]
 | x::xs,y::ys=>by
  have ih:=qIo xs ys
  have e:min (x::xs).length (y::ys).length=min xs.length ys.length+1:=by simp only [List.length_cons];omega
  rw [e,List.range_succ_eq_map,List.all_cons,List.all_map]
  have e2:(itE (x::xs) (y::ys)) ∘ Nat.succ=itE xs ys:=by
   funext j
   simp [itE]
  have e3:itE (x::xs) (y::ys) 0=eqD x y:=by simp [itE]
  have e4:((x::xs).length == (y::ys).length)=(xs.length == ys.length):=by
   rw [Bool.eq_iff_iff];simp
  rw [e2,e3,e4,Bool.and_assoc,ih]
  conv=>rhs;unfold zN
theorem qJm {xs ys:List D}(h:xs.length=ys.length):(List.range xs.length).all (itE xs ys)=zN xs ys:=by
 have:=qIo xs ys
 rw [← h,Nat.min_self] at this
 simpa using this
section
variable {X : Cx} {pins : List (Addr × Obj)} {σ : L2.St} {H : Hp} {s : Shared}
mutual
theorem qFu (I:Inv X pins σ H s):∀ (d e:D) {x:V},Rep X.K H d x→Rep X.K H e x→eqD d e=true
 | .leaf v,.leaf w,x,h1,h2=>by
  unfold Rep at h1 h2
  obtain⟨rfl,f⟩:=h1
  obtain⟨rfl,_⟩:=h2
  unfold eqD
  exact qPm f
 | .leaf v,.tup ds,x,h1,h2=>by
  unfold Rep at h1 h2
  obtain⟨rfl,f⟩:=h1
  obtain⟨p,xs,rfl,_⟩:=h2
  cases f
 | .leaf v,.lst ds,x,h1,h2=>by
  unfold Rep at h1 h2
  obtain⟨rfl,f⟩:=h1
  obtain⟨p,xs,rfl,_⟩:=h2
  cases f
 | .tup ds,.leaf w,x,h1,h2=>by
  unfold Rep at h1 h2
  obtain⟨rfl,f⟩:=h2
  obtain⟨p,xs,rfl,_⟩:=h1
  cases f
 | .lst ds,.leaf w,x,h1,h2=>by
  unfold Rep at h1 h2
  obtain⟨rfl,f⟩:=h2
  obtain⟨p,xs,rfl,_⟩:=h1
  cases f
 | .tup ds,.tup es,x,h1,h2=>by
  unfold Rep at h1 h2
  obtain⟨p,xs,rfl,t1,r1⟩:=h1
  obtain⟨q,ys,e,t2,r2⟩:=h2
  cases e
  rw [I.tuple_inj t1 t2] at r1
  unfold eqD
  exact qCk I ds es r1 r2
 | .lst ds,.lst es,x,h1,h2=>by
  unfold Rep at h1 h2
  obtain⟨p,xs,rfl,t1,r1⟩:=h1
  obtain⟨q,ys,e,t2,r2⟩:=h2
  cases e
  rw [I.list_inj t1 t2] at r1
  unfold eqD
  exact qCk I ds es r1 r2
 | .tup ds,.lst es,x,h1,h2=>by
  unfold Rep at h1 h2
  obtain⟨p,xs,rfl,t1,r1⟩:=h1
  obtain⟨q,ys,e,t2,r2⟩:=h2
  cases e
  obtain⟨_,_,i1,_⟩:=I.tuple t1
  obtain⟨_,_,i2,_⟩:=I.list t2
  exact(SeqAt.ne_of_list_tuple i2.isList i1 rfl).elim
 | .lst ds,.tup es,x,h1,h2=>by
  unfold Rep at h1 h2
  obtain⟨p,xs,rfl,t1,r1⟩:=h1
  obtain⟨q,ys,e,t2,r2⟩:=h2
  cases e
  obtain⟨_,_,i1,_⟩:=I.list t1
  obtain⟨_,_,i2,_⟩:=I.tuple t2
  exact(SeqAt.ne_of_list_tuple i1.isList i2 rfl).elim
theorem qCk (I:Inv X pins σ H s):∀ (ds es:List D) {xs:List V},Reps X.K H ds xs→Reps X.K H es xs→zN ds es=true
 | [],[],_,_,_=>by simp [zN]
 | d::ds,e::es,[],h1,_=>by unfold Reps at h1;exact h1.elim
 | d::ds,e::es,x::xs,h1,h2=>by
  unfold Reps at h1 h2
  unfold zN
  rw [qFu I d e h1.1 h2.1,qCk I ds es h1.2 h2.2]
  rfl
 | [],e::es,[],_,h2=>by unfold Reps at h2;exact h2.elim
 | [],e::es,_::_,h1,_=>by unfold Reps at h1;exact h1.elim
 | d::ds,[],[],h1,_=>by unfold Reps at h1;exact h1.elim
 | d::ds,[],_::_,_,h2=>by unfold Reps at h2;exact h2.elim
end
theorem vc {A:Around}{x:V}{u:Value}{p:Addr}{its:Array Value}(f:xn x=true)(r:RelV x u)(hu:A.units < cLine)(h:s.heap.IsTuple p its∨s.heap.IsList p its):SeqAt.EqAt A s u (.ref p) false∧SeqAt.EqAt A s (.ref p) u false:=by
 cases x with
 | non=>cases r;rcases h with h | h <;> exact⟨by first | exact SeqAt.EqAt.none_tuple h hu | exact SeqAt.EqAt.none_list h hu,by first | exact SeqAt.EqAt.tuple_none h hu | exact SeqAt.EqAt.list_none h hu⟩
 | bl b=>cases r;rcases h with h | h <;> exact⟨by first | exact SeqAt.EqAt.bool_tuple _ h hu | exact SeqAt.EqAt.bool_list _ h hu,by first | exact SeqAt.EqAt.tuple_bool _ h hu | exact SeqAt.EqAt.list_bool _ h hu⟩
 | int i=>obtain⟨t,rfl⟩:=r;rcases h with h | h <;> exact⟨by first | exact SeqAt.EqAt.int_tuple _ _ h hu | exact SeqAt.EqAt.int_list _ _ h hu,by first | exact SeqAt.EqAt.tuple_int _ _ h hu | exact SeqAt.EqAt.list_int _ _ h hu⟩
 | str i=>obtain⟨t,rfl⟩:=r;rcases h with h | h <;> exact⟨by first | exact SeqAt.EqAt.str_tuple _ _ h hu | exact SeqAt.EqAt.str_list _ _ h hu,by first | exact SeqAt.EqAt.tuple_str _ _ h hu | exact SeqAt.EqAt.list_str _ _ h hu⟩
 | _=>cases f
theorem Reps.get {K:PySem.W.Frag}{H:Hp}:∀ {ds:List D} {xs:List V},Reps K H ds xs→∀ (j:Nat) (d:D),ds[j]? =some d→∃ x,xs[j]? =some x∧Rep K H d x
 | [],[],_,j,d,e=>by simp at e
 | a::ds,x::xs,h,0,d,e=>by
  unfold Reps at h
  have:a=d:=by simpa using e
  subst this
  exact⟨x,rfl,h.1⟩
 | a::ds,x::xs,h,j+1,d,e=>by
  unfold Reps at h
  exact h.2.get j d (by simpa using e)
 | [],_::_,h,_,_,_=>by unfold Reps at h;exact h.elim
 | _::_,[],h,_,_,_=>by unfold Reps at h;exact h.elim
theorem qF5:∀ {ds:List D} {j:Nat} {d:D},ds[j]? =some d→dep d≤kj ds
 | a::ds,0,d,e=>by
  have:a=d:=by simpa using e
  subst this
  unfold kj
  exact Nat.le_max_left _ _
 | a::ds,j+1,d,e=>by
  have:=qF5 (ds:=ds) (j:=j) (d:=d) (by simpa using e)
  unfold kj
  exact Nat.le_trans this (Nat.le_max_right _ _)
 | [],_,_,e=>by simp at e
theorem qM5 {A:Around}{ds es:List D}{xs ys:List V}{us ws:List Value}(r1:Reps X.K H ds xs)(r2:Reps X.K H es ys)(v1:Vals xs us)(v2:Vals ys ws)
 (ih:∀ d e x y u w,d∈ds→Rep X.K H d x→Rep X.K H e y→RelV x u→RelV y w→SeqAt.EqAt A s u w (eqD d e)):
 ∀ j (h1:j < us.toArray.size) (h2:j < ws.toArray.size),SeqAt.EqAt A s us.toArray[j] ws.toArray[j] (itE ds es j):=by
 intro j h1 h2
 have l1:=v1.length
 have l2:=v2.length
 have m1:=r1.length
 have m2:=r2.length
 rw [List.size_toArray] at h1 h2
 have g1:ds[j]? =some ds[j]:=List.getElem?_eq_getElem (by omega)
 have g2:es[j]? =some es[j]:=List.getElem?_eq_getElem (by omega)
 obtain⟨x,ex,rx⟩:=r1.get j _ g1
 obtain⟨y,ey,ry⟩:=r2.get j _ g2
 obtain⟨u,eu,qu⟩:=v1.get ex
 obtain⟨w,ew,qw⟩:=v2.get ey
 have c1:us.toArray[j]=u:=by
  have:=(List.getElem?_eq_some_iff.mp eu).2
  simpa using this
 have c2:ws.toArray[j]=w:=by
  have:=(List.getElem?_eq_some_iff.mp ew).2
  simpa using this
 have e:itE ds es j=eqD ds[j] es[j]:=by unfold itE;rw [g1,g2]
 rw [c1,c2,e]
 exact ih _ _ _ _ _ _ (List.getElem_mem _) rx ry qu qw
theorem qSx (I:Inv X pins σ H s):∀ (n:Nat) (A:Around) (d e:D) (x y:V) (u w:Value),dep d≤n→A.units+n < cLine→Rep X.K H d x→Rep X.K H e y→RelV x u→RelV y w→SeqAt.EqAt A s u w (eqD d e):=by
 intro n
 induction n with
 | zero=>
  intro A d e x y u w hd hu r1 r2 q1 q2
  cases d with
  | leaf v=>
   unfold Rep at r1
   obtain⟨rfl,f1⟩:=r1
   cases e with
   | leaf v'=>
    unfold Rep at r2
    obtain⟨rfl,f2⟩:=r2
    unfold eqD
    exact qLf q1 q2 f1 f2
   | tup es=>
    unfold Rep at r2
    obtain⟨p,ys,rfl,t,_⟩:=r2
    cases q2
    obtain⟨_,_,i,_⟩:=I.tuple t
    unfold eqD
    exact(vc f1 q1 hu (.inl i)).1
   | lst es=>
    unfold Rep at r2
    obtain⟨p,ys,rfl,t,_⟩:=r2
    cases q2
    obtain⟨_,_,i,_⟩:=I.list t
    unfold eqD
    exact(vc f1 q1 hu (.inr i.isList)).1
  | tup ds=>unfold dep at hd;omega
  | lst ds=>unfold dep at hd;omega
 | succ n ih=>
  intro A d e x y u w hd hu r1 r2 q1 q2
  have hu0:A.units < cLine:=by omega
  have hu1:A.in1.units+n < cLine:=by show A.units+1+n < cLine;omega
  cases d with
  | leaf v=>
   unfold Rep at r1
   obtain⟨rfl,f1⟩:=r1
   cases e with
   | leaf v'=>
    unfold Rep at r2
    obtain⟨rfl,f2⟩:=r2
    unfold eqD
    exact qLf q1 q2 f1 f2
   | tup es=>
    unfold Rep at r2
    obtain⟨p,ys,rfl,t,_⟩:=r2
    cases q2
    obtain⟨_,_,i,_⟩:=I.tuple t
    unfold eqD
    exact(vc f1 q1 hu0 (.inl i)).1
   | lst es=>
    unfold Rep at r2
    obtain⟨p,ys,rfl,t,_⟩:=r2
    cases q2
    obtain⟨_,_,i,_⟩:=I.list t
    unfold eqD
    exact(vc f1 q1 hu0 (.inr i.isList)).1
  | tup ds=>
   have r1':=r1
   unfold Rep at r1
   obtain⟨p,xs,rfl,t1,s1⟩:=r1
   cases q1
   obtain⟨us,v1,i1,_⟩:=I.tuple t1
   cases e with
   | leaf v'=>
    unfold Rep at r2
    obtain⟨rfl,f2⟩:=r2
    unfold eqD
    exact(vc f2 q2 hu0 (.inl i1)).2
   | lst es=>
    unfold Rep at r2
    obtain⟨q,ys,rfl,t2,_⟩:=r2
    cases q2
    obtain⟨_,_,i2,_⟩:=I.list t2
    unfold eqD
    exact SeqAt.EqAt.tuple_list i1 i2.isList hu0
   | tup es=>
    have r2':=r2
    unfold Rep at r2
    obtain⟨q,ys,rfl,t2,s2⟩:=r2
    cases q2
    by_cases pq:p=q
    · subst pq
      rw [qFu I _ _ r1' r2']
      exact SeqAt.EqAt.same _
    obtain⟨ws,v2,i2,_⟩:=I.tuple t2
    have hdd:kj ds≤n:=by unfold dep at hd;omega
    have:=SeqAt.EqAt.of_refs pq (SeqAt.RcAt.tuples i1 i2 hu0 (qM5 s1 s2 v1 v2 fun d e x y u w hm ra rb qa qb=>by
     obtain⟨j,hj,ej⟩:=List.mem_iff_getElem.mp hm
     have hde:dep d≤kj ds:=qF5 (j:=j) (by rw [List.getElem?_eq_getElem hj,ej])
     exact ih A.in1 d e x y u w (by omega) hu1 ra rb qa qb))
    rw [List.size_toArray,List.size_toArray,← v1.length,← v2.length,← s1.length,← s2.length,qIo] at this
    unfold eqD
    exact this
  | lst ds=>
   have r1':=r1
   unfold Rep at r1
   obtain⟨p,xs,rfl,t1,s1⟩:=r1
   cases q1
   obtain⟨us,v1,i1,_⟩:=I.list t1
   cases e with
   | leaf v'=>
    unfold Rep at r2
    obtain⟨rfl,f2⟩:=r2
    unfold eqD
    exact(vc f2 q2 hu0 (.inr i1.isList)).2
   | tup es=>
    unfold Rep at r2
    obtain⟨q,ys,rfl,t2,_⟩:=r2
    cases q2
    obtain⟨_,_,i2,_⟩:=I.tuple t2
    unfold eqD
    exact SeqAt.EqAt.list_tuple i1.isList i2 hu0
   | lst es=>
    have r2':=r2
    unfold Rep at r2
    obtain⟨q,ys,rfl,t2,s2⟩:=r2
    cases q2
    by_cases pq:p=q
    · subst pq
      rw [qFu I _ _ r1' r2']
      exact SeqAt.EqAt.same _
    obtain⟨ws,v2,i2,_⟩:=I.list t2
    have hdd:kj ds≤n:=by unfold dep at hd;omega
    unfold eqD
    by_cases hl:ds.length=es.length
    · have hsz:us.toArray.size=ws.toArray.size:=by rw [List.size_toArray,List.size_toArray,← v1.length,← v2.length,← s1.length,← s2.length];exact hl
      have:=SeqAt.EqAt.of_refs pq (SeqAt.RcAt.lists i1.isList i2.isList hsz hu0 (qM5 s1 s2 v1 v2 fun d e x y u w hm ra rb qa qb=>by
       obtain⟨j,hj,ej⟩:=List.mem_iff_getElem.mp hm
       have hde:dep d≤kj ds:=qF5 (j:=j) (by rw [List.getElem?_eq_getElem hj,ej])
       exact ih A.in1 d e x y u w (by omega) hu1 ra rb qa qb))
      rw [List.size_toArray,← v1.length,← s1.length,qJm hl] at this
      exact this
    · have hsz:(us.toArray.size != ws.toArray.size)=true:=by
       rw [List.size_toArray,List.size_toArray,← v1.length,← v2.length,← s1.length,← s2.length]
       simpa using hl
      have e:zN ds es=false:=by
       rw [Bool.eq_false_iff]
       intro z
       exact hl (qCg z)
      rw [e]
      exact SeqAt.EqAt.of_refs pq (SeqAt.RcAt.lists_lengths i1.isList i2.isList hsz hu0)
def kin:D→D→Bool
 | .tup _,.tup _=>true
 | .lst _,.lst _=>true
 | _,_=>false
inductive qRc (K:PySem.W.Frag)(neg:Bool)(x:V)(y:V)(H:Hp)(Q:VK):Prop
| mk (d e:D) (_:Rep K H d x) (_:Rep K H e y) (_:kin d e=true) (_:dep d≤60) (_:Q (.bl (if neg then !eqD d e else eqD d e)) H)
theorem vi {A:Around}(I:Inv X pins σ H s)(hu:A.units+64 < cLine){ds es:List D}{xs ys:List V}{us ws:List Value}(hd:kj ds≤60)(s1:Reps X.K H ds xs)(s2:Reps X.K H es ys)(v1:Vals xs us)(v2:Vals ys ws):
 ∀ j (h1:j < us.toArray.size) (h2:j < ws.toArray.size),SeqAt.EqAt A.in1 s us.toArray[j] ws.toArray[j] (itE ds es j):=
 qM5 s1 s2 v1 v2 fun d e x y u w hm ra rb qa qb=>by
  obtain⟨j,hj,ej⟩:=List.mem_iff_getElem.mp hm
  have hde:dep d≤kj ds:=qF5 (j:=j) (by rw [List.getElem?_eq_getElem hj,ej])
  exact qSx I 60 A.in1 d e x y u w (by omega) (by show A.units+1+60 < cLine;omega) ra rb qa qb
theorem qQo (hu:X.A.units+64 < cLine):OpR X (compareOp .Eq) (qRc X.K false):=by
 intro pins s σ H x y v u Q I rx ry h
 obtain⟨d,e,r1,r2,hk,hd,q⟩:=h
 have hu0:X.A.units < cLine:=by omega
 cases d with
 | leaf a=>cases e <;> cases hk
 | tup ds=>
  cases e with
  | leaf b=>cases hk
  | lst es=>cases hk
  | tup es=>
   unfold Rep at r1 r2
   obtain⟨p,xs,rfl,t1,s1⟩:=r1
   obtain⟨p',ys,rfl,t2,s2⟩:=r2
   cases rx;cases ry
   obtain⟨us,v1,i1,_⟩:=I.tuple t1
   obtain⟨ws,v2,i2,_⟩:=I.tuple t2
   refine SeqAt.eq_tupleAt i1 i2 hu0 (vi I hu (by unfold dep at hd;omega) s1 s2 v1 v2) ?_
   rw [List.size_toArray,List.size_toArray,← v1.length,← v2.length,← s1.length,← s2.length,qIo]
   refine⟨.bl _,H,I,rfl,?_⟩
   unfold eqD at q
   exact q
 | lst ds=>
  cases e with
  | leaf b=>cases hk
  | tup es=>cases hk
  | lst es=>
   unfold Rep at r1 r2
   obtain⟨p,xs,rfl,t1,s1⟩:=r1
   obtain⟨p',ys,rfl,t2,s2⟩:=r2
   cases rx;cases ry
   obtain⟨us,v1,i1,_⟩:=I.list t1
   obtain⟨ws,v2,i2,_⟩:=I.list t2
   unfold eqD at q
   by_cases hl:ds.length=es.length
   · have hsz:us.toArray.size=ws.toArray.size:=by rw [List.size_toArray,List.size_toArray,← v1.length,← v2.length,← s1.length,← s2.length];exact hl
     refine SeqAt.eq_listAt i1.isList i2.isList hsz hu0 (vi I hu (by unfold dep at hd;omega) s1 s2 v1 v2) ?_
     rw [List.size_toArray,← v1.length,← s1.length,qJm hl]
     exact⟨.bl _,H,I,rfl,q⟩
   · have hsz:(us.toArray.size != ws.toArray.size)=true:=by
      rw [List.size_toArray,List.size_toArray,← v1.length,← v2.length,← s1.length,← s2.length]
      simpa using hl
     have e:zN ds es=false:=by
      rw [Bool.eq_false_iff]
      intro z
      exact hl (qCg z)
     rw [e] at q
     exact SeqAt.eq_list_lengthsAt i1.isList i2.isList hsz hu0 ⟨.bl _,H,I,rfl,q⟩
theorem qN2 (hu:X.A.units+64 < cLine):OpR X (compareOp .NotEq) (qRc X.K true):=by
 intro pins s σ H x y v u Q I rx ry h
 obtain⟨d,e,r1,r2,hk,hd,q⟩:=h
 have hu0:X.A.units < cLine:=by omega
 cases d with
 | leaf a=>cases e <;> cases hk
 | tup ds=>
  cases e with
  | leaf b=>cases hk
  | lst es=>cases hk
  | tup es=>
   unfold Rep at r1 r2
   obtain⟨p,xs,rfl,t1,s1⟩:=r1
   obtain⟨p',ys,rfl,t2,s2⟩:=r2
   cases rx;cases ry
   obtain⟨us,v1,i1,_⟩:=I.tuple t1
   obtain⟨ws,v2,i2,_⟩:=I.tuple t2
   refine SeqAt.RcNeAt.tuples i1 i2 hu0 (vi I hu (by unfold dep at hd;omega) s1 s2 v1 v2) _ _ _ _ ?_
   rw [List.size_toArray,List.size_toArray,← v1.length,← v2.length,← s1.length,← s2.length,qIo]
   refine⟨.bl _,H,I,rfl,?_⟩
   unfold eqD at q
   exact q
 | lst ds=>
  cases e with
  | leaf b=>cases hk
  | tup es=>cases hk
  | lst es=>
   unfold Rep at r1 r2
   obtain⟨p,xs,rfl,t1,s1⟩:=r1
   obtain⟨p',ys,rfl,t2,s2⟩:=r2
   cases rx;cases ry
   obtain⟨us,v1,i1,_⟩:=I.list t1
   obtain⟨ws,v2,i2,_⟩:=I.list t2
   unfold eqD at q
   by_cases hl:ds.length=es.length
   · have hsz:us.toArray.size=ws.toArray.size:=by rw [List.size_toArray,List.size_toArray,← v1.length,← v2.length,← s1.length,← s2.length];exact hl
     refine SeqAt.RcNeAt.lists i1.isList i2.isList hsz hu0 (vi I hu (by unfold dep at hd;omega) s1 s2 v1 v2) _ _ _ _ ?_
     rw [List.size_toArray,← v1.length,← s1.length,qJm hl]
     exact⟨.bl _,H,I,rfl,q⟩
   · have hsz:(us.toArray.size != ws.toArray.size)=true:=by
      rw [List.size_toArray,List.size_toArray,← v1.length,← v2.length,← s1.length,← s2.length]
      simpa using hl
     have e:zN ds es=false:=by
      rw [Bool.eq_false_iff]
      intro z
      exact hl (qCg z)
     rw [e] at q
     exact SeqAt.RcNeAt.lists_lengths i1.isList i2.isList hsz hu0 _ _ _ _ ⟨.bl _,H,I,rfl,q⟩
end
end L3
namespace L3
open PySem PySem.Spec PyProof.Rows L2
def CompEndF (js:List Nat)(tc:TT)(te:TE)(σ:L2.St)(Q:VK)(J:It)(H1:Hp):Prop:=∃ W:Nat→Nat→List V→Hp→Prop,(∃ m,W 0 m [] H1)∧∀ i m acc H2,W i m acc H2→
 acc.length < sizeLine∧((J.stop i H2∧∀ D,H2 D=none→Q (.ref D) (upd H2 D (.lst acc)))∨
  (J.go i H2∧∀ x H3,J.yld i H2 x H3→tc (some x::vo js σ) H3 fun ok H4=>if ok=true then te (some x::vo js σ) H4 fun v H5=>∃ m',m' < m∧W (i+1) m' (acc++[v]) H5 else ∃ m',m' < m∧W (i+1) m' acc H4))
def qTf (js:List Nat)(wi:TI)(tc:TT)(te:TE):TE:=fun σ H Q=>wi σ H (CompEndF js tc te σ Q)
theorem CompEndF.g {js:List Nat}{tc:TT}{te:TE}(σ:L2.St)(Q:VK)(J:It)(H1:Hp):CompEndF js tc te σ Q J H1→ve 1 js (qB4 0) tc te σ Q J H1:=fun⟨W,w0,st⟩=>
 ⟨W,w0,fun i m acc H2 w=>⟨(st i m acc H2 w).1,(st i m acc H2 w).2.imp id fun⟨go,y⟩=>⟨go,fun x H3 z=>⟨[some x],rfl,rfl,y x H3 z⟩⟩⟩⟩
theorem kN {X:Cx}{elt iter cnd:Expr}{x:Str}{px:Pos}{scope:Scope}{cl:List (Str × Addr)}{pos:Pos}{wi:TI}{tc:TT}{te:TE}(ys:List Str)(js:List Nat)
 (hcm:X.calm=true) (hi:PI X (.Name x px) iter wi) (hc:∀ C s H fp,PT (jR X scope cl C (x::ys) s H fp).nox cnd tc) (he:∀ C s H fp,PE (jR X scope cl C (x::ys) s H fp).nox elt te) (hx:scope.names.lookup x=some .local:=by rfl) (hC:COk X scope cl iter [x] ys js:=by exact⟨rfl,rfl,rfl,rfl,rfl,rfl,rfl,rfl,fun _=>rfl,by decide⟩):PE X (.ListComp elt [⟨.Name x px,iter,[cnd],0⟩] scope pos) (qTf js wi tc te):=
 qK0 (xs:=[x]) (T:=CompEndF js tc te) hcm hi (fun _ _ _ _=>qz (i:=0) hC.nd rfl (.inl (lookup_relabel_local hx)) (.inr (lookup_relabel_local hx))) (fun C s H fp=>qOf (hc C s H fp)) he hC CompEndF.g
theorem qAw {K:PySem.W.Frag}{a:Addr}{xs:List V}{js:List Nat}{tc:TT}{te:TE}{σ:L2.St}{H:Hp}{Q:VK}(Pv:Nat→List V→Hp→Prop)(h0:Pv 0 [] H)(hl:∀ i acc H,i≤xs.length→Pv i acc H→SqL K H a xs∧acc.length < sizeLine)
 (hs:∀ i x acc H,i < xs.length→xs[i]? =some x→Pv i acc H→tc (some x::vo js σ) H fun ok H'=>if ok=true then te (some x::vo js σ) H' fun v H''=>Nxt xs.length i (Pv (i+1) (acc++[v]) H'') else Nxt xs.length i (Pv (i+1) acc H')) (hd:∀ acc H,Pv xs.length acc H→∀ D,H D=none→Q (.ref D) (upd H D (.lst acc))):CompEndF js tc te σ Q (Itl K a) H:=by
 refine⟨fun i m acc H=>m=xs.length - i∧i≤xs.length∧Pv i acc H,⟨xs.length,by simp,Nat.zero_le _,h0⟩,?_⟩
 rintro i m acc H2 ⟨rfl,hi,p⟩
 obtain⟨q,hz⟩:=hl i acc H2 hi p
 refine⟨hz,?_⟩
 by_cases hlt:i < xs.length
 · refine .inr ⟨⟨xs,xs[i],q,by simp [hlt]⟩,fun x H3 y=>?_⟩
   obtain⟨e,y⟩:=y
   subst e
   exact hs i x acc _ hlt (y xs q) p
 · have e:i=xs.length:=by omega
   subst e
   exact .inl ⟨⟨xs,q,Nat.le_refl _⟩,hd acc H2 p⟩
theorem qOi (n:Nat):sliceRange (sliceBounds none none (some (-1)) n).1 (sliceBounds none none (some (-1)) n).2.1 (sliceBounds none none (some (-1)) n).2.2=(List.range n).map fun k=>n - 1 - k:=by
 have e1:(sliceBounds none none (some (-1)) n).1=(n:Int) - 1:=by simp [sliceBounds]
 have e2:(sliceBounds none none (some (-1)) n).2.1= -1:=by simp [sliceBounds]
 have e3:(sliceBounds none none (some (-1)) n).2.2= -1:=by simp [sliceBounds]
 rw [e1,e2,e3]
 unfold sliceRange
 have h0:¬ ((-1:Int) > 0):=by decide
 have hc:(if (-1:Int) > 0 then (if (n:Int) - 1 < -1 then (-1 - ((n:Int) - 1)+ -1 - 1) / -1 else 0) else (if (n:Int) - 1 > -1 then ((n:Int) - 1 - -1 - -1 - 1) / (- -1) else 0)).toNat=n:=by
  rw [if_neg h0]
  by_cases hn:(n:Int) - 1 > -1
  · rw [if_pos hn]
    have e:(- -1:Int)=1:=by decide
    rw [e,Int.ediv_one]
    omega
  · rw [if_neg hn]
    omega
 simp only [] at hc ⊢
 rw [hc]
 refine List.map_congr_left fun k hk=>?_
 have:=List.mem_range.mp hk
 omega
theorem qPk (its:List Value):slicePick its.toArray none none (some (-1))=its.reverse.toArray:=by
 unfold slicePick
 rw [qOi]
 congr 1
 rw [List.filterMap_map]
 apply List.ext_getElem?
 intro j
 have key:∀ n,n≤its.length→(List.range n).filterMap ((fun x=>its.toArray[x]?) ∘ fun k=>its.toArray.size - 1 - k)=its.reverse.take n:=by
  intro n
  induction n with
  | zero=>intro _;simp
  | succ n ih=>
   intro hn
   rw [List.range_succ,List.filterMap_append,ih (by omega),List.take_add_one]
   have hi:its.length - 1 - n < its.length:=by omega
   have e:its.reverse[n]? =some its[its.length - 1 - n]:=by
    rw [List.getElem?_reverse (by omega),List.getElem?_eq_getElem hi]
   rw [e]
   simp [hi]
 rw [List.size_toArray] at key ⊢
 rw [key its.length (Nat.le_refl _),List.take_of_length_le (by simp)]
theorem Vals.rev {xs:List V}{us:List Value}(r:Vals xs us):Vals xs.reverse us.reverse:=by
 induction r with
 | nil=>exact .nil
 | cons h t ih=>
  rw [List.reverse_cons,List.reverse_cons]
  exact ih.append (.cons h .nil)
inductive qUi (K:PySem.W.Frag)(Q:VK)(x:V)(H1:Hp):Prop
| mk a xs (_:x= .ref a) (_:SqL K H1 a xs) (_:∀ p,H1 p=none→Q (.ref p) (upd H1 p (.lst xs.reverse)))
def qWi (K:PySem.W.Frag)(te:TE):TE:=fun σ H Q=>te σ H fun x H1=>qUi K Q x H1
theorem qSz {X:Cx}{e:Expr}{te:TE}{j:Nat}{pc pu p2 pos:Pos}(he:PE X e te):PE X (.Subscript e (.Slice none none (some (.UnaryOp .USub (.Constant (.int 1) j pc) pu)) p2) pos) (qWi X.K te):=by
 intro pins s σ H Q I h
 refine Subscript_ (thn (he pins s σ H _ I h) fun v s1 ⟨x,H1,I1,r1,q1⟩=>?_)
 obtain⟨a,xs,rfl,hx,q⟩:=q1
 cases r1
 refine wpAny_Slice ?_
 rw [evalPart_none]
 refine wpAny_pure (wpAny_pure ?_)
 have po:=(zX (X:=X) (kh (X:=X) (pos:=pu) xP (qG (X:=X) (i:=1) (j:=j) (pos:=pc)))) pins s1 σ H1 (fun i H2=>i=some (-1)∧H2=H1) I1 ⟨1,rfl,-1,rfl,rfl,rfl⟩
 refine thn po fun vs s3 h3=>?_
 obtain⟨st,H3,I3,ps,rfl,rfl⟩:=h3
 have I4:Inv X pins σ H3 {s3 with heap:=s3.heap.push {cls:=.type "slice",data:=.fields #[.none,.none,vs]}}:=I3.kept (t':=s3.toks) fun b ob q=>Heap.get?_push_of_some _ q
 obtain⟨its,r,ht,hz⟩:=I4.list hx
 have hlen:=r.length
 show wpAny (model X.prog X.w) X.A (subscriptTail e (.Slice none none (some (.UnaryOp .USub (.Constant (.int 1) j pc) pu)) p2) (.ref a) (.ref s3.heap.objs.size)) (EP X pins σ Q) X.xe {s3 with heap:=s3.heap.push {cls:=.type "slice",data:=.fields #[.none,.none,vs]}}
 refine tail_any (ops:=[.ref a,.ref s3.heap.objs.size]) ht.isList.typeIs slot_list_getitem.lookup ?_ (by with_unfolding_all rfl)
 refine wpAny_getItem_list_slice ht.isList (Heap.IsSliceOf.new ..) .none .none ps (by simp) ?_ (by rw [List.size_toArray] <;> omega)
 rw [qPk]
 refine⟨.ref _,_,I4.laid (t':=s3.toks) (o:=.lst xs.reverse) (fun b ob q=>Heap.get?_push_of_some _ q) (Nat.le_refl _) ?_,rfl,q _ (I4.hok.fresh (Nat.le_refl _))⟩
 exact⟨by rw [List.length_reverse];exact hz,_,0,L3.Vals.rev r,Heap.get?_push_size _ rfl⟩
theorem qOu {X:Cx}{pins:List (Addr × Obj)}{σ:L2.St}{H:Hp}{s:Shared}{h':Heap}{t':Nat}{ch:List Addr}(I:Inv X pins σ H s)(hf:∀ b∈ch,qPb X pins H b)
 (k:∀ b o,b ∉ ch→s.heap.get? b=some o→h'.get? b=some o):Inv X pins σ H {s with heap:=h',toks:=t'}:=by
 have nit:∀ b u,H b=some u→b ∉ ch:=fun b u e z=>by rw [(hf b z).1] at e;cases e
 refine I.step (g':=s.gens) (d':=s.drawn) (ch:=ch) (fun b hb=>?_) (fun b o _ _ hc e _=>k b o hc e) (fun b o _ _ hc e _=>⟨o.slots,k b o hc e⟩) (fun _ _ _ _ n=>n)
  (fun b o hc e=>⟨o,k b o hc e⟩) (fun _ _ e=>e) (fun _ _ _ e=>e) (fun b ps e=>⟨#[],by rw [e];simp⟩) (fun m hm=>?_) (fun b u e=>?_) I.bare
 · obtain⟨_,f1,_,f3,f4,f5⟩:=hf b hb
   exact⟨f3,f1,f4,f5⟩
 · obtain⟨o,es,ep,ho,r⟩:=hm
   exact⟨o,es,ep,k _ o (fun z=>(hf _ z).2.1 rfl) ho,r⟩
 · refine(I.hok b u e).stay (fun c v hc q=>k c v ?_ q) (fun _ q=>q) fun _ _ q=>q
   rcases hc with z | z
   · rw [z];exact nit b u e
   · exact nit c _ z
theorem qQr {X:Cx}{pins:List (Addr × Obj)}{σ:L2.St}{H:Hp}{s:Shared}{h':Heap}{t':Nat}{ch:List Addr}{xs:List V}{us:Array Value}(I:Inv X pins σ H s)(hf:∀ b∈ch,qPb X pins H b)(hlt:∀ b∈ch,b < s.heap.objs.size)
 (k:∀ b o,b ∉ ch→s.heap.get? b=some o→h'.get? b=some o) (hT:h'.get? s.heap.objs.size=some {cls:=.type "tuple",data:=.seq us}) (r:Vals xs us.toList) (hz:xs.length≤sizeLine):
 Inv X pins σ (upd H s.heap.objs.size (.tup xs)) {s with heap:=h',toks:=t'}∧∀ b∈ch,upd H s.heap.objs.size (.tup xs) b=none:=by
 have hn:∀ b∈ch,upd H s.heap.objs.size (.tup xs) b=none:=fun b hb=>by
  rw [qW (Nat.ne_of_lt (hlt b hb))];exact(hf b hb).1
 have I1:Inv X pins σ (upd H s.heap.objs.size (.tup xs)) {s with heap:=s.heap.push {cls:=.type "tuple",data:=.seq us},toks:=t'}:=
  I.laid (t':=t') (fun b o e=>Heap.get?_push_of_some _ e) (Nat.le_refl _) ⟨hz,us.toList,r,⟨_,Heap.get?_push_size _ rfl,rfl,_,rfl⟩⟩
 have I2:=qOu (h':=h') (t':=t') (ch:=ch) I1 (fun b hb=>⟨hn b hb,(hf b hb).2⟩) (fun b o hb e=>?_)
 · exact⟨I2,hn⟩
 rcases Heap.get?_push_cases e with ⟨e1,e2⟩ | e1
 · rw [e1,e2];exact hT
 · exact k b o hb e1
def Ite (K:PySem.W.Frag)(a:Addr):It:=
 ⟨fun i H=>∃ xs x,SqL K H a xs∧xs[i]? =some x,fun i H x H'=>∃ p v,H p=none∧x= .ref p∧(∀ xs,SqL K H a xs→xs[i]? =some v)∧H'=upd H p (.tup [.int i,v]),fun i H=>∃ xs,SqL K H a xs∧xs.length≤i⟩
theorem qN5 {P:Program}{w:World}{K:PySem.W.Frag}{elts:List Expr}{k1:Nat}{pos:Pos}(a e it:Addr)(hne:e≠it):
 qSm P w K (.Tuple elts k1 pos) (Ite K a) [e,it] e (fun i h=>(∃ old,IsEnum h e it (i:Nat) old)∧h.IsListIter it a i) where
 mem:=by simp
 obj:=fun i h st b hb=>by
  obtain⟨⟨old,he⟩,o,ho,c,d⟩:=st
  rcases List.mem_cons.mp hb with rfl | hb
  · exact⟨_,he,fun v z=>by cases z⟩
  · have e:b=it:=by simpa using hb
    subst e
    exact⟨o,ho,fun v z=>by rw [d] at z;cases z⟩
 keep:=fun i h h' st k=>by
  obtain⟨⟨old,he⟩,hi⟩:=st
  exact⟨⟨old,k e (by simp) _ he⟩,hi.at fun o q=>k it (by simp) o q⟩
 item:=by
  intro X hP hw hK hc i pins s σ H E I hf st hg
  subst hP hw hK
  obtain⟨⟨old,he⟩,hit⟩:=st
  obtain⟨xs,x,hq,hx⟩:=hg
  obtain⟨its,rv,p,hz⟩:=I.list hq
  obtain⟨u,hu,ru⟩:=rv.get hx
  refine wpAny_pyNext_enum_item he hit p.isList (x:=u) (by simpa using hu) hne fun h' heo hit' hT hsz hk=>?_
  refine⟨_,rfl,wpAny_letOwnedTupleGo_enum heo fun h'' he'' hs''=>?_⟩
  have hel:e < s.heap.objs.size:=Heap.lt_size he
  have hil:it < s.heap.objs.size:=by obtain⟨_,q,_⟩:=hit;exact Heap.lt_size q
  have T:=qQr (h':=h'') (t':=s.toks+1) (ch:=[e,it]) (xs:=[.int i,x]) (us:=#[.int i s.toks,u]) I hf (fun b hb=>by
   rcases List.mem_cons.mp hb with rfl | hb
   · exact hel
   · have z:b=it:=by simpa using hb
     subst z;exact hil)
   (fun b o hb q=>(hs''.2 b (fun z=>hb (by simp [z]))).trans (hk b o (fun z=>hb (by simp [z])) (fun z=>hb (by simp [z])) q))
   ((hs''.2 _ (Nat.ne_of_gt hel)).trans hT) (.cons ⟨_,rfl⟩ (.cons ru .nil)) (by show 2≤sizeLine;decide)
  refine⟨.ref s.heap.objs.size,_,T.1,rfl,⟨_,x,I.hok.fresh (Nat.le_refl _),rfl,fun ys hy=>by rw [I.list_inj hy hq];exact hx,rfl⟩,⟨⟨u,by simpa using he''⟩,hit'.at fun o q=>(hs''.2 it hne.symm).trans q⟩,T.2⟩
 done:=by
  intro X hP hw hK hc i pins s σ H E I hf st hg
  subst hP hw hK
  obtain⟨⟨old,he⟩,hit⟩:=st
  obtain⟨xs,hq,hx⟩:=hg
  obtain⟨its,rv,p,hz⟩:=I.list hq
  obtain⟨f0,f1,f2,f3,f4,f5⟩:=hf it (by simp)
  have hl:=rv.length
  exact wpAny_pyNext_enum_end (I.ok.hd hc) he hit p.isList (by simp;omega) fun h' eb=>⟨rfl,I.turned (t':=s.toks) (fun b o hb e=>eb b o hb e) f0 f1 f3 f4 f5⟩
 self:=fun _ _ _ _ _ st h=>by
  obtain⟨⟨old,he⟩,_⟩:=st
  exact wpAny_pyIter_enum he h
inductive qS2 (K:PySem.W.Frag)(R:It→Hp→Prop)(vs:List V)(H1:Hp):Prop
| mk a (_:vs=[.ref a]) (_:(∃ xs,SqL K H1 a xs)) (_:R (Ite K a) H1)
def qUl (K:PySem.W.Frag)(t:TA):TI:=fun σ H R=>t σ H fun vs H1=>qS2 K R vs H1
theorem qNo {X:Cx}{l:Expr}{tl:TA}{elts:List Expr}{k1:Nat}{tpos p pos:Pos}(hg:Gl X "enumerate")(hm:X.mg "enumerate"=none)(hl:PA X [l] tl)(hs:starEach [l] X.env=[(false,eval l X.env)]:=by rfl):
 PI X (.Tuple elts k1 tpos) (.Call (.Name "enumerate" p) [l] [] pos) (qUl X.K tl):=by
 intro pins s σ H R I h
 refine Call_ (qEs I hg hm boot_enumerate (PyProof.Rows.callWith_type1 (thn (hl pos pins s σ H _ I h) fun us s1 ⟨vs,H1,I1,r1,q1⟩=>?_) hs rfl))
 obtain⟨a,e,⟨xs,hq⟩,q⟩:=q1
 subst e
 cases r1 with
 | cons r rr=>
  cases rr
  cases r
  obtain⟨its,rv,pl,hz⟩:=I1.list hq
  refine call_enumerate_list pl.isList fun h' he hit hsz hk=>?_
  refine wpAny_pyIter_enum he ?_
  refine⟨s1.heap.objs.size+1,[s1.heap.objs.size+1,s1.heap.objs.size],_,_,H1,rfl,I1.kept (t':=s1.toks) fun b o e=>hk b o e,qN5 a _ _ (Nat.succ_ne_self _),⟨⟨_,he⟩,hit⟩,fun b hb=>?_,q⟩
  rcases List.mem_cons.mp hb with rfl | hb
  · exact I1.fpOk (Nat.le_succ _) (I1.hok.fresh (Nat.le_succ _))
  · have e:b=s1.heap.objs.size:=by simpa using hb
    subst e
    exact I1.fpOk (Nat.le_refl _) (I1.hok.fresh (Nat.le_refl _))
theorem qP1 {K:PySem.W.Frag}{a:Addr}{xs:List V}{g:TG}{tb:TS}{D:qLc}{σ:L2.St}{H:Hp}(Pv:Nat→L2.St→Hp→Prop)(h0:Pv 0 σ H)(hl:∀ i σ H,i≤xs.length→Pv i σ H→SqL K H a xs)
 (hs:∀ i x σ H p,xs[i]? =some x→Pv i σ H→H p=none→g (.ref p) σ (upd H p (.tup [.int i,x])) fun σ2 H2=>tb {D with nx:=Pv (i+1),ct:=Pv (i+1),bk:=D.nx} σ2 H2) (hd:∀ σ H,Pv xs.length σ H→D.nx σ H):
 ∃ W:Nat→Nat→L2.St→Hp→Prop,(∃ m,W 0 m σ H)∧∀ i m σ H,W i m σ H→
  ((Ite K a).stop i H∧D.nx σ H)∨((Ite K a).go i H∧∃ N:L2.St→Hp→Prop,(∀ σ' H',N σ' H'→∃ m',m' < m∧W (i+1) m' σ' H')∧∀ x H',(Ite K a).yld i H x H'→g x σ H' fun σ2 H2=>tb {D with nx:=N,ct:=N,bk:=D.nx} σ2 H2):=by
 refine⟨fun i m σ H=>m=xs.length - i∧i≤xs.length∧Pv i σ H,⟨xs.length,by simp,Nat.zero_le _,h0⟩,?_⟩
 rintro i m σ H ⟨rfl,hi,p⟩
 have q:=hl i σ H hi p
 by_cases hlt:i < xs.length
 · refine .inr ⟨⟨xs,xs[i],q,by simp [hlt]⟩,Pv (i+1),fun σ' H' p'=>⟨xs.length - (i+1),by omega,rfl,hlt,p'⟩,fun x H' y=>?_⟩
   obtain⟨z,v,hz,rfl,y,rfl⟩:=y
   exact hs i v σ _ z (y xs q) p hz
 · have e:i=xs.length:=by omega
   subst e
   exact .inl ⟨⟨xs,q,Nat.le_refl _⟩,hd σ H p⟩
theorem qN6:∀ {ns:List Int} {us:List Value},Vals (ns.map V.int) us→∃ xs:List (Int × Tok),us.toArray=intItems xs.toArray∧xs.map (·.1)=ns
 | [],us,r=>by cases r;exact⟨[],by simp [intItems],rfl⟩
 | n::ns,us,r=>by
  rw [List.map_cons] at r
  cases r with
  | cons h t=>
   obtain⟨xs,e1,e2⟩:=qN6 t
   obtain⟨tk,rfl⟩:=h
   refine⟨(n,tk)::xs,?_,by rw [List.map_cons,e2]⟩
   have e3:=congrArg Array.toList e1
   simp only [intItems,List.map_toArray] at e3 ⊢
   rw [e3]
   rfl
theorem wV {X:Cx}(hc:X.calm=true):qA1 X (.builtin "sum") (fun xs H Q=>∃ (p:Addr) (ns:List Int),xs=[.ref p]∧SqL X.K H p (ns.map V.int)∧Q (.int ns.sum) H):=by
 intro pins s σ H xs us Q I r h
 obtain⟨p,ns,rfl,hq,q⟩:=h
 obtain⟨u,rfl,rx⟩:=qG5 r
 cases rx
 obtain⟨its,rv,pl,hz⟩:=I.list hq
 obtain⟨ys,e1,e2⟩:=qN6 rv
 have pl':=pl.isList
 rw [e1] at pl'
 refine sum_intListG (I.ok.hd hc) pl' fun h' tk t' hk=>?_
 rw [preSum_eq,List.take_of_length_le (by simp)]
 have e3:ys.toArray.toList.map (·.1)=ns:=by simpa using e2
 rw [e3]
 exact⟨.int ns.sum,H,I.kept fun b o e=>hk b o e,⟨_,rfl⟩,q⟩
def qWd (t:TT):TT:=fun σ H Q=>∃ R:Bool→Hp→Prop,t σ H R∧∀ b H',R b H'→Q b H'
theorem qBf {X:Cx}{e:Expr}{t:TT}(h:PT X e t):PT X e (qWd t):=by
 rintro pins s σ H Q I ⟨R,ht,hR⟩
 exact thn (h pins s σ H R I ht) fun b s' ⟨H',I',r⟩=>⟨H',I',hR b H' r⟩
def CompEndP (K:PySem.W.Frag)(js:List Nat)(tc:TT)(te:TE)(σ:L2.St)(Q:VK)(J:It)(H1:Hp):Prop:=∃ W:Nat→Nat→List V→Hp→Prop,(∃ m,W 0 m [] H1)∧∀ i m acc H2,W i m acc H2→
 acc.length < sizeLine∧((J.stop i H2∧∀ D,H2 D=none→Q (.ref D) (upd H2 D (.lst acc)))∨
  (J.go i H2∧∀ x H3,J.yld i H2 x H3→∃ p va vb,x= .ref p∧SqT K H3 p [va,vb]∧tc (some va::some vb::vo js σ) H3 fun ok H4=>if ok=true then te (some va::some vb::vo js σ) H4 fun v H5=>∃ m',m' < m∧W (i+1) m' (acc++[v]) H5 else ∃ m',m' < m∧W (i+1) m' acc H4))
def qS0 (K:PySem.W.Frag)(js:List Nat)(wi:TI)(tc:TT)(te:TE):TE:=fun σ H Q=>wi σ H (CompEndP K js tc te σ Q)
theorem CompEndP.g {K:PySem.W.Frag}{js:List Nat}{tc:TT}{te:TE}(σ:L2.St)(Q:VK)(J:It)(H1:Hp):CompEndP K js tc te σ Q J H1→ve 2 js (qUy K 2 (qM7 (qB4 0) (qM7 (qB4 1) qU5))) tc te σ Q J H1:=fun⟨W,w0,st⟩=>
 ⟨W,w0,fun i m acc H2 w=>⟨(st i m acc H2 w).1,(st i m acc H2 w).2.imp id fun⟨go,y⟩=>⟨go,fun x H3 z=>let ⟨p,va,vb,e,q,r⟩:=y x H3 z;⟨p,_,e,q,rfl,va,_,rfl,vb,_,rfl,rfl,[some va,some vb],rfl,rfl,r⟩⟩⟩⟩
theorem qSj {X:Cx}{scope:Scope}{cl:List (Str × Addr)}{x1 x2:Str}{px1 px2:Pos}{tk:Nat}{tpos:Pos}{ys:List Str}(hcm:X.calm=true)(hnd:([x1,x2]++ys).Nodup)(hx1:scope.names.lookup x1=some .local)(hx2:scope.names.lookup x2=some .local)(C:Addr)(s:Shared)(H:Hp)(fp:List Addr):PG (jR X scope cl C ([x1,x2]++ys) s H fp).nox (.Tuple [.Name x1 px1,.Name x2 px2] tk tpos) (qUy X.K 2 (qM7 (qB4 0) (qM7 (qB4 1) qU5))):=
 qH4 (X:=(jR X scope cl C ([x1,x2]++ys) s H fp).nox) hcm (xV (qz (i:=0) hnd rfl (.inl (lookup_relabel_local hx1)) (.inr (lookup_relabel_local hx1))) (xV (qz (i:=1) hnd rfl (.inl (lookup_relabel_local hx2)) (.inr (lookup_relabel_local hx2))) qDh))
theorem qPl {X:Cx}{elt iter cnd:Expr}{x1 x2:Str}{px1 px2:Pos}{tk:Nat}{tpos:Pos}{scope:Scope}{cl:List (Str × Addr)}{pos:Pos}{wi:TI}{tc:TT}{te:TE}(ys:List Str)(js:List Nat){i:Nat}{y:Str}{py spos:Pos}(hN:X.N.Nodup)(hi':X.N[i]? =some y)(hy:X.env.kindOf y=some .local)
 (hcm:X.calm=true) (hi:PI X (.Tuple [.Name x1 px1,.Name x2 px2] tk tpos) iter wi) (hc:∀ C s H fp,PT (jR X scope cl C (x1::x2::ys) s H fp).nox cnd tc) (he:∀ C s H fp,PE (jR X scope cl C (x1::x2::ys) s H fp).nox elt te) (hx1:scope.names.lookup x1=some .local:=by rfl) (hx2:scope.names.lookup x2=some .local:=by rfl) (hC:COk X scope cl iter [x1,x2] ys js:=by exact⟨rfl,rfl,rfl,rfl,rfl,rfl,rfl,rfl,fun _=>rfl,by decide⟩) (hsw:swapsWith (.ListComp elt [⟨.Tuple [.Name x1 px1,.Name x2 px2] tk tpos,iter,[cnd],0⟩] scope pos) (some (.Name y py)) spos.line X.env=pure true:=by rfl):PS X (.Assign [.Name y py] (.ListComp elt [⟨.Tuple [.Name x1 px1,.Name x2 px2] tk tpos,iter,[cnd],0⟩] scope pos) spos) (qSn (qS0 X.K js wi tc te) (qB4 i)):=
 qLl (xs:=[x1,x2]) (T:=CompEndP X.K js tc te) hN hi' hy hcm hi (qSj hcm hC.nd hx1 hx2) (fun C s H fp=>qOf (hc C s H fp)) he hC CompEndP.g hsw
theorem qL4 {K:PySem.W.Frag}{a:Addr}{xs:List V}{js:List Nat}{tc:TT}{te:TE}{σ:L2.St}{H:Hp}{Q:VK}(Pv:Nat→List V→Hp→Prop)(h0:Pv 0 [] H)(hl:∀ i acc H,i≤xs.length→Pv i acc H→SqL K H a xs∧acc.length < sizeLine)
 (hs:∀ i x acc H p,i < xs.length→xs[i]? =some x→Pv i acc H→H p=none→tc (some (.int i)::some x::vo js σ) (upd H p (.tup [.int i,x])) fun ok H'=>if ok=true then te (some (.int i)::some x::vo js σ) H' fun v H''=>Nxt xs.length i (Pv (i+1) (acc++[v]) H'') else Nxt xs.length i (Pv (i+1) acc H')) (hd:∀ acc H,Pv xs.length acc H→∀ D,H D=none→Q (.ref D) (upd H D (.lst acc))):CompEndP K js tc te σ Q (Ite K a) H:=by
 refine⟨fun i m acc H=>m=xs.length - i∧i≤xs.length∧Pv i acc H,⟨xs.length,by simp,Nat.zero_le _,h0⟩,?_⟩
 rintro i m acc H2 ⟨rfl,hi,p⟩
 obtain⟨q,hz⟩:=hl i acc H2 hi p
 refine⟨hz,?_⟩
 by_cases hlt:i < xs.length
 · refine .inr ⟨⟨xs,xs[i],q,by simp [hlt]⟩,fun x H3 y=>?_⟩
   obtain⟨z,v,hz,rfl,y,rfl⟩:=y
   exact⟨z,_,_,rfl,SqT.of qB,hs i v acc _ z hlt (y xs q) p hz⟩
 · have e:i=xs.length:=by omega
   subst e
   exact .inl ⟨⟨xs,q,Nat.le_refl _⟩,hd acc H2 p⟩
def Itz (K:PySem.W.Frag)(a b:Addr):It:=
 ⟨fun i H=>∃ xs ys x y,SqL K H a xs∧SqL K H b ys∧xs[i]? =some x∧ys[i]? =some y,
  fun i H x H'=>∃ p v u,H p=none∧x= .ref p∧(∀ xs,SqL K H a xs→xs[i]? =some v)∧(∀ ys,SqL K H b ys→ys[i]? =some u)∧H'=upd H p (.tup [v,u]),
  fun i H=>∃ xs ys,SqL K H a xs∧SqL K H b ys∧(xs.length≤i∨ys.length≤i)⟩
theorem qO6 {P:Program}{w:World}{K:PySem.W.Frag}{elts:List Expr}{k1:Nat}{pos:Pos}(z TI TO i1 i2 a b:Addr)(n0:z≠TI∧z≠TO∧z≠i1∧z≠i2∧TI≠TO∧TI≠i1∧TI≠i2∧TO≠i1∧TO≠i2∧i1≠i2):
 qSm P w K (.Tuple elts k1 pos) (Itz K a b) [z,TI,TO,i1,i2] z (fun i h=>IsZip h z TI TO .none∧IsPair h TI (.ref i1) (.ref i2)∧(∃ u v,IsPair h TO u v)∧h.IsListIter i1 a i∧h.IsListIter i2 b i) where
 mem:=by simp
 obj:=fun i h st c hc=>by
  obtain⟨hz,hTI,⟨u,v,hTO⟩,⟨o1,e1,_,d1⟩,o2,e2,_,d2⟩:=st
  simp only [List.mem_cons,List.not_mem_nil,or_false] at hc
  rcases hc with rfl | rfl | rfl | rfl | rfl
  · exact⟨_,hz,fun v z=>by cases z⟩
  · exact⟨_,hTI,fun v z=>by cases z⟩
  · exact⟨_,hTO,fun v z=>by cases z⟩
  · exact⟨o1,e1,fun v z=>by rw [d1] at z;cases z⟩
  · exact⟨o2,e2,fun v z=>by rw [d2] at z;cases z⟩
 keep:=fun i h h' st k=>by
  obtain⟨hz,hTI,⟨u,v,hTO⟩,h1,h2⟩:=st
  exact⟨k z (by simp) _ hz,k TI (by simp) _ hTI,⟨u,v,k TO (by simp) _ hTO⟩,h1.at fun o q=>k i1 (by simp) o q,h2.at fun o q=>k i2 (by simp) o q⟩
 item:=by
  intro X hP hw hK hc i pins s σ H E I hf st hg
  subst hP hw hK
  obtain⟨hz,hTI,⟨u0,v0,hTO⟩,h1,h2⟩:=st
  obtain⟨xs,ys,x,y,hq1,hq2,hx,hy⟩:=hg
  obtain⟨its1,rv1,p1,hz1⟩:=I.list hq1
  obtain⟨its2,rv2,p2,hz2⟩:=I.list hq2
  obtain⟨u,hu,ru⟩:=rv1.get hx
  obtain⟨u',hu',ru'⟩:=rv2.get hy
  have free:∀ c∈[z,TI,TO,i1,i2],H c=none:=fun c hc=>(hf c hc).1
  have nl:∀ (l:Addr) (zs:List V),SqL X.K H l zs→∀ c∈[z,TI,TO,i1,i2],l≠c:=fun l zs hl c hc e=>by
   subst e
   rcases hl with (q | ⟨o,q⟩) | ⟨o,its,n,q,_⟩
   · rw [free _ hc] at q;cases q
   · rw [free _ hc] at q;cases q
   · have q1:=(I.bs l o (I.ok.mod.kin l o q)).1
     have:=hf l hc
     rcases this.2.2.2.1 with q2 | q2
     · exact I.ok.noex l o (I.ok.mod.kin l o q) q2
     · exact Nat.lt_irrefl _ (Nat.lt_of_lt_of_le (Nat.lt_of_lt_of_le (Heap.lt_size (I.ok.mod.kin l o q)) I.ok.bsz) q2)
  obtain⟨n1,n2,n3,n4,n5,n6,n7,n8,n9,n10⟩:=n0
  have D:ZipApart z TI TO i1 i2 a b:=⟨n1.symm,n2.symm,n3.symm,n4.symm,n5,n6,n7,n8,n9,n10,nl a xs hq1 z (by simp),nl a xs hq1 TO (by simp),nl a xs hq1 i1 (by simp),nl a xs hq1 i2 (by simp),nl b ys hq2 z (by simp),nl b ys hq2 TO (by simp),nl b ys hq2 i1 (by simp),nl b ys hq2 i2 (by simp)⟩
  refine wpAny_pyNext_zip_item D hz hTI hTO h1 h2 p1.isList p2.isList (x:=u) (y:=u') (by simpa using hu) (by simpa using hu') fun h' hz' hTO' h1' h2' hT hsz hk=>?_
  refine⟨_,rfl,wpAny_letOwnedTupleGo_zip hz' fun h'' hz'' hs''=>?_⟩
  have lt:∀ c∈[z,TI,TO,i1,i2],c < s.heap.objs.size:=fun c hc=>by
   simp only [List.mem_cons,List.not_mem_nil,or_false] at hc
   rcases hc with rfl | rfl | rfl | rfl | rfl
   · exact Heap.lt_size hz
   · exact Heap.lt_size hTI
   · exact Heap.lt_size hTO
   · obtain⟨_,q,_⟩:=h1;exact Heap.lt_size q
   · obtain⟨_,q,_⟩:=h2;exact Heap.lt_size q
  have up:∀ c o,c≠z→h'.get? c=some o→h''.get? c=some o:=fun c o hc q=>(hs''.2 c hc).trans q
  have T:=qQr (h':=h'') (t':=s.toks) (ch:=[z,TI,TO,i1,i2]) (xs:=[x,y]) (us:=#[u,u']) I hf lt
   (fun c o hc q=>up c o (fun e=>hc (by simp [e])) (hk c o (fun e=>hc (by simp [e])) (fun e=>hc (by simp [e])) (fun e=>hc (by simp [e])) (fun e=>hc (by simp [e])) q))
   (up _ _ (Nat.ne_of_gt (lt z (by simp))) hT) (.cons ru (.cons ru' .nil)) (by show 2≤sizeLine;decide)
  refine⟨.ref s.heap.objs.size,_,T.1,rfl,⟨_,x,y,I.hok.fresh (Nat.le_refl _),rfl,fun zs hzs=>by rw [I.list_inj hzs hq1];exact hx,fun zs hzs=>by rw [I.list_inj hzs hq2];exact hy,rfl⟩,?_,T.2⟩
  exact⟨hz'',up _ _ n1.symm (hk _ _ n1.symm n5 n6 n7 hTI),⟨_,_,up _ _ n2.symm hTO'⟩,h1'.at fun o q=>up _ o n3.symm q,h2'.at fun o q=>up _ o n4.symm q⟩
 done:=by
  intro X hP hw hK hc i pins s σ H E I hf st hg
  subst hP hw hK
  obtain⟨hz,hTI,⟨u0,v0,hTO⟩,h1,h2⟩:=st
  obtain⟨xs,ys,hq1,hq2,hend⟩:=hg
  obtain⟨its1,rv1,p1,hz1⟩:=I.list hq1
  obtain⟨its2,rv2,p2,hz2⟩:=I.list hq2
  have free:∀ c∈[z,TI,TO,i1,i2],H c=none:=fun c hc=>(hf c hc).1
  have nl:∀ (l:Addr) (zs:List V),SqL X.K H l zs→∀ c∈[z,TI,TO,i1,i2],l≠c:=fun l zs hl c hc e=>by
   subst e
   rcases hl with (q | ⟨o,q⟩) | ⟨o,its,n,q,_⟩
   · rw [free _ hc] at q;cases q
   · rw [free _ hc] at q;cases q
   · rcases (hf l hc).2.2.2.1 with q2 | q2
     · exact I.ok.noex l o (I.ok.mod.kin l o q) q2
     · exact Nat.lt_irrefl _ (Nat.lt_of_lt_of_le (Nat.lt_of_lt_of_le (Heap.lt_size (I.ok.mod.kin l o q)) I.ok.bsz) q2)
  obtain⟨n1,n2,n3,n4,n5,n6,n7,n8,n9,n10⟩:=n0
  have D:ZipApart z TI TO i1 i2 a b:=⟨n1.symm,n2.symm,n3.symm,n4.symm,n5,n6,n7,n8,n9,n10,nl a xs hq1 z (by simp),nl a xs hq1 TO (by simp),nl a xs hq1 i1 (by simp),nl a xs hq1 i2 (by simp),nl b ys hq2 z (by simp),nl b ys hq2 TO (by simp),nl b ys hq2 i1 (by simp),nl b ys hq2 i2 (by simp)⟩
  have l1:=rv1.length
  have l2:=rv2.length
  refine wpAny_pyNext_zip_end (I.ok.hd hc) D hz hTI hTO h1 h2 p1.isList p2.isList ?_ fun h' hk=>⟨rfl,qOu (t':=s.toks) (ch:=[z,TI,TO,i1,i2]) I hf fun c o hc q=>hk c o (fun e=>hc (by simp [e])) (fun e=>hc (by simp [e])) (fun e=>hc (by simp [e])) (fun e=>hc (by simp [e])) q⟩
  rcases hend with q | q
  · exact .inl (by simp;omega)
  · exact .inr (by simp;omega)
 self:=fun _ _ _ _ _ st h=>wpAny_pyIter_zip st.1 h
theorem qLt (n:Nat):n+4≠n+2∧n+4≠n+3∧n+4≠n∧n+4≠n+1∧n+2≠n+3∧n+2≠n∧n+2≠n+1∧n+3≠n∧n+3≠n+1∧n≠n+1:=by omega
def qWw (K:PySem.W.Frag)(t:TA):TI:=fun σ H R=>t σ H fun vs H1=>∃ a b,vs=[.ref a,.ref b]∧(∃ xs,SqL K H1 a xs)∧(∃ ys,SqL K H1 b ys)∧R (Itz K a b) H1
theorem qT5 {X:Cx}{l l':Expr}{tl:TA}{elts:List Expr}{k1:Nat}{tpos p pos:Pos}(hg:Gl X "zip")(hm:X.mg "zip"=none)(hl:PA X [l,l'] tl)(hs:starEach [l,l'] X.env=[(false,eval l X.env),(false,eval l' X.env)]:=by rfl)(hs2:starEach [l'] X.env=[(false,eval l' X.env)]:=by rfl):
 PI X (.Tuple elts k1 tpos) (.Call (.Name "zip" p) [l,l'] [] pos) (qWw X.K tl):=by
 intro pins s σ H R I h
 refine Call_ (qEs I hg hm boot_zip (PyProof.Rows.callWith_type1 (thn (hl pos pins s σ H _ I h) fun us s1 ⟨vs,H1,I1,r1,q1⟩=>?_) (by rw [hs,hs2]) (by rw [hs2];rfl)))
 obtain⟨a,b,e,⟨xs,hq1⟩,⟨ys,hq2⟩,q⟩:=q1
 subst e
 cases r1 with
 | cons r rr=>
  cases rr with
  | cons r' rr=>
   cases rr
   cases r
   cases r'
   obtain⟨its1,rv1,p1,hz1⟩:=I1.list hq1
   obtain⟨its2,rv2,p2,hz2⟩:=I1.list hq2
   refine call_zip_2 p1.isList p2.isList fun h' hz hTI hTO h1 h2 hsz hk=>?_
   refine wpAny_pyIter_zip hz ?_
   refine⟨s1.heap.objs.size+4,[s1.heap.objs.size+4,s1.heap.objs.size+2,s1.heap.objs.size+3,s1.heap.objs.size,s1.heap.objs.size+1],_,_,H1,rfl,I1.kept (t':=s1.toks) fun c o e=>hk c o e,qO6 _ _ _ _ _ a b (qLt _),⟨hz,hTI,⟨_,_,hTO⟩,h1,h2⟩,fun c hc=>?_,q⟩
   have hle:s1.heap.objs.size≤c:=by
    simp only [List.mem_cons,List.not_mem_nil,or_false] at hc
    rcases hc with rfl | rfl | rfl | rfl | rfl <;> omega
   exact I1.fpOk hle (I1.hok.fresh hle)
theorem qRp {K:PySem.W.Frag}{a b:Addr}{xs ys:List V}{g:TG}{tb:TS}{D:qLc}{σ:L2.St}{H:Hp}(Pv:Nat→L2.St→Hp→Prop)(hlen:xs.length=ys.length)(h0:Pv 0 σ H)(hl:∀ i σ H,i≤xs.length→Pv i σ H→SqL K H a xs∧SqL K H b ys)
 (hs:∀ i x y σ H p,xs[i]? =some x→ys[i]? =some y→Pv i σ H→H p=none→g (.ref p) σ (upd H p (.tup [x,y])) fun σ2 H2=>tb {D with nx:=Pv (i+1),ct:=Pv (i+1),bk:=D.nx} σ2 H2) (hd:∀ σ H,Pv xs.length σ H→D.nx σ H):
 ∃ W:Nat→Nat→L2.St→Hp→Prop,(∃ m,W 0 m σ H)∧∀ i m σ H,W i m σ H→
  ((Itz K a b).stop i H∧D.nx σ H)∨((Itz K a b).go i H∧∃ N:L2.St→Hp→Prop,(∀ σ' H',N σ' H'→∃ m',m' < m∧W (i+1) m' σ' H')∧∀ x H',(Itz K a b).yld i H x H'→g x σ H' fun σ2 H2=>tb {D with nx:=N,ct:=N,bk:=D.nx} σ2 H2):=by
 refine⟨fun i m σ H=>m=xs.length - i∧i≤xs.length∧Pv i σ H,⟨xs.length,by simp,Nat.zero_le _,h0⟩,?_⟩
 rintro i m σ H ⟨rfl,hi,p⟩
 obtain⟨q1,q2⟩:=hl i σ H hi p
 by_cases hlt:i < xs.length
 · have hlt2:i < ys.length:=by omega
   refine .inr ⟨⟨xs,ys,xs[i],ys[i],q1,q2,by simp [hlt],by simp [hlt2]⟩,Pv (i+1),fun σ' H' p'=>⟨xs.length - (i+1),by omega,rfl,hlt,p'⟩,fun x H' y=>?_⟩
   obtain⟨z,v,u,hz,rfl,y1,y2,rfl⟩:=y
   exact hs i v u σ _ z (y1 xs q1) (y2 ys q2) p hz
 · have e:i=xs.length:=by omega
   subst e
   exact .inl ⟨⟨xs,ys,q1,q2,.inl (Nat.le_refl _)⟩,hd σ H p⟩
section
variable {P : Program} {w : World} {K : PySem.W.Frag}
end
def EqIn (P:Program)(w:World)(A:Around)(s:Shared)(y x:Value):Prop:=∀ (E:Value→Shared→Prop) (Q:Bool→Shared→Prop),Q true s→wpAny (model P w) A (eqBool y x) Q E s
theorem EqIn.rc {P:Program}{w:World}{A:Around}{s:Shared}{l b:Addr}(h:∀ (E:Value→Shared→Prop) (Q:Value→Shared→Prop),Q (.bool true) s→wpAny (model P w) A (richCompare .Eq (.ref l) (.ref b)) Q E s):EqIn P w A s (.ref l) (.ref b):=by
 by_cases e:l=b
 · subst e
   exact fun E Q hq=>SeqAt.EqAt.same _ P w E Q hq
 · intro E Q hq
   unfold eqBool
   refine wpAny_holding (wpAny_ite_split (fun z=>?_) (fun _=>?_))
   · have:=eq_of_beq z
     injection this with this
     exact absurd this e
   · exact wpAny_bind (h E _ (wpAny_truthy_bool hq))
section
variable {X : Cx} {pins : List (Addr × Obj)} {σ : L2.St} {H : Hp} {s : Shared}
end
theorem wU {X:Cx}{K:PySem.W.Frag}(h:X.K=K):qA1 X (.type "list") (fun xs H Q=>∃ p ys,xs=[.ref p]∧(SqL K H p ys∨SqT K H p ys)∧∀ l,H l=none→Q (.ref l) (upd H l (.lst ys))):=h ▸ vQ
end L3
set_option maxRecDepth 100000
namespace L3
open PySem PySem.Spec PyProof.Rows L2
theorem qKf {lo:Int}{n:Nat}{js:List Nat}{tc:TT}{te:TE}{σ:L2.St}{H:Hp}{Q:VK}(Pv:Nat→List V→Hp→Prop)(h0:Pv 0 [] H)(hl:∀ i acc H,i≤n→Pv i acc H→acc.length < sizeLine)
 (hs:∀ i acc H,i < n→Pv i acc H→tc (some (.int (lo+i))::vo js σ) H fun ok H'=>if ok=true then te (some (.int (lo+i))::vo js σ) H' fun v H''=>Nxt n i (Pv (i+1) (acc++[v]) H'') else Nxt n i (Pv (i+1) acc H')) (hd:∀ acc H,Pv n acc H→∀ D,H D=none→Q (.ref D) (upd H D (.lst acc))):CompEndF js tc te σ Q (Itr lo n) H:=by
 refine⟨fun i m acc H=>m=n - i∧i≤n∧Pv i acc H,⟨n,by simp,Nat.zero_le _,h0⟩,?_⟩
 rintro i m acc H2 ⟨rfl,hi,p⟩
 refine⟨hl i acc H2 hi p,?_⟩
 by_cases hlt:i < n
 · refine .inr ⟨hlt,fun x H3 y=>?_⟩
   obtain⟨e,y⟩:=y
   subst e y
   exact hs i acc _ hlt p
 · have e:i=n:=by omega
   subst e
   exact .inl ⟨Nat.le_refl _,hd acc H2 p⟩
variable {X : Cx}
end L3
namespace L3
open PySem PySem.Spec PyProof.Rows L2 PySem.NumText PySem.Builtin.Str
def qUk (l:List Nat):List Nat:=if l.head?=some 45 then l.tail else l
def qWz (c:Nat):Bool:=!(occurrences "0123456789" ⟨#[c]⟩ 0 ("0123456789":Str).length 1).isEmpty
structure Fig (l:List Nat):Prop where
 ne:qUk l≠[]
 len:(qUk l).length≤60
 all:(qUk l).all qWz=true
end L3
namespace L3
open PySem PySem.Spec PyProof.Rows L2 PySem.NumText PySem.Builtin.Str
inductive qP2 (l:List Nat):List Str→Prop where
 | none (h:l=[]):qP2 l []
 | one {p:Str} (h:l=p.cps.toList) (hf:47 ∉ l):qP2 l [p]
 | two {p q:Str} (h:l=p.cps.toList++47::q.cps.toList) (hp:47 ∉ p.cps.toList) (hq:47 ∉ q.cps.toList):qP2 l [p,q]
 | more {p q r:Str} {t:List Str} (rest:List Nat) (h:l=p.cps.toList++47::rest) (hp:47 ∉ p.cps.toList) (hq:47∈rest):qP2 l (p::q::r::t)
def XES (X:Cx)(Ex:Value→Option Addr→L2.St→Hp→Prop):Value→Shared→Prop:=fun e s'=>∃ ea C σ H',e= .ref ea∧Inv X [] σ H' s'∧qPv X.s₀.heap H' X.pn s'.heap ea C∧Ex C.1 C.2 σ H'
def qT3 (sp:Sp)(Ex:Value→Option Addr→L2.St→Hp→Prop)(t:TA):TE:=fun σ H Q=>t σ H fun vs H1=>sp (vs++[]) H1 Q fun C od H'=>Ex C od σ H'
theorem qSw {X:Cx}{Ex:Value→Option Addr→L2.St→Hp→Prop}(hex:X.ex=[]){pins:List (Addr × Obj)}{σ:L2.St}{H:Hp}{s:Shared}{e:Value}{s':Shared}(I:Inv (X.wish (XES X Ex)) pins σ H s)
 (h:CXR X.prog X.w X.stack H s (fun C od H'=>Ex C od σ H') e s'):XES X Ex e s':=by
 obtain⟨ea,C,H',rfl,os,bare,un,hok,⟨n1,hd,r,n3⟩,q⟩:=h
 have I0:=I.unwish
 have I1:Inv X pins σ H' s':=I0.call' (ch:=[]) os un hok bare fun b z=>nomatch z
 have old:∀ b,s.heap.get? b=none→X.s₀.heap.get? b=none:=fun b z=>by
  cases w:X.s₀.heap.get? b with
  | none=>rfl
  | some o=>
   obtain⟨o',w'⟩:=I0.base.there b o w (by rw [hex];intro y;cases y)
   rw [z] at w';cases w'
 have pn:∀ b,s.heap.get? b=none→∀ p∈X.pn,p.1≠b:=fun b z p hp w=>by
  have q:=(I0.pin p (List.mem_append_left _ hp)).1
  rw [w,z] at q;cases q
 exact⟨ea,C,σ,H',rfl,I1.pins_of (pins':=[]) fun p hp=>(nomatch hp),⟨⟨old _ n1.1,n1.2.1,pn _ n1.1⟩,hd,r,fun T e=>⟨old _ (n3 T e).1,(n3 T e).2.1,pn _ (n3 T e).1⟩⟩,q⟩
theorem qKn {X:Cx}{Ex:Value→Option Addr→L2.St→Hp→Prop}{k j:Nat}{x:Str}{st:Stmt}{ps:List Str}{f:Addr}{fd:FuncData}{sp:Sp}{e:Expr}{es:List Expr}{t:TA}{p pos:Pos}(D:Def X.K X.mg x st ps f fd)(F:FnOk X.prog X.w X.K X.mg X.base (CXR X.prog X.w) j f fd ps sp)(hr:Room k X.A)(hg:Gl X x)
 (ha:PA (X.wish (XES X Ex)) (e::es) t) (hj:j≤k:=by decide) (hex:X.ex=[]:=by rfl)
 (hdb:(x == ("__debug__":Str))=false:=by decide) (he:starEach (e::es) X.env=(false,eval e X.env)::starEach es X.env:=by rfl) (hpl:(backTo pos (starEach es X.env)).any (·.1)=false:=by rfl):
 PE (X.wish (XES X Ex)) (.Call (.Name x p) (e::es) [] pos) (qT3 sp Ex t):=by
 intro pins s σ H Q I h
 refine wpAny_Call_Name_kw (qA0 I hg D.m ?_ hdb)
 refine PySem.W.callWith_K (h₀:=X.base) I.ok.mod.kin D.F.kp (thn (ha pos pins s σ H _ I h) fun us s1 ⟨vs,H1,I1,r,q⟩=>⟨I1.kIn,?_⟩) he hpl
 have r2:Vals (vs++[]) (us++[]):=r.append .nil
 have hl:(us++[]).length=ps.length:=by rw [← r2.length];exact F.len _ _ _ _ q
 refine wpAny_call (codeAny_mono (F.run X.A X.stack s1 H1 ⟨us,[]⟩ (us++[]) (vs++[]) Q _ (hr.mono hj) I1.env0 (D.b s1 us I1.kIn hl) r2 q) fun r s' hq=>?_)
 cases r with
 | error e=>exact qSw hex I1 hq
 | ok fl=>
  cases fl with
  | ret u=>exact I1.after hq
  | next=>exact False.elim hq
  | brk=>exact False.elim hq
  | cont=>exact False.elim hq
def qTb (K:PySem.W.Frag)(Ex:Value→Option Addr→L2.St→Hp→Prop)(C:Addr)(i:Option Nat)(tb ts:TS):TS:=fun D σ H=>tb D σ H∧∀ (ea:Addr) (B:EC) (σ':L2.St) (H':Hp),Ex B.1 B.2 σ' H'→H' ea=none→σ'.length=σ.length→
 PySem.W.exmOne K B.1 (.ref C)=some true∧ts (qR9 D i) (qVq i ea σ') (upd H' ea (qM1 ea B))
theorem qRb {X:Cx}{body:List Stmt}{b₀:Stmt}{suite:List Stmt}{x:Str}{C:Addr}{nm:Option Str}{i:Option Nat}{np hpos pos:Pos}{tb ts:TS}(Ex:Value→Option Addr→L2.St→Hp→Prop)
 (hcl:qHy X nm i) (hN:X.N.Nodup) (hg:Gl X x) (hm:X.mg x=some (.ref C))
 (hb:∀ l,PSs ((pnX X l).wish (XES (pnX X l) Ex)) body tb) (hs:∀ l ea,PSs (hdX (pnX X l) ea).nox (b₀::suite) ts)
 (hstk:X.stack=X.env::X.outer:=by rfl) (hfr:X.env.frame=some X.env.locals:=by rfl) (hex:X.ex=[]:=by rfl) (hdb:(x == ("__debug__":Str))=false:=by decide):
 PS X (.Try body [.ExceptHandler (some (.Name x np)) nm (b₀::suite) hpos] [] [] pos) (qTb X.K Ex C i tb ts):=by
 rintro pins s σ H D I ⟨h1,h2⟩
 have I0:=qTa I
 refine wpAny_Try_except (wpAny_mono (hb (X.pn++pins) [] s σ H D (I0.wish _) h1) (fun f s1 q=>?_) fun e s1 q=>?_)
 · have q:=q.unwish
   cases f with
   | next=>
    obtain⟨σ',H',J,z⟩:=q
    exact wpAny_execs_nil ⟨σ',H',qB6 J,z⟩
   | brk=>
    obtain⟨σ',H',J,z⟩:=q
    exact⟨σ',H',qB6 J,z⟩
   | cont=>
    obtain⟨σ',H',J,z⟩:=q
    exact⟨σ',H',qB6 J,z⟩
   | ret u=>
    obtain⟨v,σ',H',J,r,z⟩:=q
    exact⟨v,σ',H',qB6 J,r,z⟩
 · obtain⟨ea,B,σ',H',rfl,I1,⟨n1,hd,r,n3⟩,ex⟩:=q
   have hlen:σ'.length=σ.length:=I1.len.trans I.len.symm
   obtain⟨hx,ht⟩:=h2 ea B σ' H' ex n1.2.1 hlen
   have fr:X.A.frames=some (X.env::X.outer):=by rw [← hstk];exact I.ok.frames
   have ff:s1.heap.FunFrames X.base (X.env::X.outer):=by
    have z:=I1.stack
    rw [show (pnX X (X.pn++pins)).stack=X.env::X.outer from hstk] at z
    exact z
   refine qNn fr ff hfr r fun h' N'=>?_
   have N':Noted (frs X.stack) ea hd B s1.heap h':=by rw [hstk];exact N'
   obtain⟨I2,n1,hd2,r2,n3⟩:=vI I1 hex r n1 n3 N'
   refine wpAny_handleBy_cons (codeAny_handlers_test (qA0 (X:=hdX (pnX X (X.pn++pins)) ea) (qMn I2) hg hm ?_ hdb)) (by intro z;cases z)
   have LT:PySem.W.Looks (model X.prog X.w) h' (typeOf (.ref ea)) B.1:=by
    obtain⟨vs,sl,qe,_⟩:=r2
    exact(PySem.W.Looks.ld qe).andThen .now
   refine(PySem.W.exm_one (M:=model X.prog X.w) I2.kIn LT hx).here ?_
   show codeAny _ _ _ _ _
   obtain⟨T,rfl,r3⟩:∃ T,hd2=some T∧vV h' ea B (some T):=by
    obtain⟨T,_,_⟩:=N'.ent
    cases hd2 with
    | some T=>exact⟨T,rfl,r2⟩
    | none=>
     obtain⟨T,_,rT⟩:=N'.ent
     obtain⟨vs,sl,q1,q2⟩:=r2
     obtain⟨vs',sl',q1',q2',_⟩:=rT
     rw [q1] at q1'
     cases q1'
     rw [q2] at q2'
     cases q2'
   have run:∀ (s4:Shared) (σ4:L2.St) (Q:Flow→Shared→Prop) (E:Value→Shared→Prop),Inv (hdX (pnX X (X.pn++pins)) ea) [] σ4 (upd H' ea (qM1 ea B)) s4→ts (qR9 D i) σ4 (upd H' ea (qM1 ea B))→
    (∀ f s5,SP (hdX (pnX X (X.pn++pins)) ea) [] (qR9 D i) f s5→Q f s5)→wpAny (model X.prog X.w) (X.A.mark (some (.ref ea))) (execs (b₀::suite) X.env) Q E s4:=fun s4 σ4 Q E I4 z k=>
    wpAny_mono (hs (X.pn++pins) ea [] s4 σ4 _ _ (I4.wish _) z) (fun f s5 q=>k f s5 q.unwish) fun _ _ z=>z.elim
   have hdn:(pnX X (X.pn++pins)).calm=true→(pnX X (X.pn++pins)).A.handled=none:=I2.ok.hd
   cases hcl with
   | none=>
    refine codeAny_handlers_suite (qCj r3 fun h3 N3=>?_)
    obtain⟨I3,n1,hd3,r4,n3⟩:=vI I2 hex r3 n1 n3 (N3 _)
    refine run _ _ _ _ (qMn (qIq I3 hex n1 r4)) ht fun f s5 q=>?_
    cases f with
    | next=>obtain⟨σ5,H5,J,z⟩:=q;exact⟨σ5,H5,qB6 (qGu J hdn),z⟩
    | brk=>obtain⟨σ5,H5,J,z⟩:=q;exact⟨σ5,H5,qB6 (qGu J hdn),z⟩
    | cont=>obtain⟨σ5,H5,J,z⟩:=q;exact⟨σ5,H5,qB6 (qGu J hdn),z⟩
    | ret u=>obtain⟨v,σ5,H5,J,rv,z⟩:=q;exact⟨v,σ5,H5,qB6 (qGu J hdn),rv,z⟩
   | some hi hl=>
    refine codeAny_handlers_suite_as (qCj r3 fun h3 N3=>?_)
    obtain⟨I3,n1,hd3,r4,n3⟩:=vI I2 hex r3 n1 n3 (N3 _)
    refine vf (X:=hdX (pnX X (X.pn++pins)) ea) (v:=.ref ea) (qMn (qIq I3 hex n1 r4)) hN hi (.inl hl) rfl (fun s4 I4=>?_) (.inr hl)
    refine run _ _ _ _ I4 ht fun f s5 q=>?_
    cases f with
    | next=>obtain⟨σ5,H5,J,z⟩:=q;exact wg (X:=pnX X (X.pn++pins)) (qGu J hdn) hN hi hl fun s6 J6=>⟨_,H5,qB6 J6,z⟩
    | brk=>obtain⟨σ5,H5,J,z⟩:=q;exact wg (X:=pnX X (X.pn++pins)) (qGu J hdn) hN hi hl fun s6 J6=>⟨_,H5,qB6 J6,z⟩
    | cont=>obtain⟨σ5,H5,J,z⟩:=q;exact wg (X:=pnX X (X.pn++pins)) (qGu J hdn) hN hi hl fun s6 J6=>⟨_,H5,qB6 J6,z⟩
    | ret u=>obtain⟨v,σ5,H5,J,rv,z⟩:=q;exact wg (X:=pnX X (X.pn++pins)) (qGu J hdn) hN hi hl fun s6 J6=>⟨v,_,H5,qB6 J6,rv,z⟩
theorem qQu {A:Around}{s:Shared}{y x:V}{u v:Value}(ry:RelV y u)(rx:RelV x v)(fy:xn y=true)(fx:xn x=true):SeqAt.RcAt A s u v (eqV y x)∧SeqAt.RcNeAt A s u v (!eqV y x):=by
 cases y with
 | non=>
  cases ry
  cases x with
  | non=>cases rx;exact⟨SeqAt.RcAt.none_none,SeqAt.RcNeAt.none_none⟩
  | bl b=>cases rx;exact⟨SeqAt.RcAt.none_bool b,SeqAt.RcNeAt.none_bool b⟩
  | int b=>obtain⟨t,rfl⟩:=rx;exact⟨SeqAt.RcAt.none_int b t,SeqAt.RcNeAt.none_int b t⟩
  | str b=>obtain⟨t,rfl⟩:=rx;exact⟨SeqAt.RcAt.none_str b t,SeqAt.RcNeAt.none_str b t⟩
  | _=>exact absurd (show false=true from fx) Bool.false_ne_true
 | bl a=>
  cases ry
  cases x with
  | non=>cases rx;exact⟨SeqAt.RcAt.bool_none a,SeqAt.RcNeAt.bool_none a⟩
  | bl b=>cases rx;exact⟨SeqAt.RcAt.bool_bool a b,SeqAt.RcNeAt.bool_bool a b⟩
  | int b=>obtain⟨t,rfl⟩:=rx;exact⟨SeqAt.RcAt.bool_int a b t,SeqAt.RcNeAt.bool_int a b t⟩
  | str b=>obtain⟨t,rfl⟩:=rx;exact⟨SeqAt.RcAt.bool_str a b t,SeqAt.RcNeAt.bool_str a b t⟩
  | _=>exact absurd (show false=true from fx) Bool.false_ne_true
 | int a=>
  obtain⟨t',rfl⟩:=ry
  cases x with
  | non=>cases rx;exact⟨SeqAt.RcAt.int_none a t',SeqAt.RcNeAt.int_none a t'⟩
  | bl b=>cases rx;exact⟨SeqAt.RcAt.int_bool a t' b,SeqAt.RcNeAt.int_bool a t' b⟩
  | int b=>obtain⟨t,rfl⟩:=rx;exact⟨SeqAt.RcAt.int_int a t' b t,SeqAt.RcNeAt.int_int a t' b t⟩
  | str b=>obtain⟨t,rfl⟩:=rx;exact⟨SeqAt.RcAt.int_str a t' b t,SeqAt.RcNeAt.int_str a t' b t⟩
  | _=>exact absurd (show false=true from fx) Bool.false_ne_true
 | str a=>
  obtain⟨t',rfl⟩:=ry
  cases x with
  | non=>cases rx;exact⟨SeqAt.RcAt.str_none a t',SeqAt.RcNeAt.str_none a t'⟩
  | bl b=>cases rx;exact⟨SeqAt.RcAt.str_bool a t' b,SeqAt.RcNeAt.str_bool a t' b⟩
  | int b=>obtain⟨t,rfl⟩:=rx;exact⟨SeqAt.RcAt.str_int a t' b t,SeqAt.RcNeAt.str_int a t' b t⟩
  | str b=>obtain⟨t,rfl⟩:=rx;exact⟨SeqAt.RcAt.str_str a t' b t,SeqAt.RcNeAt.str_str a t' b t⟩
  | _=>exact absurd (show false=true from fx) Bool.false_ne_true
 | _=>exact absurd (show false=true from fy) Bool.false_ne_true
theorem jp {A:Around}{s:Shared}{x:V}{u:Value}{p:Addr}{its:Array Value}(f:xn x=true)(r:RelV x u)(hu:A.units < cLine)(h:s.heap.IsTuple p its∨s.heap.IsList p its):
 (SeqAt.RcAt A s u (.ref p) false∧SeqAt.RcAt A s (.ref p) u false)∧SeqAt.RcNeAt A s u (.ref p) true∧SeqAt.RcNeAt A s (.ref p) u true:=by
 cases x with
 | non=>
  cases r
  rcases h with h | h
  · exact⟨⟨SeqAt.RcAt.none_tuple h hu,SeqAt.RcAt.tuple_none h hu⟩,SeqAt.RcNeAt.none_tuple h hu,SeqAt.RcNeAt.tuple_none h hu⟩
  · exact⟨⟨SeqAt.RcAt.none_list h hu,SeqAt.RcAt.list_none h hu⟩,SeqAt.RcNeAt.none_list h hu,SeqAt.RcNeAt.list_none h hu⟩
 | bl b=>
  cases r
  rcases h with h | h
  · exact⟨⟨SeqAt.RcAt.bool_tuple _ h hu,SeqAt.RcAt.tuple_bool _ h hu⟩,SeqAt.RcNeAt.bool_tuple _ h hu,SeqAt.RcNeAt.tuple_bool _ h hu⟩
  · exact⟨⟨SeqAt.RcAt.bool_list _ h hu,SeqAt.RcAt.list_bool _ h hu⟩,SeqAt.RcNeAt.bool_list _ h hu,SeqAt.RcNeAt.list_bool _ h hu⟩
 | int i=>
  obtain⟨t,rfl⟩:=r
  rcases h with h | h
  · exact⟨⟨SeqAt.RcAt.int_tuple _ _ h hu,SeqAt.RcAt.tuple_int _ _ h hu⟩,SeqAt.RcNeAt.int_tuple _ _ h hu,SeqAt.RcNeAt.tuple_int _ _ h hu⟩
  · exact⟨⟨SeqAt.RcAt.int_list _ _ h hu,SeqAt.RcAt.list_int _ _ h hu⟩,SeqAt.RcNeAt.int_list _ _ h hu,SeqAt.RcNeAt.list_int _ _ h hu⟩
 | str i=>
  obtain⟨t,rfl⟩:=r
  rcases h with h | h
  · exact⟨⟨SeqAt.RcAt.str_tuple _ _ h hu,SeqAt.RcAt.tuple_str _ _ h hu⟩,SeqAt.RcNeAt.str_tuple _ _ h hu,SeqAt.RcNeAt.tuple_str _ _ h hu⟩
  · exact⟨⟨SeqAt.RcAt.str_list _ _ h hu,SeqAt.RcAt.list_str _ _ h hu⟩,SeqAt.RcNeAt.str_list _ _ h hu,SeqAt.RcNeAt.list_str _ _ h hu⟩
 | _=>cases f
inductive qL8 (K:PySem.W.Frag)(neg:Bool)(x:V)(y:V)(H:Hp)(Q:VK):Prop
| mk (d e:D) (_:Rep K H d x) (_:Rep K H e y) (_:dep d≤60) (_:Q (.bl (if neg then !eqD d e else eqD d e)) H)
theorem qKm {X:Cx}(hu:X.A.units+64 < cLine):OpR X (compareOp .Eq) (qL8 X.K false):=by
 intro pins s σ H x y v u Q I rx ry h
 obtain⟨d,e,r1,r2,hd,q⟩:=h
 have hu0:X.A.units < cLine:=by omega
 by_cases hk:kin d e=true
 · exact qQo hu pins s σ H x y v u Q I rx ry ⟨d,e,r1,r2,hk,hd,q⟩
 have ep:∀ b,b=eqD d e→EP X pins σ Q (.bool b) s:=fun b h=>⟨.bl b,H,I,rfl,by rw [h];exact q⟩
 cases d with
 | leaf a=>
  have r1':=r1
  unfold Rep at r1'
  obtain⟨rfl,f1⟩:=r1'
  cases e with
  | leaf b=>
   have r2':=r2
   unfold Rep at r2'
   obtain⟨rfl,f2⟩:=r2'
   exact(qQu rx ry f1 f2).1 _ _ _ _ (ep _ (by unfold eqD;rfl))
  | tup es=>
   have r2':=r2
   unfold Rep at r2'
   obtain⟨p,ys,rfl,t,_⟩:=r2'
   cases ry
   obtain⟨_,_,i,_⟩:=I.tuple t
   exact(jp f1 rx hu0 (.inl i)).1.1 _ _ _ _ (ep _ (by unfold eqD;rfl))
  | lst es=>
   have r2':=r2
   unfold Rep at r2'
   obtain⟨p,ys,rfl,t,_⟩:=r2'
   cases ry
   obtain⟨_,_,i,_⟩:=I.list t
   exact(jp f1 rx hu0 (.inr i.isList)).1.1 _ _ _ _ (ep _ (by unfold eqD;rfl))
 | tup ds=>
  have r1':=r1
  unfold Rep at r1'
  obtain⟨p,xs,rfl,t1,_⟩:=r1'
  cases rx
  obtain⟨_,_,i1,_⟩:=I.tuple t1
  cases e with
  | leaf b=>
   have r2':=r2
   unfold Rep at r2'
   obtain⟨rfl,f2⟩:=r2'
   exact(jp f2 ry hu0 (.inl i1)).1.2 _ _ _ _ (ep _ (by unfold eqD;rfl))
  | tup es=>exact absurd rfl hk
  | lst es=>
   have r2':=r2
   unfold Rep at r2'
   obtain⟨p',ys,rfl,t,_⟩:=r2'
   cases ry
   obtain⟨_,_,i,_⟩:=I.list t
   exact SeqAt.RcAt.tuple_list i1 i.isList hu0 _ _ _ _ (ep _ (by unfold eqD;rfl))
 | lst ds=>
  have r1':=r1
  unfold Rep at r1'
  obtain⟨p,xs,rfl,t1,_⟩:=r1'
  cases rx
  obtain⟨_,_,i1,_⟩:=I.list t1
  cases e with
  | leaf b=>
   have r2':=r2
   unfold Rep at r2'
   obtain⟨rfl,f2⟩:=r2'
   exact(jp f2 ry hu0 (.inr i1.isList)).1.2 _ _ _ _ (ep _ (by unfold eqD;rfl))
  | lst es=>exact absurd rfl hk
  | tup es=>
   have r2':=r2
   unfold Rep at r2'
   obtain⟨p',ys,rfl,t,_⟩:=r2'
   cases ry
   obtain⟨_,_,i,_⟩:=I.tuple t
   exact SeqAt.RcAt.list_tuple i1.isList i hu0 _ _ _ _ (ep _ (by unfold eqD;rfl))
theorem qHt {X:Cx}(hu:X.A.units+64 < cLine):OpR X (compareOp .NotEq) (qL8 X.K true):=by
 intro pins s σ H x y v u Q I rx ry h
 obtain⟨d,e,r1,r2,hd,q⟩:=h
 have hu0:X.A.units < cLine:=by omega
 by_cases hk:kin d e=true
 · exact qN2 hu pins s σ H x y v u Q I rx ry ⟨d,e,r1,r2,hk,hd,q⟩
 have ep:∀ b,b=(!eqD d e)→EP X pins σ Q (.bool b) s:=fun b h=>⟨.bl b,H,I,rfl,by rw [h];exact q⟩
 cases d with
 | leaf a=>
  have r1':=r1
  unfold Rep at r1'
  obtain⟨rfl,f1⟩:=r1'
  cases e with
  | leaf b=>
   have r2':=r2
   unfold Rep at r2'
   obtain⟨rfl,f2⟩:=r2'
   exact(qQu rx ry f1 f2).2 _ _ _ _ (ep _ (by unfold eqD;rfl))
  | tup es=>
   have r2':=r2
   unfold Rep at r2'
   obtain⟨p,ys,rfl,t,_⟩:=r2'
   cases ry
   obtain⟨_,_,i,_⟩:=I.tuple t
   exact(jp f1 rx hu0 (.inl i)).2.1 _ _ _ _ (ep _ (by unfold eqD;rfl))
  | lst es=>
   have r2':=r2
   unfold Rep at r2'
   obtain⟨p,ys,rfl,t,_⟩:=r2'
   cases ry
   obtain⟨_,_,i,_⟩:=I.list t
   exact(jp f1 rx hu0 (.inr i.isList)).2.1 _ _ _ _ (ep _ (by unfold eqD;rfl))
 | tup ds=>
  have r1':=r1
  unfold Rep at r1'
  obtain⟨p,xs,rfl,t1,_⟩:=r1'
  cases rx
  obtain⟨_,_,i1,_⟩:=I.tuple t1
  cases e with
  | leaf b=>
   have r2':=r2
   unfold Rep at r2'
   obtain⟨rfl,f2⟩:=r2'
   exact(jp f2 ry hu0 (.inl i1)).2.2 _ _ _ _ (ep _ (by unfold eqD;rfl))
  | tup es=>exact absurd rfl hk
  | lst es=>
   have r2':=r2
   unfold Rep at r2'
   obtain⟨p',ys,rfl,t,_⟩:=r2'
   cases ry
   obtain⟨_,_,i,_⟩:=I.list t
   exact SeqAt.RcNeAt.tuple_list i1 i.isList hu0 _ _ _ _ (ep _ (by unfold eqD;rfl))
 | lst ds=>
  have r1':=r1
  unfold Rep at r1'
  obtain⟨p,xs,rfl,t1,_⟩:=r1'
  cases rx
  obtain⟨_,_,i1,_⟩:=I.list t1
  cases e with
  | leaf b=>
   have r2':=r2
   unfold Rep at r2'
   obtain⟨rfl,f2⟩:=r2'
   exact(jp f2 ry hu0 (.inr i1.isList)).2.2 _ _ _ _ (ep _ (by unfold eqD;rfl))
  | lst es=>exact absurd rfl hk
  | tup es=>
   have r2':=r2
   unfold Rep at r2'
   obtain⟨p',ys,rfl,t,_⟩:=r2'
   cases ry
   obtain⟨_,_,i,_⟩:=I.tuple t
   exact SeqAt.RcNeAt.list_tuple i1.isList i hu0 _ _ _ _ (ep _ (by unfold eqD;rfl))
theorem qM {G:Prop}(k:∀ X:Prop,(G→X)→X):G:=k G id
section
variable {X : Cx}
theorem qJ {a:Expr}{ta:TE}{i:Int}{j}{p pos:Pos}(ha:PE X a ta):PE X (.Subscript a (.Constant (.int i) j p) pos) (tOp (qSl X.K) ta (tC (.int i))):=jK qBp ha qG (fun _ _=>rfl)
theorem qX (i:Nat){x:Str}{e:Expr}{te:TE}{pos pos':Pos}(hN:X.N.Nodup)(he:PE X e te)(hi:X.N[i]? =some x:=by rfl)(hx:Loc X.env.scope x:=by exact Or.inl rfl)(hs:swapsWith e (some (.Name x pos')) pos.line X.env=pure false:=by rfl)(hf:X.fn x=true∨X.env.scope.names.lookup x=some .local:=by first | exact .inl rfl | exact .inr rfl | assumption):
 PS X (.Assign [.Name x pos'] e pos) (qSn te (qB4 i)):=qE3 hN hi hx he hs hf
end
end L3
set_option maxRecDepth 100000
namespace Lw
open PySem L2 L3 Mt
seal L2.PSs L2.PS L2.PE L2.PA L2.PT L2.PW L2.PC L2.PI L2.PG L2.PGs L2.PO
def top (i:Nat):Stmt:=PySem.Challenge.pw_reelcut_k46_stretches_told.main.body.getD i (.Pass ⟨0,0,0,0⟩)
theorem scA {N P:List Str}{sc:Scope}(h1:sc.kind= .function:=by rfl)(h2:sc.isCoroutine=false:=by rfl)(h3:sc.isGenerator=false:=by rfl)(h4:N.Nodup:=by decide+kernel)(h5:N.take P.length=P:=by rfl)(h6:∀ x∈P,sc.names.lookup x=some .local∨sc.names.lookup x=some .cell:=by decide+kernel)(h7:∀ y∈sc.names,y.2≠ .free:=by decide+kernel):qQ N P sc:=⟨h1,h2,h3,h4,h5,h6,h7⟩
abbrev qAp:Stmt:=top 8
abbrev xt:Stmt:=top 9
abbrev kK:Stmt:=top 10
abbrev qA9:Stmt:=top 11
abbrev qFi:Stmt:=top 12
abbrev qCo:Stmt:=top 13
abbrev qAz:Stmt:=top 14
abbrev qAt:Stmt:=top 15
abbrev wI:Stmt:=top 16
abbrev qAj:Stmt:=top 17
abbrev qDu:Stmt:=top 23
abbrev zD:Stmt:=top 24
abbrev qAy:Stmt:=top 25
abbrev vA:Stmt:=top 26
abbrev qA3:Stmt:=top 27
abbrev ku:Stmt:=top 28
abbrev wG:Stmt:=top 29
abbrev qGw:Stmt:=top 30
abbrev zK:Stmt:=top 31
abbrev wE:Stmt:=top 32
abbrev wF:Stmt:=top 33
abbrev wK:Stmt:=top 35
abbrev zE:Stmt:=top 36
abbrev kr:Stmt:=top 37
abbrev qBb:Stmt:=top 38
abbrev wS:Stmt:=top 39
abbrev vH:Stmt:=top 40
abbrev qDz:Stmt:=top 41
abbrev qCn:Stmt:=top 42
abbrev kO:Stmt:=top 43
abbrev vt:Stmt:=top 44
abbrev zF:Stmt:=top 45
abbrev xS:Stmt:=top 46
abbrev kW:Stmt:=top 47
abbrev wQ:Stmt:=top 48
abbrev zL:Stmt:=top 49
abbrev vT:Stmt:=top 51
abbrev kE:Stmt:=top 52
abbrev wM:Stmt:=top 53
abbrev vJ:Stmt:=top 54
abbrev qF1:Stmt:=top 55
abbrev kH:Stmt:=top 56
abbrev xu:Stmt:=top 57
abbrev ze:Stmt:=top 58
abbrev qA2:Stmt:=top 59
abbrev kL:Stmt:=top 62
abbrev qE0:Stmt:=top 63
abbrev qBr:Stmt:=top 64
abbrev kZ:Stmt:=top 65
abbrev vy:Stmt:=top 66
abbrev qH1:Stmt:=top 67
abbrev wc:Stmt:=top 68
abbrev qC2:Stmt:=top 69
abbrev qDa:Stmt:=top 70
abbrev qHe:Stmt:=top 71
abbrev zU:Stmt:=top 72
abbrev vM:Stmt:=top 73
abbrev qLd:Stmt:=top 74
abbrev km:Stmt:=top 80
abbrev qC9:Stmt:=top 81
abbrev zn:Stmt:=top 82
abbrev xo:Stmt:=top 83
abbrev zJ:Stmt:=top 84
abbrev kU:Stmt:=top 85
abbrev kC:Stmt:=top 86
abbrev zY:Stmt:=top 87
abbrev vq:Stmt:=top 88
abbrev qEr:Stmt:=top 89
abbrev qLb:Stmt:=top 90
abbrev qJ2:Stmt:=top 91
abbrev qIs:Stmt:=top 92
abbrev qGg:Stmt:=top 93
abbrev qDf:Stmt:=top 94
abbrev wN:Stmt:=top 95
abbrev qD0:Stmt:=top 98
abbrev ww:Stmt:=top 99
abbrev zo:Stmt:=top 101
abbrev kR:Stmt:=top 102
abbrev kG:Stmt:=top 103
abbrev kF:Stmt:=top 104
abbrev kx:Stmt:=top 105
abbrev vB:Stmt:=top 106
abbrev vL:Stmt:=top 107
abbrev vD:Stmt:=top 108
abbrev kJ:Stmt:=top 109
abbrev wR:Stmt:=top 110
abbrev wL:Stmt:=top 112
abbrev zj:Stmt:=top 113
abbrev zh:Stmt:=top 114
abbrev qA5:Stmt:=top 115
abbrev qAe:Stmt:=top 116
abbrev wO:Stmt:=top 117
abbrev xL:Stmt:=top 118
abbrev qAr:Stmt:=top 119
abbrev qRj:Stmt:=top 120
theorem qCy:qQ ["x"] ["x"] (qI qAp):=scA
theorem jr:qQ ["one","other","rest"] ["one","other"] (qI xt):=scA
theorem qD5:qQ ["x"] ["x"] (qI kK):=scA
theorem wH:qQ ["top","bottom","divisor"] ["top","bottom"] (qI qA9):=scA
theorem qOs:qQ ["one","other"] ["one","other"] (qI qFi):=scA
theorem qMk:qQ ["one","other"] ["one","other"] (qI qCo):=scA
theorem qJn:qQ ["one","other"] ["one","other"] (qI qAz):=scA
theorem qI1:qQ ["one","other"] ["one","other"] (qI qAt):=scA
theorem qHi:qQ ["one","other"] ["one","other"] (qI wI):=scA
theorem qJi:qQ ["one"] ["one"] (qI qAj):=scA
theorem qLy:qQ ["thing"] ["thing"] (qI qDu):=scA
theorem qBx:qQ ["item"] ["item"] (qI zD):=scA
theorem qKd:qQ ["clip","k"] ["clip","k"] (qI qAy):=scA
theorem qFm:qQ ["clip","k"] ["clip","k"] (qI vA):=scA
theorem qJs:qQ ["picture","many"] ["picture","many"] (qI qA3):=scA
theorem wX:qQ ["item","reels","many"] ["item","reels"] (qI ku):=scA
theorem qHl:qQ ["clip","low","high"] ["clip","low","high"] (qI wG):=scA
theorem xp:qQ ["first","step","many","room"] ["first","step","many"] (qI zK):=scA
theorem qIf:qQ ["clip","reels"] ["clip","reels"] (qI wE):=scA
theorem qIp:qQ ["clip","reels"] ["clip","reels"] (qI wF):=scA
theorem qIu:qQ ["thing"] ["thing"] (qI wK):=scA
theorem qB8:qQ ["item"] ["item"] (qI zE):=scA
theorem qF6:qQ ["item"] ["item"] (qI kr):=scA
theorem xQ:qQ ["some","track","waiting","item"] ["some"] (qI qBb):=scA
theorem qG0:qQ ["track"] ["track"] (qI wS):=scA
theorem z8:qQ ["track","borders","item"] ["track"] (qI vH):=scA
theorem zA:qQ ["track","moment","begin","place","item","end"] ["track","moment"] (qI qDz):=scA
theorem qL3:qQ ["track","place"] ["track","place"] (qI qCn):=scA
theorem qEk:qQ ["track","place"] ["track","place"] (qI kO):=scA
theorem ke:qQ ["track","moment","found"] ["track","moment"] (qI zF):=scA
theorem zQ:qQ ["track","moment","places"] ["track","moment"] (qI xS):=scA
theorem v6:qQ ["track","moment","found"] ["track","moment"] (qI kW):=scA
theorem qG3:qQ ["item","low","high"] ["item","low","high"] (qI wQ):=scA
theorem qv:qQ ["track","low","high","parts","begin","item","end","first","last"] ["track","low","high"] (qI zL):=scA
theorem qFe:qQ ["length"] ["length"] (qI vT):=scA
theorem qD4:qQ ["length"] ["length"] (qI kE):=scA
theorem xm:qQ ["track","spans","border","item"] ["track"] (qI wM):=scA
theorem qGc:qQ ["length","j"] ["length","j"] (qI vJ):=scA
theorem wu:qQ ["track","moment","places","place","span"] ["track","moment"] (qI qF1):=scA
theorem jG:qQ ["track","place","j","length","ahead","behind","shares","from_border","first","second"] ["track","place","j"] (qI kH):=scA
theorem qAo:qQ ["track","place"] ["track","place"] (qI xu):=scA
theorem qDg:qQ ["track","place"] ["track","place"] (qI ze):=scA
theorem xT:qQ ["track","moment","reels","places","ahead","behind","most_ahead","most_behind"] ["track","moment","reels"] (qI qA2):=scA
theorem qEg:qQ ["table","number","moment"] ["table","number","moment"] (qI kL):=scA
theorem wl:qQ ["table","number","track","tracks"] ["table","number","track"] (qI vM):=scA
theorem qGl:qQ ["deed"] ["deed"] (qI km):=scA
theorem qL9:qQ ["deed"] ["deed"] (qI qC9):=scA
theorem qDb:qQ ["deed"] ["deed"] (qI zn):=scA
theorem qAq:qQ ["table","deed"] ["table","deed"] (qI xo):=scA
theorem qBy:qQ ["deed"] ["deed"] (qI zJ):=scA
theorem vx:qQ ["track","low","high","span"] ["track","low","high"] (qI kU):=scA
theorem zl:qQ ["table","deed","stretch","number"] ["table","deed"] (qI kC):=scA
theorem qC3:qQ ["table","deed","reels"] ["table","deed","reels"] (qI zY):=scA
theorem qCh:qQ ["table","deed","reels","track","places","most"] ["table","deed","reels"] (qI qJ2):=scA
theorem qHn:qQ ["track","low","high","laid","filling"] ["track","low","high","laid"] (qI qGg):=scA
theorem x9:qQ ["table","deed","stretch","told","number","laid"] ["table","deed"] (qI qDf):=scA
theorem qIb:qQ ["table","deed","reels"] ["table","deed","reels"] (qI wN):=scA
theorem vd:qQ ["track","moment","room","mixed","found","item"] ["track","moment","room"] (qI qD0):=scA
theorem zz:qQ ["room","name","moment","tracks","track","told"] ["room","name","moment"] (qI ww):=scA
theorem qC8:qQ ["_law_script","_law_k"] ["_law_script","_law_k"] (qI zo):=scA
theorem jH:qQ ["_law_cell","_law_size","_law_found","_law_rest","_law_k","_law_number"] ["_law_cell","_law_size"] (qI kR):=scA
theorem xX:qQ ["_law_top","_law_bottom","_law_one_here","_law_other"] ["_law_top","_law_bottom"] (qI kG):=scA
theorem qy:qQ ["_law_xs","_law_reels_here","_law_size","_law_reel","_law_length","_law_top","_law_bottom","_law_far","_law_low","_law_rest","_law_start"] ["_law_xs","_law_reels_here","_law_size"] (qI kF):=scA
theorem xw:qQ ["_law_xs","_law_reels_here","_law_size","_law_track_here","_law_k","_law_form"] ["_law_xs","_law_reels_here","_law_size"] (qI kx):=scA
theorem qGn:qQ ["_law_cell"] ["_law_cell"] (qI vB):=scA
theorem jP:qQ ["_law_table_here","_law_reels_here","_law_cell","_law_number","_law_moment","_law_most"] ["_law_table_here","_law_reels_here","_law_cell"] (qI vL):=scA
theorem xy:qQ ["_law_cell","_law_reels_here","_law_tracks","_law_size","_law_xs","_law_tied","_law_table_here"] ["_law_cell","_law_reels_here","_law_tracks","_law_size"] (qI vD):=scA
theorem qEb:qQ ["_law_table_here"] ["_law_table_here"] (qI kJ):=scA
theorem qHs:qQ ["_law_track_here","_law_room","_law_last"] ["_law_track_here","_law_room","_law_last"] (qI wR):=scA
theorem j9:qQ ["_law_xs","_law_number","_law_reels_here","_law_last","_law_word","_law_moment","_law_length","_law_item"] ["_law_xs","_law_number","_law_reels_here","_law_last"] (qI wL):=scA
theorem qC1:qQ ["_law_deed_here"] ["_law_deed_here"] (qI zj):=scA
theorem jA:qQ ["_law_track_here","_law_deed_here","_law_first","_law_last","_law_border","_law_item","_law_begin","_law_end"] ["_law_track_here","_law_deed_here"] (qI zh):=scA
theorem z9:qQ ["_law_told_here","_law_deed_here","_law_put_here","_law_first","_law_last","_law_ahead"] ["_law_told_here","_law_deed_here","_law_put_here"] (qI qA5):=scA
theorem qJ0:qQ ["_law_deed_here","_law_room"] ["_law_deed_here","_law_room"] (qI qAe):=scA
theorem qIl:qQ ["_law_deed_here","_law_last"] ["_law_deed_here","_law_last"] (qI wO):=scA
theorem zG:qQ ["_law_told_here"] ["_law_told_here"] (qI xL):=scA
theorem jL:qQ ["_law_table_here","_law_deed_here","_law_reels_here","_law_room","_law_found","_law_number","_law_track_here","_law_new","_law_last","_law_behind","_law_due_here"] ["_law_table_here","_law_deed_here","_law_reels_here","_law_room"] (qI qAr):=scA
theorem vw:qQ ["_law_script","_law_reels_here","_law_table_here","_law_room","_law_copy","_law_cell","_law_xs","_law_number","_law_last","_law_deed_here"] ["_law_script"] (qI qRj):=scA
abbrev vY:Stmt:=qQ8 (top 6) 0
theorem qOh:qQ ["self","most"] ["self","most"] (qI vY):=⟨rfl,rfl,rfl,by decide+kernel,rfl,by decide+kernel,by decide+kernel⟩
set_option genInjectivity false
set_option genSizeOf false
structure Ads where
 A0:Addr
 B0:FuncData
 A1:Addr
 B1:FuncData
 A2:Addr
 B2:FuncData
 A3:Addr
 B3:FuncData
 A4:Addr
 B4:FuncData
 A5:Addr
 B5:FuncData
 A6:Addr
 B6:FuncData
 A7:Addr
 B7:FuncData
 A8:Addr
 B8:FuncData
 A9:Addr
 B9:FuncData
 A10:Addr
 B10:FuncData
 A11:Addr
 B11:FuncData
 A12:Addr
 B12:FuncData
 A13:Addr
 B13:FuncData
 A14:Addr
 B14:FuncData
 A15:Addr
 B15:FuncData
 A16:Addr
 B16:FuncData
 A17:Addr
 B17:FuncData
 A18:Addr
 B18:FuncData
 A19:Addr
 B19:FuncData
 A20:Addr
 B20:FuncData
 A21:Addr
 B21:FuncData
 A22:Addr
 B22:FuncData
 A23:Addr
 B23:FuncData
 A24:Addr
 B24:FuncData
 A25:Addr
 B25:FuncData
 A26:Addr
 B26:FuncData
 A27:Addr
 B27:FuncData
 A28:Addr
 B28:FuncData
 A29:Addr
 B29:FuncData
 A30:Addr
 B30:FuncData
 A31:Addr
 B31:FuncData
 A32:Addr
 B32:FuncData
 A33:Addr
 B33:FuncData
 A34:Addr
 B34:FuncData
 A35:Addr
 B35:FuncData
 A36:Addr
 B36:FuncData
 A37:Addr
 B37:FuncData
 A38:Addr
 B38:FuncData
 A39:Addr
 B39:FuncData
 A40:Addr
 B40:FuncData
 A41:Addr
 B41:FuncData
 A42:Addr
 B42:FuncData
 A43:Addr
 B43:FuncData
 A44:Addr
 B44:FuncData
 A45:Addr
 B45:FuncData
 A46:Addr
 B46:FuncData
 A47:Addr
 B47:FuncData
 A48:Addr
 B48:FuncData
 A49:Addr
 B49:FuncData
 A50:Addr
 B50:FuncData
 A51:Addr
 B51:FuncData
 A52:Addr
 B52:FuncData
 A53:Addr
 B53:FuncData
 A54:Addr
 B54:FuncData
 A55:Addr
 B55:FuncData
 A56:Addr
 B56:FuncData
 A57:Addr
 B57:FuncData
 A58:Addr
 B58:FuncData
 A59:Addr
 B59:FuncData
 A60:Addr
 B60:FuncData
 A61:Addr
 B61:FuncData
 A62:Addr
 B62:FuncData
 A63:Addr
 B63:FuncData
 A64:Addr
 B64:FuncData
 A65:Addr
 B65:FuncData
 A66:Addr
 B66:FuncData
 A67:Addr
 B67:FuncData
 A68:Addr
 B68:FuncData
 A69:Addr
 B69:FuncData
 A70:Addr
 B70:FuncData
 A71:Addr
 B71:FuncData
 A72:Addr
 B72:FuncData
 A73:Addr
 B73:FuncData
 A74:Addr
 B74:FuncData
 A75:Addr
 B75:FuncData
 A76:Addr
 B76:FuncData
 A77:Addr
 B77:FuncData
 A78:Addr
 B78:FuncData
 A79:Addr
 B79:FuncData
 A80:Addr
 B80:FuncData
 A81:Addr
 B81:FuncData
 A82:Addr
 B82:FuncData
 A83:Addr
 B83:FuncData
 A84:Addr
 B84:FuncData
 A85:Addr
 B85:FuncData
 A86:Addr
 B86:FuncData
 A87:Addr
 B87:FuncData
 A88:Addr
 B88:FuncData
 A89:Addr
 B89:FuncData
 A90:Addr
 B90:FuncData
 A91:Addr
 B91:FuncData
 A92:Addr
 B92:FuncData
 A93:Addr
 B93:FuncData
 A94:Addr
 B94:FuncData
 k_CutError:Addr
 k_NoNumber:Addr
 k_NoClip:Addr
 k_NoPlace:Addr
 k_Mixed:Addr
 k_Short:Addr
 t_LETTERS:Tok
 t_LONGEST_NAME:Tok
 t_MOST_ROOM:Tok
 n_NOUGHT:Addr
 t_MOST_BY:Tok
 n_ROLLS:Addr
 n_LAYS:Addr
 n_PUSHES:Addr
 n_CHANGES:Addr
 n_WHOLE_SHARE:Addr
 fi_Short:Addr
 gi_Short:FuncData
structure Tx (K:PySem.W.Frag)(mg:Str→Option Value)(a:Ads):Prop where
 D0:L3.Def K mg "is_whole" qAp ["x"] a.A0 a.B0
 D1:L3.Def K mg "common_divisor" xt ["one","other"] a.A1 a.B1
 D2:L3.Def K mg "is_fraction" kK ["x"] a.A2 a.B2
 D3:L3.Def K mg "fraction" qA9 ["top","bottom"] a.A3 a.B3
 D4:L3.Def K mg "sum_of" qFi ["one","other"] a.A4 a.B4
 D5:L3.Def K mg "less_by" qCo ["one","other"] a.A5 a.B5
 D6:L3.Def K mg "times_of" qAz ["one","other"] a.A6 a.B6
 D7:L3.Def K mg "quotient" qAt ["one","other"] a.A7 a.B7
 D8:L3.Def K mg "is_before" wI ["one","other"] a.A8 a.B8
 D9:L3.Def K mg "floor_of" qAj ["one"] a.A9 a.B9
 D10:L3.Def K mg "is_name" qDu ["thing"] a.A10 a.B10
 D11:L3.Def K mg "has_clip_form" zD ["item"] a.A11 a.B11
 D12:L3.Def K mg "place_at" qAy ["clip","k"] a.A12 a.B12
 D13:L3.Def K mg "picture_at" vA ["clip","k"] a.A13 a.B13
 D14:L3.Def K mg "is_there" qA3 ["picture","many"] a.A14 a.B14
 D15:L3.Def K mg "check_clip" ku ["item","reels"] a.A15 a.B15
 D16:L3.Def K mg "clip_part" wG ["clip","low","high"] a.A16 a.B16
 D17:L3.Def K mg "goes_on" qGw ["one","other"] a.A17 a.B17
 D18:L3.Def K mg "moments_there" zK ["first","step","many"] a.A18 a.B18
 D19:L3.Def K mg "head_room" wE ["clip","reels"] a.A19 a.B19
 D20:L3.Def K mg "tail_room" wF ["clip","reels"] a.A20 a.B20
 D21:L3.Def K mg "is_length" wK ["thing"] a.A21 a.B21
 D22:L3.Def K mg "has_nest_form" zE ["item"] a.A22 a.B22
 D23:L3.Def K mg "moments_of" kr ["item"] a.A23 a.B23
 D24:L3.Def K mg "one_form" qBb ["some"] a.A24 a.B24
 D25:L3.Def K mg "length_of" wS ["track"] a.A25 a.B25
 D26:L3.Def K mg "borders_of" vH ["track"] a.A26 a.B26
 D27:L3.Def K mg "item_at" qDz ["track","moment"] a.A27 a.B27
 D28:L3.Def K mg "kind_at" qCn ["track","place"] a.A28 a.B28
 D29:L3.Def K mg "place_ahead" kO ["track","place"] a.A29 a.B29
 D30:L3.Def K mg "place_behind" vt ["track","place"] a.A30 a.B30
 D31:L3.Def K mg "neighbours_at" zF ["track","moment"] a.A31 a.B31
 D32:L3.Def K mg "clips_at_border" xS ["track","moment"] a.A32 a.B32
 D33:L3.Def K mg "lies_within" kW ["track","moment"] a.A33 a.B33
 D34:L3.Def K mg "item_part" wQ ["item","low","high"] a.A34 a.B34
 D35:L3.Def K mg "part_of_track" zL ["track","low","high"] a.A35 a.B35
 D36:L3.Def K mg "part_ahead" vT ["length"] a.A36 a.B36
 D37:L3.Def K mg "part_behind" kE ["length"] a.A37 a.B37
 D38:L3.Def K mg "mix_spans" wM ["track"] a.A38 a.B38
 D39:L3.Def K mg "mix_shares" vJ ["length","j"] a.A39 a.B39
 D40:L3.Def K mg "mix_at" qF1 ["track","moment"] a.A40 a.B40
 D41:L3.Def K mg "told_in_mix" kH ["track","place","j"] a.A41 a.B41
 D42:L3.Def K mg "taken_at_begin" xu ["track","place"] a.A42 a.B42
 D43:L3.Def K mg "taken_at_end" ze ["track","place"] a.A43 a.B43
 D44:L3.Def K mg "most_mix" qA2 ["track","moment","reels"] a.A44 a.B44
 D45:L3.Def K mg "check_place" kL ["table","number","moment"] a.A45 a.B45
 D46:L3.Def K mg "check_by" qE0 ["by"] a.A46 a.B46
 D47:L3.Def K mg "clip_there" qBr ["track","moment"] a.A47 a.B47
 D48:L3.Def K mg "clip_and_sides" kZ ["track","moment"] a.A48 a.B48
 D49:L3.Def K mg "places_named" vy ["track","deed"] a.A49 a.B49
 D50:L3.Def K mg "has_mix" qH1 ["track","place"] a.A50 a.B50
 D51:L3.Def K mg "check_short" wc ["most","by"] a.A51 a.B51
 D52:L3.Def K mg "most_slip" qC2 ["clip","by","reels"] a.A52 a.B52
 D53:L3.Def K mg "most_roll" qDa ["left","right","by","reels"] a.A53 a.B53
 D54:L3.Def K mg "slipped" qHe ["track","place","by","reels"] a.A54 a.B54
 D55:L3.Def K mg "with_rolled_ends" zU ["track","first","last","by","reels"] a.A55 a.B55
 D56:L3.Def K mg "table_with" vM ["table","number","track"] a.A56 a.B56
 D57:L3.Def K mg "rolled" qLd ["table","deed","reels"] a.A57 a.B57
 D58:L3.Def K mg "stretch_of" km ["deed"] a.A58 a.B58
 D59:L3.Def K mg "laid_by" qC9 ["deed"] a.A59 a.B59
 D60:L3.Def K mg "laid_on_tied" zn ["deed"] a.A60 a.B60
 D61:L3.Def K mg "tracks_changed" xo ["table","deed"] a.A61 a.B61
 D62:L3.Def K mg "check_numbers" zJ ["deed"] a.A62 a.B62
 D63:L3.Def K mg "touches_mix" kU ["track","low","high"] a.A63 a.B63
 D64:L3.Def K mg "check_mixes" kC ["table","deed"] a.A64 a.B64
 D65:L3.Def K mg "check_change" zY ["table","deed","reels"] a.A65 a.B65
 D66:L3.Def K mg "nest_goes_on" vq ["one","other"] a.A66 a.B66
 D67:L3.Def K mg "can_heal" qEr ["track","places"] a.A67 a.B67
 D68:L3.Def K mg "healed" qLb ["table","deed"] a.A68 a.B68
 D69:L3.Def K mg "mixed" qJ2 ["table","deed","reels"] a.A69 a.B69
 D70:L3.Def K mg "unmixed" qIs ["table","deed"] a.A70 a.B70
 D71:L3.Def K mg "relaid" qGg ["track","low","high","laid"] a.A71 a.B71
 D72:L3.Def K mg "changed" qDf ["table","deed"] a.A72 a.B72
 D73:L3.Def K mg "deed_done" wN ["table","deed","reels"] a.A73 a.B73
 D74:L3.Def K mg "told_on" qD0 ["track","moment","room"] a.A74 a.B74
 D75:L3.Def K mg "told_at" ww ["room","name","moment"] a.A75 a.B75
 D76:L3.Def K mg "_law_cell_at" zo ["_law_script","_law_k"] a.A76 a.B76
 D77:L3.Def K mg "_law_stream" kR ["_law_cell","_law_size"] a.A77 a.B77
 D78:L3.Def K mg "_law_lowest" kG ["_law_top","_law_bottom"] a.A78 a.B78
 D79:L3.Def K mg "_law_clip" kF ["_law_xs","_law_reels_here","_law_size"] a.A79 a.B79
 D80:L3.Def K mg "_law_track" kx ["_law_xs","_law_reels_here","_law_size"] a.A80 a.B80
 D81:L3.Def K mg "_law_reels" vB ["_law_cell"] a.A81 a.B81
 D82:L3.Def K mg "_law_mixed" vL ["_law_table_here","_law_reels_here","_law_cell"] a.A82 a.B82
 D83:L3.Def K mg "_law_table" vD ["_law_cell","_law_reels_here","_law_tracks","_law_size"] a.A83 a.B83
 D84:L3.Def K mg "_law_copied" kJ ["_law_table_here"] a.A84 a.B84
 D85:L3.Def K mg "_law_told" wR ["_law_track_here","_law_room","_law_last"] a.A85 a.B85
 D86:L3.Def K mg "_law_deed" wL ["_law_xs","_law_number","_law_reels_here","_law_last"] a.A86 a.B86
 D87:L3.Def K mg "_law_stretch" zj ["_law_deed_here"] a.A87 a.B87
 D88:L3.Def K mg "_law_touched" zh ["_law_track_here","_law_deed_here"] a.A88 a.B88
 D89:L3.Def K mg "_law_due" qA5 ["_law_told_here","_law_deed_here","_law_put_here"] a.A89 a.B89
 D90:L3.Def K mg "_law_put" qAe ["_law_deed_here","_law_room"] a.A90 a.B90
 D91:L3.Def K mg "_law_long" wO ["_law_deed_here","_law_last"] a.A91 a.B91
 D92:L3.Def K mg "_law_without_end" xL ["_law_told_here"] a.A92 a.B92
 D93:L3.Def K mg "_law_one" qAr ["_law_table_here","_law_deed_here","_law_reels_here","_law_room"] a.A93 a.B93
 D94:L3.Def K mg "law" qRj ["_law_script"] a.A94 a.B94
 c_CutError:mg "CutError"=some (.ref a.k_CutError)
 c_NoNumber:mg "NoNumber"=some (.ref a.k_NoNumber)
 c_NoClip:mg "NoClip"=some (.ref a.k_NoClip)
 c_NoPlace:mg "NoPlace"=some (.ref a.k_NoPlace)
 c_Mixed:mg "Mixed"=some (.ref a.k_Mixed)
 c_Short:mg "Short"=some (.ref a.k_Short)
 b_isinstance:mg "isinstance"=none
 b_int:mg "int"=none
 b_bool:mg "bool"=none
 b_abs:mg "abs"=none
 b_tuple:mg "tuple"=none
 b_len:mg "len"=none
 b_all:mg "all"=none
 b_str:mg "str"=none
 b_min:mg "min"=none
 b_sum:mg "sum"=none
 b_enumerate:mg "enumerate"=none
 b_max:mg "max"=none
 b_zip:mg "zip"=none
 b_list:mg "list"=none
 b_any:mg "any"=none
 b_range:mg "range"=none
 g_LETTERS:mg "LETTERS"=some (.str "abcdefghijklmnopqrstuvwxyz" a.t_LETTERS)
 g_LONGEST_NAME:mg "LONGEST_NAME"=some (.int 8 a.t_LONGEST_NAME)
 g_MOST_ROOM:mg "MOST_ROOM"=some (.int 1000000 a.t_MOST_ROOM)
 g_NOUGHT:mg "NOUGHT"=some (.ref a.n_NOUGHT)
 sq_NOUGHT:∀ H,SqT K H a.n_NOUGHT [.int 0,.int 1]
 g_MOST_BY:mg "MOST_BY"=some (.int 1000000 a.t_MOST_BY)
 g_ROLLS:mg "ROLLS"=some (.ref a.n_ROLLS)
 sq_ROLLS:∀ H,SqT K H a.n_ROLLS [.str "roll",.str "slip",.str "slide"]
 g_LAYS:mg "LAYS"=some (.ref a.n_LAYS)
 sq_LAYS:∀ H,SqT K H a.n_LAYS [.str "lay_in",.str "lay_over"]
 g_PUSHES:mg "PUSHES"=some (.ref a.n_PUSHES)
 sq_PUSHES:∀ H,SqT K H a.n_PUSHES [.str "lay_in",.str "open",.str "close"]
 g_CHANGES:mg "CHANGES"=some (.ref a.n_CHANGES)
 sq_CHANGES:∀ H,SqT K H a.n_CHANGES [.str "cut",.str "lay_in",.str "open",.str "close",.str "lift",.str "lay_over"]
 g_WHOLE_SHARE:mg "WHOLE_SHARE"=some (.ref a.n_WHOLE_SHARE)
 sq_WHOLE_SHARE:∀ H,SqT K H a.n_WHOLE_SHARE [.int 1,.int 1]
 x_NoClip:L3.OwnX K a.k_NoClip
 x_NoPlace:L3.OwnX K a.k_NoPlace
 x_Mixed:L3.OwnX K a.k_Mixed
 yPP:PySem.W.exmOne K (.ref a.k_NoPlace) (.ref a.k_NoPlace)=some true
 yMM:PySem.W.exmOne K (.ref a.k_Mixed) (.ref a.k_Mixed)=some true
 i_Short:Fun K "__init__" "Short.__init__" vY a.fi_Short a.gi_Short
 ib_Short:Binds K a.gi_Short ["self","most"] []
 m_Short:L3.XMk K a.k_Short a.k_CutError a.fi_Short
 tk_Short:PySem.W.takerIn K a.k_Short "most"=some none
inductive qPc (K:PySem.W.Frag)(vs:List V)(H:Hp)(Q:VK)(_:XK):Prop
| mk (a:Addr) (ns:List Int) (_:vs=[.ref a]) (_:SqL K H a (ns.map V.int)) (_:ns.length≤63) (_:∀ H',Q (.bl true) H')
def qPe (H:Hp)(Q:VK)(p q:Int):Prop:=∀ z,H z=none→Q (.ref z) (upd H z (.tup [.int p,.int q]))
theorem jc {CX:CXT}{P:Program}{w:World}{K:PySem.W.Frag}{mg:Str→Option Value}{base:Heap}{ns:List Str}{n:Str}{sc:Scope}{ad:Addr}{cdv:Value}{A:Around}{outer:List Env}{s:Shared}{H:Hp}{E:XK}:(qO3 CX P w K mg base ns n sc ad cdv A outer s H E).K=K:=rfl
theorem qj {CX:CXT}{P:Program}{w:World}{K:PySem.W.Frag}{mg:Str→Option Value}{base:Heap}{ns:List Str}{n:Str}{sc:Scope}{ad:Addr}{cdv:Value}{A:Around}{outer:List Env}{s:Shared}{H:Hp}{E:XK}:(qO3 CX P w K mg base ns n sc ad cdv A outer s H E).nox.K=K:=rfl
theorem sL0:(0:Nat)≤sizeLine:=by decide
theorem sL1:(1:Nat)≤sizeLine:=by decide
theorem sL2:(2:Nat)≤sizeLine:=by decide
theorem sL3:(3:Nat)≤sizeLine:=by decide
theorem sL4:(4:Nat)≤sizeLine:=by decide
theorem sL5:(5:Nat)≤sizeLine:=by decide
theorem glt {α:Type}{xs:List α}{i:Nat}{x:α}(h:xs[i]? =some x):i < xs.length:=(List.getElem?_eq_some_iff.mp h).1
theorem ixT {K:PySem.W.Frag}{σ:St}{H:Hp}{p:Addr}{xs:List V}{i:Int}{v:V}{Q:VK}(h:SqT K H p xs)(a:atI xs i=some v)(q:Q v H):tC (.int i) σ H (fun y H2=>qSl K (.ref p) y H2 Q):=⟨p,xs,i,v,rfl,rfl,h,a,q⟩
theorem vZ {K:PySem.W.Frag}{σ:St}{H:Hp}{p:Addr}{xs:List V}{i:Int}{v:V}{Q:VK}{j:Nat}(e:σ[j]? =some (some (.ref p)))(h:SqT K H p xs)(a:atI xs i=some v)(q:Q v H):tOp (qSl K) (qUa j) (tC (.int i)) σ H Q:=⟨.ref p,e,p,xs,i,v,rfl,rfl,h,a,q⟩
theorem ixO {K:PySem.W.Frag}{σ:St}{H:Hp}{p:Addr}{xs:List V}{i:Int}{v:V}{Q:VK}{j:Nat}(h:H p=some (.tup xs))(a:atI xs i=some v)(q:Q v H)(e:σ[j]? =some (some (.ref p)):=by rfl):tOp (qSl K) (qUa j) (tC (.int i)) σ H Q:=vZ e (SqT.of h) a q
section
variable {P : Program} {w : World} {K : W.Frag} {mg : Str → Option Value} {base : Heap} {a : Ads}
inductive qI0 (vs:List V)(H:Hp)(Q:VK)(_:XK):Prop
| mk (i:Int) (_:vs=[.int i]) (_:Q (.bl true) H)
theorem qDw (T:Tx K mg a):FnOk P w K mg base CX0 1 a.A0 a.B0 ["x"] qI0:=by
 refine T.D0.F.ok qCy (fun vs H Q E h=>?_) (fun cdv A outer s H vs Q E hr h=>?_)
 · obtain⟨i,rfl,_⟩:=h
   rfl
 refine qM fun _ Y=>?_
 obtain⟨i,rfl,q⟩:=h
 apply Y
 refine⟨_,(qF (qL (vv (qc jQ rfl T.b_isinstance rfl (qA (pv 0) (qA (qD2 rfl T.b_int rfl) qE))) (qBj (qQp (qc jQ rfl T.b_isinstance rfl (qA (pv 0) (qA (qD2 rfl T.b_bool rfl) qE)))))))),?_⟩
 try dsimp only [jc,qj]
 refine⟨_,rfl,_,_,_,true,rfl,.int i,⟨_,.inl ⟨rfl,rfl⟩⟩,true,rfl,jI ?_⟩
 refine⟨_,rfl,_,_,_,false,rfl,.int i,⟨_,.inl ⟨rfl,by kernel_rfl⟩⟩,false,rfl,?_⟩
 exact q
inductive qA8 (vs:List V)(H:Hp)(Q:VK)(_:XK):Prop
| mk (i j:Int) (_:vs=[.int i,.int j]) (_:Q (.int ((Int.gcd i j:Nat):Int)) H)
theorem zq (T:Tx K mg a):FnOk P w K mg base CX0 1 a.A1 a.B1 ["one","other"] qA8:=by
 refine T.D1.F.ok jr (fun vs H Q E h=>?_) (fun cdv A outer s H vs Q E hr h=>?_)
 · obtain⟨i,j,rfl,_⟩:=h
   rfl
 refine qM fun _ Y=>?_
 obtain⟨i,j,rfl,q⟩:=h
 apply Y
 refine⟨_,(qD (qF7 PassesOwn.never (qH zP (pv 1) qG (qN _)) (qD (qX 2 jr.nd (qO qq (pv 0) (pv 1)))
  (qD (qX 0 jr.nd (pv 1))
  (qF (qX 1 jr.nd (pv 2))))))
  (qF (qL (qc qFs rfl T.b_abs rfl (qA (pv 0) qE))))),?_⟩
 try dsimp only [jc,qj]
 refine qKt (fun σ H'=>H'=H∧∃ (x y:Int) (v:Option V),σ=[some (.int x),some (.int y),v]∧Int.gcd x y=Int.gcd i j)
  (fun σ _=>match σ with | [_,some (.int y),_]=>y.natAbs | _=>0) ⟨rfl,i,j,none,rfl,rfl⟩ ?_ ?_
 · rintro σ H1 ⟨rfl,x,y,v,rfl,e⟩
   refine⟨_,rfl,rfl,_,rfl,?_⟩
   refine ju (fun c=>?_) (fun c=>?_)
   · have hy:y≠0:=by simpa using c
     refine⟨_,rfl,_,rfl,_,_,rfl,rfl,hy,_,rfl,_,rfl,⟨rfl,y,x.fmod y,_,rfl,?_⟩,?_⟩
     · rw [qLg];exact e
     · exact qM6 x y hy
   · have hy:y=0:=by simpa using c
     subst hy
     refine⟨_,rfl,x,rfl,?_⟩
     have e2:(if x < 0 then -x else x)=((Int.gcd i j:Nat):Int):=by
      rw [← e,Int.gcd_zero_right]
      split <;> omega
     rw [e2]
     exact q
 · rintro σ H1 Q1 Q2 hq h
   refine qM fun _ Y=>?_
   obtain⟨v,e,s,k,hk,z⟩:=h
   apply Y
   exact⟨v,e,s,k,hk,hq _ _ z⟩
theorem qK8 {t b:Int}(h:b≠0)(hb:b.natAbs < 2 ^ 8000):CDivB t (sg t b)∧CDivB b (sg t b):=by
 have h1:=qVx (t:=t) h
 have h2:(sg t b).natAbs < 2 ^ 8000:=by
  rw [qLi]
  exact Nat.lt_of_le_of_lt (Nat.le_of_dvd (by omega) (Int.gcd_dvd_natAbs_right ..)) hb
 exact⟨⟨h1,h2⟩,⟨h1,h2⟩⟩
inductive qJr (vs:List V)(H:Hp)(Q:VK)(_:XK):Prop
| mk (t b:Int) (_:vs=[.int t,.int b]) (_:b≠0) (_:b.natAbs < 2 ^ 8000) (_:qPe H Q (jk t b) (jU t b))
theorem jo (T:Tx K mg a):FnOk P w K mg base CX0 2 a.A3 a.B3 ["top","bottom"] qJr:=by
 refine T.D3.F.ok wH (fun vs H Q E h=>?_) (fun cdv A outer s H vs Q E hr h=>?_)
 · obtain⟨t,b,rfl,_⟩:=h
   rfl
 refine qM fun _ Y=>?_
 obtain⟨t,b,rfl,hb,hs,q⟩:=h
 apply Y
 refine⟨_,(qD (qd (PW.pt (j2 (ji (jO (qK T.D0 (qDw T) hr rfl (qA (pv 0) qE)))) (jV (ji (jO (qK T.D0 (qDw T) hr rfl (qA (pv 1) qE))))))) vR qP)
  (qD (qd (qH jX (pv 1) qG (qN _)) vR qP)
  (qD (qX 2 wH.nd (qK T.D1 (zq T) hr rfl (qA (pv 0) (qA (pv 1) qE))))
  (qD (qd (qH xx (pv 1) qG (qN _)) (qF (qX 2 wH.nd (kh xP (pv 2)))) qP)
  (qF (qL (qo (qA (qO qg (pv 0) (pv 2)) (qA (qO qg (pv 1) (pv 2)) qE))))))))),?_⟩
 try dsimp only [jc,qj]
 refine⟨_,rfl,t,rfl,true,rfl,qm ?_⟩
 refine⟨_,rfl,b,rfl,true,rfl,qm ?_⟩
 refine⟨_,rfl,rfl,_,rfl,?_⟩
 refine ju (fun c=>absurd (by simpa using c) hb) (fun _=>?_)
 refine⟨_,rfl,_,rfl,t,b,rfl,?_⟩
 refine⟨_,rfl,_,_,rfl,rfl,_,rfl,?_⟩
 obtain⟨d1,d2⟩:=qK8 (t:=t) hb hs
 refine ju (fun c=>?_) (fun c=>?_)
 · have c':b < 0:=by simpa using c
   have e:-((Int.gcd t b:Nat):Int)=sg t b:=by unfold sg;rw [if_pos c']
   have q':qPe H Q (t.fdiv (-((Int.gcd t b:Nat):Int))) (b.fdiv (-((Int.gcd t b:Nat):Int))):=by rw [e];exact q
   exact⟨_,rfl,_,rfl,_,rfl,_,rfl,_,_,rfl,rfl,(by rw [e];exact d1),_,rfl,_,rfl,_,_,rfl,rfl,(by rw [e];exact d2),sL2,q'⟩
 · have c':¬ b < 0:=by simpa using c
   have e:((Int.gcd t b:Nat):Int)=sg t b:=by unfold sg;rw [if_neg c']
   have q':qPe H Q (t.fdiv ((Int.gcd t b:Nat):Int)) (b.fdiv ((Int.gcd t b:Nat):Int)):=by rw [e];exact q
   exact⟨_,rfl,_,rfl,_,_,rfl,rfl,(by rw [e];exact d1),_,rfl,_,rfl,_,_,rfl,rfl,(by rw [e];exact d2),sL2,q'⟩
def Pr (K:W.Frag)(H:Hp)(v:V)(p q:Int):Prop:=∃ z,v= .ref z∧SqT K H z [.int p,.int q]
def Sm (i:Int):Prop:=i.natAbs < 2 ^ 3000
theorem Sm.mul {i j:Int}(h1:Sm i)(h2:Sm j):CMulB i j:=by
 unfold Sm at h1 h2
 have:(2:Nat) ^ 3000≤2 ^ 60000:=Nat.pow_le_pow_right (by decide) (by decide)
 exact .inr ⟨by omega,by omega⟩
theorem Sm.prod {i j:Int}(h1:Sm i)(h2:Sm j):(i*j).natAbs < 2 ^ 8000:=by
 unfold Sm at h1 h2
 rw [Int.natAbs_mul]
 have h3:i.natAbs*j.natAbs < 2 ^ 3000*2 ^ 3000:=Nat.mul_lt_mul'' h1 h2
 rw [← Nat.pow_add] at h3
 exact Nat.lt_of_lt_of_le h3 (Nat.pow_le_pow_right (by decide) (by decide))
theorem at0 {x y:V}:atI [x,y] 0=some x:=rfl
theorem at1 {x y:V}:atI [x,y] 1=some y:=rfl
inductive qMs (K:W.Frag)(vs:List V)(H:Hp)(Q:VK)(_:XK):Prop
| mk (x y:V) (p q r s:Int) (_:vs=[x,y]) (_:Pr K H x p q) (_:Pr K H y r s) (_:q≠0) (_:s≠0) (_:Sm p) (_:Sm q) (_:Sm r) (_:Sm s) (_:qPe H Q (jk (p*s+r*q) (q*s)) (jU (p*s+r*q) (q*s)))
theorem qNt (T:Tx K mg a):FnOk P w K mg base CX0 3 a.A4 a.B4 ["one","other"] (qMs K):=by
 refine T.D4.F.ok qOs (fun vs H Q E h=>?_) (fun cdv A outer s H vs Q E hr h=>?_)
 · obtain⟨x,y,p,q,r,s,rfl,_⟩:=h
   rfl
 refine qM fun _ Y=>?_
 obtain⟨x,y,p,q,r,s',rfl,⟨z1,rfl,h1⟩,⟨z2,rfl,h2⟩,hq,hs,bp,bq,br,bs,k⟩:=h
 apply Y
 refine⟨_,(qF (qL (qK T.D3 (jo T) hr rfl (qA (qO qp (qO jC (qJ (pv 0)) (qJ (pv 1))) (qO jC (qJ (pv 1)) (qJ (pv 0)))) (qA (qO jC (qJ (pv 0)) (qJ (pv 1))) qE))))),?_⟩
 try dsimp only [jc,qj]
 refine(vZ rfl h1 at0 (vZ rfl h2 at1 ⟨_,_,rfl,rfl,bp.mul bs,?_⟩))
 refine(vZ rfl h2 at0 (vZ rfl h1 at1 ⟨_,_,rfl,rfl,br.mul bq,_,_,rfl,rfl,?_⟩))
 refine(vZ rfl h1 at1 (vZ rfl h2 at1 ⟨_,_,rfl,rfl,bq.mul bs,?_⟩))
 exact⟨_,_,rfl,Int.mul_ne_zero hq hs,bq.prod bs,k⟩
inductive qJw (K:W.Frag)(vs:List V)(H:Hp)(Q:VK)(_:XK):Prop
| mk (x:V) (p q:Int) (_:vs=[x]) (_:Pr K H x p q) (_:q≠0) (_:q.natAbs < 2 ^ 8000) (_:Q (.int (p.fdiv q)) H)
theorem z7 (T:Tx K mg a):FnOk P w K mg base CX0 1 a.A9 a.B9 ["one"] (qJw K):=by
 refine T.D9.F.ok qJi (fun vs H Q E h=>?_) (fun cdv A outer s H vs Q E hr h=>?_)
 · obtain⟨x,p,q,rfl,_⟩:=h
   rfl
 refine qM fun _ Y=>?_
 obtain⟨x,p,q,rfl,⟨z1,rfl,h1⟩,hq,bq,k⟩:=h
 apply Y
 refine⟨_,(qF (qL (qO qg (qJ (pv 0)) (qJ (pv 0))))),?_⟩
 try dsimp only [jc,qj]
 exact(vZ rfl h1 at0 (vZ rfl h1 at1 ⟨_,_,rfl,rfl,⟨hq,bq⟩,k⟩))
theorem nz {j:Int}(h:j≠0:=by decide):j≠0:=h
theorem cdB {i j:Int}(h0:j≠0)(h:j.natAbs < 18446744073709551616):CDivB i j:=
 ⟨h0,Nat.lt_of_lt_of_le h (Nat.le_trans (by decide:18446744073709551616≤2 ^ 64) (Nat.pow_le_pow_right (by decide) (by decide)))⟩
theorem cmR {i j:Int}(h1:-(18446744073709551616:Int) < j)(h2:j < 18446744073709551616):CMulB i j:=.inl (.inr ⟨h1,h2⟩)
theorem cmL {i j:Int}(h1:-(18446744073709551616:Int) < i)(h2:i < 18446744073709551616):CMulB i j:=.inl (.inl ⟨h1,h2⟩)
theorem at2 {x y:V}{i:Int}(h0:0≤i)(h1:i < 2):∃ v,atI [x,y] i=some v∧(v=x∨v=y):=by
 have:i=0∨i=1:=by omega
 rcases this with rfl | rfl
 · exact⟨x,rfl,.inl rfl⟩
 · exact⟨y,rfl,.inr rfl⟩
theorem fm (i:Int){j:Int}(h:0 < j):0≤i.fmod j∧i.fmod j < j:=⟨Int.fmod_nonneg_of_pos i h,Int.fmod_lt_of_pos i h⟩
theorem cpw {n:Nat}(h:n≤1000000):qV6 10 (n:Int):=⟨by omega,by omega,by decide⟩
def qOq (n:Nat)(p q:Int):Prop:=0 < q∧Int.gcd p q=1∧p.natAbs < 2 ^ n∧q.natAbs < 2 ^ n
theorem Sm.of200 {i:Int}(h:i.natAbs < 2 ^ 200):Sm i:=Nat.lt_of_lt_of_le h (Nat.pow_le_pow_right (by decide) (by decide))
theorem qK4 {n:Nat}{t b:Int}(hb:0 < b)(h1:t.natAbs < 2 ^ n)(h2:b.natAbs < 2 ^ n):qOq n (jk t b) (jU t b):=
 ⟨xE (by omega),qCu (by omega),Nat.lt_of_le_of_lt (qCb (by omega)) h1,Nat.lt_of_le_of_lt (kA (by omega)) h2⟩
inductive qJj (K:W.Frag)(vs:List V)(H:Hp)(Q:VK)(_:XK):Prop
| mk (x y:V) (p q r s:Int) (_:vs=[x,y]) (_:Pr K H x p q) (_:Pr K H y r s) (_:q≠0) (_:s≠0) (_:Sm p) (_:Sm q) (_:Sm r) (_:Sm s) (_:qPe H Q (jk (p*r) (q*s)) (jU (p*r) (q*s)))
theorem qKb (T:Tx K mg a):FnOk P w K mg base CX0 3 a.A6 a.B6 ["one","other"] (qJj K):=by
 refine T.D6.F.ok qJn (fun vs H Q E h=>?_) (fun cdv A outer s H vs Q E hr h=>?_)
 · obtain⟨x,y,p,q,r,s,rfl,_⟩:=h
   rfl
 refine qM fun _ Y=>?_
 obtain⟨x,y,p,q,r,s',rfl,⟨z1,rfl,h1⟩,⟨z2,rfl,h2⟩,hq,hs,bp,bq,br,bs,k⟩:=h
 apply Y
 refine⟨_,(qF (qL (qK T.D3 (jo T) hr rfl (qA (qO jC (qJ (pv 0)) (qJ (pv 1))) (qA (qO jC (qJ (pv 0)) (qJ (pv 1))) qE))))),?_⟩
 try dsimp only [jc,qj]
 refine(vZ rfl h1 at0 (vZ rfl h2 at0 ⟨_,_,rfl,rfl,bp.mul br,?_⟩))
 refine(vZ rfl h1 at1 (vZ rfl h2 at1 ⟨_,_,rfl,rfl,bq.mul bs,?_⟩))
 exact⟨_,_,rfl,Int.mul_ne_zero hq hs,bq.prod bs,k⟩
inductive qL5 (K:W.Frag)(vs:List V)(H:Hp)(Q:VK)(_:XK):Prop
| mk (x y:V) (p q r s:Int) (_:vs=[x,y]) (_:Pr K H x p q) (_:Pr K H y r s) (_:q≠0) (_:s≠0) (_:Sm p) (_:Sm q) (_:Sm r) (_:Sm s) (_:qPe H Q (jk (p*s - r*q) (q*s)) (jU (p*s - r*q) (q*s)))
theorem qA4 (T:Tx K mg a):FnOk P w K mg base CX0 3 a.A5 a.B5 ["one","other"] (qL5 K):=by
 refine T.D5.F.ok qMk (fun vs H Q E h=>?_) (fun cdv A outer s H vs Q E hr h=>?_)
 · obtain⟨x,y,p,q,r,s,rfl,_⟩:=h
   rfl
 refine qM fun _ Y=>?_
 obtain⟨x,y,p,q,r,s',rfl,⟨z1,rfl,h1⟩,⟨z2,rfl,h2⟩,hq,hs,bp,bq,br,bs,k⟩:=h
 apply Y
 refine⟨_,(qF (qL (qK T.D3 (jo T) hr rfl (qA (qO jM (qO jC (qJ (pv 0)) (qJ (pv 1))) (qO jC (qJ (pv 1)) (qJ (pv 0)))) (qA (qO jC (qJ (pv 0)) (qJ (pv 1))) qE))))),?_⟩
 try dsimp only [jc,qj]
 refine(vZ rfl h1 at0 (vZ rfl h2 at1 ⟨_,_,rfl,rfl,bp.mul bs,?_⟩))
 refine(vZ rfl h2 at0 (vZ rfl h1 at1 ⟨_,_,rfl,rfl,br.mul bq,_,_,rfl,rfl,?_⟩))
 refine(vZ rfl h1 at1 (vZ rfl h2 at1 ⟨_,_,rfl,rfl,bq.mul bs,?_⟩))
 exact⟨_,_,rfl,Int.mul_ne_zero hq hs,bq.prod bs,k⟩
inductive qKa (K:W.Frag)(vs:List V)(H:Hp)(Q:VK)(_:XK):Prop
| mk (x y:V) (p q r s:Int) (_:vs=[x,y]) (_:Pr K H x p q) (_:Pr K H y r s) (_:q≠0) (_:r≠0) (_:Sm p) (_:Sm q) (_:Sm r) (_:Sm s) (_:qPe H Q (jk (p*s) (q*r)) (jU (p*s) (q*r)))
theorem qDq (T:Tx K mg a):FnOk P w K mg base CX0 3 a.A7 a.B7 ["one","other"] (qKa K):=by
 refine T.D7.F.ok qI1 (fun vs H Q E h=>?_) (fun cdv A outer s H vs Q E hr h=>?_)
 · obtain⟨x,y,p,q,r,s,rfl,_⟩:=h
   rfl
 refine qM fun _ Y=>?_
 obtain⟨x,y,p,q,r,s',rfl,⟨z1,rfl,h1⟩,⟨z2,rfl,h2⟩,hq,hr',bp,bq,br,bs,k⟩:=h
 apply Y
 refine⟨_,(qF (qL (qK T.D3 (jo T) hr rfl (qA (qO jC (qJ (pv 0)) (qJ (pv 1))) (qA (qO jC (qJ (pv 0)) (qJ (pv 1))) qE))))),?_⟩
 try dsimp only [jc,qj]
 refine(vZ rfl h1 at0 (vZ rfl h2 at1 ⟨_,_,rfl,rfl,bp.mul bs,?_⟩))
 refine(vZ rfl h1 at1 (vZ rfl h2 at0 ⟨_,_,rfl,rfl,bq.mul br,?_⟩))
 exact⟨_,_,rfl,Int.mul_ne_zero hq hr',bq.prod br,k⟩
inductive NoW (H:Hp):V→Prop where
 | non:NoW H .non
 | bl (b:Bool):NoW H (.bl b)
 | str (z:Str):NoW H (.str z)
 | lst {a:Addr} {xs:List V} (e:H a=some (.lst xs)):NoW H (.ref a)
 | tup {a:Addr} {xs:List V} (e:H a=some (.tup xs)):NoW H (.ref a)
theorem NoW.same {H H':Hp}{x:V}(s:Same H H'):NoW H x→NoW H' x
 | .non=>.non
 | .bl b=>.bl b
 | .str z=>.str z
 | .lst e=>.lst (s _ _ e)
 | .tup e=>.tup (s _ _ e)
def WhB (H:Hp)(x:V)(b:Bool):Prop:=(∃ i:Int,x= .int i∧b=true)∨(NoW H x∧b=false)
theorem WhB.int {H:Hp}(i:Int):WhB H (.int i) true:=.inl ⟨i,rfl,rfl⟩
theorem WhB.no {H:Hp}{x:V}(h:NoW H x):WhB H x false:=.inr ⟨h,rfl⟩
theorem WhB.ty {H:Hp}{x:V}{b:Bool}(h:WhB H x b):∃ t i c,qEv K H x t∧W.kitOne K t (.type "int")=some i∧W.kitOne K t (.type "bool")=some c∧b=(i && !c):=by
 rcases h with ⟨i,rfl,rfl⟩ | ⟨h,rfl⟩
 · exact⟨_,true,false,.int i,by kernel_rfl,by kernel_rfl,rfl⟩
 · cases h with
   | non=>exact⟨_,false,false,.non,by kernel_rfl,by kernel_rfl,rfl⟩
   | bl b=>exact⟨_,true,true,.bl b,by kernel_rfl,by kernel_rfl,rfl⟩
   | str z=>exact⟨_,false,false,.str z,by kernel_rfl,by kernel_rfl,rfl⟩
   | lst e=>exact⟨_,false,false,.lst e,by kernel_rfl,by kernel_rfl,rfl⟩
   | tup e=>exact⟨_,false,false,.tup e,by kernel_rfl,by kernel_rfl,rfl⟩
inductive qF0 (vs:List V)(H:Hp)(Q:VK)(_:XK):Prop
| mk (x:V) (b:Bool) (_:vs=[x]) (_:WhB H x b) (_:Q (.bl b) H)
theorem jF (T:Tx K mg a):FnOk P w K mg base CX0 1 a.A0 a.B0 ["x"] qF0:=by
 refine T.D0.F.ok qCy (fun vs H Q E h=>?_) (fun cdv A outer s H vs Q E hr h=>?_)
 · obtain⟨x,b,rfl,_⟩:=h
   rfl
 refine qM fun _ Y=>?_
 obtain⟨x,b,rfl,hx,q⟩:=h
 apply Y
 refine⟨_,(qF (qL (vv (qc jQ rfl T.b_isinstance rfl (qA (pv 0) (qA (qD2 rfl T.b_int rfl) qE))) (qBj (qQp (qc jQ rfl T.b_isinstance rfl (qA (pv 0) (qA (qD2 rfl T.b_bool rfl) qE)))))))),?_⟩
 try dsimp only [jc,qj]
 refine qM fun _ Y=>?_
 obtain⟨t,i,c,ty,e1,e2,rfl⟩:=hx.ty (K:=K)
 apply Y
 refine⟨_,rfl,_,_,_,i,rfl,ty,⟨_,.inl ⟨rfl,e1⟩⟩,i,rfl,?_⟩
 cases i with
 | false=>exact qm q
 | true=>exact jI ⟨_,rfl,_,_,_,c,rfl,ty,⟨_,.inl ⟨rfl,e2⟩⟩,c,rfl,q⟩
inductive FrB (K:W.Frag)(H:Hp):V→Bool→Prop where
 | no {x:V} {t:Value} (ty:qEv K H x t) (e:W.kitOne K t (.type "tuple")=some false):FrB K H x false
 | len {z:Addr} {xs:List V} (e:H z=some (.tup xs)) (h:xs.length≠2):FrB K H (.ref z) false
 | one {z:Addr} {x y:V} (e:H z=some (.tup [x,y])) (h:NoW H x):FrB K H (.ref z) false
 | two {z:Addr} {i:Int} {y:V} (e:H z=some (.tup [.int i,y])) (h:NoW H y):FrB K H (.ref z) false
 | nums {z:Addr} {p q:Int} (e:H z=some (.tup [.int p,.int q])):FrB K H (.ref z) (decide (1≤q) && decide (Int.gcd p q=1))
inductive qEj (K:W.Frag)(vs:List V)(H:Hp)(Q:VK)(_:XK):Prop
| mk (x:V) (b:Bool) (_:vs=[x]) (_:FrB K H x b) (_:Q (.bl b) H)
theorem v8 (T:Tx K mg a):FnOk P w K mg base CX0 2 a.A2 a.B2 ["x"] (qEj K):=by
 refine T.D2.F.ok qD5 (fun vs H Q E h=>?_) (fun cdv A outer s H vs Q E hr h=>?_)
 · obtain⟨x,b,rfl,_⟩:=h
   rfl
 refine qM fun _ Y=>?_
 obtain⟨x,b,rfl,hx,k⟩:=h
 apply Y
 refine⟨_,(qD (qd (PW.pt (j2 (ji (jO (qc jQ rfl T.b_isinstance rfl (qA (pv 0) (qA (qD2 rfl T.b_tuple rfl) qE))))) (jV (qH zP (qc jY rfl T.b_len rfl (qA (pv 0) qE)) qG (qN _))))) (qF (qL zu)) qP)
  (qD (qd (PW.pt (j2 (ji (jO (qK T.D0 (jF T) hr rfl (qA (qJ (pv 0)) qE)))) (jV (ji (jO (qK T.D0 (jF T) hr rfl (qA (qJ (pv 0)) qE))))))) (qF (qL zu)) qP)
  (qF (qL (vv (xD qGb (qJ (pv 0)) qG (qN _)) (qBj (xD jX (qK T.D1 (zq T) hr rfl (qA (qJ (pv 0)) (qA (qJ (pv 0)) qE))) qG (qN _)))))))),?_⟩
 try dsimp only [jc,qj]
 cases hx with
 | no ty e=>exact⟨_,rfl,_,_,_,false,rfl,ty,⟨_,.inl ⟨rfl,e⟩⟩,false,rfl,jI (jI k)⟩
 | @len z xs e h=>
  refine⟨_,rfl,_,_,_,true,rfl,.tup e,⟨_,.inl ⟨rfl,by kernel_rfl⟩⟩,true,rfl,qm ?_⟩
  refine⟨_,rfl,_,_,rfl,.inr (SqT.of e),rfl,_,rfl,?_⟩
  have d:(!decide (V.int (xs.length:Int)=V.int 2))=true:=by
   have:¬ (V.int (xs.length:Int)=V.int 2):=fun z=>h (by injection z with z;omega)
   simp [this]
  rw [d]
  exact jI k
 | @one z x y e h=>
  refine⟨_,rfl,_,_,_,true,rfl,.tup e,⟨_,.inl ⟨rfl,by kernel_rfl⟩⟩,true,rfl,qm ?_⟩
  refine⟨_,rfl,_,_,rfl,.inr (SqT.of e),rfl,_,rfl,qm ?_⟩
  exact(ixO e at0 ⟨x,false,rfl,.no h,false,rfl,jI (jI k)⟩)
 | @two z i y e h=>
  refine⟨_,rfl,_,_,_,true,rfl,.tup e,⟨_,.inl ⟨rfl,by kernel_rfl⟩⟩,true,rfl,qm ?_⟩
  refine⟨_,rfl,_,_,rfl,.inr (SqT.of e),rfl,_,rfl,qm ?_⟩
  refine(ixO e at0 ⟨_,true,rfl,.int i,true,rfl,qm ?_⟩)
  exact(ixO e at1 ⟨y,false,rfl,.no h,false,rfl,jI k⟩)
 | @nums z p q e=>
  refine⟨_,rfl,_,_,_,true,rfl,.tup e,⟨_,.inl ⟨rfl,by kernel_rfl⟩⟩,true,rfl,qm ?_⟩
  refine⟨_,rfl,_,_,rfl,.inr (SqT.of e),rfl,_,rfl,qm ?_⟩
  refine(ixO e at0 ⟨_,true,rfl,.int p,true,rfl,qm ?_⟩)
  refine(ixO e at1 ⟨_,true,rfl,.int q,true,rfl,qm ?_⟩)
  refine(ixO e at1 ⟨_,_,rfl,rfl,decide (1≤q),rfl,?_⟩)
  by_cases hq:1≤q
  · rw [decide_eq_true hq] at k ⊢
    refine jI (ixO e at0 (ixO e at1 ⟨p,q,rfl,rfl,?_⟩))
    have d:decide (V.int ((Int.gcd p q:Nat):Int)=V.int 1)=(true && decide (Int.gcd p q=1)):=by
     rw [Bool.true_and,Bool.eq_iff_iff,decide_eq_true_eq,decide_eq_true_eq]
     constructor
     · intro z;injection z with z;omega
     · intro z;rw [z];rfl
    rw [d]
    exact k
  · rw [decide_eq_false hq] at k ⊢
    exact qm k
inductive qHv (K:W.Frag)(vs:List V)(H:Hp)(Q:VK)(_:XK):Prop
| mk (x y:V) (p q r s:Int) (_:vs=[x,y]) (_:Pr K H x p q) (_:Pr K H y r s) (_:Sm p) (_:Sm q) (_:Sm r) (_:Sm s) (_:Q (.bl (decide (p*s < r*q))) H)
theorem qHu (T:Tx K mg a):FnOk P w K mg base CX0 1 a.A8 a.B8 ["one","other"] (qHv K):=by
 refine T.D8.F.ok qHi (fun vs H Q E h=>?_) (fun cdv A outer s H vs Q E hr h=>?_)
 · obtain⟨x,y,p,q,r,s,rfl,_⟩:=h
   rfl
 refine qM fun _ Y=>?_
 obtain⟨x,y,p,q,r,s',rfl,⟨z1,rfl,h1⟩,⟨z2,rfl,h2⟩,bp,bq,br,bs,k⟩:=h
 apply Y
 refine⟨_,(qF (qL (xD xx (qO jC (qJ (pv 0)) (qJ (pv 1))) (qO jC (qJ (pv 1)) (qJ (pv 0))) (qN _)))),?_⟩
 try dsimp only [jc,qj]
 refine(vZ rfl h1 at0 (vZ rfl h2 at1 ⟨_,_,rfl,rfl,bp.mul bs,?_⟩))
 exact(vZ rfl h2 at0 (vZ rfl h1 at1 ⟨_,_,rfl,rfl,br.mul bq,_,_,rfl,rfl,k⟩))
structure Cp (K:W.Frag)(H:Hp)(v:V)(n:Str)(p q r s len:Int):Prop where
 ex:∃ z z1 z2,v= .ref z∧SqT K H z [.str "clip",.str n,.ref z1,.ref z2,.int len]∧SqT K H z1 [.int p,.int q]∧SqT K H z2 [.int r,.int s]
theorem Cp.same {H H':Hp}{v:V}{n:Str}{p q r s len:Int}(e:Same H H')(h:Cp K H v n p q r s len):Cp K H' v n p q r s len:=
 let ⟨z,z1,z2,h1,h2,h3,h4⟩:=h.ex;⟨z,z1,z2,h1,L3.Same.tup e h2,L3.Same.tup e h3,L3.Same.tup e h4⟩
theorem qPz {x0 x1 x2 x3 x4:V}:atI [x0,x1,x2,x3,x4] 2=some x2:=rfl
theorem qMf {x0 x1 x2 x3 x4:V}:atI [x0,x1,x2,x3,x4] 3=some x3:=rfl
theorem qP4 {p q r s k:Int}(hq:0 < q)(hs:0 < s):
 jk (p*jU (k*r) (1*s)+jk (k*r) (1*s)*q) (q*jU (k*r) (1*s))=jk (p*s+k*r*q) (q*s)∧
 jU (p*jU (k*r) (1*s)+jk (k*r) (1*s)*q) (q*jU (k*r) (1*s))=jU (p*s+k*r*q) (q*s):=by
 rw [Int.one_mul]
 have c:=xc (k*r) s
 have n0:=xE (t:=k*r) (b:=s) (by omega)
 generalize jk (k*r) s=m at c ⊢
 generalize jU (k*r) s=n at c n0 ⊢
 have b1:q*s≠0:=Int.mul_ne_zero (by omega) (by omega)
 have b2:q*n≠0:=Int.mul_ne_zero (by omega) (by omega)
 refine qHg b2 (xE b1) (qCu b1) ?_
 have e:=xc (p*s+k*r*q) (q*s)
 generalize jk (p*s+k*r*q) (q*s)=u at e ⊢
 generalize jU (p*s+k*r*q) (q*s)=v at e ⊢
 have h:(u*(q*n))*s=((p*n+m*q)*v)*s:=by
  calc (u*(q*n))*s=(u*(q*s))*n:=by rw [Int.mul_assoc,Int.mul_assoc,Int.mul_assoc,Int.mul_assoc,Int.mul_comm n s]
   _=((p*s+k*r*q)*v)*n:=by rw [e]
   _=(p*n*s+(k*r*n)*q)*v:=by
    have h1:(p*s+k*r*q)*v*n=(p*s+k*r*q)*n*v:=by rw [Int.mul_assoc,Int.mul_comm v n,← Int.mul_assoc]
    have h2:(p*s+k*r*q)*n=p*n*s+k*r*n*q:=by
     rw [Int.add_mul,Int.mul_assoc p s n,Int.mul_comm s n,← Int.mul_assoc,Int.mul_assoc (k*r) q n,Int.mul_comm q n,← Int.mul_assoc]
    rw [h1,h2]
   _=(p*n*s+(m*s)*q)*v:=by rw [← c]
   _=((p*n+m*q)*v)*s:=by
    have h3:p*n*s+m*s*q=(p*n+m*q)*s:=by rw [Int.add_mul,Int.mul_assoc m s q,Int.mul_comm s q,← Int.mul_assoc]
    rw [h3,Int.mul_assoc,Int.mul_comm s v,← Int.mul_assoc]
 exact Int.eq_of_mul_eq_mul_right (by omega) h
def Sm2 (i:Int):Prop:=i.natAbs < 2 ^ 700
theorem Sm2.sm {i:Int}(h:Sm2 i):Sm i:=Nat.lt_of_lt_of_le h (Nat.pow_le_pow_right (by decide) (by decide))
theorem jt {i j:Int}{n m:Nat}(h1:i.natAbs < 2 ^ n)(h2:j.natAbs < 2 ^ m):(i*j).natAbs < 2 ^ (n+m):=by
 rw [Int.natAbs_mul,Nat.pow_add]
 exact Nat.mul_lt_mul'' h1 h2
inductive qJf (K:W.Frag)(vs:List V)(H:Hp)(Q:VK)(_:XK):Prop
| mk (v:V) (n:Str) (p q r s len k:Int) (_:vs=[v,.int k]) (_:Cp K H v n p q r s len) (_:0 < q) (_:0 < s) (_:Sm2 p) (_:Sm2 q) (_:Sm2 r) (_:Sm2 s) (_:Sm2 k) (_:∀ z H',Same H H'→H' z=some (.tup [.int (jk (p*s+k*r*q) (q*s)),.int (jU (p*s+k*r*q) (q*s))])→Q (.ref z) H')
theorem kT (T:Tx K mg a):FnOk P w K mg base CX0 4 a.A12 a.B12 ["clip","k"] (qJf K):=by
 refine T.D12.F.ok qKd (fun vs H Q E h=>?_) (fun cdv A outer s H vs Q E hr h=>?_)
 · obtain⟨v,n,p,q,r,s,len,k,rfl,_⟩:=h
   rfl
 refine qM fun _ Y=>?_
 obtain⟨v,n,p,q,r,s',len,k,rfl,⟨z,z1,z2,rfl,hc,h1,h2⟩,hq,hs,bp,bq,br,bs,bk,kk⟩:=h
 apply Y
 refine⟨_,(qF (qL (qK T.D4 (qNt T) hr rfl (qA (qJ (pv 0)) (qA (qK T.D6 (qKb T) hr rfl (qA (qK T.D3 (jo T) hr rfl (qA (pv 1) (qA qG qE))) (qA (qJ (pv 0)) qE))) qE))))),?_⟩
 try dsimp only [jc,qj]
 refine⟨_,rfl,z,_,_,_,rfl,rfl,hc,qPz,_,rfl,k,1,rfl,by decide,Nat.lt_of_lt_of_le (m:=2 ^ 1) (by decide) (Nat.pow_le_pow_right (by decide) (by decide)),fun y hy=>?_⟩
 have s1:=qC hy (.tup [.int (jk k 1),.int (jU k 1)])
 obtain⟨l1,l2⟩:=qKk (p:=k) (q:=1) (by decide) (Int.gcd_one_right ..)
 refine⟨_,rfl,z,_,_,_,rfl,rfl,L3.Same.tup s1 hc,qMf,?_⟩
 have one:Sm 1:=Nat.lt_of_lt_of_le (m:=2 ^ 1) (by decide) (Nat.pow_le_pow_right (by decide) (by decide))
 refine⟨_,_,k,1,r,s',rfl,⟨y,rfl,?_⟩,⟨z2,rfl,L3.Same.tup s1 h2⟩,by decide,by omega,bk.sm,one,br.sm,bs.sm,fun x hx=>?_⟩
 · have e:SqT K (upd H y (.tup [.int (jk k 1),.int (jU k 1)])) y [.int (jk k 1),.int (jU k 1)]:=SqT.of qB
   rw [l1,l2] at e ⊢
   exact e
 have s2:=s1.trans (qC hx (.tup [.int (jk (k*r) (1*s')),.int (jU (k*r) (1*s'))]))
 have b1:(1*s')≠0:=by omega
 have n0:=xE (t:=k*r) b1
 have bm:Sm (jk (k*r) (1*s')):=by
  refine Nat.lt_of_le_of_lt (qCb b1) (Nat.lt_of_lt_of_le (jt bk br) (Nat.pow_le_pow_right (by decide) (by decide)))
 have bn:Sm (jU (k*r) (1*s')):=by
  refine Nat.lt_of_le_of_lt (kA b1) ?_
  rw [Int.one_mul]
  exact bs.sm
 refine⟨_,_,p,q,_,_,rfl,⟨z1,rfl,L3.Same.tup s2 h1⟩,⟨x,rfl,SqT.of qB⟩,by omega,by omega,bp.sm,bq.sm,bm,bn,fun u hu=>?_⟩
 obtain⟨e1,e2⟩:=qP4 (p:=p) (r:=r) (k:=k) hq hs
 refine kk u _ (s2.trans (qC hu _)) ?_
 rw [qB,e1,e2]
theorem qCl {t b:Int}(hb:0 < b):(jk t b).fdiv (jU t b)=t.fdiv b:=by
 have e1:=qQa t b
 have e2:=qMr t b
 have sp:0 < sg t b:=by
  have g:=qAx (t:=t) (b:=b) (by omega)
  unfold sg
  rw [if_neg (by omega)]
  omega
 have q0:=xE (t:=t) (b:=b) (by omega)
 obtain⟨h1,h2⟩:=qt (p:=jk t b) q0
 obtain⟨h3,h4⟩:=qt (p:=t) hb
 generalize (jk t b).fdiv (jU t b)=f at h1 h2 ⊢
 generalize t.fdiv b=g at h3 h4 ⊢
 generalize jk t b=u at e1 h1 h2
 generalize jU t b=v at e2 h1 h2 q0
 generalize sg t b=w at e1 e2 sp
 subst e1 e2
 have k1:g*v≤u:=by
  rw [← Int.mul_assoc] at h3
  exact Int.le_of_mul_le_mul_right h3 sp
 have k2:u < (g+1)*v:=by
  rw [← Int.mul_assoc] at h4
  exact Int.lt_of_mul_lt_mul_right h4 (by omega)
 have k3:f < g+1:=Int.lt_of_mul_lt_mul_right (a:=v) (by omega) (by omega)
 have k4:g < f+1:=Int.lt_of_mul_lt_mul_right (a:=v) (by omega) (by omega)
 omega
inductive qFq (K:W.Frag)(vs:List V)(H:Hp)(Q:VK)(_:XK):Prop
| mk (v:V) (n:Str) (p q r s len k:Int) (_:vs=[v,.int k]) (_:Cp K H v n p q r s len) (_:0 < q) (_:0 < s) (_:Sm2 p) (_:Sm2 q) (_:Sm2 r) (_:Sm2 s) (_:Sm2 k) (_:∀ H',Same H H'→Q (.int ((p*s+k*r*q).fdiv (q*s))) H')
theorem xK (T:Tx K mg a):FnOk P w K mg base CX0 5 a.A13 a.B13 ["clip","k"] (qFq K):=by
 refine T.D13.F.ok qFm (fun vs H Q E h=>?_) (fun cdv A outer s H vs Q E hr h=>?_)
 · obtain⟨v,n,p,q,r,s,len,k,rfl,_⟩:=h
   rfl
 refine qM fun _ Y=>?_
 obtain⟨v,n,p,q,r,s',len,k,rfl,hc,hq,hs,bp,bq,br,bs,bk,kk⟩:=h
 apply Y
 refine⟨_,(qF (qL (qK T.D9 (z7 T) hr rfl (qA (qK T.D12 (kT T) hr rfl (qA (pv 0) (qA (pv 1) qE))) qE)))),?_⟩
 try dsimp only [jc,qj]
 refine⟨_,rfl,_,rfl,v,n,p,q,r,s',len,k,rfl,hc,hq,hs,bp,bq,br,bs,bk,fun z H' sH hz=>?_⟩
 have b1:q*s'≠0:=Int.mul_ne_zero (by omega) (by omega)
 refine⟨_,_,_,rfl,⟨z,rfl,SqT.of hz⟩,?_,?_,?_⟩
 · have:=xE (t:=p*s'+k*r*q) b1;omega
 · exact Nat.lt_of_le_of_lt (kA b1) (Nat.lt_of_lt_of_le (jt bq bs) (Nat.pow_le_pow_right (by decide) (by decide)))
 · rw [qCl (Int.mul_pos hq hs)]
   exact kk H' sH
theorem qLw {x0 x1 x2 x3 x4:V}:atI [x0,x1,x2,x3,x4] 0=some x0:=rfl
theorem qBa {x0 x1 x2 x3 x4:V}:atI [x0,x1,x2,x3,x4] 1=some x1:=rfl
theorem qIe {x0 x1 x2 x3 x4:V}:atI [x0,x1,x2,x3,x4] 4=some x4:=rfl
theorem eq2 (a b c d:Int):qLr [.int a,.int b] [.int c,.int d]=(a == c && b == d):=by
 simp [qLr,eqV,List.range_succ]
structure Bn (n:Nat)(p q r s:Int):Prop where
 q0:0 < q
 s0:0 < s
 bp:p.natAbs < 2 ^ n
 bq:q.natAbs < 2 ^ n
 br:r.natAbs < 2 ^ n
 bs:s.natAbs < 2 ^ n
theorem wa {i:Int}{n m:Nat}(h:i.natAbs < 2 ^ n)(l:n≤m:=by decide):i.natAbs < 2 ^ m:=Nat.lt_of_lt_of_le h (Nat.pow_le_pow_right (by decide) l)
theorem Bn.mono {n m:Nat}{p q r s:Int}(h:Bn n p q r s)(l:n≤m:=by decide):Bn m p q r s:=⟨h.q0,h.s0,wa h.bp l,wa h.bq l,wa h.br l,wa h.bs l⟩
theorem Bn.part {p q r s k:Int}(h:Bn 110 p q r s)(hk:k.natAbs < 2 ^ 30):Bn 340 (plP p q r s k) (plQ p q r s k) r s:=by
 obtain⟨hq,hs,bp,bq,br,bs⟩:=h
 refine⟨qHd hq hs,hs,Nat.lt_of_le_of_lt (qOw hq hs) ?_,Nat.lt_of_le_of_lt (qNy hq hs) (wa (jt bq bs)),wa br,wa bs⟩
 have h1:=jt bp bs
 have h2:=jt (jt hk br) bq
 have e:(2:Nat) ^ (110+110)+2 ^ (30+110+110)≤2 ^ 340:=by decide
 omega
theorem qPf {i:Int}{n:Nat}(h:i.natAbs < 2 ^ n)(l:n≤8000:=by decide):i.natAbs < 2 ^ 8000:=wa h l
inductive qDp (K:W.Frag)(vs:List V)(H:Hp)(Q:VK)(_:XK):Prop
| mk (z:Addr) (ns:List Int) (i:Int) (_:vs=[.ref z,.int i]) (_:SqL K H z (ns.map V.int)) (_:ns.length≤63) (_:0≤i) (_:∀ c:Int,Q (.int c) H)
theorem zM (T:Tx K mg a):FnOk P w K mg base CX0 1 a.A76 a.B76 ["_law_script","_law_k"] (qDp K):=by
 refine T.D76.F.ok qC8 (fun vs H Q E h=>?_) (fun cdv A outer s H vs Q E hr h=>?_)
 · obtain⟨z,ns,i,rfl,_⟩:=h
   rfl
 refine qM fun _ Y=>?_
 obtain⟨z,ns,i,rfl,hS,hl,h0,k⟩:=h
 apply Y
 refine⟨_,(qD (qd (qH xx (pv 1) (qc jY rfl T.b_len rfl (qA (pv 0) qE)) (qN _)) (qF (qL (jK q9 (pv 0) (pv 1) (fun _ _=>rfl)))) qP)
  (qF (qL qG))),?_⟩
 try dsimp only [jc,qj]
 have hml:(ns.map V.int).length=ns.length:=List.length_map _
 refine⟨_,rfl,_,rfl,z,_,rfl,.inl hS,_,_,rfl,rfl,_,rfl,?_⟩
 refine ju (fun c=>?_) (fun _=>?_)
 · have c':i < ((ns.map V.int).length:Int):=of_decide_eq_true c
   rw [hml] at c'
   have hi:i.toNat < ns.length:=by omega
   have e:i=((i.toNat:Nat):Int):=by omega
   have hat:atI (ns.map V.int) ((i.toNat:Nat):Int)=some (.int ns[i.toNat]):=jJ (by rw [List.getElem?_map,List.getElem?_eq_getElem hi];rfl)
   rw [← e] at hat
   exact⟨_,rfl,_,rfl,z,_,_,.int ns[i.toNat],rfl,rfl,hS,hat,k _⟩
 · exact k 0
def thB (i m:Int):Bool:=decide (0≤i) && decide (i < m)
theorem qJy {N D m:Int}(hD:0 < D):thB (N.fdiv D) m=true↔InR N D m:=by
 rw [qJb hD]
 simp [thB]
inductive qJk (vs:List V)(H:Hp)(Q:VK)(_:XK):Prop
| mk (i m:Int) (_:vs=[.int i,.int m]) (_:Q (.bl (thB i m)) H)
theorem wC (T:Tx K mg a):FnOk P w K mg base CX0 1 a.A14 a.B14 ["picture","many"] qJk:=by
 refine T.D14.F.ok qJs (fun vs H Q E h=>?_) (fun cdv A outer s H vs Q E hr h=>?_)
 · obtain⟨i,m,rfl,_⟩:=h
   rfl
 refine qM fun _ Y=>?_
 obtain⟨i,m,rfl,q⟩:=h
 apply Y
 refine⟨_,(qF (qL (vv (xD qJ3 qG (pv 0) (qN _)) (qBj (xD xx (pv 0) (pv 1) (qN _)))))),?_⟩
 try dsimp only [jc,qj]
 refine⟨_,rfl,_,_,rfl,rfl,_,rfl,?_⟩
 unfold thB at q
 by_cases h0:0≤i
 · rw [decide_eq_true h0] at q ⊢
   exact jI ⟨_,rfl,_,rfl,_,_,rfl,rfl,q⟩
 · rw [decide_eq_false h0] at q ⊢
   exact qm q
def qU9 (c:Nat):Bool:=!(Builtin.Str.occurrences "abcdefghijklmnopqrstuvwxyz" ⟨#[c]⟩ 0 ("abcdefghijklmnopqrstuvwxyz":Str).length 1).isEmpty
def qDm (z:Str):Bool:=decide (1≤z.length∧z.length≤8) && z.cps.toList.all qU9
theorem qFg {c d:Int}(hd:0 < d)(g:Int.gcd c d=1):jk (0*d - c*1) (1*d)= -c∧jU (0*d - c*1) (1*d)=d:=by
 refine qHg (by omega) hd (by rw [Int.neg_gcd];exact g) ?_
 grind
inductive qBv (K:W.Frag)(vs:List V)(H:Hp)(Q:VK)(_:XK):Prop
| mk (x y:V) (A B c d m:Int) (_:vs=[x,y,.int m]) (_:Pr K H x A B) (_:Pr K H y c d) (_:0 < B) (_:0 < d) (_:Int.gcd c d=1) (_:A.natAbs < 2 ^ 700) (_:B.natAbs < 2 ^ 700) (_:c.natAbs < 2 ^ 700) (_:d.natAbs < 2 ^ 700) (_:m.natAbs < 2 ^ 700) (_:∀ H',Same H H'→Q (.int (qA6 (A*d) (c*B) (B*d) m)) H')
theorem ka (T:Tx K mg a):FnOk P w K mg base CX0 4 a.A18 a.B18 ["first","step","many"] (qBv K):=by
 refine T.D18.F.ok xp (fun vs H Q E h=>?_) (fun cdv A outer s H vs Q E hr h=>?_)
 · obtain⟨x,y,A,B,c,d,m,rfl,_⟩:=h
   rfl
 refine qM fun _ Y=>?_
 obtain⟨x,y,A',B,c,d,m,rfl,⟨z1,rfl,h1⟩,⟨z2,rfl,h2⟩,hB,hd,hg,bA,bB,bc,bd,bm,kk⟩:=h
 apply Y
 have hu:=hr.units0
 refine⟨_,(qD (qd (qH (qSv hu) (pv 1) (xJ (v:=.ref a.n_NOUGHT) rfl T.g_NOUGHT rfl) (qN _)) (qF (qL (xJ (v:=.int 1000000) rfl T.g_MOST_ROOM ⟨_,rfl⟩))) qP)
  (qD (qd (ji (jO (qK T.D14 (wC T) hr rfl (qA (qK T.D9 (z7 T) hr rfl (qA (pv 0) qE)) (qA (pv 2) qE))))) (qF (qL qG)) qP)
  (qD (kM (qd (jO (qK T.D8 (qHu T) hr rfl (qA (pv 1) (qA (xJ (v:=.ref a.n_NOUGHT) rfl T.g_NOUGHT rfl) qE)))) (qF (qX 3 xp.nd (qO qp (qK T.D9 (z7 T) hr rfl (qA (qK T.D7 (qDq T) hr rfl (qA (pv 0) (qA (qK T.D5 (qA4 T) hr rfl (qA (xJ (v:=.ref a.n_NOUGHT) rfl T.g_NOUGHT rfl) (qA (pv 1) qE))) qE))) qE)) qG))) (qF (qX 3 xp.nd (kh xP (qK T.D9 (z7 T) hr rfl (qA (qK T.D7 (qDq T) hr rfl (qA (qK T.D5 (qA4 T) hr rfl (qA (pv 0) (qA (qK T.D3 (jo T) hr rfl (qA (pv 2) (qA qG qE))) qE))) (qA (pv 1) qE))) qE)))))))
  (qF (qL (qc (vU rfl) rfl T.b_min rfl (qA (pv 3) (qA (xJ (v:=.int 1000000) rfl T.g_MOST_ROOM ⟨_,rfl⟩) qE)))))))),?_⟩
 try dsimp only [jc,qj]
 have S:∀ {i:Int},i.natAbs < 2 ^ 700→Sm i:=fun h=>wa h
 have one:Sm 1:=Sm.of200 (by decide)
 have nul:Sm 0:=Sm.of200 (by decide)
 have hBd:=Int.mul_pos hB hd
 have H1:∀ {H':Hp},Same H H'→SqT K H' z1 [.int A',.int B]:=fun e=>L3.Same.tup e h1
 have H2:∀ {H':Hp},Same H H'→SqT K H' z2 [.int c,.int d]:=fun e=>L3.Same.tup e h2
 refine⟨_,rfl,_,_,_,_,rfl,rfl,h2,T.sq_NOUGHT _,rfl,rfl,_,rfl,?_⟩
 rw [if_neg (by decide:¬ (false=true)),eq2]
 by_cases hc:c=0
 · have d1:d=1:=by
    subst hc
    rw [Int.gcd_zero_left] at hg
    omega
   rw [show (c == 0 && d == 1)=true by simp [hc,d1]]
   refine jI ?_
   have:=kk H (Same.refl _)
   unfold qA6 at this
   rw [if_pos (by rw [hc,Int.zero_mul])] at this
   exact this
 rw [show (c == 0 && d == 1)=false by simp [hc]]
 refine qm ?_
 have hcB:¬ (c*B=0):=Int.mul_ne_zero hc (by omega)
 have ef:A'.fdiv B=(A'*d).fdiv (B*d):=vj hB hBd (by grind)
 refine⟨_,rfl,_,A',B,rfl,⟨z1,rfl,h1⟩,by omega,qPf bB,_,rfl,_,_,rfl,_,rfl,?_⟩
 by_cases ht:0≤A'.fdiv B∧A'.fdiv B < m
 rotate_left
 · rw [show thB (A'.fdiv B) m=false by unfold thB;rw [Bool.eq_false_iff];simpa using ht]
   refine jI ?_
   have:=kk H (Same.refl _)
   unfold qA6 at this
   rw [if_neg hcB,if_pos (by rw [← ef];exact ht)] at this
   exact this
 rw [show thB (A'.fdiv B) m=true by simp [thB,ht]]
 refine qm ?_
 have res:∀ H',Same H H'→Q (.int (if 1000000 < (if c*B < 0 then (A'*d).fdiv (-(c*B))+1 else -((A'*d - m*(B*d)).fdiv (c*B))) then 1000000 else (if c*B < 0 then (A'*d).fdiv (-(c*B))+1 else -((A'*d - m*(B*d)).fdiv (c*B))))) H':=fun H' e=>by
  have:=kk H' e
  unfold qA6 at this
  rw [if_neg hcB,if_neg (by rw [← ef];simpa using ht)] at this
  exact this
 generalize hgg:(if c*B < 0 then (A'*d).fdiv (-(c*B))+1 else -((A'*d - m*(B*d)).fdiv (c*B)))=g at res
 refine⟨fun σ' H'=>σ'=[some (.ref z1),some (.ref z2),some (.int m),some (.int g)]∧Same H H',?_,?_⟩
 · refine⟨_,rfl,_,_,c,d,0,1,rfl,⟨z2,rfl,h2⟩,⟨_,rfl,T.sq_NOUGHT _⟩,S bc,S bd,nul,one,_,rfl,?_⟩
   by_cases hn:c*1 < 0*d
   · rw [decide_eq_true hn]
     refine jI ?_
     have c0:c < 0:=by omega
     refine⟨_,rfl,_,rfl,_,_,0,1,c,d,rfl,⟨_,rfl,T.sq_NOUGHT _⟩,⟨z2,rfl,h2⟩,by decide,by omega,nul,one,S bc,S bd,fun u hu'=>?_⟩
     rw [(qFg hd hg).1,(qFg hd hg).2]
     have w1:=qC hu' (.tup [.int (-c),.int d])
     have bnc:(-c).natAbs < 2 ^ 700:=by rw [Int.natAbs_neg];exact bc
     have hpos:0 < B*(-c):=Int.mul_pos hB (by omega)
     refine⟨_,_,A',B,-c,d,rfl,⟨z1,rfl,H1 w1⟩,⟨u,rfl,SqT.of qB⟩,by omega,by omega,S bA,S bB,S bnc,S bd,fun v hv=>?_⟩
     have w2:=w1.trans (qC hv (.tup [.int (jk (A'*d) (B*(-c))),.int (jU (A'*d) (B*(-c)))]))
     have lq:=xE (t:=A'*d) (b:=B*(-c)) (by omega)
     refine⟨_,_,_,rfl,⟨v,rfl,SqT.of qB⟩,by omega,Nat.lt_of_le_of_lt (kA (by omega)) (qPf (jt bB bnc)),?_⟩
     rw [qCl hpos]
     refine⟨_,_,rfl,rfl,?_,w2⟩
     have e:g=(A'*d).fdiv (B* -c)+1:=by
      rw [← hgg,if_pos (by have:=Int.mul_neg_of_neg_of_pos c0 hB;exact this)]
      rw [show -(c*B)=B* -c by grind]
     rw [e]
     rfl
   · rw [decide_eq_false hn]
     refine qm ?_
     have c0:0 < c:=by omega
     obtain⟨l1,l2⟩:=qKk (p:=m) (q:=1) (by decide) (Int.gcd_one_right ..)
     refine⟨_,rfl,_,rfl,m,1,rfl,by decide,qPf (n:=1) (by decide),fun u hu'=>?_⟩
     rw [l1,l2]
     have w1:=qC hu' (.tup [.int m,.int 1])
     refine⟨_,_,A',B,m,1,rfl,⟨z1,rfl,H1 w1⟩,⟨u,rfl,SqT.of qB⟩,by omega,by decide,S bA,S bB,S bm,one,fun v hv=>?_⟩
     have hb1:B*1≠0:=by omega
     have cr:=xc (A'*1 - m*B) (B*1)
     have lq:=xE (t:=A'*1 - m*B) hb1
     have aP:=qCb (t:=A'*1 - m*B) hb1
     have aQ:=kA (t:=A'*1 - m*B) hb1
     have w2:=w1.trans (qC hv (.tup [.int (jk (A'*1 - m*B) (B*1)),.int (jU (A'*1 - m*B) (B*1))]))
     have ev:=qB (H:=upd H u (.tup [.int m,.int 1])) (a:=v) (o:=.tup [.int (jk (A'*1 - m*B) (B*1)),.int (jU (A'*1 - m*B) (B*1))])
     generalize upd (upd H u (.tup [.int m,.int 1])) v (.tup [.int (jk (A'*1 - m*B) (B*1)),.int (jU (A'*1 - m*B) (B*1))])=H3 at w2 ev ⊢
     generalize jk (A'*1 - m*B) (B*1)=P' at cr aP ev ⊢
     generalize jU (A'*1 - m*B) (B*1)=Q' at cr aQ lq ev ⊢
     have sP:Sm P':=by
      have t:=jt bm bB
      have:(A'*1 - m*B).natAbs < 2 ^ 1500:=by
       have e:(2:Nat) ^ 700+2 ^ (700+700)≤2 ^ 1500:=by decide
       rw [Int.mul_one]
       exact Nat.lt_of_lt_of_le (Nat.lt_of_le_of_lt (Int.natAbs_sub_le _ _) (Nat.add_lt_add bA t)) e
      exact Nat.lt_of_le_of_lt aP (wa this)
     have bQ:Q'.natAbs < 2 ^ 700:=by rw [Int.mul_one] at aQ;omega
     refine⟨_,rfl,_,_,P',Q',c,d,rfl,⟨v,rfl,SqT.of ev⟩,⟨z2,rfl,H2 w2⟩,by omega,hc,sP,S bQ,S bc,S bd,fun x hx=>?_⟩
     have hpos:0 < Q'*c:=Int.mul_pos lq c0
     have w3:=w2.trans (qC hx (.tup [.int (jk (P'*d) (Q'*c)),.int (jU (P'*d) (Q'*c))]))
     have lq2:=xE (t:=P'*d) (b:=Q'*c) (by omega)
     refine⟨_,_,_,rfl,⟨x,rfl,SqT.of qB⟩,by omega,Nat.lt_of_le_of_lt (kA (by omega)) (qPf (jt bQ bc)),?_⟩
     rw [qCl hpos]
     refine⟨_,rfl,?_,w3⟩
     have e:g= -(P'*d).fdiv (Q'*c):=by
      have hcB':=Int.mul_pos c0 hB
      rw [← hgg,if_neg (by omega)]
      rw [vj hcB' hpos (by grind:(A'*d - m*(B*d))*(Q'*c)=P'*d*(c*B))]
     rw [e]
     rfl
 rintro σ' H' ⟨rfl,sH⟩
 exact⟨_,rfl,_,_,rfl,res H' sH⟩
theorem qJh {H H':Hp}(e:Same H H'){a:Addr}{u:HO}(h:Rd H a u):Rd H' a u:=by
 rcases h with h | ⟨o,h⟩
 · exact .inl (e _ _ h)
 · exact .inr ⟨o,e _ _ h⟩
def Reel (H:Hp)(rd:Addr)(n:Str)(m:Int):Prop:=∃ kvs,Rd H rd (.dK kvs)∧qL1 kvs (Sum.inr n)=some (.int m)
theorem Reel.same {H H':Hp}{rd:Addr}{n:Str}{m:Int}(e:Same H H')(h:Reel H rd n m):Reel H' rd n m:=let ⟨k,h1,h2⟩:=h;⟨k,qJh e h1,h2⟩
theorem Reel.get {H:Hp}{rd:Addr}{n:Str}{m:Int}(h:Reel H rd n m):DGet H rd (.str n) (some (.int m)):=let ⟨k,h1,h2⟩:=h;.inl ⟨k,Sum.inr n,h1,rfl,h2.symm⟩
def Vk (p q r s k:Int):Int:=p*s+k*r*q
structure Ch (H:Hp)(z:Addr)(n:Str)(p q r s len:Int):Prop where
 ex:∃ z1 z2,H z=some (.tup [.str "clip",.str n,.ref z1,.ref z2,.int len])∧H z1=some (.tup [.int p,.int q])∧H z2=some (.tup [.int r,.int s])
theorem Ch.same {H H':Hp}{z:Addr}{n:Str}{p q r s len:Int}(e:Same H H')(h:Ch H z n p q r s len):Ch H' z n p q r s len:=let ⟨z1,z2,h1,h2,h3⟩:=h.ex;⟨z1,z2,e _ _ h1,e _ _ h2,e _ _ h3⟩
theorem Ch.cp {H:Hp}{z:Addr}{n:Str}{p q r s len:Int}(h:Ch H z n p q r s len):Cp K H (.ref z) n p q r s len:=let ⟨z1,z2,h1,h2,h3⟩:=h.ex;⟨z,z1,z2,rfl,SqT.of h1,SqT.of h2,SqT.of h3⟩
inductive qH7 (K:W.Frag)(vs:List V)(H:Hp)(Q:VK)(_:XK):Prop
| mk (v:V) (n:Str) (p q r s len m:Int) (rd:Addr) (_:vs=[v,.ref rd]) (_:Cp K H v n p q r s len) (_:qOq 110 p q) (_:qOq 110 r s) (_:Reel H rd n m) (_:m.natAbs < 2 ^ 700) (_:∀ H',Same H H'→Q (.int (qA6 (plP p q r s (-1)*s) (-1*r*plQ p q r s (-1)) (plQ p q r s (-1)*s) m)) H')
theorem qHh (T:Tx K mg a):FnOk P w K mg base CX0 5 a.A19 a.B19 ["clip","reels"] (qH7 K):=by
 refine T.D19.F.ok qIf (fun vs H Q E h=>?_) (fun cdv A outer s H vs Q E hr h=>?_)
 · obtain⟨v,n,p,q,r,s,len,m,rd,rfl,_⟩:=h
   rfl
 refine qM fun _ Y=>?_
 obtain⟨v,n,p,q,r,s',len,m,rd,rfl,hc,g1,g2,hrd,bm,kk⟩:=h
 apply Y
 have hu1:=qRg hr
 refine⟨_,(qF (qL (qK T.D18 (ka T) hr rfl (qA (qK T.D12 (kT T) hr rfl (qA (pv 0) (qA (kh xP qG) qE))) (qA (qK T.D5 (qA4 T) hr rfl (qA (xJ (v:=.ref a.n_NOUGHT) rfl T.g_NOUGHT rfl) (qA (qJ (pv 0)) qE))) (qA (qAh hu1 (pv 1) (qJ (pv 0)) (fun _ _=>rfl)) qE)))))),?_⟩
 try dsimp only [jc,qj]
 have hb:Bn 110 p q r s':=⟨g1.1,g2.1,g1.2.2.1,g1.2.2.2,g2.2.2.1,g2.2.2.2⟩
 have hb7:=hb.mono (m:=700)
 have hp:=(hb.part (k:=-1) (by decide)).mono (m:=700)
 refine⟨_,rfl,_,rfl,v,n,p,q,r,s',len,-1,rfl,hc,hb7.q0,hb7.s0,hb7.bp,hb7.bq,hb7.br,hb7.bs,wa (n:=30) (by decide),fun y H1 s1 e1=>?_⟩
 refine qM fun _ Y=>?_
 obtain⟨z,z1,z2,e,h0,h1,h2⟩:=(hc.same s1).ex
 subst e
 apply Y
 have S:∀ {i:Int},i.natAbs < 2 ^ 700→Sm i:=fun h=>wa h
 refine(vZ rfl h0 qMf ?_)
 refine⟨_,_,0,1,r,s',rfl,⟨_,rfl,T.sq_NOUGHT _⟩,⟨z2,rfl,h2⟩,by decide,by have:=hb.s0;omega,Sm.of200 (by decide),Sm.of200 (by decide),S hb7.br,S hb7.bs,fun u hu'=>?_⟩
 rw [(qFg hb.s0 g2.2.1).1,(qFg hb.s0 g2.2.1).2]
 have w1:=qC hu' (.tup [.int (-r),.int s'])
 refine⟨_,rfl,_,rfl,z,_,_,_,rfl,rfl,L3.Same.tup w1 h0,qBa,rd,_,rfl,(hrd.same (s1.trans w1)).get,?_⟩
 refine⟨_,_,_,_,-r,s',m,rfl,⟨y,rfl,SqT.of (w1 _ _ e1)⟩,⟨u,rfl,SqT.of qB⟩,hp.q0,hb.s0,by rw [Int.neg_gcd];exact g2.2.1,hp.bp,hp.bq,by rw [Int.natAbs_neg];exact hb7.br,hb7.bs,bm,fun H' sH=>?_⟩
 have:=kk H' (s1.trans (w1.trans sH))
 rw [show -1*r*plQ p q r s' (-1)= -r*plQ p q r s' (-1) by grind] at this
 exact this
inductive qHw (K:W.Frag)(vs:List V)(H:Hp)(Q:VK)(_:XK):Prop
| mk (v:V) (n:Str) (p q r s len m:Int) (rd:Addr) (_:vs=[v,.ref rd]) (_:Cp K H v n p q r s len) (_:qOq 110 p q) (_:qOq 110 r s) (_:len.natAbs < 2 ^ 30) (_:Reel H rd n m) (_:m.natAbs < 2 ^ 700) (_:∀ H',Same H H'→Q (.int (qA6 (plP p q r s len*s) (1*r*plQ p q r s len) (plQ p q r s len*s) m)) H')
theorem qGx (T:Tx K mg a):FnOk P w K mg base CX0 5 a.A20 a.B20 ["clip","reels"] (qHw K):=by
 refine T.D20.F.ok qIp (fun vs H Q E h=>?_) (fun cdv A outer s H vs Q E hr h=>?_)
 · obtain⟨v,n,p,q,r,s,len,m,rd,rfl,_⟩:=h
   rfl
 refine qM fun _ Y=>?_
 obtain⟨v,n,p,q,r,s',len,m,rd,rfl,hc,g1,g2,bl,hrd,bm,kk⟩:=h
 apply Y
 have hu1:=qRg hr
 refine⟨_,(qF (qL (qK T.D18 (ka T) hr rfl (qA (qK T.D12 (kT T) hr rfl (qA (pv 0) (qA (qJ (pv 0)) qE))) (qA (qJ (pv 0)) (qA (qAh hu1 (pv 1) (qJ (pv 0)) (fun _ _=>rfl)) qE)))))),?_⟩
 try dsimp only [jc,qj]
 have hb:Bn 110 p q r s':=⟨g1.1,g2.1,g1.2.2.1,g1.2.2.2,g2.2.2.1,g2.2.2.2⟩
 have hb7:=hb.mono (m:=700)
 have hp:=(hb.part (k:=len) bl).mono (m:=700)
 have hc0:=hc
 refine qM fun _ Y=>?_
 obtain⟨z,z1,z2,e,h0,h1,h2⟩:=hc0.ex
 subst e
 apply Y
 refine⟨_,rfl,vZ rfl h0 qIe ⟨_,n,p,q,r,s',len,len,rfl,hc,hb7.q0,hb7.s0,hb7.bp,hb7.bq,hb7.br,hb7.bs,wa bl,fun y H1 s1 e1=>?_⟩⟩
 refine⟨_,rfl,z,_,_,_,rfl,rfl,L3.Same.tup s1 h0,qMf,?_⟩
 refine⟨_,rfl,_,rfl,z,_,_,_,rfl,rfl,L3.Same.tup s1 h0,qBa,rd,_,rfl,(hrd.same s1).get,?_⟩
 refine⟨_,_,_,_,r,s',m,rfl,⟨y,rfl,SqT.of e1⟩,⟨z2,rfl,L3.Same.tup s1 h2⟩,hp.q0,hb.s0,g2.2.1,hp.bp,hp.bq,hb7.br,hb7.bs,bm,fun H' sH=>?_⟩
 have:=kk H' (s1.trans sH)
 rw [Int.one_mul] at this
 exact this
theorem qQg (ns:List Int)(lo hi:Option Int):∃ ms:List Int,qIz (ns.map V.int) lo hi=ms.map V.int∧ms.length≤ns.length:=by
 refine⟨(ns.drop (HT.sIx (ns.map V.int).length 0 lo)).take (HT.sIx (ns.map V.int).length (ns.map V.int).length hi - HT.sIx (ns.map V.int).length 0 lo),?_,?_⟩
 · unfold qIz
   rw [List.map_take,List.map_drop]
 · rw [List.length_take,List.length_drop];omega
theorem qUn {c A B:Prop} [Decidable c] (hc:¬ c)(h:A):if (!decide c)=true then A else B:=by
 rw [decide_eq_false hc]
 exact jI h
inductive Im where
 | clip (n:Str) (p q r s l:Int)
 | nest (n:Str) (b l:Int)
 | gap (l:Int)
 | mix (l:Int)
def Im.d:Im→D
 | .clip n p q r s l=>.tup [.leaf (.str "clip"),.leaf (.str n),.tup [.leaf (.int p),.leaf (.int q)],.tup [.leaf (.int r),.leaf (.int s)],.leaf (.int l)]
 | .nest n b l=>.tup [.leaf (.str "nest"),.leaf (.str n),.leaf (.int b),.leaf (.int l)]
 | .gap l=>.tup [.leaf (.str "gap"),.leaf (.int l)]
 | .mix l=>.tup [.leaf (.str "mix"),.leaf (.int l)]
def Im.wd:Im→Str
 | .clip .. =>"clip"
 | .nest .. =>"nest"
 | .gap _=>"gap"
 | .mix _=>"mix"
def Im.l:Im→Int
 | .clip _ _ _ _ _ l=>l
 | .nest _ _ l=>l
 | .gap l=>l
 | .mix l=>l
def TS (H H':Hp):Prop:=∀ b xs,H b=some (.tup xs)→H' b=some (.tup xs)
theorem TS.trans {H H1 H2:Hp}(a:TS H H1)(b:TS H1 H2):TS H H2:=fun c o h=>b c o (a c o h)
theorem qZ {H H':Hp}(e:Same H H'):TS H H':=fun _ _ h=>e _ _ h
theorem zZ {H:Hp}{l:Addr}{xs:List V}{o:HO}(h:H l=some (.lst xs)):TS H (upd H l o):=fun b ys hb=>by
 rw [qW (qJ9 hb h (by intro z;cases z))];exact hb
theorem xf {H H':Hp}{y:Addr}{o:HO}(e:Same H H')(h:H y=none):Same H (upd H' y o):=fun b u hb=>by
 rw [qW (qU hb h)];exact e b u hb
def IsI (H:Hp):Im→V→Prop
 | .clip n p q r s l,v=>∃ z x y:Addr,v= .ref z∧H z=some (.tup [.str "clip",.str n,.ref x,.ref y,.int l])∧H x=some (.tup [.int p,.int q])∧H y=some (.tup [.int r,.int s])
 | .nest n b l,v=>∃ z:Addr,v= .ref z∧H z=some (.tup [.str "nest",.str n,.int b,.int l])
 | .gap l,v=>∃ z:Addr,v= .ref z∧H z=some (.tup [.str "gap",.int l])
 | .mix l,v=>∃ z:Addr,v= .ref z∧H z=some (.tup [.str "mix",.int l])
theorem isG {H:Hp}{z:Addr}{l:Int}(h:H z=some (.tup [.str "gap",.int l])):IsI H (.gap l) (.ref z):=⟨z,rfl,h⟩
theorem isM {H:Hp}{z:Addr}{l:Int}(h:H z=some (.tup [.str "mix",.int l])):IsI H (.mix l) (.ref z):=⟨z,rfl,h⟩
theorem isN {H:Hp}{z:Addr}{n:Str}{b l:Int}(h:H z=some (.tup [.str "nest",.str n,.int b,.int l])):IsI H (.nest n b l) (.ref z):=⟨z,rfl,h⟩
theorem isC {H:Hp}{z x y:Addr}{n:Str}{p q r s l:Int}(h:H z=some (.tup [.str "clip",.str n,.ref x,.ref y,.int l]))(hx:H x=some (.tup [.int p,.int q]))(hy:H y=some (.tup [.int r,.int s])):IsI H (.clip n p q r s l) (.ref z):=⟨z,x,y,rfl,h,hx,hy⟩
theorem IsI.ts {H H':Hp}(e:TS H H'):∀ {m:Im} {v:V},IsI H m v→IsI H' m v
 | .clip ..,_,⟨z,x,y,h,hz,hx,hy⟩=>⟨z,x,y,h,e _ _ hz,e _ _ hx,e _ _ hy⟩
 | .nest ..,_,⟨z,h,hz⟩=>⟨z,h,e _ _ hz⟩
 | .gap _,_,⟨z,h,hz⟩=>⟨z,h,e _ _ hz⟩
 | .mix _,_,⟨z,h,hz⟩=>⟨z,h,e _ _ hz⟩
theorem IsI.opn {H:Hp}{m:Im}{v:V}(h:IsI H m v):∃ (z:Addr) (xs:List V),v= .ref z∧H z=some (.tup xs)∧atI xs 0=some (.str m.wd)∧atI xs (-1)=some (.int m.l):=by
 cases m with
 | clip n p q r s l=>obtain⟨z,x,y,h,hz,_⟩:=h;exact⟨z,_,h,hz,rfl,rfl⟩
 | nest n b l=>obtain⟨z,h,hz⟩:=h;exact⟨z,_,h,hz,rfl,rfl⟩
 | gap l=>obtain⟨z,h,hz⟩:=h;exact⟨z,_,h,hz,rfl,rfl⟩
 | mix l=>obtain⟨z,h,hz⟩:=h;exact⟨z,_,h,hz,rfl,rfl⟩
theorem qCc {H:Hp}:∀ {xs:List V},xs.all xn=true→Reps K H (xs.map D.leaf) xs
 | [],_=>by simp [Reps]
 | x::xs,h=>by
  rw [List.all_cons,Bool.and_eq_true] at h
  rw [List.map_cons];unfold Reps Rep
  exact⟨⟨rfl,h.1⟩,qCc h.2⟩
theorem wn {H:Hp}{z:Addr}{xs:List V}(hz:H z=some (.tup xs))(h:xs.all xn=true):Rep K H (.tup (xs.map D.leaf)) (.ref z):=by
 unfold Rep
 exact⟨z,xs,rfl,SqT.of hz,qCc h⟩
theorem IsI.rep {H:Hp}:∀ {m:Im} {v:V},IsI H m v→Rep K H m.d v
 | .clip n p q r s l,_,⟨z,x,y,h,hz,hx,hy⟩=>by
  subst h
  have h1:Rep K H (.tup [.leaf (.int p),.leaf (.int q)]) (.ref x):=wn hx rfl
  have h2:Rep K H (.tup [.leaf (.int r),.leaf (.int s)]) (.ref y):=wn hy rfl
  unfold Im.d Rep
  refine⟨z,_,rfl,SqT.of hz,?_⟩
  unfold Reps Reps Reps Reps Reps Reps
  refine⟨?_,?_,h1,h2,?_,trivial⟩
  · unfold Rep;exact⟨rfl,rfl⟩
  · unfold Rep;exact⟨rfl,rfl⟩
  · unfold Rep;exact⟨rfl,rfl⟩
 | .nest n b l,_,⟨z,h,hz⟩=>by subst h;exact wn hz rfl
 | .gap l,_,⟨z,h,hz⟩=>by subst h;exact wn hz rfl
 | .mix l,_,⟨z,h,hz⟩=>by subst h;exact wn hz rfl
theorem qP0 (m:Im):eqD m.d m.d=true:=by
 cases m <;> simp [Im.d,eqD,zN,eqV]
theorem qVp (m:Im):dep m.d≤2:=by
 cases m <;> simp [Im.d,dep,kj]
def IsIs (H:Hp):List Im→List V→Prop
 | [],[]=>True
 | m::ms,v::vs=>IsI H m v∧IsIs H ms vs
 | _,_=>False
theorem IsIs.len {H:Hp}:∀ {ms:List Im} {vs:List V},IsIs H ms vs→vs.length=ms.length
 | [],[],_=>rfl
 | _::_,_::_,h=>by rw [List.length_cons,List.length_cons,IsIs.len h.2]
 | [],_::_,h=>h.elim
 | _::_,[],h=>h.elim
theorem IsIs.ts {H H':Hp}(e:TS H H'):∀ {ms:List Im} {vs:List V},IsIs H ms vs→IsIs H' ms vs
 | [],[],_=>trivial
 | _::_,_::_,h=>⟨IsI.ts e h.1,IsIs.ts e h.2⟩
 | [],_::_,h=>h.elim
 | _::_,[],h=>h.elim
theorem IsIs.get {H:Hp}:∀ {ms:List Im} {vs:List V} {i:Nat} {v:V},IsIs H ms vs→vs[i]? =some v→∃ m,ms[i]? =some m∧IsI H m v
 | [],[],_,_,_,h=>by simp at h
 | m::_,x::_,0,v,h,e=>by
  have e':x=v:=by simpa using e
  subst e'
  exact⟨m,rfl,h.1⟩
 | _::ms,_::vs,i+1,v,h,e=>by
  obtain⟨m,h1,h2⟩:=IsIs.get (i:=i) h.2 (by simpa using e)
  exact⟨m,by simpa using h1,h2⟩
 | [],_::_,_,_,h,_=>h.elim
 | _::_,[],_,_,h,_=>h.elim
theorem IsIs.get' {H:Hp}{ms:List Im}{vs:List V}{i:Nat}{m:Im}(h:IsIs H ms vs)(e:ms[i]? =some m):∃ v,vs[i]? =some v∧IsI H m v:=by
 have hi:i < vs.length:=by rw [h.len];exact(glt e)
 have ev:vs[i]? =some vs[i]:=List.getElem?_eq_getElem hi
 obtain⟨m',h1,h2⟩:=h.get ev
 rw [e] at h1
 cases h1
 exact⟨_,ev,h2⟩
theorem IsIs.app {H:Hp}:∀ {ms:List Im} {vs:List V} {ms':List Im} {vs':List V},IsIs H ms vs→IsIs H ms' vs'→IsIs H (ms++ms') (vs++vs')
 | [],[],_,_,_,h'=>h'
 | _::_,_::_,_,_,h,h'=>⟨h.1,h.2.app h'⟩
 | [],_::_,_,_,h,_=>h.elim
 | _::_,[],_,_,h,_=>h.elim
theorem IsIs.one {H:Hp}{m:Im}{v:V}(h:IsI H m v):IsIs H [m] [v]:=⟨h,trivial⟩
theorem IsIs.rep {H:Hp}:∀ {ms:List Im} {vs:List V},IsIs H ms vs→Reps K H (ms.map Im.d) vs
 | [],[],_=>by unfold List.map Reps;trivial
 | _::_,_::_,h=>by unfold List.map Reps;exact⟨h.1.rep,h.2.rep⟩
 | [],_::_,h=>h.elim
 | _::_,[],h=>h.elim
theorem wj:∀ ms:List Im,zN (ms.map Im.d) (ms.map Im.d)=true
 | []=>by simp [zN]
 | m::ms=>by unfold List.map zN;rw [qP0,wj ms];rfl
theorem qEp:∀ ms:List Im,kj (ms.map Im.d)≤2
 | []=>by simp [kj]
 | m::ms=>by
  have h1:=qVp m
  have h2:=qEp ms
  unfold List.map kj
  omega
def Tr (H:Hp)(z:Addr)(ms:List Im):Prop:=∃ vs,H z=some (.lst vs)∧IsIs H ms vs
theorem Tr.same {H H':Hp}{z:Addr}{ms:List Im}(e:Same H H')(h:Tr H z ms):Tr H' z ms:=let ⟨vs,h1,h2⟩:=h;⟨vs,e _ _ h1,h2.ts (qZ e)⟩
theorem Tr.rep {H:Hp}{z:Addr}{ms:List Im}(h:Tr H z ms):Rep K H (.lst (ms.map Im.d)) (.ref z):=by
 obtain⟨vs,h1,h2⟩:=h
 unfold Rep
 exact⟨z,vs,rfl,SqL.of h1,h2.rep⟩
theorem eqTr {H:Hp}{x y:Addr}{ms:List Im}{Q:VK}(h1:Tr H x ms)(h2:Tr H y ms)(q:Q (.bl true) H):qRc K false (.ref x) (.ref y) H Q:=by
 refine⟨_,_,h1.rep,h2.rep,rfl,by have:=qEp ms;unfold dep;omega,?_⟩
 have e:eqD (.lst (ms.map Im.d)) (.lst (ms.map Im.d))=true:=by unfold eqD;exact wj ms
 rw [e]
 exact q
theorem qU1 {H:Hp}{x y:Addr}{ms:List Im}{Q:VK}(h1:Tr H x ms)(h2:H y=some (.lst []))(q:Q (.bl ms.isEmpty) H):qRc K false (.ref x) (.ref y) H Q:=by
 refine⟨_,.lst [],h1.rep,?_,rfl,by have:=qEp ms;unfold dep;omega,?_⟩
 · unfold Rep;exact⟨y,[],rfl,SqL.of h2,by unfold Reps;trivial⟩
 · have e:eqD (.lst (ms.map Im.d)) (.lst [])=ms.isEmpty:=by cases ms <;> simp [eqD,zN]
   rw [e]
   exact q
theorem qUw {H:Hp}{x y:Addr}{ms:List Im}{Q:VK}(h1:Tr H x ms)(h2:H y=some (.lst []))(q:Q (.bl (!ms.isEmpty)) H):qRc K true (.ref x) (.ref y) H Q:=by
 refine⟨_,.lst [],h1.rep,?_,rfl,by have:=qEp ms;unfold dep;omega,?_⟩
 · unfold Rep;exact⟨y,[],rfl,SqL.of h2,by unfold Reps;trivial⟩
 · have e:eqD (.lst (ms.map Im.d)) (.lst [])=ms.isEmpty:=by cases ms <;> simp [eqD,zN]
   rw [e]
   exact q
theorem qF9 {H:Hp}{x:Addr}{ns:List Int}(h:H x=some (.lst (ns.map V.int))):Rep K H (.lst ((ns.map V.int).map D.leaf)) (.ref x):=by
 unfold Rep
 exact⟨x,_,rfl,SqL.of h,qCc (by rw [List.all_map,List.all_eq_true];intro _ _;rfl)⟩
theorem qGh:∀ ns:List Int,zN ((ns.map V.int).map D.leaf) ((ns.map V.int).map D.leaf)=true
 | []=>by simp [zN]
 | n::ns=>by
  have ih:=qGh ns
  simp only [List.map_cons]
  unfold zN
  rw [ih]
  simp [eqD,eqV]
theorem qCv:∀ vs:List V,kj (vs.map D.leaf)=0
 | []=>by simp [kj]
 | n::ns=>by
  have ih:=qCv ns
  simp only [List.map_cons]
  unfold kj
  rw [ih]
  simp [dep]
theorem IsIs.dl {H:Hp}:∀ {ms:List Im} {vs:List V},IsIs H ms vs→IsIs H ms.dropLast vs.dropLast
 | [],[],_=>trivial
 | [_],[_],_=>trivial
 | _::_::_,_::_::_,h=>⟨h.1,IsIs.dl h.2⟩
 | [],_::_,h=>h.elim
 | _::_,[],h=>h.elim
 | [_],_::_::_,h=>h.2.elim
 | _::_::_,[_],h=>h.2.elim
theorem IsIs.last {H:Hp}{ms:List Im}{vs:List V}(h:IsIs H ms vs)(hne:ms≠[]):∃ v m,vs[vs.length - 1]? =some v∧ms.getLast?=some m∧m∈ms∧IsI H m v:=by
 have hl:0 < ms.length:=List.length_pos_iff.mpr hne
 have hi:vs.length - 1 < vs.length:=by rw [h.len];omega
 have ev:vs[vs.length - 1]? =some vs[vs.length - 1]:=List.getElem?_eq_getElem hi
 obtain⟨m,h1,h2⟩:=h.get ev
 refine⟨_,m,ev,?_,List.mem_of_getElem? h1,h2⟩
 rw [h.len] at h1
 rw [List.getLast?_eq_getElem?]
 exact h1
theorem zk {m:Im}(h:m.wd="gap"):∃ l,m= .gap l:=by
 cases m with
 | gap l=>exact⟨l,rfl⟩
 | clip=>exact absurd (show ("clip":Str)="gap" from h) (by decide+kernel)
 | nest=>exact absurd (show ("nest":Str)="gap" from h) (by decide+kernel)
 | mix=>exact absurd (show ("mix":Str)="gap" from h) (by decide+kernel)
def jw:Int→List Im→List Im
 | _,[]=>[]
 | w,.gap l::ms=>jw (w+l) ms
 | w,.clip n p q r s l::ms=>if 0 < w then .gap w:: .clip n p q r s l::jw 0 ms else .clip n p q r s l::jw 0 ms
 | w,.nest n b l::ms=>if 0 < w then .gap w:: .nest n b l::jw 0 ms else .nest n b l::jw 0 ms
 | w,.mix l::ms=>if 0 < w then .gap w:: .mix l::jw 0 ms else .mix l::jw 0 ms
theorem qi {m:Im}(h:m.wd≠"gap")(w:Int)(ms:List Im):jw w (m::ms)=if 0 < w then .gap w::m::jw 0 ms else m::jw 0 ms:=by
 cases m with
 | gap l=>exact absurd rfl h
 | _=>rw [jw]
theorem qCm:∀ (w:Int) (ms:List Im),jw 0 (jw w ms)=jw w ms
 | _,[]=>rfl
 | w,m::ms=>by
  by_cases h:m.wd="gap"
  · obtain⟨l,rfl⟩:=zk h
    rw [jw]
    exact qCm _ ms
  · rw [qi h]
    by_cases h0:0 < w
    · rw [if_pos h0,jw,qi h,if_pos (by omega),qCm 0 ms,Int.zero_add]
    · rw [if_neg h0,qi h,if_neg (by decide),qCm 0 ms]
theorem qAa (j:Int):∀ (w:Int) (ms:List Im),jw w (ms++[.gap j])=jw w ms
 | _,[]=>rfl
 | w,m::ms=>by
  by_cases h:m.wd="gap"
  · obtain⟨l,rfl⟩:=zk h
    rw [List.cons_append,jw,jw]
    exact qAa j _ ms
  · rw [List.cons_append,qi h,qi h,qAa j 0 ms]
theorem qFz:∀ (w:Int) (ms:List Im),(jw w ms).length≤2*ms.length
 | _,[]=>by simp [jw]
 | w,m::ms=>by
  by_cases h:m.wd="gap"
  · obtain⟨l,rfl⟩:=zk h
    have:=qFz (w+l) ms
    rw [jw,List.length_cons]
    omega
  · have:=qFz 0 ms
    rw [qi h]
    split <;> simp only [List.length_cons] <;> omega
inductive qJd (vs:List V)(H:Hp)(Q:VK)(_:XK):Prop
| mk (z:Addr) (ms:List Im) (_:vs=[.ref z]) (_:Tr H z ms) (_:ms.length≤300) (_:∀ (y:Addr) (H':Hp),Same H H'→H y=none→Tr H' y (jw 0 ms)→Q (.ref y) H')
theorem qCz (T:Tx K mg a):FnOk P w K mg base CX0 1 a.A24 a.B24 ["some"] qJd:=by
 refine T.D24.F.ok xQ (fun vs H Q E h=>?_) (fun cdv A outer s H vs Q E hr h=>?_)
 · obtain⟨z,ms,rfl,_⟩:=h
   rfl
 refine qM fun _ Y=>?_
 obtain⟨z,ms,rfl,⟨xs,hz,his⟩,hl,kk⟩:=h
 apply Y
 refine⟨_,(qD (qX 1 xQ.nd (qr qE))
  (qD (qX 2 xQ.nd qG)
  (qD (xg PassesOwn.never rfl (jW (pv 0)) (qz (i:=3) xQ.nd rfl (Or.inl rfl)) (qF (qd (qH jX (qJ (pv 3)) qS (qN _)) (qF (qX 2 xQ.nd (qO qp (pv 2) (qJ (pv 3))))) (qD (qd (qH qGr (pv 2) qG (qN _)) (qF (jn (qDj F.plainAttrs_list F.slot_list_append F.type_list_append jm (pv 1) (qA (qo (qA qS (qA (pv 2) qE))) qE)))) qP)
  (qD (qX 2 xQ.nd qG)
  (qF (jn (qDj F.plainAttrs_list F.slot_list_append F.type_list_append jm (pv 1) (qA (pv 3) qE)))))))))
  (qF (qL (pv 1)))))),?_⟩
 try dsimp only [jc,qj]
 refine⟨sL0,fun y hy=>?_⟩
 refine⟨_,rfl,z,rfl,⟨_,SqL.of ((qC hy _) _ _ hz)⟩,xI (K:=K) (a:=z) (xs:=xs) (fun i σ H'=>∃ (w:Int) (as:List Im) (o:Option V) (vs:List V),σ=[some (.ref z),some (.ref y),some (.int w),o]∧H' y=some (.lst vs)∧IsIs H' as vs∧as.length≤2*i∧as++jw w (ms.drop i)=jw 0 ms∧Same H H')
  ⟨0,[],none,[],rfl,qB,trivial,by simp,rfl,qC hy _⟩ ?_ ?_ ?_⟩
 · rintro i σ H' hi ⟨w,as,o,vs,rfl,_,_,_,_,e⟩
   exact SqL.of (e _ _ hz)
 · rintro i x σ H' hx ⟨w,as,o,vs,rfl,hv,hiv,hal,hap,e⟩
   refine qM fun _ Y=>?_
   obtain⟨m,hm,hIx⟩:=his.get hx
   have hI:=hIx.ts (qZ e)
   have hi:i < ms.length:=(glt hm)
   have hd:ms.drop i=m::ms.drop (i+1):=by
    rw [List.drop_eq_getElem_cons hi]
    rw [List.getElem?_eq_getElem hi] at hm
    cases hm
    rfl
   have hvl:vs.length≤2*i:=by rw [hiv.len];exact hal
   obtain⟨zi,xi,rfl,hzi,h0,h1⟩:=hI.opn
   apply Y
   refine⟨_,rfl,zi,xi,_,_,rfl,rfl,SqT.of hzi,h0,rfl,_,rfl,ju (fun c=>?_) (fun c=>?_)⟩
   · obtain⟨l,rfl⟩:=zk (by simpa using c)
     refine qM fun _ Y=>?_
     obtain⟨z2,e2,hz2⟩:=hI
     cases e2
     apply Y
     refine⟨_,rfl,ixO hz2 at1 ⟨_,_,rfl,rfl,w+l,as,_,vs,rfl,hv,hiv,by omega,?_,e⟩⟩
     rw [hd,jw] at hap
     exact hap
   · have hne:m.wd≠"gap":=by simpa using c
     rw [hd,qi hne] at hap
     refine⟨_,rfl,_,_,rfl,rfl,_,rfl,ju (fun c=>?_) (fun c=>?_)⟩
     · have c':0 < w:=by simpa using c
       rw [if_pos c'] at hap
       refine⟨_,rfl,.inl ⟨rfl,_,SqL.of hv⟩,_,rfl,sL2,fun g hg=>?_⟩
       have w1:=qC hg (.tup [.str "gap",.int w])
       refine⟨y,_,_,rfl,rfl,w1 _ _ hv,qY (by omega),?_⟩
       have t2:TS (upd H' g (.tup [.str "gap",.int w])) (upd (upd H' g (.tup [.str "gap",.int w])) y (.lst (vs++[.ref g]))):=zZ (w1 _ _ hv)
       have k2:IsIs (upd (upd H' g (.tup [.str "gap",.int w])) y (.lst (vs++[.ref g]))) (as++[.gap w]) (vs++[.ref g]):=((hiv.ts (qZ w1)).app (.one (isG qB))).ts t2
       have k1:IsI (upd (upd H' g (.tup [.str "gap",.int w])) y (.lst (vs++[.ref g]))) m (.ref zi):=(hI.ts (qZ w1)).ts t2
       have e2:Same H (upd (upd H' g (.tup [.str "gap",.int w])) y (.lst (vs++[.ref g]))):=xf (e.trans w1) hy
       have hv2:(upd (upd H' g (.tup [.str "gap",.int w])) y (.lst (vs++[.ref g]))) y=some (.lst (vs++[.ref g])):=qB
       generalize upd (upd H' g (.tup [.str "gap",.int w])) y (.lst (vs++[.ref g]))=H2 at k1 k2 e2 hv2 ⊢
       refine⟨_,rfl,.inl ⟨rfl,_,SqL.of hv2⟩,_,rfl,y,_,_,rfl,rfl,hv2,qY (by rw [List.length_append];simp;omega),?_⟩
       refine⟨0,as++[.gap w]++[m],_,_,rfl,qB,(k2.app (.one k1)).ts (zZ hv2),by simp;omega,?_,xf e2 hy⟩
       rw [← hap];simp
     · have c':¬ 0 < w:=by simpa using c
       rw [if_neg c'] at hap
       refine⟨_,rfl,.inl ⟨rfl,_,SqL.of hv⟩,_,rfl,y,_,_,rfl,rfl,hv,qY (by omega),?_⟩
       refine⟨0,as++[m],_,_,rfl,qB,(hiv.app (.one hI)).ts (zZ hv),by simp;omega,?_,xf e hy⟩
       rw [← hap];simp
 · rintro σ H' ⟨w,as,o,vs,rfl,hv,hiv,_,hap,e⟩
   refine⟨_,rfl,kk y H' e hy ⟨vs,hv,?_⟩⟩
   rw [his.len,List.drop_length,jw,List.append_nil] at hap
   rw [← hap]
   exact hiv
def Im.mo:Im→Int
 | .mix _=>0
 | .clip _ _ _ _ _ l=>l
 | .nest _ _ l=>l
 | .gap l=>l
theorem qE7 {α:Type}{xs:List α}{v:α}(h:xs[xs.length - 1]? =some v):atI xs (-1)=some v:=by
 have hl:0 < xs.length:=by
  have:=(glt h)
  omega
 have e:ixN xs.length (-1)=some (xs.length - 1):=by
  unfold ixN
  rw [if_neg (by decide),if_pos (by omega)]
  congr 1
  omega
 unfold atI;rw [e];exact h
theorem jD {m:Im}(h:m.wd="mix"):∃ l,m= .mix l:=by
 cases m with
 | mix l=>exact⟨l,rfl⟩
 | clip=>exact absurd (show ("clip":Str)="mix" from h) (by decide+kernel)
 | nest=>exact absurd (show ("nest":Str)="mix" from h) (by decide+kernel)
 | gap=>exact absurd (show ("gap":Str)="mix" from h) (by decide+kernel)
theorem qO1 {m:Im}(h:m.wd≠"mix"):m.mo=m.l:=by
 cases m with
 | mix l=>exact absurd rfl h
 | _=>rfl
theorem qSp {x y:Str}:decide (V.str x=V.str y)=decide (x=y):=by
 rw [Bool.eq_iff_iff];simp
inductive qGa (vs:List V)(H:Hp)(Q:VK)(_:XK):Prop
| mk (v:V) (m:Im) (_:vs=[v]) (_:IsI H m v) (_:Q (.int m.mo) H)
theorem ja (T:Tx K mg a):FnOk P w K mg base CX0 1 a.A23 a.B23 ["item"] qGa:=by
 refine T.D23.F.ok qF6 (fun vs H Q E h=>?_) (fun cdv A outer s H vs Q E hr h=>?_)
 · obtain⟨v,m,rfl,_⟩:=h
   rfl
 refine qM fun _ Y=>?_
 obtain⟨v,m,rfl,hI,kk⟩:=h
 apply Y
 refine⟨_,(qF (qL (qCe (qH jX (qJ (pv 0)) qS (qN _)) qG (jK qBp (pv 0) (kh xP qG) (fun _ _=>rfl))))),?_⟩
 try dsimp only [jc,qj]
 refine qM fun _ Y=>?_
 obtain⟨z,xs,rfl,hz,h0,h1⟩:=hI.opn
 apply Y
 refine⟨_,rfl,z,xs,_,_,rfl,rfl,SqT.of hz,h0,rfl,_,rfl,ju (fun c=>?_) (fun c=>?_)⟩
 · obtain⟨l,rfl⟩:=jD (by simpa using c)
   exact kk
 · rw [qO1 (by simpa using c)] at kk
   exact⟨_,rfl,_,rfl,z,xs,_,_,rfl,rfl,SqT.of hz,h1,kk⟩
inductive qG1 (vs:List V)(H:Hp)(Q:VK)(_:XK):Prop
| mk (z:Addr) (ms:List Im) (_:vs=[.ref z]) (_:Tr H z ms) (_:ms.length≤300) (_:∀ H',Same H H'→Q (.int (ms.map Im.mo).sum) H')
theorem qBs (T:Tx K mg a):FnOk P w K mg base CX0 3 a.A25 a.B25 ["track"] qG1:=by
 refine T.D25.F.ok qG0 (fun vs H Q E h=>?_) (fun cdv A outer s H vs Q E hr h=>?_)
 · obtain⟨z,ms,rfl,_⟩:=h
   rfl
 refine qM fun _ Y=>?_
 obtain⟨z,ms,rfl,⟨xs,hz,his⟩,hl,kk⟩:=h
 apply Y
 refine⟨_,(qF (qL (qc (wV rfl) rfl T.b_sum rfl (qA (zd [] [] rfl (jW (pv 0)) (fun _ _ _ _=>(qK T.D23 (ja T) hr rfl (qA (pv 0) qE)))) qE)))),?_⟩
 try dsimp only [jc,qj]
 refine⟨_,rfl,z,rfl,⟨_,SqL.of hz⟩,wW (K:=K) (a:=z) (xs:=xs) (fun i acc H'=>H'=H∧acc=((ms.take i).map Im.mo).map V.int) ⟨rfl,rfl⟩ ?_ ?_ ?_⟩
 · rintro i acc H' hi ⟨rfl,rfl⟩
   exact⟨SqL.of hz,qY (by simp;omega)⟩
 · rintro i x acc H' hi hx ⟨rfl,rfl⟩
   refine qM fun _ Y=>?_
   obtain⟨m,hm,hI⟩:=his.get hx
   apply Y
   refine⟨_,rfl,x,m,rfl,hI,Nxt.mk hi ⟨rfl,?_⟩⟩
   rw [List.take_add_one,hm]
   simp
 · rintro acc H' ⟨rfl,rfl⟩ d hd
   refine⟨d,(ms.map Im.mo),rfl,?_,kk _ (qC hd _)⟩
   rw [his.len,List.take_length]
   exact SqL.of qB
def zw:Int→List Im→List Int
 | _,[]=>[]
 | b,.mix _::ms=>zw b ms
 | b,.clip _ _ _ _ _ l::ms=>(b+l)::zw (b+l) ms
 | b,.nest _ _ l::ms=>(b+l)::zw (b+l) ms
 | b,.gap l::ms=>(b+l)::zw (b+l) ms
theorem wP {m:Im}(h:m.wd≠"mix")(b:Int)(ms:List Im):zw b (m::ms)=(b+m.l)::zw (b+m.l) ms:=by
 cases m with
 | mix l=>exact absurd rfl h
 | _=>rfl
theorem wy:∀ (b:Int) (ms:List Im),(zw b ms).length≤ms.length
 | _,[]=>by simp [zw]
 | b,m::ms=>by
  by_cases h:m.wd="mix"
  · obtain⟨l,rfl⟩:=jD h
    have:=wy b ms
    rw [zw,List.length_cons];omega
  · have:=wy (b+m.l) ms
    rw [wP h,List.length_cons,List.length_cons];omega
def qWm (H:Hp)(Q:VK)(ms:List Im):Prop:=∀ (y:Addr) (H':Hp),Same H H'→H y=none→H' y=some (.lst ((0::zw 0 ms).map V.int))→Q (.ref y) H'
inductive qE9 (vs:List V)(H:Hp)(Q:VK)(_:XK):Prop
| mk (z:Addr) (ms:List Im) (_:vs=[.ref z]) (_:Tr H z ms) (_:ms.length≤300) (_:qWm H Q ms)
theorem qFa (T:Tx K mg a):FnOk P w K mg base CX0 3 a.A26 a.B26 ["track"] qE9:=by
 refine T.D26.F.ok z8 (fun vs H Q E h=>?_) (fun cdv A outer s H vs Q E hr h=>?_)
 · obtain⟨z,ms,rfl,_⟩:=h
   rfl
 refine qM fun _ Y=>?_
 obtain⟨z,ms,rfl,⟨xs,hz,his⟩,hl,kk⟩:=h
 apply Y
 refine⟨_,(qD (qX 1 z8.nd (qr (qA qG qE)))
  (qD (xg PassesOwn.never rfl (jW (pv 0)) (qz (i:=2) z8.nd rfl (Or.inl rfl)) (qF (qd (qH zP (qJ (pv 2)) qS (qN _)) (qF (jn (qDj F.plainAttrs_list F.slot_list_append F.type_list_append jm (pv 1) (qA (qO qp (jK q9 (pv 1) (kh xP qG) (fun _ _=>rfl)) (qK T.D23 (ja T) hr rfl (qA (pv 2) qE))) qE)))) qP)))
  (qF (qL (pv 1))))),?_⟩
 try dsimp only [jc,qj]
 refine⟨sL1,fun y hy=>?_⟩
 refine⟨_,rfl,z,rfl,⟨_,SqL.of ((qC hy _) _ _ hz)⟩,xI (K:=K) (a:=z) (xs:=xs) (fun i σ H'=>∃ (b:Int) (as:List Int) (o:Option V),σ=[some (.ref z),some (.ref y),o]∧H' y=some (.lst ((as++[b]).map V.int))∧as.length≤i∧as++[b]++zw b (ms.drop i)=0::zw 0 ms∧Same H H')
  ⟨0,[],none,rfl,qB,by simp,rfl,qC hy _⟩ ?_ ?_ ?_⟩
 · rintro i σ H' hi ⟨b,as,o,rfl,_,_,_,e⟩
   exact SqL.of (e _ _ hz)
 · rintro i x σ H' hx ⟨b,as,o,rfl,hv,hal,hap,e⟩
   refine qM fun _ Y=>?_
   obtain⟨m,hm,hIx⟩:=his.get hx
   have hI:=hIx.ts (qZ e)
   have hi:i < ms.length:=(glt hm)
   have hd:ms.drop i=m::ms.drop (i+1):=by
    rw [List.drop_eq_getElem_cons hi]
    rw [List.getElem?_eq_getElem hi] at hm
    cases hm
    rfl
   obtain⟨zi,xi,rfl,hzi,h0,h1⟩:=hI.opn
   apply Y
   rw [hd] at hap
   refine⟨_,rfl,zi,xi,_,_,rfl,rfl,SqT.of hzi,h0,rfl,_,rfl,ju (fun c=>?_) (fun c=>?_)⟩
   · have hne:m.wd≠"mix":=by simpa using c
     rw [wP hne] at hap
     have hb:atI ((as++[b]).map V.int) (-1)=some (.int b):=by rw [List.map_append];exact qQf _ _
     refine⟨_,rfl,.inl ⟨rfl,_,SqL.of hv⟩,_,rfl,_,rfl,y,_,_,_,rfl,rfl,SqL.of hv,hb,?_⟩
     refine⟨_,rfl,_,m,rfl,hI,?_⟩
     rw [qO1 hne]
     refine⟨_,_,rfl,rfl,y,_,_,rfl,rfl,hv,qY (by simp;omega),?_⟩
     refine⟨b+m.l,as++[b],_,rfl,?_,by simp;omega,?_,xf e hy⟩
     · rw [qB];simp
     · rw [← hap];simp
   · obtain⟨l,rfl⟩:=jD (by simpa using c)
     rw [zw] at hap
     exact⟨b,as,_,rfl,hv,by omega,hap,e⟩
 · rintro σ H' ⟨b,as,o,rfl,hv,hal,hap,e⟩
   rw [his.len,List.drop_length,zw,List.append_nil] at hap
   rw [hap] at hv
   exact⟨_,rfl,kk y H' e hy hv⟩
def xh:Int→Nat→List Im→Int→Option (Nat × Int)
 | _,_,[],_=>none
 | b,i,m::ms,t=>if b≤t∧t < b+m.mo then some (i,t - b) else xh (b+m.mo) (i+1) ms t
def AtR (H:Hp)(Q:VK)(r:Option (Nat × Int)):Prop:=match r with
 | none=>∀ H',Same H H'→Q .non H'
 | some (i,d)=>∀ (p:Addr) (H':Hp),Same H H'→H' p=some (.tup [.int (i:Int),.int d])→Q (.ref p) H'
theorem jd {α:Type}{xs:List α}{i:Nat}{x:α}(h:xs[i]? =some x):xs.drop i=x::xs.drop (i+1):=by
 have hi:i < xs.length:=(glt h)
 rw [List.drop_eq_getElem_cons hi]
 rw [List.getElem?_eq_getElem hi] at h
 cases h
 rfl
inductive qL0 (vs:List V)(H:Hp)(Q:VK)(_:XK):Prop
| mk (z:Addr) (ms:List Im) (t:Int) (_:vs=[.ref z,.int t]) (_:Tr H z ms) (_:AtR H Q (xh 0 0 ms t))
theorem qAs (T:Tx K mg a):FnOk P w K mg base CX0 3 a.A27 a.B27 ["track","moment"] qL0:=by
 refine T.D27.F.ok zA (fun vs H Q E h=>?_) (fun cdv A outer s H vs Q E hr h=>?_)
 · obtain⟨z,ms,t,rfl,_⟩:=h
   rfl
 refine qM fun _ Y=>?_
 obtain⟨z,ms,t,rfl,⟨xs,hz,his⟩,kk⟩:=h
 apply Y
 refine⟨_,(qD (qX 2 zA.nd qG)
  (qD (xg PassesOwn.never rfl (qNo rfl T.b_enumerate (qA (pv 0) qE)) (qH4 rfl (xV (qz (i:=3) zA.nd rfl (Or.inl rfl)) (xV (qz (i:=4) zA.nd rfl (Or.inl rfl)) qDh))) (qD (qX 5 zA.nd (qO qp (pv 2) (qK T.D23 (ja T) hr rfl (qA (pv 4) qE))))
  (qD (qd (PW.pt (xH (qH qJ3 (pv 2) (pv 1) (qN _)) (jq (qH xx (pv 1) (pv 5) (qN _))))) (qF (qL (qo (qA (pv 3) (qA (qO jM (pv 1) (pv 2)) qE))))) qP)
  (qF (qX 2 zA.nd (pv 5))))))
  (qF (qL qEw)))),?_⟩
 try dsimp only [jc,qj]
 refine⟨_,rfl,z,rfl,⟨_,SqL.of hz⟩,qP1 (K:=K) (a:=z) (xs:=xs) (fun i σ H'=>∃ (b:Int) (o1 o2 o3:Option V),σ=[some (.ref z),some (.int t),some (.int b),o1,o2,o3]∧xh b i (ms.drop i) t=xh 0 0 ms t∧Same H H')
  ⟨0,none,none,none,rfl,rfl,Same.refl _⟩ ?_ ?_ ?_⟩
 · rintro i σ H' hi ⟨b,o1,o2,o3,rfl,_,e⟩
   exact SqL.of (e _ _ hz)
 · rintro i x σ H' p hx ⟨b,o1,o2,o3,rfl,hap,e⟩ hp
   refine qM fun _ Y=>?_
   obtain⟨m,hm,hIx⟩:=his.get hx
   apply Y
   have w1:=qC hp (.tup [.int (i:Int),x])
   have e1:=e.trans w1
   have hI:=hIx.ts (qZ e1)
   rw [jd hm,xh] at hap
   refine⟨p,_,rfl,SqT.of qB,rfl,_,_,rfl,_,_,rfl,rfl,?_⟩
   generalize upd H' p (.tup [.int (i:Int),x])=H1 at e1 hI ⊢
   refine⟨_,rfl,_,rfl,x,m,rfl,hI,_,_,rfl,rfl,?_⟩
   refine⟨_,rfl,_,rfl,_,_,rfl,rfl,_,rfl,?_⟩
   refine ju (fun c1=>?_) (fun c1=>?_)
   · refine⟨_,rfl,_,rfl,_,_,rfl,rfl,_,rfl,?_⟩
     refine ju (fun c2=>?_) (fun c2=>?_)
     · rw [if_pos ⟨by simpa using c1,by simpa using c2⟩] at hap
       rw [← hap] at kk
       refine⟨_,rfl,_,rfl,_,rfl,_,_,rfl,rfl,sL2,fun q hq=>?_⟩
       exact kk q _ (e1.trans (qC hq _)) qB
     · rw [if_neg (fun c=>c2 (by simpa using c.2))] at hap
       exact⟨_,rfl,_,_,_,_,rfl,hap,e1⟩
   · rw [if_neg (fun c=>c1 (by simpa using c.1))] at hap
     exact qm ⟨_,rfl,_,_,_,_,rfl,hap,e1⟩
 · rintro σ H' ⟨b,o1,o2,o3,rfl,hap,e⟩
   rw [his.len,List.drop_length,xh] at hap
   rw [← hap] at kk
   exact kk H' e
def Sh (H:Hp)(z:Addr)(p q r s:Int):Prop:=∃ x y:Addr,H z=some (.tup [.ref x,.ref y])∧H x=some (.tup [.int p,.int q])∧H y=some (.tup [.int r,.int s])
inductive qGk (vs:List V)(H:Hp)(Q:VK)(_:XK):Prop
| mk (l j:Int) (_:vs=[.int l,.int j]) (_:0≤j) (_:j < l) (_:l < 2 ^ 60) (_:∀ (z:Addr) (H':Hp),Same H H'→Sh H' z (jk (l - j) (l+1)) (jU (l - j) (l+1)) (jk (j+1) (l+1)) (jU (j+1) (l+1))→Q (.ref z) H')
theorem p60 {b:Int}(h0:0 < b)(h:b < 2 ^ 61):b.natAbs < 2 ^ 8000:=by
 have e:b.natAbs < 2 ^ 61:=by omega
 exact Nat.lt_of_lt_of_le e (Nat.pow_le_pow_right (by decide) (by decide))
theorem qGi (T:Tx K mg a):FnOk P w K mg base CX0 3 a.A39 a.B39 ["length","j"] qGk:=by
 refine T.D39.F.ok qGc (fun vs H Q E h=>?_) (fun cdv A outer s H vs Q E hr h=>?_)
 · obtain⟨l,j,rfl,_⟩:=h
   rfl
 refine qM fun _ Y=>?_
 obtain⟨l,j,rfl,j0,j1,l1,kk⟩:=h
 apply Y
 refine⟨_,(qF (qL (qo (qA (qK T.D3 (jo T) hr rfl (qA (qO jM (pv 0) (pv 1)) (qA (qO qp (pv 0) qG) qE))) (qA (qK T.D3 (jo T) hr rfl (qA (qO qp (pv 1) qG) (qA (qO qp (pv 0) qG) qE))) qE))))),?_⟩
 try dsimp only [jc,qj]
 refine⟨_,rfl,_,rfl,_,_,rfl,rfl,_,rfl,_,_,rfl,rfl,_,_,rfl,by omega,p60 (by omega) (by omega),fun x hx=>?_⟩
 refine⟨_,rfl,_,_,rfl,rfl,_,rfl,_,_,rfl,rfl,_,_,rfl,by omega,p60 (by omega) (by omega),fun y hy=>?_⟩
 refine⟨sL2,fun z hz=>?_⟩
 have w1:=qC hx (.tup [.int (jk (l - j) (l+1)),.int (jU (l - j) (l+1))])
 have w2:=qC hy (.tup [.int (jk (j+1) (l+1)),.int (jU (j+1) (l+1))])
 have w3:=qC hz (.tup [.ref x,.ref y])
 exact kk z _ ((w1.trans w2).trans w3) ⟨x,y,qB,w3 _ _ (w2 _ _ qB),w3 _ _ qB⟩
def jh (ms:List Im)(i:Int):Str:=if i < 0 then "" else match ms[i.toNat]? with
 | some m=>m.wd
 | none=>""
theorem wq {ms:List Im}{i:Nat}{m:Im}(h:ms[i]? =some m){k:Int}(hk:k=(i:Int)):jh ms k=m.wd:=by
 subst hk
 unfold jh
 rw [if_neg (by omega)]
 have e:((i:Int)).toNat=i:=by omega
 rw [e,h]
inductive qLp (vs:List V)(H:Hp)(Q:VK)(_:XK):Prop
| mk (z:Addr) (ms:List Im) (i:Int) (_:vs=[.ref z,.int i]) (_:Tr H z ms) (_:Q (.str (jh ms i)) H)
theorem zB (T:Tx K mg a):FnOk P w K mg base CX0 1 a.A28 a.B28 ["track","place"] qLp:=by
 refine T.D28.F.ok qL3 (fun vs H Q E h=>?_) (fun cdv A outer s H vs Q E hr h=>?_)
 · obtain⟨z,ms,i,rfl,_⟩:=h
   rfl
 refine qM fun _ Y=>?_
 obtain⟨z,ms,i,rfl,⟨vs,hz,his⟩,q⟩:=h
 apply Y
 refine⟨_,(qD (qd (PW.pt (j2 (qH xx (pv 1) qG (qN _)) (jV (qH qGb (pv 1) (qc jY rfl T.b_len rfl (qA (pv 0) qE)) (qN _))))) (qF (qL qS)) qP)
  (qF (qL (qJ (jK q9 (pv 0) (pv 1) (fun _ _=>rfl)))))),?_⟩
 try dsimp only [jc,qj]
 have hl:=his.len
 refine⟨_,rfl,_,_,rfl,rfl,_,rfl,?_⟩
 by_cases h0:i < 0
 · rw [decide_eq_true h0]
   have e:jh ms i="":=by unfold jh;rw [if_pos h0]
   rw [e] at q
   exact jI (jI q)
 rw [decide_eq_false h0]
 refine qm ⟨_,rfl,_,rfl,z,_,rfl,.inl (SqL.of hz),_,_,rfl,rfl,_,rfl,?_⟩
 by_cases h1:((vs.length:Nat):Int)≤i
 · rw [decide_eq_true (show i ≥ ((vs.length:Nat):Int) from h1)]
   have e:jh ms i="":=by
    unfold jh
    rw [if_neg h0,List.getElem?_eq_none (by omega)]
   rw [e] at q
   exact jI q
 · rw [decide_eq_false (show ¬ i ≥ ((vs.length:Nat):Int) from h1)]
   refine qm ?_
   have hi:i.toNat < ms.length:=by omega
   have hm:ms[i.toNat]? =some ms[i.toNat]:=List.getElem?_eq_getElem hi
   refine qM fun _ Y=>?_
   obtain⟨v,hv,hI⟩:=his.get' hm
   obtain⟨zi,xi,rfl,hzi,q0,_⟩:=hI.opn
   apply Y
   have ei:i=((i.toNat:Nat):Int):=by omega
   have hat:atI vs i=some (.ref zi):=by
    rw [ei];exact jJ hv
   have e:jh ms i=ms[i.toNat].wd:=wq hm ei
   rw [e] at q
   exact⟨_,rfl,_,rfl,z,_,_,_,rfl,rfl,SqL.of hz,hat,zi,xi,_,_,rfl,rfl,SqT.of hzi,q0,q⟩
def qK5 (ms:List Im)(i:Nat):Int:=((ms.take i).map Im.mo).sum
theorem qBe:∀ (xs:List Im) (b:Int) (i0:Nat) (m:Im) (ys:List Im),(∀ x∈xs,0≤x.mo)→0 < m.mo→xh b i0 (xs++m::ys) (b+(xs.map Im.mo).sum)=some (i0+xs.length,0)
 | [],b,i0,m,ys,_,hm=>by
  rw [List.nil_append,xh,if_pos (by simp;omega)]
  simp
 | x::xs,b,i0,m,ys,hx,hm=>by
  have h0:=hx x (by simp)
  have hs:0≤(xs.map Im.mo).sum:=by
   have:∀ (zs:List Im),(∀ z∈zs,0≤z.mo)→0≤(zs.map Im.mo).sum:=fun zs=>by
    induction zs with
    | nil=>intro _;simp
    | cons z zs ih=>intro h;have:=ih fun y hy=>h y (by simp [hy]);have:=h z (by simp);rw [List.map_cons,List.sum_cons];omega
   exact this xs fun y hy=>hx y (by simp [hy])
  have ih:=qBe xs (b+x.mo) (i0+1) m ys (fun y hy=>hx y (by simp [hy])) hm
  rw [List.cons_append,xh,List.map_cons,List.sum_cons,if_neg (by omega)]
  have e:b+(x.mo+(xs.map Im.mo).sum)=b+x.mo+(xs.map Im.mo).sum:=by omega
  rw [e,ih,List.length_cons]
  congr 2
  omega
inductive qEo (vs:List V)(H:Hp)(Q:VK)(_:XK):Prop
| mk (z:Addr) (ms:List Im) (i:Int) (_:vs=[.ref z,.int i]) (_:Tr H z ms) (_:Q (.int (if jh ms (i - 1)="mix" then i - 2 else i - 1)) H)
theorem qEe (T:Tx K mg a):FnOk P w K mg base CX0 2 a.A29 a.B29 ["track","place"] qEo:=by
 refine T.D29.F.ok qEk (fun vs H Q E h=>?_) (fun cdv A outer s H vs Q E hr h=>?_)
 · obtain⟨z,ms,i,rfl,_⟩:=h
   rfl
 refine qM fun _ Y=>?_
 obtain⟨z,ms,i,rfl,tT,q⟩:=h
 apply Y
 refine⟨_,(qF (qL (qCe (qH jX (qK T.D28 (zB T) hr rfl (qA (pv 0) (qA (qO jM (pv 1) qG) qE))) qS (qN _)) (qO jM (pv 1) qG) (qO jM (pv 1) qG)))),?_⟩
 try dsimp only [jc,qj]
 refine⟨_,rfl,_,rfl,_,_,rfl,rfl,z,ms,_,rfl,tT,rfl,_,rfl,ju (fun c=>?_) (fun c=>?_)⟩
 · rw [if_pos (by simpa using c)] at q
   exact⟨_,rfl,_,_,rfl,rfl,q⟩
 · rw [if_neg (by simpa using c)] at q
   exact⟨_,rfl,_,_,rfl,rfl,q⟩
def nbF (ms:List Im)(t:Int):Option (Int × Int):=match xh 0 0 ms t with
 | some (i,d)=>if d≠0∨(i:Int)=0 then none else some (if jh ms ((i:Int) - 1)="mix" then (i:Int) - 2 else (i:Int) - 1,(i:Int))
 | none=>none
def cbF (ms:List Im)(t:Int):Option (Int × Int):=match nbF ms t with
 | some (i,j)=>if jh ms i="clip"∧jh ms j="clip" then some (i,j) else none
 | none=>none
def PrR (H:Hp)(Q:VK)(r:Option (Int × Int)):Prop:=match r with
 | none=>∀ H',Same H H'→Q .non H'
 | some (i,j)=>∀ (p:Addr) (H':Hp),Same H H'→H' p=some (.tup [.int i,.int j])→Q (.ref p) H'
inductive qB2 (vs:List V)(H:Hp)(Q:VK)(_:XK):Prop
| mk (z:Addr) (ms:List Im) (t:Int) (_:vs=[.ref z,.int t]) (_:Tr H z ms) (_:PrR H Q (nbF ms t))
theorem qB5 (T:Tx K mg a):FnOk P w K mg base CX0 4 a.A31 a.B31 ["track","moment"] qB2:=by
 refine T.D31.F.ok ke (fun vs H Q E h=>?_) (fun cdv A outer s H vs Q E hr h=>?_)
 · obtain⟨z,ms,t,rfl,_⟩:=h
   rfl
 refine qM fun _ Y=>?_
 obtain⟨z,ms,t,rfl,tT,kk⟩:=h
 apply Y
 refine⟨_,(qD (qX 2 ke.nd (qK T.D27 (qAs T) hr rfl (qA (pv 0) (qA (pv 1) qE))))
  (qD (qd (PW.pt (j2 (qDs (qH9 (pv 2))) (j2 (qH zP (qJ (pv 2)) qG (qN _)) (jV (qH jX (qJ (pv 2)) qG (qN _)))))) (qF (qL qEw)) qP)
  (qF (qL (qo (qA (qK T.D29 (qEe T) hr rfl (qA (pv 0) (qA (qJ (pv 2)) qE))) (qA (qJ (pv 2)) qE))))))),?_⟩
 try dsimp only [jc,qj]
 refine⟨_,rfl,_,rfl,z,ms,_,rfl,tT,?_⟩
 unfold nbF at kk
 cases hit:xh 0 0 ms t with
 | none=>
  rw [hit] at kk
  intro H1 e1
  exact⟨_,rfl,_,rfl,jI (kk H1 e1)⟩
 | some x=>
  obtain⟨i,d⟩:=x
  rw [hit] at kk
  dsimp only at kk
  intro p H1 e1 hp
  refine⟨_,rfl,_,rfl,ju (fun c=>absurd c (by simp)) (fun _=>?_)⟩
  refine(ixO hp at1 ?_)
  refine⟨rfl,_,rfl,ju (fun c=>?_) (fun c=>?_)⟩
  · rw [if_pos (.inl (by simpa using c))] at kk
    exact kk H1 e1
  · refine(ixO hp at0 ?_)
    refine⟨rfl,_,rfl,ju (fun c2=>?_) (fun c2=>?_)⟩
    · rw [if_pos (.inr (by simpa using c2))] at kk
      exact kk H1 e1
    · rw [if_neg (fun z=>z.elim (fun z=>c (by simpa using z)) (fun z=>c2 (by simpa using z)))] at kk
      refine⟨_,rfl,ixO hp at0 ⟨z,ms,_,rfl,tT.same e1,?_⟩⟩
      refine(ixO hp at0 ⟨sL2,fun q hq=>?_⟩)
      exact kk q _ (e1.trans (qC hq _)) qB
inductive wm (vs:List V)(H:Hp)(Q:VK)(_:XK):Prop
| mk (z:Addr) (ms:List Im) (t:Int) (_:vs=[.ref z,.int t]) (_:Tr H z ms) (_:PrR H Q (cbF ms t))
theorem zR (T:Tx K mg a):FnOk P w K mg base CX0 5 a.A32 a.B32 ["track","moment"] wm:=by
 refine T.D32.F.ok zQ (fun vs H Q E h=>?_) (fun cdv A outer s H vs Q E hr h=>?_)
 · obtain⟨z,ms,t,rfl,_⟩:=h
   rfl
 refine qM fun _ Y=>?_
 obtain⟨z,ms,t,rfl,tT,kk⟩:=h
 apply Y
 refine⟨_,(qD (qX 2 zQ.nd (qK T.D31 (qB5 T) hr rfl (qA (pv 0) (qA (pv 1) qE))))
  (qD (qd (PW.pt (j2 (qDs (qH9 (pv 2))) (j2 (qH zP (qK T.D28 (zB T) hr rfl (qA (pv 0) (qA (qJ (pv 2)) qE))) qS (qN _)) (jV (qH zP (qK T.D28 (zB T) hr rfl (qA (pv 0) (qA (qJ (pv 2)) qE))) qS (qN _)))))) (qF (qL qEw)) qP)
  (qF (qL (pv 2))))),?_⟩
 try dsimp only [jc,qj]
 refine⟨_,rfl,_,rfl,z,ms,_,rfl,tT,?_⟩
 unfold cbF at kk
 cases hit:nbF ms t with
 | none=>
  rw [hit] at kk
  intro H1 e1
  exact⟨_,rfl,_,rfl,jI (kk H1 e1)⟩
 | some x=>
  obtain⟨i,j⟩:=x
  rw [hit] at kk
  dsimp only at kk
  intro p H1 e1 hp
  refine⟨_,rfl,_,rfl,ju (fun c=>absurd c (by simp)) (fun _=>?_)⟩
  refine⟨_,rfl,ixO hp at0 ⟨z,ms,_,rfl,tT.same e1,?_⟩⟩
  refine⟨rfl,_,rfl,ju (fun c=>?_) (fun c=>?_)⟩
  · rw [if_neg (fun z=>absurd c (by simpa using z.1))] at kk
    exact kk H1 e1
  · refine⟨_,rfl,ixO hp at1 ⟨z,ms,_,rfl,tT.same e1,?_⟩⟩
    refine⟨rfl,_,rfl,ju (fun c2=>?_) (fun c2=>?_)⟩
    · rw [if_neg (fun z=>absurd c2 (by simpa using z.2))] at kk
      exact kk H1 e1
    · rw [if_pos ⟨by simpa using c,by simpa using c2⟩] at kk
      exact⟨_,rfl,kk p H1 e1 hp⟩
def TrsAt (H:Hp):List (List Im)→List V→Prop
 | [],[]=>True
 | ms::r,v::vs=>(∃ z:Addr,v= .ref z∧Tr H z ms)∧TrsAt H r vs
 | _,_=>False
theorem TrsAt.same {H H':Hp}(e:Same H H'):∀ {ts:List (List Im)} {vs:List V},TrsAt H ts vs→TrsAt H' ts vs
 | [],[],_=>trivial
 | _::_,_::_,⟨⟨z,h1,h2⟩,h⟩=>⟨⟨z,h1,h2.same e⟩,TrsAt.same e h⟩
 | [],_::_,h=>h.elim
 | _::_,[],h=>h.elim
theorem TrsAt.len {H:Hp}:∀ {ts:List (List Im)} {vs:List V},TrsAt H ts vs→vs.length=ts.length
 | [],[],_=>rfl
 | _::_,_::_,h=>by rw [List.length_cons,List.length_cons,TrsAt.len h.2]
 | [],_::_,h=>h.elim
 | _::_,[],h=>h.elim
theorem TrsAt.get {H:Hp}:∀ {ts:List (List Im)} {vs:List V} {i:Nat} {v:V},TrsAt H ts vs→vs[i]? =some v→∃ (ms:List Im) (z:Addr),ts[i]? =some ms∧v= .ref z∧Tr H z ms
 | [],[],_,_,_,h=>by simp at h
 | ms::_,u::_,0,v,h,e=>by
  have e':u=v:=by simpa using e
  subst e'
  obtain⟨⟨z,h1,h2⟩,_⟩:=h
  exact⟨ms,z,rfl,h1,h2⟩
 | _::_,_::_,i+1,v,h,e=>by
  obtain⟨ms,z,h1,h2⟩:=TrsAt.get (i:=i) h.2 (by simpa using e)
  exact⟨ms,z,by simpa using h1,h2⟩
 | [],_::_,_,_,h,_=>h.elim
 | _::_,[],_,_,h,_=>h.elim
def TabAt (H:Hp)(v:V)(ts:List (List Im)):Prop:=∃ (tt tl ti:Addr) (zs:List V),v= .ref tt∧H tt=some (.tup [.ref tl,.ref ti])∧H tl=some (.lst zs)∧TrsAt H ts zs
theorem TabAt.same {H H':Hp}(e:Same H H'){v:V}{ts:List (List Im)}(h:TabAt H v ts):TabAt H' v ts:=
 let ⟨tt,tl,ti,zs,h1,h2,h3,h4⟩:=h;⟨tt,tl,ti,zs,h1,e _ _ h2,e _ _ h3,h4.same e⟩
theorem qMb {H:Hp}{v:V}{n:Str}{p q r s l:Int}(h:IsI H (.clip n p q r s l) v):Cp K H v n p q r s l:=by
 obtain⟨z,x,y,h0,hz,hx,hy⟩:=h
 exact⟨z,x,y,h0,SqT.of hz,SqT.of hx,SqT.of hy⟩
def TabF (H:Hp)(v:V)(ts:List (List Im))(tie:List Int):Prop:=∃ (tt tl ti:Addr) (zs:List V),v= .ref tt∧H tt=some (.tup [.ref tl,.ref ti])∧H tl=some (.lst zs)∧TrsAt H ts zs∧H ti=some (.lst (tie.map V.int))
theorem TabF.tab {H:Hp}{v:V}{ts:List (List Im)}{tie:List Int}(h:TabF H v ts tie):TabAt H v ts:=let ⟨tt,tl,ti,zs,h1,h2,h3,h4,_⟩:=h;⟨tt,tl,ti,zs,h1,h2,h3,h4⟩
theorem TabF.same {H H':Hp}(e:Same H H'){v:V}{ts:List (List Im)}{tie:List Int}(h:TabF H v ts tie):TabF H' v ts tie:=
 let ⟨tt,tl,ti,zs,h1,h2,h3,h4,h5⟩:=h;⟨tt,tl,ti,zs,h1,e _ _ h2,e _ _ h3,h4.same e,e _ _ h5⟩
def tabD (ts:List (List Im))(tie:List Int):D:=.tup [.lst (ts.map fun ms=>.lst (ms.map Im.d)),.lst ((tie.map V.int).map D.leaf)]
theorem TrsAt.rep {H:Hp}:∀ {ts:List (List Im)} {vs:List V},TrsAt H ts vs→Reps K H (ts.map fun ms=>.lst (ms.map Im.d)) vs
 | [],[],_=>by unfold List.map Reps;trivial
 | _::_,_::_,⟨⟨z,h1,h2⟩,r⟩=>by unfold List.map Reps;subst h1;exact⟨h2.rep,r.rep⟩
 | [],_::_,h=>h.elim
 | _::_,[],h=>h.elim
theorem TabF.rep {H:Hp}{v:V}{ts:List (List Im)}{tie:List Int}(h:TabF H v ts tie):Rep K H (tabD ts tie) v:=by
 obtain⟨tt,tl,ti,zs,rfl,h2,h3,h4,h5⟩:=h
 unfold tabD Rep
 refine⟨tt,_,rfl,SqT.of h2,?_⟩
 unfold Reps Reps Reps
 refine⟨?_,qF9 h5,trivial⟩
 unfold Rep
 exact⟨tl,zs,rfl,SqL.of h3,h4.rep⟩
theorem qFl:∀ ts:List (List Im),zN (ts.map fun ms=>.lst (ms.map Im.d)) (ts.map fun ms=>.lst (ms.map Im.d))=true
 | []=>by simp [zN]
 | ms::r=>by
  unfold List.map zN
  rw [qFl r]
  have:eqD (.lst (ms.map Im.d)) (.lst (ms.map Im.d))=true:=by unfold eqD;exact wj ms
  rw [this];rfl
theorem qJ5:∀ ts:List (List Im),kj (ts.map fun ms=>.lst (ms.map Im.d))≤3
 | []=>by simp [kj]
 | ms::r=>by
  have h1:=qJ5 r
  have h2:dep (.lst (ms.map Im.d))≤3:=by have:=qEp ms;unfold dep;omega
  unfold List.map kj
  omega
theorem qGj (ts:List (List Im))(tie:List Int):eqD (tabD ts tie) (tabD ts tie)=true∧dep (tabD ts tie)≤50:=by
 constructor
 · unfold tabD eqD zN zN zN
   have h1:eqD (.lst (ts.map fun ms=>.lst (ms.map Im.d))) (.lst (ts.map fun ms=>.lst (ms.map Im.d)))=true:=by unfold eqD;exact qFl ts
   have h2:eqD (.lst ((tie.map V.int).map D.leaf)) (.lst ((tie.map V.int).map D.leaf))=true:=by unfold eqD;exact qGh tie
   rw [h1,h2];rfl
 · have h1:=qJ5 ts
   have h2:=qCv (tie.map V.int)
   unfold tabD dep kj kj kj dep
   omega
theorem qDo {H:Hp}:∀ {ts:List (List Im)} {vs:List V} {ms:List Im} {z:Addr},TrsAt H ts vs→Tr H z ms→TrsAt H (ts++[ms]) (vs++[.ref z])
 | [],[],_,z,_,h=>⟨⟨z,rfl,h⟩,trivial⟩
 | _::_,_::_,_,_,⟨h1,h2⟩,h=>⟨h1,qDo h2 h⟩
 | [],_::_,_,_,h,_=>h.elim
 | _::_,[],_,_,h,_=>h.elim
theorem jS {b:Bool}{A B:Prop}(h:b=false)(q:B):if b=true then A else B:=by subst h;exact q
theorem kI {b:Bool}{A B:Prop}(h:b=true)(q:A):if b=true then A else B:=by subst h;exact q
theorem qFp {H H':Hp}(s:Same H H'){x:V}{t:Value}(h:qEv K H x t):qEv K H' x t:=by
 cases h with
 | non=>exact .non
 | bl x=>exact .bl x
 | int i=>exact .int i
 | str z=>exact .str z
 | flt x=>exact .flt x
 | lst e=>exact .lst (s _ _ e)
 | frz e=>exact .frz (s _ _ e)
 | tup e=>exact .tup (s _ _ e)
 | dK e=>exact .dK (s _ _ e)
 | dT e=>exact .dT (s _ _ e)
 | ins e cl ha hn htk hm=>exact .ins (s _ _ e) cl ha hn htk hm
theorem FrB.same {H H':Hp}(s:Same H H'){x:V}{b:Bool}(h:FrB K H x b):FrB K H' x b:=by
 cases h with
 | no ty e=>exact .no (qFp s ty) e
 | len e h=>exact .len (s _ _ e) h
 | one e h=>exact .one (s _ _ e) (h.same s)
 | two e h=>exact .two (s _ _ e) (h.same s)
 | nums e=>exact .nums (s _ _ e)
inductive NmB (K:W.Frag)(H:Hp):V→Bool→Prop where
 | str (z:Str) (h:z.length≤1000):NmB K H (.str z) (qDm z)
 | no {x:V} {t:Value} (ty:qEv K H x t) (e:W.kitOne K t (.type "str")=some false):NmB K H x false
inductive qG4 (K:W.Frag)(vs:List V)(H:Hp)(Q:VK)(_:XK):Prop
| mk (x:V) (b:Bool) (_:vs=[x]) (_:NmB K H x b) (_:∀ H',Same H H'→Q (.bl b) H')
theorem qBk (T:Tx K mg a):FnOk P w K mg base CX0 1 a.A10 a.B10 ["thing"] (qG4 K):=by
 refine T.D10.F.ok qLy (fun vs H Q E h=>?_) (fun cdv A outer s H vs Q E hr h=>?_)
 · obtain⟨x,b,rfl,_⟩:=h
   rfl
 refine qM fun _ Y=>?_
 obtain⟨x,b,rfl,hx,kk⟩:=h
 apply Y
 refine⟨_,(qD (qd (ji (jO (qc jQ rfl T.b_isinstance rfl (qA (pv 0) (qA (qD2 rfl T.b_str rfl) qE))))) (qF (qL zu)) qP)
  (qD (qd (PW.pt (j2 (qH xx (qc qBi rfl T.b_len rfl (qA (pv 0) qE)) qG (qN _)) (jV (qH qGr (qc qBi rfl T.b_len rfl (qA (pv 0) qE)) (xJ (v:=.int 8) rfl T.g_LONGEST_NAME ⟨_,rfl⟩) (qN _))))) (qF (qL zu)) qP)
  (qF (qL (qc (qOo rfl) rfl T.b_all rfl (qA (zd [] [] rfl (qS8 (pv 0)) (fun _ _ _ _=>(xD qTd (pv 0) (xJ (v:=.str "abcdefghijklmnopqrstuvwxyz") rfl T.g_LETTERS ⟨_,rfl⟩) rfl))) qE)))))),?_⟩
 try dsimp only [jc,qj]
 cases hx with
 | no ty e=>exact⟨_,rfl,_,_,_,false,rfl,ty,⟨_,.inl ⟨rfl,e⟩⟩,false,rfl,jI (kk H (Same.refl _))⟩
 | str z hz=>
  have hsz:z.length≤sizeLine:=Nat.le_of_lt (qY hz)
  refine⟨_,rfl,_,_,_,true,rfl,.str z,⟨_,.inl ⟨rfl,by kernel_rfl⟩⟩,true,rfl,qm ?_⟩
  refine⟨_,rfl,z,rfl,hsz,_,_,rfl,rfl,_,rfl,?_⟩
  by_cases h1:(z.length:Int) < 1
  · rw [decide_eq_true h1]
    have e:qDm z=false:=by unfold qDm;rw [decide_eq_false (by omega)];rfl
    have:=kk H (Same.refl _)
    rw [e] at this
    exact jI (jI this)
  rw [decide_eq_false h1]
  refine qm ⟨_,rfl,z,rfl,hsz,_,_,rfl,rfl,_,rfl,?_⟩
  by_cases h2:(8:Int) < (z.length:Int)
  · rw [decide_eq_true h2]
    have e:qDm z=false:=by unfold qDm;rw [decide_eq_false (by omega)];rfl
    have:=kk H (Same.refl _)
    rw [e] at this
    exact jI this
  rw [decide_eq_false h2]
  refine qm ?_
  refine⟨_,rfl,z,rfl,qPg (fun i acc H'=>H'=H∧acc=((z.cps.toList.take i).map qU9).map V.bl) ⟨rfl,rfl⟩ ?_ ?_ ?_⟩
  · rintro i acc H' hi ⟨_,rfl⟩
    rw [List.length_map,List.length_map,List.length_take]
    exact qY (by have:z.cps.size=z.length:=rfl;omega)
  · rintro i c acc H' hi hc ⟨rfl,rfl⟩
    refine⟨_,rfl,_,_,rfl,rfl,Nxt.mk hi ⟨rfl,?_⟩⟩
    have hc':z.cps.toList[i]? =some c:=by simpa using hc
    rw [List.take_succ,hc',List.map_append,List.map_append]
    rfl
  · rintro acc H' ⟨rfl,rfl⟩ D hD
    refine⟨D,_,rfl,SqL.of qB,?_⟩
    have e:((z.cps.toList.take z.cps.size).map qU9).all id=qDm z:=by
     rw [List.take_of_length_le (by simp)]
     unfold qDm
     rw [decide_eq_true (by omega:1≤z.length∧z.length≤8),Bool.true_and,List.all_map]
     rfl
    rw [e]
    exact kk _ (qC hD _)
inductive LnB (H:Hp):V→Bool→Prop where
 | int (i:Int):LnB H (.int i) (decide (1≤i))
 | no {x:V} (h:NoW H x):LnB H x false
inductive CfB (K:W.Frag)(H:Hp):V→Bool→Prop where
 | no {x:V} {t:Value} (ty:qEv K H x t) (e:W.kitOne K t (.type "tuple")=some false):CfB K H x false
 | len {z:Addr} {xs:List V} (e:H z=some (.tup xs)) (h:xs.length≠5):CfB K H (.ref z) false
 | word {z:Addr} {x0 x1 x2 x3 x4:V} (e:H z=some (.tup [x0,x1,x2,x3,x4])) (hs:qVk x0 (.str "clip")=true) (hn:x0≠ .str "clip"):CfB K H (.ref z) false
 | nm {z:Addr} {x1 x2 x3 x4:V} (e:H z=some (.tup [.str "clip",x1,x2,x3,x4])) (h:NmB K H x1 false):CfB K H (.ref z) false
 | st {z:Addr} {x1 x2 x3 x4:V} (e:H z=some (.tup [.str "clip",x1,x2,x3,x4])) (h1:NmB K H x1 true) (h2:FrB K H x2 false):CfB K H (.ref z) false
 | sp {z:Addr} {x1 x2 x3 x4:V} (e:H z=some (.tup [.str "clip",x1,x2,x3,x4])) (h1:NmB K H x1 true) (h2:FrB K H x2 true) (h3:FrB K H x3 false):CfB K H (.ref z) false
 | ln {z:Addr} {x1 x2 x3 x4:V} {b:Bool} (e:H z=some (.tup [.str "clip",x1,x2,x3,x4])) (h1:NmB K H x1 true) (h2:FrB K H x2 true) (h3:FrB K H x3 true) (h4:LnB H x4 b):CfB K H (.ref z) b
theorem LnB.wh {H:Hp}{x:V}{b:Bool}(h:LnB H x b):(∃ i:Int,x= .int i∧b=decide (1≤i))∨(NoW H x∧b=false):=by
 cases h with
 | int i=>exact .inl ⟨i,rfl,rfl⟩
 | no h=>exact .inr ⟨h,rfl⟩
inductive qB3 (K:W.Frag)(vs:List V)(H:Hp)(Q:VK)(_:XK):Prop
| mk (v:V) (b:Bool) (_:vs=[v]) (_:CfB K H v b) (_:∀ H',Same H H'→Q (.bl b) H')
theorem qB9 (T:Tx K mg a):FnOk P w K mg base CX0 3 a.A11 a.B11 ["item"] (qB3 K):=by
 refine T.D11.F.ok qBx (fun vs H Q E h=>?_) (fun cdv A outer s H vs Q E hr h=>?_)
 · obtain⟨v,b,rfl,_⟩:=h
   rfl
 refine qM fun _ Y=>?_
 obtain⟨v,b,rfl,hv,kk⟩:=h
 apply Y
 refine⟨_,(qD (qd (PW.pt (j2 (ji (jO (qc jQ rfl T.b_isinstance rfl (qA (pv 0) (qA (qD2 rfl T.b_tuple rfl) qE))))) (jV (qH zP (qc jY rfl T.b_len rfl (qA (pv 0) qE)) qG (qN _))))) (qF (qL zu)) qP)
  (qD (qd (PW.pt (j2 (qH zP (qJ (pv 0)) qS (qN _)) (jV (ji (jO (qK T.D10 (qBk T) hr rfl (qA (qJ (pv 0)) qE))))))) (qF (qL zu)) qP)
  (qD (qd (PW.pt (j2 (ji (jO (qK T.D2 (v8 T) hr rfl (qA (qJ (pv 0)) qE)))) (jV (ji (jO (qK T.D2 (v8 T) hr rfl (qA (qJ (pv 0)) qE))))))) (qF (qL zu)) qP)
  (qF (qL (vv (qK T.D0 (jF T) hr rfl (qA (qJ (pv 0)) qE)) (qBj (xD qGb (qJ (pv 0)) qG (qN _))))))))),?_⟩
 try dsimp only [jc,qj]
 have five:∀ {z:Addr} {x1 x2 x3 x4:V} {H':Hp},H z=some (.tup [.str "clip",x1,x2,x3,x4])→Same H H'→SqT K H' z [.str "clip",x1,x2,x3,x4]:=fun e s=>SqT.of (s _ _ e)
 cases hv with
 | no ty e=>exact⟨_,rfl,_,_,_,false,rfl,ty,⟨_,.inl ⟨rfl,e⟩⟩,false,rfl,jI (jI (kk H (Same.refl _)))⟩
 | @len z xs e h=>
  refine⟨_,rfl,_,_,_,true,rfl,.tup e,⟨_,.inl ⟨rfl,by kernel_rfl⟩⟩,true,rfl,qm ?_⟩
  refine⟨_,rfl,_,_,rfl,.inr (SqT.of e),rfl,_,rfl,?_⟩
  have d:(!decide (V.int (xs.length:Int)=V.int 5))=true:=by
   have:¬ (V.int (xs.length:Int)=V.int 5):=fun z=>h (by injection z with z;omega)
   simp [this]
  rw [d]
  exact jI (kk H (Same.refl _))
 | @word z x0 x1 x2 x3 x4 e hs hn=>
  refine⟨_,rfl,_,_,_,true,rfl,.tup e,⟨_,.inl ⟨rfl,by kernel_rfl⟩⟩,true,rfl,qm ?_⟩
  refine⟨_,rfl,_,_,rfl,.inr (SqT.of e),rfl,_,rfl,qm ?_⟩
  refine(ixO e qLw ⟨hs,_,rfl,?_⟩)
  rw [show (!decide (x0=V.str "clip"))=true by simp [hn]]
  exact jI (jI (kk H (Same.refl _)))
 | @nm z x1 x2 x3 x4 e h=>
  refine⟨_,rfl,_,_,_,true,rfl,.tup e,⟨_,.inl ⟨rfl,by kernel_rfl⟩⟩,true,rfl,qm ?_⟩
  refine⟨_,rfl,_,_,rfl,.inr (SqT.of e),rfl,_,rfl,qm ?_⟩
  refine(ixO e qLw ⟨rfl,_,rfl,qL6 rfl ?_⟩)
  exact(ixO e qBa ⟨x1,false,rfl,h,fun H1 s1=>⟨false,rfl,jI (kk H1 s1)⟩⟩)
 | @st z x1 x2 x3 x4 e h1 h2=>
  refine⟨_,rfl,_,_,_,true,rfl,.tup e,⟨_,.inl ⟨rfl,by kernel_rfl⟩⟩,true,rfl,qm ?_⟩
  refine⟨_,rfl,_,_,rfl,.inr (SqT.of e),rfl,_,rfl,qm ?_⟩
  refine(ixO e qLw ⟨rfl,_,rfl,qL6 rfl ?_⟩)
  refine(ixO e qBa ⟨x1,true,rfl,h1,fun H1 s1=>⟨true,rfl,qm ?_⟩⟩)
  exact⟨_,rfl,_,_,_,_,rfl,rfl,five e s1,qPz,x2,false,rfl,h2.same s1,false,rfl,jI (jI (kk H1 s1))⟩
 | @sp z x1 x2 x3 x4 e h1 h2 h3=>
  refine⟨_,rfl,_,_,_,true,rfl,.tup e,⟨_,.inl ⟨rfl,by kernel_rfl⟩⟩,true,rfl,qm ?_⟩
  refine⟨_,rfl,_,_,rfl,.inr (SqT.of e),rfl,_,rfl,qm ?_⟩
  refine(ixO e qLw ⟨rfl,_,rfl,qL6 rfl ?_⟩)
  refine(ixO e qBa ⟨x1,true,rfl,h1,fun H1 s1=>⟨true,rfl,qm ?_⟩⟩)
  refine⟨_,rfl,_,_,_,_,rfl,rfl,five e s1,qPz,x2,true,rfl,h2.same s1,true,rfl,qm ?_⟩
  exact⟨_,rfl,_,_,_,_,rfl,rfl,five e s1,qMf,x3,false,rfl,h3.same s1,false,rfl,jI (kk H1 s1)⟩
 | @ln z x1 x2 x3 x4 b e h1 h2 h3 h4=>
  refine⟨_,rfl,_,_,_,true,rfl,.tup e,⟨_,.inl ⟨rfl,by kernel_rfl⟩⟩,true,rfl,qm ?_⟩
  refine⟨_,rfl,_,_,rfl,.inr (SqT.of e),rfl,_,rfl,qm ?_⟩
  refine(ixO e qLw ⟨rfl,_,rfl,qL6 rfl ?_⟩)
  refine(ixO e qBa ⟨x1,true,rfl,h1,fun H1 s1=>⟨true,rfl,qm ?_⟩⟩)
  refine⟨_,rfl,_,_,_,_,rfl,rfl,five e s1,qPz,x2,true,rfl,h2.same s1,true,rfl,qm ?_⟩
  refine⟨_,rfl,_,_,_,_,rfl,rfl,five e s1,qMf,x3,true,rfl,h3.same s1,true,rfl,qm ?_⟩
  rcases h4.wh with ⟨i,rfl,rfl⟩ | ⟨h5,rfl⟩
  · refine⟨_,rfl,_,_,_,_,rfl,rfl,five e s1,qIe,_,true,rfl,.int i,true,rfl,jI ?_⟩
    exact⟨_,rfl,_,_,_,_,rfl,rfl,five e s1,qIe,_,_,rfl,rfl,kk H1 s1⟩
  · exact⟨_,rfl,_,_,_,_,rfl,rfl,five e s1,qIe,x4,false,rfl,.no (h5.same s1),false,rfl,qm (kk H1 s1)⟩
structure GF (n:Str)(p q r s len:Int):Prop where
 hn:qDm n=true
 hl:n.length≤1000
 hb:Bn 700 p q r s
 gq:Int.gcd p q=1
 gs:Int.gcd r s=1
 l1:1≤len
 bl:len.natAbs < 2 ^ 30
theorem Ch.form {H:Hp}{z:Addr}{n:Str}{p q r s len:Int}(h:Ch H z n p q r s len)(g:GF n p q r s len):CfB K H (.ref z) true:=by
 obtain⟨z1,z2,e0,e1,e2⟩:=h.ex
 have d1:(decide (1≤q) && decide (Int.gcd p q=1))=true:=by have:=g.hb.q0;rw [g.gq];simp;omega
 have d2:(decide (1≤s) && decide (Int.gcd r s=1))=true:=by have:=g.hb.s0;rw [g.gs];simp;omega
 have d3:decide (1≤len)=true:=decide_eq_true g.l1
 have f0:=NmB.str (K:=K) (H:=H) n g.hl
 have f1:=FrB.nums (K:=K) e1
 have f2:=FrB.nums (K:=K) e2
 have f3:=LnB.int (H:=H) len
 rw [g.hn] at f0
 rw [d1] at f1
 rw [d2] at f2
 rw [d3] at f3
 exact .ln e0 f0 f1 f2 f3
inductive ItB (K:W.Frag)(H:Hp):V→Addr→Bool→Prop where
 | form {v:V} {rd:Addr} (h:CfB K H v false):ItB K H v rd false
 | reel {z rd:Addr} {kvs:List (Key × V)} {n:Str} {p q r s len:Int} (hc:Ch H z n p q r s len) (g:GF n p q r s len) (hk:H rd=some (.dK kvs)) (hv:qL1 kvs (Sum.inr n)=none):ItB K H (.ref z) rd false
 | pics {z rd:Addr} {n:Str} {p q r s len m:Int} {b:Bool} (hc:Ch H z n p q r s len) (g:GF n p q r s len) (hr:Reel H rd n m) (hb:b=true↔InR (Vk p q r s 0) (q*s) m∧InR (Vk p q r s (len - 1)) (q*s) m):ItB K H (.ref z) rd b
inductive qD9 (K:W.Frag)(N:Addr)(vs:List V)(H:Hp)(Q:VK)(E:XK):Prop
| mk (v:V) (rd:Addr) (b:Bool) (_:vs=[v,.ref rd]) (_:ItB K H v rd b) (_:(b=true→∀ H',Same H H'→Q .non H')) (_:(b=false→∀ H',Same H H'→E (.ref N) none H'))
theorem qEf (T:Tx K mg a):FnOk P w K mg base (CXR P w) 6 a.A15 a.B15 ["item","reels"] (qD9 K a.k_NoClip):=by
 refine okX T.D15.F wX (fun vs H Q E h=>?_) (fun cdv A outer s H vs Q E hr h=>?_)
 · obtain⟨v,rd,b,rfl,_⟩:=h
   rfl
 refine qM fun _ Y=>?_
 obtain⟨v,rd,b,rfl,hv,kg,kb⟩:=h
 apply Y
 have hu1:=qRg hr
 refine⟨_,(qD (qd (ji (jO (qK T.D11 (qB9 T) hr rfl (qA (pv 0) qE)))) (qF (j4 rfl rfl T.c_NoClip T.x_NoClip (qA qS qE))) qP)
  (qD (qd (qDs (qN3 hu1 (qJ (pv 0)) (pv 1))) (qF (j4 rfl rfl T.c_NoClip T.x_NoClip (qA qS qE))) qP)
  (qD (qX 2 wX.nd (qAh hu1 (pv 1) (qJ (pv 0)) (fun _ _=>rfl)))
  (qF (qd (PW.pt (j2 (ji (jO (qK T.D14 (wC T) hr rfl (qA (qK T.D13 (xK T) hr rfl (qA (pv 0) (qA qG qE))) (qA (pv 2) qE))))) (jV (ji (jO (qK T.D14 (wC T) hr rfl (qA (qK T.D13 (xK T) hr rfl (qA (pv 0) (qA (qO jM (qJ (pv 0)) qG) qE))) (qA (pv 2) qE)))))))) (qF (j4 rfl rfl T.c_NoClip T.x_NoClip (qA qS qE))) qP))))),?_⟩
 try dsimp only [jc,qj]
 have one:(1:Nat)≤sizeLine:=by decide
 cases hv with
 | form h=>exact⟨_,rfl,v,false,rfl,h,fun H1 s1=>⟨false,rfl,jI ⟨one,kb rfl H1 s1⟩⟩⟩
 | @reel z rd kvs n p q r s' len hc g hk hv=>
  refine⟨_,rfl,_,true,rfl,hc.form g,fun H1 s1=>⟨true,rfl,qm ?_⟩⟩
  refine qM fun _ Y=>?_
  obtain⟨z1,z2,e0,_,_⟩:=(hc.same s1).ex
  apply Y
  have t1:SqT K H1 z [.str "clip",.str n,.ref z1,.ref z2,.int len]:=SqT.of e0
  refine⟨_,rfl,z,_,_,_,rfl,rfl,t1,qBa,_,rfl,rd,none,rfl,.inl ⟨kvs,Sum.inr n,.inl (s1 _ _ hk),rfl,hv.symm⟩,_,rfl,jI ?_⟩
  exact⟨one,kb rfl H1 s1⟩
 | @pics z rd n p q r s' len m b hc g hrd hb=>
  have hqs:=Int.mul_pos g.hb.q0 g.hb.s0
  have h0:∀ {H':Hp},Same H H'→∃ z1 z2,SqT K H' z [.str "clip",.str n,.ref z1,.ref z2,.int len]:=fun e=>let ⟨z1,z2,h1,_,_⟩:=(hc.same e).ex;⟨z1,z2,SqT.of h1⟩
  refine⟨_,rfl,_,true,rfl,hc.form g,fun H1 s1=>⟨true,rfl,qm ?_⟩⟩
  refine qM fun _ Y=>?_
  obtain⟨z1,z2,t1⟩:=h0 s1
  apply Y
  refine⟨_,rfl,z,_,_,_,rfl,rfl,t1,qBa,_,rfl,rd,_,rfl,(hrd.same s1).get,_,rfl,qm ?_⟩
  refine⟨_,rfl,_,rfl,z,_,_,_,rfl,rfl,t1,qBa,rd,_,rfl,(hrd.same s1).get,?_⟩
  refine⟨_,rfl,_,n,p,q,r,s',len,0,rfl,(hc.same s1).cp,g.hb.q0,g.hb.s0,g.hb.bp,g.hb.bq,g.hb.br,g.hb.bs,wa (n:=30) (by decide),fun H2 s2=>?_⟩
  have s2:=s1.trans s2
  refine⟨_,rfl,_,m,rfl,_,rfl,?_⟩
  have no:∀ k:Int,¬ InR (Vk p q r s' k) (q*s') m→thB ((p*s'+k*r*q).fdiv (q*s')) m=false:=fun k i0=>by
   rw [Bool.eq_false_iff]
   intro z
   exact i0 ((qJy hqs).mp z)
  by_cases i0:InR (Vk p q r s' 0) (q*s') m
  rotate_left
  · rw [no 0 i0]
    have bf:b=false:=by rw [Bool.eq_false_iff];intro z;exact i0 (hb.mp z).1
    exact jI (jI ⟨one,kb bf H2 s2⟩)
  have e:thB ((p*s'+0*r*q).fdiv (q*s')) m=true:=(qJy hqs).mpr i0
  rw [e]
  refine qm ?_
  refine qM fun _ Y=>?_
  obtain⟨z1,z2,t2⟩:=h0 s2
  apply Y
  have bl1:(len - 1).natAbs < 2 ^ 700:=by
   have e:(2:Nat) ^ 30≤2 ^ 700:=Nat.pow_le_pow_right (by decide) (by decide)
   have:=g.bl
   have:=g.l1
   omega
  refine⟨_,rfl,_,rfl,z,_,_,_,rfl,rfl,t2,qIe,_,_,rfl,rfl,_,n,p,q,r,s',len,len - 1,rfl,(hc.same s2).cp,g.hb.q0,g.hb.s0,g.hb.bp,g.hb.bq,g.hb.br,g.hb.bs,bl1,fun H3 s3=>?_⟩
  have s3:=s2.trans s3
  refine⟨_,rfl,_,m,rfl,_,rfl,?_⟩
  by_cases i1:InR (Vk p q r s' (len - 1)) (q*s') m
  · have e:thB ((p*s'+(len - 1)*r*q).fdiv (q*s')) m=true:=(qJy hqs).mpr i1
    rw [e]
    exact qm (kg (hb.mpr ⟨i0,i1⟩) H3 s3)
  · rw [no _ i1]
    have bf:b=false:=by rw [Bool.eq_false_iff];intro z;exact i1 (hb.mp z).2
    exact jI ⟨one,kb bf H3 s3⟩
abbrev Rls:=Str→Option Int
def ReelsAt (H:Hp)(rd:Addr)(rl:Rls):Prop:=∀ n N,rl n=some N→Reel H rd n N
theorem ReelsAt.same {H H':Hp}{rd:Addr}{rl:Rls}(e:Same H H')(h:ReelsAt H rd rl):ReelsAt H' rd rl:=fun n N q=>(h n N q).same e
theorem qFr (T:Tx K mg a):FnOk P w K mg base CX0 1 a.fi_Short a.gi_Short ["self","most"] (qJc a.k_Short "most"):=by
 refine T.i_Short.ok qOh (fun vs H Q E h=>?_) (fun cdv A outer s H vs Q E hr h=>?_)
 · obtain⟨e,v,rfl,_⟩:=h
   rfl
 refine qM fun _ Y=>?_
 obtain⟨e,v,rfl,he,kk⟩:=h
 apply Y
 refine⟨_,qF (qRe (pv 0) (pv 1)),?_⟩
 exact⟨_,rfl,_,rfl,e,_,_,rfl,he,T.m_Short.ov,T.m_Short.hd,T.m_Short.sa,T.tk_Short,kk⟩
inductive Nu (H:Hp):V→Option Int→Prop where
 | int (i:Int):Nu H (.int i) (some i)
 | no {x:V} (h:NoW H x):Nu H x none
theorem Nu.same {H H':Hp}(s:Same H H'){x:V}{o:Option Int}:Nu H x o→Nu H' x o
 | .int i=>.int i
 | .no h=>.no (h.same s)
def qO2 (L:Nat)(n t:Option Int):Bool:=match n,t with
 | some i,some m=>decide (0≤i) && decide (i < L) && decide (0≤m)
 | _,_=>false
inductive qCp (N:Addr)(vs:List V)(H:Hp)(Q:VK)(E:XK):Prop
| mk (tz tl td:Addr) (zs:List V) (n t:V) (on ot:Option Int) (_:vs=[.ref tz,n,t]) (_:H tz=some (.tup [.ref tl,.ref td])) (_:H tl=some (.lst zs)) (_:Nu H n on) (_:Nu H t ot) (_:(qO2 zs.length on ot=false→E (.ref N) none H)) (_:(qO2 zs.length on ot=true→Q .non H))
theorem qCx (T:Tx K mg a):FnOk P w K mg base (CXR P w) 2 a.A45 a.B45 ["table","number","moment"] (qCp a.k_NoPlace):=by
 refine okX T.D45.F qEg (fun vs H Q E h=>?_) (fun cdv A outer s H vs Q E hr h=>?_)
 · obtain⟨tz,tl,td,zs,n,t,on,ot,rfl,_⟩:=h
   rfl
 refine qM fun _ Y=>?_
 obtain⟨tz,tl,td,zs,n,t,on,ot,rfl,htz,htl,hn,ht,kb,kg⟩:=h
 apply Y
 refine⟨_,(qD (qd (PW.pt (j2 (ji (jO (qK T.D0 (jF T) hr rfl (qA (pv 1) qE)))) (j2 (qH xx (pv 1) qG (qN _)) (jV (qH qGb (pv 1) (qc jY rfl T.b_len rfl (qA (qJ (pv 0)) qE)) (qN _)))))) (qF (j4 rfl rfl T.c_NoPlace T.x_NoPlace (qA qS qE))) qP)
  (qF (qd (PW.pt (j2 (ji (jO (qK T.D0 (jF T) hr rfl (qA (pv 2) qE)))) (jV (qH xx (pv 2) qG (qN _))))) (qF (j4 rfl rfl T.c_NoPlace T.x_NoPlace (qA qS qE))) qP))),?_⟩
 try dsimp only [jc,qj]
 have one:(1:Nat)≤sizeLine:=by decide
 cases hn with
 | no h=>
  have kb:=kb (by unfold qO2;cases ot <;> rfl)
  exact⟨_,rfl,n,false,rfl,.no h,false,rfl,jI (jI ⟨one,kb⟩)⟩
 | int n=>
 refine⟨_,rfl,_,true,rfl,.int n,true,rfl,qm ?_⟩
 refine⟨_,rfl,_,_,rfl,rfl,_,rfl,ju (fun c=>?_) (fun c=>?_)⟩
 · have hc:n < 0:=by simpa using c
   have kb:=kb (by
    unfold qO2
    cases ot with
    | none=>rfl
    | some m=>dsimp only;rw [decide_eq_false (show ¬ 0≤n by omega)];rfl)
   exact jI ⟨one,kb⟩
 have h0:¬ n < 0:=by simpa using c
 refine⟨_,rfl,ixO htz at0 ⟨tl,_,rfl,.inl (SqL.of htl),_,_,rfl,rfl,_,rfl,ju (fun c=>?_) (fun c=>?_)⟩⟩
 · have hc:(zs.length:Int)≤n:=by simpa using c
   have kb:=kb (by
    unfold qO2
    cases ot with
    | none=>rfl
    | some m=>dsimp only;rw [decide_eq_false (show ¬ n < zs.length by omega),Bool.and_false];rfl)
   exact⟨one,kb⟩
 have h1:¬ (zs.length:Int)≤n:=by simpa using c
 cases ht with
 | no h=>
  have kb:=kb rfl
  exact⟨_,rfl,t,false,rfl,.no h,false,rfl,jI (jI ⟨one,kb⟩)⟩
 | int m=>
 refine⟨_,rfl,_,true,rfl,.int m,true,rfl,qm ?_⟩
 have e:qO2 zs.length (some n) (some m)=decide (0≤m):=by
  unfold qO2
  dsimp only
  rw [decide_eq_true (show 0≤n by omega),decide_eq_true (show n < zs.length by omega)]
  rfl
 rw [e] at kb kg
 refine⟨_,rfl,_,_,rfl,rfl,_,rfl,ju (fun c=>?_) (fun c=>?_)⟩
 · have hc:m < 0:=by simpa using c
   exact⟨one,kb (decide_eq_false (by omega))⟩
 · have hc:¬ m < 0:=by simpa using c
   exact kg (decide_eq_true (by omega))
def byB (b:Option Int):Bool:=match b with
 | some i=>decide (i.natAbs≤1000000)
 | none=>false
inductive spX_check_by (N:Addr)(vs:List V)(H:Hp)(Q:VK)(E:XK):Prop
| mk (b:V) (ob:Option Int) (_:vs=[b]) (_:Nu H b ob) (_:(byB ob=false→E (.ref N) none H)) (_:(byB ob=true→Q .non H))
def hmB (ms:List Im)(i:Int):Bool:=decide (jh ms (i - 1)="mix") || decide (jh ms (i+1)="mix")
inductive sp_has_mix (vs:List V)(H:Hp)(Q:VK)(_:XK):Prop
| mk (z:Addr) (ms:List Im) (i:Int) (_:vs=[.ref z,.int i]) (_:Tr H z ms) (_:Q (.bl (hmB ms i)) H)
def qSk (b:Int):Int:=if b < 0 then -b else b
inductive spX_check_short (S:Addr)(vs:List V)(H:Hp)(Q:VK)(E:XK):Prop
| mk (m b:Int) (_:vs=[.int m,.int b]) (_:(qSk b≤m→Q .non H)) (_:(¬ qSk b≤m→∀ (dx:Addr) (v:V) (H':Hp),Same H H'→H' dx=some (.xd [("most",v)])→E (.ref S) (some dx) H'))
inductive qIm (K:W.Frag)(vs:List V)(H:Hp)(Q:VK)(_:XK):Prop
| mk (v:V) (n:Str) (p q r s len lo hi:Int) (_:vs=[v,.int lo,.int hi]) (_:IsI H (.clip n p q r s len) v) (_:Bn 700 p q r s) (_:lo.natAbs < 2 ^ 700) (_:∀ (u:V) (H':Hp),Same H H'→IsI H' (.clip n (plP p q r s lo) (plQ p q r s lo) r s (hi - lo)) u→Q u H')
theorem qIv (T:Tx K mg a):FnOk P w K mg base CX0 5 a.A16 a.B16 ["clip","low","high"] (qIm K):=by
 refine T.D16.F.ok qHl (fun vs H Q E h=>?_) (fun cdv A outer s H vs Q E hr h=>?_)
 · obtain⟨v,n,p,q,r,s,len,lo,hi,rfl,_⟩:=h
   rfl
 refine qM fun _ Y=>?_
 obtain⟨v,n,p,q,r,s',len,lo,hi,rfl,hI,⟨hq,hs,bp,bq,br,bs⟩,bl,kk⟩:=h
 apply Y
 refine⟨_,(qF (qL (qo (qA qS (qA (qJ (pv 0)) (qA (qK T.D12 (kT T) hr rfl (qA (pv 0) (qA (pv 1) qE))) (qA (qJ (pv 0)) (qA (qO jM (pv 2) (pv 1)) qE)))))))),?_⟩
 try dsimp only [jc,qj]
 refine qM fun _ Y=>?_
 obtain⟨z,z1,z2,rfl,h0,h1,h2⟩:=id hI
 apply Y
 refine(ixO h0 qBa ⟨_,rfl,_,rfl,_,n,p,q,r,s',len,lo,rfl,qMb hI,hq,hs,bp,bq,br,bs,bl,fun y H1 s1 e1=>?_⟩)
 refine(ixO (s1 _ _ h0) qMf ⟨_,rfl,_,rfl,_,_,rfl,rfl,sL5,fun t ht=>?_⟩)
 have s2:=qC ht (.tup [.str "clip",.str n,.ref y,.ref z2,.int (hi - lo)])
 exact kk _ _ (s1.trans s2) ⟨t,y,z2,rfl,qB,s2 _ _ e1,s2 _ _ (s1 _ _ h2)⟩
def qCa (p q r s l N:Int):Int:=qA6 (plP p q r s l*s) (1*r*plQ p q r s l) (plQ p q r s l*s) N
def qDk (p q r s N:Int):Int:=qA6 (plP p q r s (-1)*s) (-1*r*plQ p q r s (-1)) (plQ p q r s (-1)*s) N
structure Rc (n:Str)(p q r s l:Int)(rl:Rls)(N:Int):Prop where
 g1:qOq 110 p q
 g2:qOq 110 r s
 bl:l.natAbs < 2 ^ 30
 l1:1≤l
 rn:rl n=some N
 bN:N.natAbs < 2 ^ 700
theorem Rc.bn {n:Str}{p q r s l N:Int}{rl:Rls}(h:Rc n p q r s l rl N):Bn 110 p q r s:=⟨h.g1.1,h.g2.1,h.g1.2.2.1,h.g1.2.2.2,h.g2.2.2.1,h.g2.2.2.2⟩
def qPa (b tl hd l l':Int):Int:=if 0 < b then (if l' - 1 < tl then l' - 1 else tl) else (if hd < l - 1 then hd else l - 1)
inductive sp_most_roll (K:W.Frag)(vs:List V)(H:Hp)(Q:VK)(_:XK):Prop
| mk (v u:V) (b:Int) (rd:Addr) (rl:Rls) (n n':Str) (p q r s l N p' q' r' s' l' N':Int) (_:vs=[v,u,.int b,.ref rd]) (_:IsI H (.clip n p q r s l) v) (_:IsI H (.clip n' p' q' r' s' l') u) (_:Rc n p q r s l rl N) (_:Rc n' p' q' r' s' l' rl N') (_:ReelsAt H rd rl) (_:∀ H',Same H H'→Q (.int (qPa b (qCa p q r s l N) (qDk p' q' r' s' N') l l')) H')
theorem qRs {n i:Nat}(h:i < n):ixN n (i:Int)=some i:=by
 unfold ixN
 rw [if_pos (by omega),if_pos (by omega)]
 congr 1
def qVi (ms:List Im)(i j:Nat)(b:Int)(n:Str)(p q r s l:Int)(n':Str)(p' q' r' s' l':Int):List Im:=(ms.set i (.clip n p q r s (l+b))).set j (.clip n' (plP p' q' r' s' b) (plQ p' q' r' s' b) r' s' (l' - b))
inductive spX_with_rolled_ends (S:Addr)(vs:List V)(H:Hp)(Q:VK)(E:XK):Prop
| mk (z rd:Addr) (ms:List Im) (i j:Nat) (b:Int) (rl:Rls) (n n':Str) (p q r s l N p' q' r' s' l' N':Int) (_:vs=[.ref z,.int (i:Int),.int (j:Int),.int b,.ref rd]) (_:Tr H z ms) (_:ms.length≤300) (_:ms[i]? =some (.clip n p q r s l)) (_:ms[j]? =some (.clip n' p' q' r' s' l')) (_:Rc n p q r s l rl N) (_:Rc n' p' q' r' s' l' rl N') (_:ReelsAt H rd rl) (_:b.natAbs≤1000000) (_:(qSk b≤qPa b (qCa p q r s l N) (qDk p' q' r' s' N') l l'→∀ (y:Addr) (H':Hp),Same H H'→H y=none→Tr H' y (qVi ms i j b n p q r s l n' p' q' r' s' l')→Q (.ref y) H')) (_:(¬ qSk b≤qPa b (qCa p q r s l N) (qDk p' q' r' s' N') l l'→∀ (dx:Addr) (v:V) (H':Hp),Same H H'→H' dx=some (.xd [("most",v)])→E (.ref S) (some dx) H'))
structure NewTab (H H':Hp)(t:Addr)(ts:List (List Im))(tie:List Int):Prop where
 ex:∃ (tl ti:Addr) (zs:List V),H' t=some (.tup [.ref tl,.ref ti])∧H' tl=some (.lst zs)∧TrsAt H' ts zs∧H' ti=some (.lst (tie.map V.int))∧H tl=none∧H ti=none∧tl≠ti∧∀ b,V.ref b∈zs→H b=none∧b≠tl∧b≠ti
theorem NewTab.tab {H H':Hp}{t:Addr}{ts:List (List Im)}{tie:List Int}(h:NewTab H H' t ts tie):TabF H' (.ref t) ts tie:=let ⟨tl,ti,zs,h1,h2,h3,h4,_⟩:=h.ex;⟨t,tl,ti,zs,rfl,h1,h2,h3,h4⟩
theorem TrsAt.set {H:Hp}:∀ {ts:List (List Im)} {vs:List V} {i:Nat} {ms:List Im} {z:Addr},TrsAt H ts vs→Tr H z ms→TrsAt H (ts.set i ms) (vs.set i (.ref z))
 | [],[],_,_,_,_,_=>trivial
 | _::_,_::_,0,_,z,h,h'=>⟨⟨z,rfl,h'⟩,h.2⟩
 | _::_,_::_,_+1,_,_,h,h'=>⟨h.1,h.2.set h'⟩
 | [],_::_,_,_,_,h,_=>h.elim
 | _::_,[],_,_,_,h,_=>h.elim
theorem TrsAt.refs {H:Hp}:∀ {ts:List (List Im)} {vs:List V} {b:Addr},TrsAt H ts vs→V.ref b∈vs→∃ xs,H b=some (.lst xs)
 | [],[],_,_,h=>by simp at h
 | _::_,_::_,b,⟨⟨z,h1,⟨xs,h2,_⟩⟩,r⟩,h=>by
  rcases List.mem_cons.mp h with h | h
  · rw [h1] at h
    cases h
    exact⟨xs,h2⟩
  · exact TrsAt.refs r h
 | [],_::_,_,h,_=>h.elim
 | _::_,[],_,h,_=>h.elim
inductive qFy (vs:List V)(H:Hp)(Q:VK)(_:XK):Prop
| mk (tz y:Addr) (n:Nat) (ts:List (List Im)) (tie:List Int) (ms:List Im) (_:vs=[.ref tz,.int (n:Int),.ref y]) (_:TabF H (.ref tz) ts tie) (_:Tr H y ms) (_:n < ts.length) (_:ts.length≤300) (_:∀ (t:Addr) (H':Hp),Same H H'→(∀ H0:Hp,Same H0 H→H0 y=none→NewTab H0 H' t (ts.set n ms) tie)→Q (.ref t) H')
theorem wr (T:Tx K mg a):FnOk P w K mg base CX0 1 a.A56 a.B56 ["table","number","track"] qFy:=by
 refine T.D56.F.ok wl (fun vs H Q E h=>?_) (fun cdv A outer s H vs Q E hr h=>?_)
 · obtain⟨tz,y,n,ts,tie,ms,rfl,_⟩:=h
   rfl
 refine qM fun _ Y=>?_
 obtain⟨tz,y,n,ts,tie,ms,rfl,⟨tt,tl,ti,zs,e0,h2,h3,h4,h5⟩,hy,hn,hl,kk⟩:=h
 cases e0
 apply Y
 have hzl:=h4.len
 refine⟨_,(qD (qQ2 (i:=3) [] [] wl.nd rfl rfl rfl (jW (qJ (pv 0))) (fun _ _ _ _=>(kn (wU (K:=K) rfl) rfl T.b_list rfl (qA (pv 0) qE))))
  (qD (qMu (pv 2) (qT0 (pv 3) (pv 1) qO7))
  (qF (qL (qo (qA (pv 3) (qA (kn vQ rfl T.b_list rfl (qA (qJ (pv 0)) qE)) qE))))))),?_⟩
 try dsimp only [jc,qj]
 refine(ixO h2 at0 ⟨tl,rfl,⟨_,SqL.of h3⟩,wW (K:=K) (a:=tl) (xs:=zs) (fun j acc H2=>TrsAt H2 (ts.take j) acc∧Same H H2∧∀ b,V.ref b∈acc→H b=none) ⟨trivial,Same.refl _,fun b z=>absurd z (by simp)⟩ ?_ ?_ ?_⟩)
 · rintro j acc H2 hj ⟨ht,e2,_⟩
   exact⟨SqL.of (e2 _ _ h3),qY (by rw [ht.len,List.length_take];omega)⟩
 · rintro j x acc H2 hj hx ⟨ht,e2,fr⟩
   refine qM fun _ Y=>?_
   obtain⟨ms1,z,hms,rfl,us,hz,his⟩:=h4.get hx
   apply Y
   refine⟨_,rfl,z,us,rfl,.inl (SqL.of (e2 _ _ hz)),fun l hl'=>Nxt.mk hj ⟨?_,e2.trans (qC hl' _),fun b hb=>?_⟩⟩
   · have w3:=qC hl' (.lst us)
     have etk:ts.take (j+1)=ts.take j++[ms1]:=by rw [List.take_add_one,hms];rfl
     rw [etk]
     exact qDo (ht.same w3) ⟨us,qB,his.ts (qZ (e2.trans w3))⟩
   · rcases List.mem_append.mp hb with hb | hb
     · exact fr b hb
     · have:b=l:=by simpa using hb
       subst this
       cases q0:H b with
       | none=>rfl
       | some o=>rw [e2 _ _ q0] at hl';cases hl'
 rintro acc H2 ⟨ht,e2,fr⟩ d hd
 rw [hzl,List.take_length] at ht
 have hal:=ht.len
 have w3:=qC hd (.lst acc)
 have e3:=e2.trans w3
 have hd0:H d=none:=by
  cases q0:H d with
  | none=>rfl
  | some o=>rw [e2 _ _ q0] at hd;cases hd
 refine⟨_,rfl,_,rfl,_,rfl,d,acc,_,n,rfl,rfl,qB,qRs (by rw [hal];exact hn),?_⟩
 have uu:upd (upd H2 d (.lst acc)) d (.lst (acc.set n (.ref y)))=upd H2 d (.lst (acc.set n (.ref y))):=by
  funext b
  by_cases hb:b=d
  · rw [hb,qB,qB]
  · rw [qW hb,qW hb,qW hb]
 rw [uu]
 have w4:=qC hd (.lst (acc.set n (.ref y)))
 have e4:=e2.trans w4
 have hd4:upd H2 d (.lst (acc.set n (.ref y))) d=some (.lst (acc.set n (.ref y))):=qB
 have ht4:TrsAt (upd H2 d (.lst (acc.set n (.ref y)))) (ts.set n ms) (acc.set n (.ref y)):=(ht.same w4).set (hy.same e4)
 have nd:∀ b,V.ref b∈acc→b≠d:=fun b hb z=>by
  obtain⟨xs,q0⟩:=ht.refs hb
  rw [z,hd] at q0;cases q0
 have ny:y≠d:=fun z=>by
  obtain⟨us,q0,_⟩:=id hy
  rw [z,hd0] at q0;cases q0
 generalize upd H2 d (.lst (acc.set n (.ref y)))=H4 at w4 e4 hd4 ht4 ⊢
 refine⟨_,rfl,ixO (e4 _ _ h2) at1 ⟨ti,_,rfl,.inl (SqL.of (e4 _ _ h5)),fun l hl'=>?_⟩⟩
 have w5:=qC hl' (.lst (tie.map V.int))
 have e5:=e4.trans w5
 refine⟨sL2,fun t ht'=>?_⟩
 have w6:=qC ht' (.tup [.ref d,.ref l])
 refine kk t _ (e5.trans w6) fun H0 s0 y0=>?_
 have back:∀ b,H b=none→H0 b=none:=fun b hb=>by
  cases q0:H0 b with
  | none=>rfl
  | some o=>rw [s0 _ _ q0] at hb;cases hb
 have hl0:H l=none:=by
  cases q0:H l with
  | none=>rfl
  | some o=>rw [e4 _ _ q0] at hl';cases hl'
 have dl:d≠l:=fun z=>by rw [← z,hd4] at hl';cases hl'
 refine⟨d,l,_,qB,w6 _ _ (w5 _ _ hd4),(ht4.same w5).same w6,w6 _ _ qB,back _ hd0,back _ hl0,dl,fun b hb=>?_⟩
 obtain⟨xs,q0⟩:=ht4.refs hb
 have bl:b≠l:=fun z=>by rw [z,hl'] at q0;cases q0
 rcases List.mem_or_eq_of_mem_set hb with hb | hb
 · exact⟨back _ (fr b hb),nd b hb,bl⟩
 · cases hb
   exact⟨y0,ny,bl⟩
theorem qS1 {x0 x1 x2 x3:V}:atI [x0,x1,x2,x3] 1=some x1:=rfl
theorem qOj {x0 x1 x2 x3:V}:atI [x0,x1,x2,x3] 2=some x2:=rfl
theorem qGp {x0 x1 x2 x3:V}:atI [x0,x1,x2,x3] 3=some x3:=rfl
inductive sp_place_behind (vs:List V)(H:Hp)(Q:VK)(_:XK):Prop
| mk (z:Addr) (ms:List Im) (i:Int) (_:vs=[.ref z,.int i]) (_:Tr H z ms) (_:Q (.int (if jh ms (i+1)="mix" then i+2 else i+1)) H)
inductive sp_most_slip (K:W.Frag)(vs:List V)(H:Hp)(Q:VK)(_:XK):Prop
| mk (v:V) (b:Int) (rd:Addr) (rl:Rls) (n:Str) (p q r s l N:Int) (_:vs=[v,.int b,.ref rd]) (_:IsI H (.clip n p q r s l) v) (_:Rc n p q r s l rl N) (_:ReelsAt H rd rl) (_:∀ H',Same H H'→Q (.int (if 0 < b then qCa p q r s l N else qDk p q r s N)) H')
inductive spX_slipped (S:Addr)(vs:List V)(H:Hp)(Q:VK)(E:XK):Prop
| mk (z rd:Addr) (ms:List Im) (i:Nat) (b:Int) (rl:Rls) (n:Str) (p q r s l N:Int) (_:vs=[.ref z,.int (i:Int),.int b,.ref rd]) (_:Tr H z ms) (_:ms.length≤300) (_:ms[i]? =some (.clip n p q r s l)) (_:Rc n p q r s l rl N) (_:ReelsAt H rd rl) (_:b.natAbs≤1000000) (_:(qSk b≤(if 0 < b then qCa p q r s l N else qDk p q r s N)→∀ (y:Addr) (H':Hp),Same H H'→H y=none→Tr H' y (ms.set i (.clip n (plP p q r s b) (plQ p q r s b) r s l))→Q (.ref y) H')) (_:(¬ qSk b≤(if 0 < b then qCa p q r s l N else qDk p q r s N)→∀ (dx:Addr) (v:V) (H':Hp),Same H H'→H' dx=some (.xd [("most",v)])→E (.ref S) (some dx) H'))
def Pos (ms:List Im):Prop:=∀ m∈ms,0 < m.mo∧m.wd≠"mix"
theorem qS4:(4:Nat)≤sizeLine:=by decide
def paF (ms:List Im)(i:Int):Int:=if jh ms (i - 1)="mix" then i - 2 else i - 1
def pbF (ms:List Im)(i:Int):Int:=if jh ms (i+1)="mix" then i+2 else i+1
def ctF (ms:List Im)(t:Int):Option Nat:=match xh 0 0 ms t with
 | some (i,_)=>if jh ms (i:Int)="clip" then some i else none
 | none=>none
def csF (ms:List Im)(t:Int):Option (List Int):=match ctF ms t with
 | some i=>if jh ms (paF ms i)="clip"∧jh ms (pbF ms i)="clip" then some [paF ms i,(i:Int),pbF ms i] else none
 | none=>none
def qVv (H:Hp)(Q:VK)(r:Option (List Int)):Prop:=match r with
 | none=>∀ H',Same H H'→Q .non H'
 | some is=>∀ (p:Addr) (H':Hp),Same H H'→H' p=some (.tup (is.map V.int))→Q (.ref p) H'
def plF (wd:Str)(ms:List Im)(t:Int):Option (List Int):=if wd="roll" then (cbF ms t).map (fun p=>[p.1,p.2]) else if wd="slip" then (ctF ms t).map (fun i=>[(i:Int)]) else csF ms t
inductive sp_clip_there (vs:List V)(H:Hp)(Q:VK)(_:XK):Prop
| mk (z:Addr) (ms:List Im) (t:Int) (_:vs=[.ref z,.int t]) (_:Tr H z ms) (_:qVv H Q ((ctF ms t).map fun i=>[(i:Int)]))
inductive sp_clip_and_sides (vs:List V)(H:Hp)(Q:VK)(_:XK):Prop
| mk (z:Addr) (ms:List Im) (t:Int) (_:vs=[.ref z,.int t]) (_:Tr H z ms) (_:qVv H Q (csF ms t))
def Wd3 (wd:Str):Prop:=wd="roll"∨wd="slip"∨wd="slide"
inductive sp_places_named (vs:List V)(H:Hp)(Q:VK)(_:XK):Prop
| mk (z dz:Addr) (ms:List Im) (n b:V) (t:Int) (wd:Str) (_:vs=[.ref z,.ref dz]) (_:Tr H z ms) (_:H dz=some (.tup [.str wd,n,.int t,b])) (_:Wd3 wd) (_:qVv H Q (plF wd ms t))
def mxF (ms:List Im):Option (List Int)→Nat
 | none=>0
 | some is=>if is.any (hmB ms)=true then 1 else 2
def qVo (ts:List (List Im))(wd:Str)(n t b:Option Int):Nat:=match n,t,b with
 | some n,some t,some b=>if qO2 ts.length (some n) (some t)=true∧byB (some b)=true then mxF (ts.getD n.toNat []) (plF wd (ts.getD n.toNat []) t) else 0
 | _,_,_=>0
theorem vK {ms:List Im}{x:Int}(h:jh ms x="clip"):∃ (i:Nat) (n:Str) (p q r s l:Int),x=(i:Int)∧ms[i]? =some (.clip n p q r s l):=by
 unfold jh at h
 split at h
 · exact absurd h (by decide+kernel)
 · rename_i h0
   cases hm:ms[x.toNat]? with
   | none=>rw [hm] at h;exact absurd h (by decide+kernel)
   | some m=>
    rw [hm] at h
    dsimp only at h
    cases m with
    | clip n p q r s l=>exact⟨x.toNat,n,p,q,r,s,l,by omega,hm⟩
    | gap=>exact absurd (show ("gap":Str)="clip" from h) (by decide+kernel)
    | nest=>exact absurd (show ("nest":Str)="clip" from h) (by decide+kernel)
    | mix=>exact absurd (show ("mix":Str)="clip" from h) (by decide+kernel)
def xk (ms:List Im)(x:Int):Im:=(ms[x.toNat]?).getD (.gap 0)
def qUr (rl:Rls)(m:Im)(b:Int):Int:=match m with
 | .clip n p q r s l=>(match rl n with
  | some N=>if 0 < b then qCa p q r s l N else qDk p q r s N
  | none=>0)
 | _=>0
def qUh (rl:Rls)(m m':Im)(b:Int):Int:=match m,m' with
 | .clip n p q r s l,.clip n' p' q' r' s' l'=>(match rl n,rl n' with
  | some N,some N'=>qPa b (qCa p q r s l N) (qDk p' q' r' s' N') l l'
  | _,_=>0)
 | _,_=>0
def qUv (rl:Rls)(ms:List Im)(wd:Str)(is:List Int)(b:Int):Prop:=qSk b≤if wd="slip" then qUr rl (xk ms (is.headD 0)) b else qUh rl (xk ms (is.headD 0)) (xk ms (is.getLastD 0)) b
def qQw (rl:Rls)(ts:List (List Im))(wd:Str)(n t b:Option Int):Prop:=match n,t,b with
 | some n,some t,some b=>qUv rl (ts.getD n.toNat []) wd ((plF wd (ts.getD n.toNat []) t).getD []) b
 | _,_,_=>False
def ItR (rl:Rls)(m:Im):Prop:=∀ n p q r s l,m= .clip n p q r s l→∃ N,Rc n p q r s l rl N
structure qTk (H:Hp)(tz dz rd:Addr)(ts:List (List Im))(tie:List Int)(wd:Str)(n t b:V)(on ot ob:Option Int)(rl:Rls):Prop where
 tab:TabF H (.ref tz) ts tie
 deed:H dz=some (.tup [.str wd,n,t,b])
 hn:Nu H n on
 ht:Nu H t ot
 hb:Nu H b ob
 w3:Wd3 wd
 tl:ts.length≤300
 it:∀ ms∈ts,ms.length≤300∧∀ m∈ms,ItR rl m
 re:ReelsAt H rd rl
inductive spX_rolled (N M S:Addr)(vs:List V)(H:Hp)(Q:VK)(E:XK):Prop
| mk (tz dz rd:Addr) (ts:List (List Im)) (tie:List Int) (wd:Str) (n t b:V) (on ot ob:Option Int) (rl:Rls) (_:vs=[.ref tz,.ref dz,.ref rd]) (_:qTk H tz dz rd ts tie wd n t b on ot ob rl) (_:(qVo ts wd on ot ob=0→∀ H',Same H H'→E (.ref N) none H')) (_:(qVo ts wd on ot ob=1→∀ H',Same H H'→E (.ref M) none H')) (_:(qVo ts wd on ot ob=2→(qQw rl ts wd on ot ob→∀ (y:Addr) (H':Hp),Same H H'→Q (.ref y) H')∧(¬ qQw rl ts wd on ot ob→∀ (dx:Addr) (v:V) (H':Hp),Same H H'→H' dx=some (.xd [("most",v)])→E (.ref S) (some dx) H')))
theorem qTp {w:Str}:inV (.str w) [.str "clip",.str "nest"]=(decide (w="clip") || decide (w="nest")):=by
 unfold inV
 rw [Bool.eq_iff_iff]
 simp [eqV]
 constructor
 · rintro (h | h)
   · exact .inl h.symm
   · exact .inr h.symm
 · rintro (h | h)
   · exact .inl h.symm
   · exact .inr h.symm
def qFk (ms:List Im)(t:Int):Bool:=match xh 0 0 ms t with
 | some (i,d)=>decide (d > 0) && (decide (jh ms (i:Int)="clip") || decide (jh ms (i:Int)="nest"))
 | none=>false
inductive qEm (vs:List V)(H:Hp)(Q:VK)(_:XK):Prop
| mk (z:Addr) (ms:List Im) (t:Int) (_:vs=[.ref z,.int t]) (_:Tr H z ms) (_:∀ H',Same H H'→Q (.bl (qFk ms t)) H')
theorem qD8 (T:Tx K mg a):FnOk P w K mg base CX0 4 a.A33 a.B33 ["track","moment"] qEm:=by
 refine T.D33.F.ok v6 (fun vs H Q E h=>?_) (fun cdv A outer s H vs Q E hr h=>?_)
 · obtain⟨z,ms,t,rfl,_⟩:=h
   rfl
 refine qM fun _ Y=>?_
 obtain⟨z,ms,t,rfl,tT,kk⟩:=h
 apply Y
 refine⟨_,(qD (qX 2 v6.nd (qK T.D27 (qAs T) hr rfl (qA (pv 0) (qA (pv 1) qE))))
  (qF (qL (vv (qTe (qMv (pv 2))) (vv (xD qGr (qJ (pv 2)) qG (qN _)) (qBj (xD xj (qK T.D28 (zB T) hr rfl (qA (pv 0) (qA (qJ (pv 2)) qE))) (qo (qA qS (qA qS qE))) rfl))))))),?_⟩
 try dsimp only [jc,qj]
 refine⟨_,rfl,_,rfl,z,ms,_,rfl,tT,?_⟩
 unfold qFk at kk
 cases hit:xh 0 0 ms t with
 | none=>
  rw [hit] at kk
  intro H1 e1
  exact⟨_,rfl,_,rfl,qm (kk H1 e1)⟩
 | some x=>
  obtain⟨i,d⟩:=x
  rw [hit] at kk
  dsimp only at kk
  intro p H1 e1 hp
  refine⟨_,rfl,_,rfl,jI ?_⟩
  refine(ixO hp at1 ⟨_,_,rfl,rfl,_,rfl,ju (fun c=>?_) (fun c=>?_)⟩)
  · have hd:d > 0:=by simpa using c
    rw [decide_eq_true hd,Bool.true_and] at kk
    refine⟨_,rfl,ixO hp at0 ⟨z,ms,_,rfl,tT.same e1,sL2,fun q hq=>?_⟩⟩
    have:=kk _ (e1.trans (qC hq (.tup [.str "clip",.str "nest"])))
    rw [← qTp] at this
    exact⟨q,_,rfl,.inr (SqT.of qB),rfl,rfl,this⟩
  · have hd:¬ d > 0:=by simpa using c
    rw [decide_eq_false hd,Bool.false_and] at kk
    exact kk H1 e1
def jT:Im→Int→Int→Im
 | .clip n p q r s _,lo,hi=>.clip n (plP p q r s lo) (plQ p q r s lo) r s (hi - lo)
 | .nest n b _,lo,hi=>.nest n (b+lo) (hi - lo)
 | .gap _,lo,hi=>.gap (hi - lo)
 | .mix _,lo,hi=>.gap (hi - lo)
def ImB (m:Im):Prop:=match m with
 | .clip _ p q r s _=>Bn 700 p q r s
 | _=>True
inductive qG2 (vs:List V)(H:Hp)(Q:VK)(_:XK):Prop
| mk (v:V) (m:Im) (lo hi:Int) (_:vs=[v,.int lo,.int hi]) (_:IsI H m v) (_:ImB m) (_:lo.natAbs < 2 ^ 700) (_:m.wd≠"mix") (_:∀ (u:V) (H':Hp),Same H H'→IsI H' (jT m lo hi) u→Q u H')
theorem qIt (T:Tx K mg a):FnOk P w K mg base CX0 6 a.A34 a.B34 ["item","low","high"] qG2:=by
 refine T.D34.F.ok qG3 (fun vs H Q E h=>?_) (fun cdv A outer s H vs Q E hr h=>?_)
 · obtain⟨v,m,lo,hi,rfl,_⟩:=h
   rfl
 refine qM fun _ Y=>?_
 obtain⟨v,m,lo,hi,rfl,hI,hB,bl,hnm,kk⟩:=h
 apply Y
 refine⟨_,(qD (qd (qH jX (qJ (pv 0)) qS (qN _)) (qF (qL (qK T.D16 (qIv T) hr rfl (qA (pv 0) (qA (pv 1) (qA (pv 2) qE)))))) qP)
  (qD (qd (qH jX (qJ (pv 0)) qS (qN _)) (qF (qL (qo (qA qS (qA (qJ (pv 0)) (qA (qO qp (qJ (pv 0)) (pv 1)) (qA (qO jM (pv 2) (pv 1)) qE))))))) qP)
  (qF (qL (qo (qA qS (qA (qO jM (pv 2) (pv 1)) qE))))))),?_⟩
 try dsimp only [jc,qj]
 cases m with
 | mix l=>exact absurd rfl hnm
 | clip n p q r s1 l=>
  refine qM fun _ Y=>?_
  obtain⟨z,x,y,rfl,hz,hx,hy⟩:=id hI
  apply Y
  refine(ixO hz qLw ⟨rfl,_,rfl,jI ?_⟩)
  exact⟨_,rfl,_,rfl,_,rfl,_,n,p,q,r,s1,l,lo,hi,rfl,hI,hB,bl,kk⟩
 | nest n b l=>
  refine qM fun _ Y=>?_
  obtain⟨z,rfl,hz⟩:=id hI
  apply Y
  have a0:atI [V.str "nest",.str n,.int b,.int l] 0=some (.str "nest"):=rfl
  have a1:atI [V.str "nest",.str n,.int b,.int l] 1=some (.str n):=rfl
  have a2:atI [V.str "nest",.str n,.int b,.int l] 2=some (.int b):=rfl
  refine(ixO hz a0 ⟨rfl,_,rfl,qm ?_⟩)
  refine(ixO hz a0 ⟨rfl,_,rfl,jI ?_⟩)
  refine(ixO hz a1 (ixO hz a2 ⟨_,rfl,_,_,rfl,rfl,_,rfl,_,rfl,_,_,rfl,rfl,sL4,fun t ht=>?_⟩))
  exact kk _ _ (qC ht _) (isN qB)
 | gap l=>
  refine qM fun _ Y=>?_
  obtain⟨z,rfl,hz⟩:=id hI
  apply Y
  refine(ixO hz at0 ⟨rfl,_,rfl,qm ?_⟩)
  refine(ixO hz at0 ⟨rfl,_,rfl,qm ?_⟩)
  refine⟨_,rfl,_,rfl,_,_,rfl,rfl,sL2,fun t ht=>?_⟩
  exact kk _ _ (qC ht _) (isG qB)
def xU (i j:Int):Int:=if j > i then j else i
def qJ1 (i j:Int):Int:=if j < i then j else i
def xq (lo hi:Int):Int→List Im→List Im
 | _,[]=>[]
 | b,m::r=>(if m.wd="mix" then (if lo < b∧b < hi then [m] else []) else if xU lo b < qJ1 hi (b+m.mo) then [jT m (xU lo b - b) (qJ1 hi (b+m.mo) - b)] else [])++xq lo hi (b+m.mo) r
theorem vO (lo hi:Int):∀ (b:Int) (ms:List Im),(xq lo hi b ms).length≤ms.length
 | _,[]=>by simp [xq]
 | b,m::r=>by
  have:=vO lo hi (b+m.mo) r
  rw [xq,List.length_append,List.length_cons]
  split <;> split <;> simp <;> omega
def MsB (ms:List Im):Prop:=(∀ m∈ms,ImB m∧0≤m.mo)∧ms.length≤300
inductive qB7 (vs:List V)(H:Hp)(Q:VK)(_:XK):Prop
| mk (z:Addr) (ms:List Im) (lo hi:Int) (_:vs=[.ref z,.int lo,.int hi]) (_:Tr H z ms) (_:MsB ms) (_:0≤lo) (_:lo≤2 ^ 500) (_:∀ (y:Addr) (H':Hp),Same H H'→H y=none→Tr H' y (xq lo hi 0 ms)→Q (.ref y) H')
theorem kY (T:Tx K mg a):FnOk P w K mg base CX0 7 a.A35 a.B35 ["track","low","high"] qB7:=by
 refine T.D35.F.ok qv (fun vs H Q E h=>?_) (fun cdv A outer s H vs Q E hr h=>?_)
 · obtain⟨z,ms,lo,hi,rfl,_⟩:=h
   rfl
 refine qM fun _ Y=>?_
 obtain⟨z,ms,lo,hi,rfl,⟨vs,hz,his⟩,⟨hB,hln⟩,h0,h1,kk⟩:=h
 apply Y
 refine⟨_,(qD (qX 3 qv.nd (qr qE))
  (qD (qX 4 qv.nd qG)
  (qD (xg PassesOwn.never rfl (jW (pv 0)) (qz (i:=5) qv.nd rfl (Or.inl rfl)) (qD (qX 6 qv.nd (qO qp (pv 4) (qK T.D23 (ja T) hr rfl (qA (pv 5) qE))))
  (qD (qX 7 qv.nd (qc (zr rfl) rfl T.b_max rfl (qA (pv 1) (qA (pv 4) qE))))
  (qD (qX 8 qv.nd (qc (vU rfl) rfl T.b_min rfl (qA (pv 2) (qA (pv 6) qE))))
  (qD (qd (qH jX (qJ (pv 5)) qS (qN _)) (qF (qd (PW.pt (xH (qH xx (pv 1) (pv 4) (qN _)) (jq (qH xx (pv 4) (pv 2) (qN _))))) (qF (jn (qDj F.plainAttrs_list F.slot_list_append F.type_list_append jm (pv 3) (qA (pv 5) qE)))) qP)) (qF (qd (qH xx (pv 7) (pv 8) (qN _)) (qF (jn (qDj F.plainAttrs_list F.slot_list_append F.type_list_append jm (pv 3) (qA (qK T.D34 (qIt T) hr rfl (qA (pv 5) (qA (qO jM (pv 7) (pv 4)) (qA (qO jM (pv 8) (pv 4)) qE)))) qE)))) qP)))
  (qF (qX 4 qv.nd (pv 6))))))))
  (qF (qL (pv 3)))))),?_⟩
 try dsimp only [jc,qj]
 refine⟨sL0,fun y hy=>?_⟩
 have w0:=qC hy (.lst [])
 have hvl:=his.len
 refine⟨_,rfl,z,rfl,⟨_,SqL.of (w0 _ _ hz)⟩,xI (K:=K) (a:=z) (xs:=vs) (fun i σ H'=>∃ (o1 o2 o3 o4:Option V) (b:Int) (ps:List Im),σ=[some (.ref z),some (.int lo),some (.int hi),some (.ref y),some (.int b),o1,o2,o3,o4]∧Tr H' y ps∧ps++xq lo hi b (ms.drop i)=xq lo hi 0 ms∧ps.length≤i∧0≤b∧Same H H')
  ⟨none,none,none,none,0,[],rfl,⟨[],qB,trivial⟩,rfl,Nat.le_refl _,by decide,w0⟩ ?_ ?_ ?_⟩
 · rintro i σ H' hi' ⟨o1,o2,o3,o4,b,ps,rfl,_,_,_,_,e⟩
   exact SqL.of (e _ _ hz)
 · rintro i x σ H' hx ⟨o1,o2,o3,o4,b,ps,rfl,tP,hap,hpl,b0,e⟩
   refine qM fun _ Y=>?_
   obtain⟨m,hm,hIx⟩:=his.get hx
   have hI:=hIx.ts (qZ e)
   have hin:i < ms.length:=(glt hm)
   obtain⟨hBm,hmo⟩:=hB m (List.mem_of_getElem? hm)
   obtain⟨us,hyu,hisP⟩:=tP
   apply Y
   have hul:=hisP.len
   rw [jd hm,xq] at hap
   refine⟨_,rfl,_,rfl,x,m,rfl,hI,_,_,rfl,rfl,?_⟩
   refine⟨_,rfl,_,rfl,_,_,rfl,?_⟩
   refine⟨_,rfl,_,rfl,_,_,rfl,?_⟩
   dsimp only
   change qV3 _ _ _ _ _
   refine qM fun _ Y=>?_
   obtain⟨zi,xi,rfl,hzi,a0,_⟩:=hI.opn
   apply Y
   have skip:∀ (q:List Im),ps++([]++q)=ps++q:=fun q=>by simp
   refine⟨_,rfl,zi,xi,_,_,rfl,rfl,SqT.of hzi,a0,rfl,_,rfl,ju (fun c=>?_) (fun c=>?_)⟩
   · have hw:m.wd="mix":=by simpa using c
     rw [if_pos hw] at hap
     refine⟨_,rfl,_,rfl,_,_,rfl,rfl,_,rfl,ju (fun c1=>?_) (fun c1=>?_)⟩
     · refine⟨_,rfl,_,rfl,_,_,rfl,rfl,_,rfl,ju (fun c2=>?_) (fun c2=>?_)⟩
       · rw [if_pos ⟨by simpa using c1,by simpa using c2⟩] at hap
         refine⟨_,rfl,.inl ⟨rfl,_,SqL.of hyu⟩,_,rfl,y,_,_,rfl,rfl,hyu,qY (by omega),?_⟩
         exact⟨_,rfl,_,_,_,_,_,ps++[m],rfl,⟨_,qB,(hisP.app (.one hI)).ts (zZ hyu)⟩,by rw [List.append_assoc];exact hap,by rw [List.length_append];show ps.length+1≤i+1;omega,by omega,xf e hy⟩
       · rw [if_neg (fun z=>c2 (by simpa using z.2)),skip] at hap
         exact⟨_,rfl,_,_,_,_,_,ps,rfl,⟨_,hyu,hisP⟩,hap,by omega,by omega,e⟩
     · rw [if_neg (fun z=>c1 (by simpa using z.1)),skip] at hap
       exact qm ⟨_,rfl,_,_,_,_,_,ps,rfl,⟨_,hyu,hisP⟩,hap,by omega,by omega,e⟩
   · have hw:m.wd≠"mix":=by simpa using c
     rw [if_neg hw] at hap
     refine⟨_,rfl,_,rfl,_,_,rfl,rfl,_,rfl,ju (fun c1=>?_) (fun c1=>?_)⟩
     · rw [if_pos (of_decide_eq_true (show decide (xU lo b < qJ1 hi (b+m.mo))=true from c1))] at hap
       refine⟨_,rfl,.inl ⟨rfl,_,SqL.of hyu⟩,_,rfl,_,rfl,_,rfl,_,_,rfl,rfl,_,rfl,_,rfl,_,_,rfl,rfl,_,m,xU lo b - b,qJ1 hi (b+m.mo) - b,rfl,hI,hBm,?_,hw,fun u H5 e5 hI5=>?_⟩
       · have:(xU lo b - b).natAbs≤(2 ^ 500:Nat):=by
          have h1':lo.natAbs≤2 ^ 500:=by
           have:=Int.natAbs_of_nonneg h0
           have h1'':((lo.natAbs:Nat):Int)≤((2 ^ 500:Nat):Int):=by rw [this];exact_mod_cast h1
           exact_mod_cast h1''
          refine Nat.le_trans ?_ h1'
          unfold xU
          split <;> omega
         exact Nat.lt_of_le_of_lt this (Nat.pow_lt_pow_right (by decide) (by decide))
       refine⟨y,_,_,rfl,rfl,e5 _ _ hyu,qY (by omega),?_⟩
       exact⟨_,rfl,_,_,_,_,_,ps++[jT m (xU lo b - b) (qJ1 hi (b+m.mo) - b)],rfl,⟨_,qB,((hisP.ts (qZ e5)).app (.one hI5)).ts (zZ (e5 _ _ hyu))⟩,by rw [List.append_assoc];exact hap,by rw [List.length_append];show ps.length+1≤i+1;omega,by omega,xf (e.trans e5) hy⟩
     · rw [if_neg (fun z=>c1 (show decide (xU lo b < qJ1 hi (b+m.mo))=true from decide_eq_true z)),skip] at hap
       exact⟨_,rfl,_,_,_,_,_,ps,rfl,⟨_,hyu,hisP⟩,hap,by omega,by omega,e⟩
 · rintro σ H' ⟨o1,o2,o3,o4,b,ps,rfl,tP,hap,hpl,b0,e⟩
   rw [hvl,List.drop_length,xq,List.append_nil] at hap
   rw [hap] at tP
   exact⟨_,rfl,kk y H' e hy tP⟩
inductive Dk where
 | cut (t:Int)
 | hel (t:Int)
 | opn (t l:Int)
 | cls (t u:Int)
 | lft (t u:Int)
 | lin (t:Int) (m:Im)
 | lov (t:Int) (m:Im)
def Dk.wd:Dk→Str
 | .cut _=>"cut"
 | .hel _=>"heal"
 | .opn .. =>"open"
 | .cls .. =>"close"
 | .lft .. =>"lift"
 | .lin .. =>"lay_in"
 | .lov .. =>"lay_over"
def Dk.t:Dk→Int
 | .cut t=>t
 | .hel t=>t
 | .opn t _=>t
 | .cls t _=>t
 | .lft t _=>t
 | .lin t _=>t
 | .lov t _=>t
def Dk.hi:Dk→Int
 | .cut t=>t
 | .hel t=>t
 | .opn t _=>t
 | .cls _ u=>u
 | .lft _ u=>u
 | .lin t _=>t
 | .lov t m=>t+m.mo
def Dk.laid:Dk→List Im
 | .opn _ l=>[.gap l]
 | .lft t u=>[.gap (u - t)]
 | .lin _ m=>[m]
 | .lov _ m=>[m]
 | _=>[]
def Dk.push:Dk→Bool
 | .opn .. =>true
 | .cls .. =>true
 | .lin .. =>true
 | _=>false
def DAt (H:Hp)(dz:Addr)(n:Int):Dk→Prop
 | .cut t=>H dz=some (.tup [.str "cut",.int n,.int t])
 | .hel t=>H dz=some (.tup [.str "heal",.int n,.int t])
 | .opn t l=>H dz=some (.tup [.str "open",.int n,.int t,.int l])
 | .cls t u=>H dz=some (.tup [.str "close",.int n,.int t,.int u])
 | .lft t u=>H dz=some (.tup [.str "lift",.int n,.int t,.int u])
 | .lin t m=>∃ v,H dz=some (.tup [.str "lay_in",.int n,.int t,v])∧IsI H m v
 | .lov t m=>∃ v,H dz=some (.tup [.str "lay_over",.int n,.int t,v])∧IsI H m v
theorem DAt.same {H H':Hp}{dz:Addr}{n:Int}{d:Dk}(e:Same H H')(h:DAt H dz n d):DAt H' dz n d:=by
 cases d with
 | lin t m=>obtain⟨v,h1,h2⟩:=h;exact⟨v,e _ _ h1,h2.ts (qZ e)⟩
 | lov t m=>obtain⟨v,h1,h2⟩:=h;exact⟨v,e _ _ h1,h2.ts (qZ e)⟩
 | _=>exact e _ _ h
theorem DAt.opn {H:Hp}{dz:Addr}{n:Int}{d:Dk}(h:DAt H dz n d):∃ xs,H dz=some (.tup xs)∧atI xs 0=some (.str d.wd)∧atI xs 1=some (.int n)∧atI xs 2=some (.int d.t):=by
 cases d with
 | lin t m=>obtain⟨v,h1,_⟩:=h;exact⟨_,h1,rfl,rfl,rfl⟩
 | lov t m=>obtain⟨v,h1,_⟩:=h;exact⟨_,h1,rfl,rfl,rfl⟩
 | _=>exact⟨_,h,rfl,rfl,rfl⟩
theorem zW {w:Str}{ws:List V}{b:Bool}(h:inV (.str w) ws=b):V.bl (if false=true then !inV (.str w) ws else inV (.str w) ws)=V.bl b:=by
 rw [if_neg (by decide),h]
theorem qKw {w:Str}{ws:List V}{b:Bool}(h:inV (.str w) ws=b):V.bl (if true=true then !inV (.str w) ws else inV (.str w) ws)=V.bl (!b):=by
 rw [if_pos rfl,h]
inductive qF8 (vs:List V)(H:Hp)(Q:VK)(_:XK):Prop
| mk (dz:Addr) (n:Int) (d:Dk) (_:vs=[.ref dz]) (_:DAt H dz n d) (_:∀ (p:Addr) (H':Hp),Same H H'→H' p=some (.tup [.int d.t,.int d.hi])→Q (.ref p) H')
theorem wv (T:Tx K mg a):FnOk P w K mg base CX0 2 a.A58 a.B58 ["deed"] qF8:=by
 refine T.D58.F.ok qGl (fun vs H Q E h=>?_) (fun cdv A outer s H vs Q E hr h=>?_)
 · obtain⟨dz,n,d,rfl,_⟩:=h
   rfl
 refine qM fun _ Y=>?_
 obtain⟨dz,n,d,rfl,hD,kk⟩:=h
 apply Y
 refine⟨_,(qD (qd (qH xj (qJ (pv 0)) (qo (qA qS (qA qS qE))) rfl) (qF (qL (qo (qA (qJ (pv 0)) (qA (qJ (pv 0)) qE))))) qP)
  (qD (qd (qH jX (qJ (pv 0)) qS (qN _)) (qF (qL (qo (qA (qJ (pv 0)) (qA (qO qp (qJ (pv 0)) (qK T.D23 (ja T) hr rfl (qA (qJ (pv 0)) qE))) qE))))) qP)
  (qF (qL (qo (qA (qJ (pv 0)) (qA (qJ (pv 0)) qE))))))),?_⟩
 try dsimp only [jc,qj]
 refine qM fun _ Y=>?_
 obtain⟨xs,hd,a0,a1,a2⟩:=hD.opn
 apply Y
 have two:(2:Nat)≤sizeLine:=by decide
 refine(ixO hd a0 ⟨two,fun q hq=>?_⟩)
 have w1:=qC hq (.tup [.str "close",.str "lift"])
 have hd1:=w1 _ _ hd
 cases d with
 | cls t u=>
  refine⟨q,_,rfl,.inr (SqT.of qB),rfl,rfl,true,(zW (w:="close") (by decide+kernel)),jI ?_⟩
  exact(ixO (w1 _ _ hD) qOj (ixO (w1 _ _ hD) qGp ⟨two,fun p hp=>kk p _ (w1.trans (qC hp _)) qB⟩))
 | lft t u=>
  refine⟨q,_,rfl,.inr (SqT.of qB),rfl,rfl,true,(zW (w:="lift") (by decide+kernel)),jI ?_⟩
  exact(ixO (w1 _ _ hD) qOj (ixO (w1 _ _ hD) qGp ⟨two,fun p hp=>kk p _ (w1.trans (qC hp _)) qB⟩))
 | lov t m=>
  refine qM fun _ Y=>?_
  obtain⟨v,hv,hI⟩:=hD
  apply Y
  refine⟨q,_,rfl,.inr (SqT.of qB),rfl,rfl,false,(zW (w:="lay_over") (by decide+kernel)),qm ?_⟩
  refine(ixO hd1 a0 ⟨rfl,_,rfl,jI ?_⟩)
  exact(ixO hd1 a2 (ixO hd1 a2 (ixO (w1 _ _ hv) qGp ⟨v,m,rfl,hI.ts (qZ w1),_,_,rfl,rfl,two,fun p hp=>kk p _ (w1.trans (qC hp _)) qB⟩)))
 | cut t=>
  refine⟨q,_,rfl,.inr (SqT.of qB),rfl,rfl,false,(zW (w:="cut") (by decide+kernel)),qm ?_⟩
  refine(ixO hd1 a0 ⟨rfl,_,rfl,qm ?_⟩)
  exact(ixO hd1 a2 (ixO hd1 a2 ⟨two,fun p hp=>kk p _ (w1.trans (qC hp _)) qB⟩))
 | hel t=>
  refine⟨q,_,rfl,.inr (SqT.of qB),rfl,rfl,false,(zW (w:="heal") (by decide+kernel)),qm ?_⟩
  refine(ixO hd1 a0 ⟨rfl,_,rfl,qm ?_⟩)
  exact(ixO hd1 a2 (ixO hd1 a2 ⟨two,fun p hp=>kk p _ (w1.trans (qC hp _)) qB⟩))
 | opn t l=>
  refine⟨q,_,rfl,.inr (SqT.of qB),rfl,rfl,false,(zW (w:="open") (by decide+kernel)),qm ?_⟩
  refine(ixO hd1 a0 ⟨rfl,_,rfl,qm ?_⟩)
  exact(ixO hd1 a2 (ixO hd1 a2 ⟨two,fun p hp=>kk p _ (w1.trans (qC hp _)) qB⟩))
 | lin t m=>
  refine⟨q,_,rfl,.inr (SqT.of qB),rfl,rfl,false,(zW (w:="lay_in") (by decide+kernel)),qm ?_⟩
  refine(ixO hd1 a0 ⟨rfl,_,rfl,qm ?_⟩)
  exact(ixO hd1 a2 (ixO hd1 a2 ⟨two,fun p hp=>kk p _ (w1.trans (qC hp _)) qB⟩))
inductive qMg (vs:List V)(H:Hp)(Q:VK)(_:XK):Prop
| mk (dz:Addr) (n:Int) (d:Dk) (_:vs=[.ref dz]) (_:DAt H dz n d) (_:∀ (y:Addr) (H':Hp),Same H H'→H y=none→Tr H' y d.laid→Q (.ref y) H')
theorem qEx (T:Tx K mg a):FnOk P w K mg base CX0 1 a.A59 a.B59 ["deed"] qMg:=by
 refine T.D59.F.ok qL9 (fun vs H Q E h=>?_) (fun cdv A outer s H vs Q E hr h=>?_)
 · obtain⟨dz,n,d,rfl,_⟩:=h
   rfl
 refine qM fun _ Y=>?_
 obtain⟨dz,n,d,rfl,hD,kk⟩:=h
 apply Y
 refine⟨_,(qD (qd (qH xj (qJ (pv 0)) (xJ (v:=.ref a.n_LAYS) rfl T.g_LAYS rfl) rfl) (qF (qL (qr (qA (qJ (pv 0)) qE)))) qP)
  (qD (qd (qH jX (qJ (pv 0)) qS (qN _)) (qF (qL (qr (qA (qo (qA qS (qA (qJ (pv 0)) qE))) qE)))) qP)
  (qD (qd (qH jX (qJ (pv 0)) qS (qN _)) (qF (qL (qr (qA (qo (qA qS (qA (qO jM (qJ (pv 0)) (qJ (pv 0))) qE))) qE)))) qP)
  (qF (qL (qr qE)))))),?_⟩
 try dsimp only [jc,qj]
 refine qM fun _ Y=>?_
 obtain⟨xs,hd,a0,a1,a2⟩:=hD.opn
 apply Y
 have one:(1:Nat)≤sizeLine:=by decide
 have two:(2:Nat)≤sizeLine:=by decide
 have zero:(0:Nat)≤sizeLine:=by decide
 refine(ixO hd a0 ⟨a.n_LAYS,_,rfl,.inr (T.sq_LAYS _),rfl,rfl,?_⟩)
 cases d with
 | lin t m=>
  refine qM fun _ Y=>?_
  obtain⟨v,hv,hI⟩:=hD
  apply Y
  refine⟨true,(zW (w:="lay_in") (by decide+kernel)),jI (ixO hv qGp ⟨one,fun p hp=>?_⟩)⟩
  exact kk p _ (qC hp _) hp ⟨_,qB,hI.ts (qZ (qC hp _)),trivial⟩
 | lov t m=>
  refine qM fun _ Y=>?_
  obtain⟨v,hv,hI⟩:=hD
  apply Y
  refine⟨true,(zW (w:="lay_over") (by decide+kernel)),jI (ixO hv qGp ⟨one,fun p hp=>?_⟩)⟩
  exact kk p _ (qC hp _) hp ⟨_,qB,hI.ts (qZ (qC hp _)),trivial⟩
 | opn t l=>
  refine⟨false,(zW (w:="open") (by decide+kernel)),qm ?_⟩
  refine(ixO hd a0 ⟨rfl,_,rfl,jI ?_⟩)
  refine(ixO hD qGp ⟨two,fun g hg=>⟨one,fun p hp=>?_⟩⟩)
  exact kk p _ ((qC hg _).trans (qC hp _)) ((qC hg _).free hp) ⟨_,qB,isG ((qC hp _) _ _ qB),trivial⟩
 | lft t u=>
  refine⟨false,(zW (w:="lift") (by decide+kernel)),qm ?_⟩
  refine(ixO hd a0 ⟨rfl,_,rfl,qm ?_⟩)
  refine(ixO hd a0 ⟨rfl,_,rfl,jI ?_⟩)
  refine(ixO hD qGp (ixO hD qOj ⟨_,_,rfl,rfl,two,fun g hg=>⟨one,fun p hp=>?_⟩⟩))
  exact kk p _ ((qC hg _).trans (qC hp _)) ((qC hg _).free hp) ⟨_,qB,isG ((qC hp _) _ _ qB),trivial⟩
 | cut t=>
  refine⟨false,(zW (w:="cut") (by decide+kernel)),qm ?_⟩
  refine(ixO hd a0 ⟨rfl,_,rfl,qm ?_⟩)
  refine(ixO hd a0 ⟨rfl,_,rfl,qm ?_⟩)
  exact⟨zero,fun p hp=>kk p _ (qC hp _) hp ⟨[],qB,trivial⟩⟩
 | hel t=>
  refine⟨false,(zW (w:="heal") (by decide+kernel)),qm ?_⟩
  refine(ixO hd a0 ⟨rfl,_,rfl,qm ?_⟩)
  refine(ixO hd a0 ⟨rfl,_,rfl,qm ?_⟩)
  exact⟨zero,fun p hp=>kk p _ (qC hp _) hp ⟨[],qB,trivial⟩⟩
 | cls t u=>
  refine⟨false,(zW (w:="close") (by decide+kernel)),qm ?_⟩
  refine(ixO hd a0 ⟨rfl,_,rfl,qm ?_⟩)
  refine(ixO hd a0 ⟨rfl,_,rfl,qm ?_⟩)
  exact⟨zero,fun p hp=>kk p _ (qC hp _) hp ⟨[],qB,trivial⟩⟩
def chF (tie:List Int)(n:Int)(push:Bool):List Int:=if push=true∧n∈tie then n::tie.filter (fun x=>decide (x≠n)) else [n]
theorem qPs {i:Int}{ps:List Int}:inV (.int i) (ps.map V.int)=decide (i∈ps):=by
 unfold inV
 rw [Bool.eq_iff_iff]
 simp [eqV]
theorem qL7 (ps:List Int):(ps.map V.int).all xn=true:=by
 rw [List.all_map,List.all_eq_true]
 intro _ _
 rfl
theorem Dk.push_in (d:Dk):inV (.str d.wd) [.str "lay_in",.str "open",.str "close"]=d.push:=by
 cases d with
 | cut t=>show inV (.str "cut") _=false;decide+kernel
 | hel t=>show inV (.str "heal") _=false;decide+kernel
 | opn t l=>show inV (.str "open") _=true;decide+kernel
 | cls t u=>show inV (.str "close") _=true;decide+kernel
 | lft t u=>show inV (.str "lift") _=false;decide+kernel
 | lin t m=>show inV (.str "lay_in") _=true;decide+kernel
 | lov t m=>show inV (.str "lay_over") _=false;decide+kernel
inductive qCq (vs:List V)(H:Hp)(Q:VK)(_:XK):Prop
| mk (dz:Addr) (n:Int) (d:Dk) (_:vs=[.ref dz]) (_:DAt H dz n d) (_:∀ (y:Addr) (H':Hp),Same H H'→H y=none→Tr H' y (d.laid.map fun m=>.gap m.mo)→Q (.ref y) H')
theorem Dk.laid_len (d:Dk):d.laid.length≤1:=by cases d <;> simp [Dk.laid]
theorem qDe (T:Tx K mg a):FnOk P w K mg base CX0 2 a.A60 a.B60 ["deed"] qCq:=by
 refine T.D60.F.ok qDb (fun vs H Q E h=>?_) (fun cdv A outer s H vs Q E hr h=>?_)
 · obtain⟨dz,n,d,rfl,_⟩:=h
   rfl
 refine qM fun _ Y=>?_
 obtain⟨dz,n,d,rfl,hD,kk⟩:=h
 apply Y
 refine⟨_,(qF (qL (zd [] [] rfl (jW (qK T.D59 (qEx T) hr rfl (qA (pv 0) qE))) (fun _ _ _ _=>(qo (qA qS (qA (qK T.D23 (ja T) hr rfl (qA (pv 0) qE)) qE))))))),?_⟩
 try dsimp only [jc,qj]
 refine⟨_,rfl,dz,n,d,rfl,hD,fun l H1 e1 hl ⟨us,hlu,his⟩=>?_⟩
 have hll:=d.laid_len
 have hul:=his.len
 refine⟨l,rfl,⟨_,SqL.of hlu⟩,wW (K:=K) (a:=l) (xs:=us) (fun j acc H2=>IsIs H2 ((d.laid.take j).map fun m=>.gap m.mo) acc∧Same H1 H2) ⟨trivial,Same.refl _⟩ ?_ ?_ ?_⟩
 · rintro j acc H2 hj ⟨ht,e2⟩
   exact⟨SqL.of (e2 _ _ hlu),qY (by rw [ht.len,List.length_map,List.length_take];omega)⟩
 · rintro j x acc H2 hj hx ⟨ht,e2⟩
   refine qM fun _ Y=>?_
   obtain⟨m,hm,hI⟩:=his.get hx
   apply Y
   refine⟨_,rfl,x,m,rfl,hI.ts (qZ e2),sL2,fun g hg=>Nxt.mk hj ⟨?_,e2.trans (qC hg _)⟩⟩
   rw [List.take_add_one,hm,List.map_append]
   exact(ht.ts (qZ (qC hg _))).app (.one (isG qB))
 rintro acc H2 ⟨ht,e2⟩ y hy
 rw [hul,List.take_length] at ht
 exact kk y _ ((e1.trans e2).trans (qC hy _)) ((e1.trans e2).free hy) ⟨_,qB,ht.ts (qZ (qC hy _))⟩
inductive qAb (vs:List V)(H:Hp)(Q:VK)(_:XK):Prop
| mk (tz tl ti dz:Addr) (tie:List Int) (n:Int) (d:Dk) (_:vs=[.ref tz,.ref dz]) (_:H tz=some (.tup [.ref tl,.ref ti])) (_:H ti=some (.lst (tie.map V.int))) (_:tie.length≤300) (_:DAt H dz n d) (_:∀ (y:Addr) (H':Hp),Same H H'→H y=none→H' y=some (.lst ((chF tie n d.push).map V.int))→Q (.ref y) H')
theorem zy (T:Tx K mg a):FnOk P w K mg base CX0 1 a.A61 a.B61 ["table","deed"] qAb:=by
 refine T.D61.F.ok qAq (fun vs H Q E h=>?_) (fun cdv A outer s H vs Q E hr h=>?_)
 · obtain⟨tz,tl,ti,dz,tie,n,d,rfl,_⟩:=h
   rfl
 refine qM fun _ Y=>?_
 obtain⟨tz,tl,ti,dz,tie,n,d,rfl,htz,hti,htl,hD,kk⟩:=h
 apply Y
 refine⟨_,(qD (qd (PW.pt (j2 (qH vN (qJ (pv 1)) (xJ (v:=.ref a.n_PUSHES) rfl T.g_PUSHES rfl) rfl) (jV (qH vN (qJ (pv 1)) (qJ (pv 0)) rfl)))) (qF (qL (qr (qA (qJ (pv 1)) qE)))) qP)
  (qF (qL (qO kf (qr (qA (qJ (pv 1)) qE)) (kN ["deed"] [1] rfl (jW (qJ (pv 0))) (fun _ _ _ _=>(qH zP (pv 0) (jK (xr (K:=K) rfl) (pv 1) qG (fun _ _=>rfl)) (qN _))) (fun _ _ _ _=>(pv 0))))))),?_⟩
 try dsimp only [jc,qj]
 refine qM fun _ Y=>?_
 obtain⟨xs,hd,a0,a1,a2⟩:=hD.opn
 apply Y
 have one:(1:Nat)≤sizeLine:=by decide
 have fin1:¬ (d.push=true∧n∈tie)→∀ p,H p=none→Q (.ref p) (upd H p (.lst [.int n])):=fun hc p hp=>by
  refine kk p _ (qC hp _) hp ?_
  unfold chF
  rw [if_neg hc,qB]
  rfl
 refine(ixO hd a0 ⟨a.n_PUSHES,_,rfl,.inr (T.sq_PUSHES _),rfl,rfl,!d.push,qKw d.push_in,?_⟩)
 cases hp:d.push with
 | false=>
  refine jI (jI (ixO hd a1 ⟨one,fun p hp'=>fin1 (fun z=>?_) p hp'⟩))
  rw [hp] at z
  exact absurd z.1 (by simp)
 | true=>
  refine qm (ixO hd a1 (ixO htz at1 ⟨ti,_,rfl,.inl (SqL.of hti),rfl,qL7 tie,!decide (n∈tie),?_,?_⟩))
  · show V.bl (!inV (.int n) (tie.map V.int))=_
    rw [qPs]
  by_cases hm:n∈tie
  · rw [decide_eq_true hm]
    refine qm (ixO hd a1 ⟨one,fun l1 hl1=>?_⟩)
    have w1:=qC hl1 (.lst [.int n])
    have k1:upd H l1 (.lst [.int n]) l1=some (.lst [.int n]):=qB
    have hl10:=hl1
    change _
    generalize upd H l1 (.lst [.int n])=H1 at w1 k1
    refine(ixO (w1 _ _ htz) at1 ⟨ti,rfl,⟨_,SqL.of (w1 _ _ hti)⟩,qAw (K:=K) (a:=ti) (xs:=tie.map V.int) (fun j acc H2=>acc=((tie.take j).filter (fun x=>decide (x≠n))).map V.int∧H2=H1) ⟨rfl,rfl⟩ ?_ ?_ ?_⟩)
    · rintro j acc H2 hj ⟨rfl,rfl⟩
      refine⟨SqL.of (w1 _ _ hti),qY ?_⟩
      rw [List.length_map]
      have:=List.length_filter_le (fun x=>decide (x≠n)) (tie.take j)
      have:=List.length_take_le j tie
      rw [List.length_take] at*
      omega
    · rintro j x acc H2 hj hx ⟨rfl,rfl⟩
      refine qM fun _ Y=>?_
      obtain⟨xi,hxi,rfl⟩:∃ xi:Int,tie[j]? =some xi∧x= .int xi:=by
       rw [List.getElem?_map] at hx
       cases hq:tie[j]? with
       | none=>rw [hq] at hx;cases hx
       | some k=>rw [hq] at hx;cases hx;exact⟨k,rfl,rfl⟩
      apply Y
      have etk:tie.take (j+1)=tie.take j++[xi]:=by rw [List.take_add_one,hxi];rfl
      refine⟨_,rfl,ixO (w1 _ _ hd) a1 ⟨rfl,_,rfl,ju (fun c=>?_) (fun c=>?_)⟩⟩
      · have hne:xi≠n:=by simpa using c
        refine⟨_,rfl,Nxt.mk hj ⟨?_,rfl⟩⟩
        rw [etk,List.filter_append,List.map_append]
        simp [hne]
      · have hne:xi=n:=by simpa using c
        refine Nxt.mk hj ⟨?_,rfl⟩
        rw [etk,List.filter_append,List.map_append]
        simp [hne]
    rintro acc H2 ⟨rfl,rfl⟩ l2 hl2
    rw [List.length_map,List.take_length]
    have w2:=qC hl2 (.lst ((tie.filter (fun x=>decide (x≠n))).map V.int))
    refine⟨l1,l2,_,_,rfl,rfl,w2 _ _ k1,qB,?_,fun y hy=>?_⟩
    · have:=qY (n:=1+((tie.filter (fun x=>decide (x≠n))).map V.int).length) (by
       rw [List.length_map]
       have:=List.length_filter_le (fun x=>decide (x≠n)) tie
       omega)
      show 1+((tie.filter (fun x=>decide (x≠n))).map V.int).length≤sizeLine
      omega
    refine kk y _ ((w1.trans w2).trans (qC hy _)) ((w1.trans w2).free hy) ?_
    unfold chF
    rw [if_pos ⟨hp,hm⟩,qB]
    rfl
  · rw [decide_eq_false hm]
    exact jI (ixO hd a1 ⟨one,fun p hp'=>fin1 (fun z=>hm z.2) p hp'⟩)
inductive qGd (vs:List V)(H:Hp)(Q:VK)(_:XK):Prop
| mk (l:Int) (_:vs=[.int l]) (_:Q (.int (l.fdiv 2)) H)
theorem kB (T:Tx K mg a):FnOk P w K mg base CX0 1 a.A36 a.B36 ["length"] qGd:=by
 refine T.D36.F.ok qFe (fun vs H Q E h=>?_) (fun cdv A outer s H vs Q E hr h=>?_)
 · obtain⟨l,rfl,_⟩:=h
   rfl
 refine qM fun _ Y=>?_
 obtain⟨l,rfl,kk⟩:=h
 apply Y
 refine⟨_,(qF (qL (qO qg (pv 0) qG))),?_⟩
 try dsimp only [jc,qj]
 exact⟨_,rfl,_,_,rfl,rfl,cdB (by decide) (by decide),kk⟩
inductive qD7 (vs:List V)(H:Hp)(Q:VK)(_:XK):Prop
| mk (l:Int) (_:vs=[.int l]) (_:Q (.int (l - l.fdiv 2)) H)
theorem vz (T:Tx K mg a):FnOk P w K mg base CX0 1 a.A37 a.B37 ["length"] qD7:=by
 refine T.D37.F.ok qD4 (fun vs H Q E h=>?_) (fun cdv A outer s H vs Q E hr h=>?_)
 · obtain⟨l,rfl,_⟩:=h
   rfl
 refine qM fun _ Y=>?_
 obtain⟨l,rfl,kk⟩:=h
 apply Y
 refine⟨_,(qF (qL (qO jM (pv 0) (qO qg (pv 0) qG)))),?_⟩
 try dsimp only [jc,qj]
 exact⟨_,rfl,_,rfl,_,_,rfl,rfl,cdB (by decide) (by decide),_,_,rfl,rfl,kk⟩
def ql:Int→List Im→List (Int × Int × Int)
 | _,[]=>[]
 | b,.mix l::ms=>(b - l.fdiv 2,b,b+(l - l.fdiv 2))::ql b ms
 | b,.clip _ _ _ _ _ l::ms=>ql (b+l) ms
 | b,.nest _ _ l::ms=>ql (b+l) ms
 | b,.gap l::ms=>ql (b+l) ms
theorem qh {m:Im}(h:m.wd≠"mix")(b:Int)(ms:List Im):ql b (m::ms)=ql (b+m.mo) ms:=by
 cases m with
 | mix l=>exact absurd rfl h
 | _=>rfl
def jf:Nat→List Im→List Nat
 | _,[]=>[]
 | i,.mix _::ms=>i::jf (i+1) ms
 | i,.clip _ _ _ _ _ _::ms=>jf (i+1) ms
 | i,.nest _ _ _::ms=>jf (i+1) ms
 | i,.gap _::ms=>jf (i+1) ms
theorem xZ {m:Im}(h:m.wd≠"mix")(i:Nat)(ms:List Im):jf i (m::ms)=jf (i+1) ms:=by
 cases m with
 | mix l=>exact absurd rfl h
 | _=>rfl
theorem qAv:∀ (i:Nat) (b:Int) (ms:List Im),(jf i ms).length=(ql b ms).length
 | _,_,[]=>rfl
 | i,b,m::ms=>by
  by_cases h:m.wd="mix"
  · obtain⟨l,rfl⟩:=jD h
    rw [jf,ql,List.length_cons,List.length_cons,qAv (i+1) b ms]
  · rw [xZ h,qh h,qAv (i+1) (b+m.mo) ms]
def qFb:Int→Nat→List Im→Int→Option (Nat × Int)
 | _,_,[],_=>none
 | b,i,.mix l::ms,t=>if b - l.fdiv 2≤t∧t < b+(l - l.fdiv 2) then some (i,t - (b - l.fdiv 2)) else qFb b (i+1) ms t
 | b,i,.clip _ _ _ _ _ l::ms,t=>qFb (b+l) (i+1) ms t
 | b,i,.nest _ _ l::ms,t=>qFb (b+l) (i+1) ms t
 | b,i,.gap l::ms,t=>qFb (b+l) (i+1) ms t
theorem qBd {m:Im}(h:m.wd≠"mix")(b:Int)(i:Nat)(ms:List Im)(t:Int):qFb b i (m::ms) t=qFb (b+m.mo) (i+1) ms t:=by
 cases m with
 | mix l=>exact absurd rfl h
 | _=>rfl
def qMh:List Nat→List (Int × Int × Int)→Int→Option (Nat × Int)
 | p::ps,(x,_,z)::ss,t=>if x≤t∧t < z then some (p,t - x) else qMh ps ss t
 | _,_,_=>none
theorem qGm:∀ (b:Int) (i:Nat) (ms:List Im) (t:Int),qMh (jf i ms) (ql b ms) t=qFb b i ms t
 | _,_,[],_=>rfl
 | b,i,m::ms,t=>by
  by_cases h:m.wd="mix"
  · obtain⟨l,rfl⟩:=jD h
    rw [jf,ql,qMh,qFb,qGm b (i+1) ms t]
  · rw [xZ h,qh h,qBd h,qGm _ (i+1) ms t]
theorem qJt:∀ {b:Int} {i:Nat} {ms:List Im} {t:Int} {k:Nat} {j:Int},qFb b i ms t=some (k,j)→∃ l,i≤k∧ms[k - i]? =some (.mix l)∧0≤j∧j < l
 | _,_,[],_,_,_,h=>by simp [qFb] at h
 | b,i,m::ms,t,k,j,h=>by
  by_cases hm:m.wd="mix"
  · obtain⟨l,rfl⟩:=jD hm
    rw [qFb] at h
    by_cases hc:b - l.fdiv 2≤t∧t < b+(l - l.fdiv 2)
    · rw [if_pos hc] at h
      cases h
      exact⟨l,Nat.le_refl _,by simp,by omega,by omega⟩
    · rw [if_neg hc] at h
      obtain⟨l',h1,h2,h3⟩:=qJt h
      have e:k - i=(k - (i+1))+1:=by omega
      exact⟨l',by omega,by rw [e,List.getElem?_cons_succ];exact h2,h3⟩
  · rw [qBd hm] at h
    obtain⟨l',h1,h2,h3⟩:=qJt h
    have e:k - i=(k - (i+1))+1:=by omega
    exact⟨l',by omega,by rw [e,List.getElem?_cons_succ];exact h2,h3⟩
def SpAt (H:Hp):List (Int × Int × Int)→List V→Prop
 | [],[]=>True
 | (x,y,z)::ss,v::vs=>(∃ p:Addr,v= .ref p∧H p=some (.tup [.int x,.int y,.int z]))∧SpAt H ss vs
 | _,_=>False
theorem SpAt.len {H:Hp}:∀ {ss:List (Int × Int × Int)} {vs:List V},SpAt H ss vs→vs.length=ss.length
 | [],[],_=>rfl
 | (_,_,_)::_,_::_,h=>by rw [List.length_cons,List.length_cons,SpAt.len h.2]
 | [],_::_,h=>h.elim
 | (_,_,_)::_,[],h=>h.elim
theorem SpAt.ts {H H':Hp}(e:TS H H'):∀ {ss:List (Int × Int × Int)} {vs:List V},SpAt H ss vs→SpAt H' ss vs
 | [],[],_=>trivial
 | (_,_,_)::_,_::_,⟨⟨p,h1,h2⟩,h⟩=>⟨⟨p,h1,e _ _ h2⟩,SpAt.ts e h⟩
 | [],_::_,h=>h.elim
 | (_,_,_)::_,[],h=>h.elim
theorem SpAt.app {H:Hp}:∀ {ss:List (Int × Int × Int)} {vs:List V} {ss':List (Int × Int × Int)} {vs':List V},SpAt H ss vs→SpAt H ss' vs'→SpAt H (ss++ss') (vs++vs')
 | [],[],_,_,_,h'=>h'
 | (_,_,_)::_,_::_,_,_,h,h'=>⟨h.1,h.2.app h'⟩
 | [],_::_,_,_,h,_=>h.elim
 | (_,_,_)::_,[],_,_,h,_=>h.elim
theorem SpAt.one {H:Hp}{x y z:Int}{p:Addr}(h:H p=some (.tup [.int x,.int y,.int z])):SpAt H [(x,y,z)] [.ref p]:=⟨⟨p,rfl,h⟩,trivial⟩
theorem SpAt.get {H:Hp}:∀ {ss:List (Int × Int × Int)} {vs:List V} {i:Nat} {v:V},SpAt H ss vs→vs[i]? =some v→∃ (x y z:Int) (p:Addr),ss[i]? =some (x,y,z)∧v= .ref p∧H p=some (.tup [.int x,.int y,.int z])
 | [],[],_,_,_,h=>by simp at h
 | (x,y,z)::_,u::_,0,v,h,e=>by
  have e':u=v:=by simpa using e
  subst e'
  obtain⟨⟨p,h1,h2⟩,_⟩:=h
  exact⟨x,y,z,p,rfl,h1,h2⟩
 | (_,_,_)::ss,_::vs,i+1,v,h,e=>by
  obtain⟨x,y,z,p,h1,h2⟩:=SpAt.get (i:=i) h.2 (by simpa using e)
  exact⟨x,y,z,p,by simpa using h1,h2⟩
 | [],_::_,_,_,h,_=>h.elim
 | (_,_,_)::_,[],_,_,h,_=>h.elim
inductive qHj (vs:List V)(H:Hp)(Q:VK)(_:XK):Prop
| mk (z:Addr) (ms:List Im) (_:vs=[.ref z]) (_:Tr H z ms) (_:ms.length≤300) (_:∀ (y:Addr) (us:List V) (H':Hp),Same H H'→H y=none→H' y=some (.lst us)→SpAt H' (ql 0 ms) us→Q (.ref y) H')
theorem qBt (T:Tx K mg a):FnOk P w K mg base CX0 2 a.A38 a.B38 ["track"] qHj:=by
 refine T.D38.F.ok xm (fun vs H Q E h=>?_) (fun cdv A outer s H vs Q E hr h=>?_)
 · obtain⟨z,ms,rfl,_⟩:=h
   rfl
 refine qM fun _ Y=>?_
 obtain⟨z,ms,rfl,⟨xs,hz,his⟩,hl,kk⟩:=h
 apply Y
 refine⟨_,(qD (qX 1 xm.nd (qr qE))
  (qD (qX 2 xm.nd qG)
  (qD (xg PassesOwn.never rfl (jW (pv 0)) (qz (i:=3) xm.nd rfl (Or.inl rfl)) (qD (qd (qH jX (qJ (pv 3)) qS (qN _)) (qF (jn (qDj F.plainAttrs_list F.slot_list_append F.type_list_append jm (pv 1) (qA (qo (qA (qO jM (pv 2) (qK T.D36 (kB T) hr rfl (qA (qJ (pv 3)) qE))) (qA (pv 2) (qA (qO qp (pv 2) (qK T.D37 (vz T) hr rfl (qA (qJ (pv 3)) qE))) qE)))) qE)))) qP)
  (qF (qX 2 xm.nd (qO qp (pv 2) (qK T.D23 (ja T) hr rfl (qA (pv 3) qE)))))))
  (qF (qL (pv 1)))))),?_⟩
 try dsimp only [jc,qj]
 refine⟨sL0,fun y hy=>?_⟩
 refine⟨_,rfl,z,rfl,⟨_,SqL.of ((qC hy _) _ _ hz)⟩,xI (K:=K) (a:=z) (xs:=xs) (fun i σ H'=>∃ (b:Int) (as:List (Int × Int × Int)) (o:Option V) (us:List V),σ=[some (.ref z),some (.ref y),some (.int b),o]∧H' y=some (.lst us)∧SpAt H' as us∧as.length≤i∧as++ql b (ms.drop i)=ql 0 ms∧Same H H')
  ⟨0,[],none,[],rfl,qB,trivial,by simp,rfl,qC hy _⟩ ?_ ?_ ?_⟩
 · rintro i σ H' hi ⟨b,as,o,us,rfl,_,_,_,_,e⟩
   exact SqL.of (e _ _ hz)
 · rintro i x σ H' hx ⟨b,as,o,us,rfl,hv,hsp,hal,hap,e⟩
   refine qM fun _ Y=>?_
   obtain⟨m,hm,hIx⟩:=his.get hx
   have hI:=hIx.ts (qZ e)
   have hi:i < ms.length:=(glt hm)
   rw [jd hm] at hap
   obtain⟨zi,xi,rfl,hzi,h0,h1⟩:=hI.opn
   apply Y
   refine⟨_,rfl,zi,xi,_,_,rfl,rfl,SqT.of hzi,h0,rfl,_,rfl,ju (fun c=>?_) (fun c=>?_)⟩
   · obtain⟨l,rfl⟩:=jD (by simpa using c)
     refine qM fun _ Y=>?_
     obtain⟨z2,e2,hz2⟩:=id hI
     cases e2
     apply Y
     rw [ql] at hap
     refine⟨_,rfl,.inl ⟨rfl,_,SqL.of hv⟩,_,rfl,ixO hz2 at1 ⟨_,rfl,_,_,rfl,rfl,_,rfl,_,rfl,ixO hz2 at1 ⟨_,rfl,_,_,rfl,rfl,sL3,fun g hg=>?_⟩⟩⟩
     have w1:=qC hg (.tup [.int (b - l.fdiv 2),.int b,.int (b+(l - l.fdiv 2))])
     refine⟨y,_,_,rfl,rfl,w1 _ _ hv,qY (by rw [hsp.len];omega),?_⟩
     have t2:TS (upd H' g (.tup [.int (b - l.fdiv 2),.int b,.int (b+(l - l.fdiv 2))])) (upd (upd H' g (.tup [.int (b - l.fdiv 2),.int b,.int (b+(l - l.fdiv 2))])) y (.lst (us++[.ref g]))):=zZ (w1 _ _ hv)
     refine⟨_,rfl,_,rfl,_,.mix l,rfl,(hI.ts (qZ w1)).ts t2,_,_,rfl,rfl,b,as++[(b - l.fdiv 2,b,b+(l - l.fdiv 2))],some (.ref zi),us++[.ref g],?_,qB,((hsp.ts (qZ w1)).app (.one qB)).ts t2,by simp;omega,?_,xf (e.trans w1) hy⟩
     · show [some (V.ref z),some (V.ref y),some (V.int (b+0)),some (V.ref zi)]=_
       rw [Int.add_zero]
     · rw [← hap];simp
   · have hne:m.wd≠"mix":=by simpa using c
     rw [qh hne] at hap
     exact⟨_,rfl,_,rfl,_,m,rfl,hI,_,_,rfl,rfl,_,as,_,us,rfl,hv,hsp,by omega,hap,e⟩
 · rintro σ H' ⟨b,as,o,us,rfl,hv,hsp,hal,hap,e⟩
   rw [his.len,List.drop_length,ql,List.append_nil] at hap
   rw [hap] at hsp
   exact⟨_,rfl,kk y us H' e hy hv hsp⟩
def lnO (o:Option Int):Bool:=match o with
 | some i=>decide (1≤i)
 | none=>false
inductive qG6 (vs:List V)(H:Hp)(Q:VK)(_:XK):Prop
| mk (v:V) (o:Option Int) (_:vs=[v]) (_:Nu H v o) (_:Q (.bl (lnO o)) H)
theorem qBn (T:Tx K mg a):FnOk P w K mg base CX0 2 a.A21 a.B21 ["thing"] qG6:=by
 refine T.D21.F.ok qIu (fun vs H Q E h=>?_) (fun cdv A outer s H vs Q E hr h=>?_)
 · obtain⟨v,o,rfl,_⟩:=h
   rfl
 refine qM fun _ Y=>?_
 obtain⟨v,o,rfl,hv,q⟩:=h
 apply Y
 refine⟨_,(qF (qL (vv (qK T.D0 (jF T) hr rfl (qA (pv 0) qE)) (qBj (xD qGb (pv 0) qG (qN _)))))),?_⟩
 try dsimp only [jc,qj]
 cases hv with
 | no h=>exact⟨_,rfl,v,false,rfl,.no h,false,rfl,qm q⟩
 | int i=>exact⟨_,rfl,_,true,rfl,.int i,true,rfl,jI ⟨_,rfl,_,_,rfl,rfl,q⟩⟩
inductive NsB (K:W.Frag)(H:Hp):V→Bool→Prop where
 | no {x:V} {t:Value} (ty:qEv K H x t) (e:W.kitOne K t (.type "tuple")=some false):NsB K H x false
 | len {z:Addr} {xs:List V} (e:H z=some (.tup xs)) (h:xs.length≠4):NsB K H (.ref z) false
 | word {z:Addr} {w:Str} {x1 x2 x3:V} (e:H z=some (.tup [.str w,x1,x2,x3])) (hn:w≠"nest"):NsB K H (.ref z) false
 | nums {z:Addr} {n:Str} {b l:Int} {c:Bool} (e:H z=some (.tup [.str "nest",.str n,.int b,.int l])) (hn:qDm n=true) (hl:n.length≤1000) (hc:c=(decide (0≤b) && decide (1≤l))):NsB K H (.ref z) c
theorem NsB.same {H H':Hp}(s:Same H H'){x:V}{b:Bool}(h:NsB K H x b):NsB K H' x b:=by
 cases h with
 | no ty e=>exact .no (qFp s ty) e
 | len e h=>exact .len (s _ _ e) h
 | word e h=>exact .word (s _ _ e) h
 | nums e h1 h2 h3=>exact .nums (s _ _ e) h1 h2 h3
inductive qBw (K:W.Frag)(vs:List V)(H:Hp)(Q:VK)(_:XK):Prop
| mk (v:V) (b:Bool) (_:vs=[v]) (_:NsB K H v b) (_:∀ H',Same H H'→Q (.bl b) H')
theorem qB1 (T:Tx K mg a):FnOk P w K mg base CX0 3 a.A22 a.B22 ["item"] (qBw K):=by
 refine T.D22.F.ok qB8 (fun vs H Q E h=>?_) (fun cdv A outer s H vs Q E hr h=>?_)
 · obtain⟨v,b,rfl,_⟩:=h
   rfl
 refine qM fun _ Y=>?_
 obtain⟨v,b,rfl,hv,kk⟩:=h
 apply Y
 refine⟨_,(qD (qd (PW.pt (j2 (ji (jO (qc jQ rfl T.b_isinstance rfl (qA (pv 0) (qA (qD2 rfl T.b_tuple rfl) qE))))) (jV (qH zP (qc jY rfl T.b_len rfl (qA (pv 0) qE)) qG (qN _))))) (qF (qL zu)) qP)
  (qD (qd (PW.pt (j2 (qH zP (qJ (pv 0)) qS (qN _)) (jV (ji (jO (qK T.D10 (qBk T) hr rfl (qA (qJ (pv 0)) qE))))))) (qF (qL zu)) qP)
  (qF (qL (vv (qK T.D0 (jF T) hr rfl (qA (qJ (pv 0)) qE)) (vv (xD qGb (qJ (pv 0)) qG (qN _)) (qBj (qK T.D21 (qBn T) hr rfl (qA (qJ (pv 0)) qE))))))))),?_⟩
 try dsimp only [jc,qj]
 cases hv with
 | no ty e=>exact⟨_,rfl,_,_,_,false,rfl,ty,⟨_,.inl ⟨rfl,e⟩⟩,false,rfl,jI (jI (kk H (Same.refl _)))⟩
 | @len z xs e h=>
  refine⟨_,rfl,_,_,_,true,rfl,.tup e,⟨_,.inl ⟨rfl,by kernel_rfl⟩⟩,true,rfl,qm ?_⟩
  refine⟨_,rfl,_,_,rfl,.inr (SqT.of e),rfl,_,rfl,?_⟩
  have d:(!decide (V.int (xs.length:Int)=V.int 4))=true:=by
   have:¬ (V.int (xs.length:Int)=V.int 4):=fun z=>h (by injection z with z;omega)
   simp [this]
  rw [d]
  exact jI (kk H (Same.refl _))
 | @word z w x1 x2 x3 e hn=>
  refine⟨_,rfl,_,_,_,true,rfl,.tup e,⟨_,.inl ⟨rfl,by kernel_rfl⟩⟩,true,rfl,qm ?_⟩
  refine⟨_,rfl,_,_,rfl,.inr (SqT.of e),rfl,_,rfl,qm ?_⟩
  have a0:atI [V.str w,x1,x2,x3] 0=some (.str w):=rfl
  refine(ixO e a0 ⟨rfl,_,rfl,?_⟩)
  have d:(!decide (V.str w=V.str "nest"))=true:=by
   rw [qSp,decide_eq_false hn];rfl
  rw [d]
  exact jI (jI (kk H (Same.refl _)))
 | @nums z n b l c e h1 h2 hc=>
  subst hc
  have a0:atI [V.str "nest",.str n,.int b,.int l] 0=some (.str "nest"):=rfl
  have a1:atI [V.str "nest",.str n,.int b,.int l] 1=some (.str n):=rfl
  have a2:atI [V.str "nest",.str n,.int b,.int l] 2=some (.int b):=rfl
  have a3:atI [V.str "nest",.str n,.int b,.int l] 3=some (.int l):=rfl
  have fn:=NmB.str (K:=K) (H:=H) n h2
  rw [h1] at fn
  refine⟨_,rfl,_,_,_,true,rfl,.tup e,⟨_,.inl ⟨rfl,by kernel_rfl⟩⟩,true,rfl,qm ?_⟩
  refine⟨_,rfl,_,_,rfl,.inr (SqT.of e),rfl,_,rfl,qm ?_⟩
  refine(ixO e a0 ⟨rfl,_,rfl,qL6 rfl ?_⟩)
  refine(ixO e a1 ⟨_,true,rfl,fn,fun H1 s1=>⟨true,rfl,qm ?_⟩⟩)
  have e1:=SqT.of (K:=K) (s1 _ _ e)
  refine⟨_,rfl,_,_,_,_,rfl,rfl,e1,a2,_,true,rfl,.int b,true,rfl,jI ?_⟩
  have k1:=kk H1 s1
  refine⟨_,rfl,_,_,_,_,rfl,rfl,e1,a2,_,_,rfl,rfl,_,rfl,?_⟩
  by_cases hb:0≤b
  · rw [decide_eq_true hb,Bool.true_and] at k1
    rw [decide_eq_true hb]
    exact jI ⟨_,rfl,_,_,_,_,rfl,rfl,e1,a3,_,some l,rfl,.int l,k1⟩
  · rw [decide_eq_false hb,Bool.false_and] at k1
    rw [decide_eq_false hb]
    exact qm k1
def qEi (w:Str)(t:Int)(o:Option Int):Bool:=if w="open"∨w="mix" then lnO o else if w="close"∨w="lift" then (match o with | some u=>decide (t < u) | none=>false) else true
def qT8 (H:Hp)(xs:List V)(w:Str)(t:Int)(o:Option Int):Prop:=atI xs 0=some (.str w)∧atI xs 2=some (.int t)∧((w="open"∨w="mix"∨w="close"∨w="lift")→∃ v,atI xs 3=some v∧Nu H v o)
theorem qUt {w:Str}:inV (.str w) [.str "open",.str "mix"]=decide (w="open"∨w="mix"):=by
 unfold inV
 rw [Bool.eq_iff_iff]
 simp [eqV]
 constructor
 · rintro (h | h)
   · exact .inl h.symm
   · exact .inr h.symm
 · rintro (h | h)
   · exact .inl h.symm
   · exact .inr h.symm
theorem qSt {w:Str}:inV (.str w) [.str "close",.str "lift"]=decide (w="close"∨w="lift"):=by
 unfold inV
 rw [Bool.eq_iff_iff]
 simp [eqV]
 constructor
 · rintro (h | h)
   · exact .inl h.symm
   · exact .inr h.symm
 · rintro (h | h)
   · exact .inl h.symm
   · exact .inr h.symm
inductive qAl (N:Addr)(vs:List V)(H:Hp)(Q:VK)(E:XK):Prop
| mk (dz:Addr) (xs:List V) (w:Str) (t:Int) (o:Option Int) (_:vs=[.ref dz]) (_:H dz=some (.tup xs)) (_:qT8 H xs w t o) (_:(qEi w t o=false→∀ H',Same H H'→E (.ref N) none H')) (_:(qEi w t o=true→∀ H',Same H H'→Q .non H'))
theorem qAd (T:Tx K mg a):FnOk P w K mg base (CXR P w) 3 a.A62 a.B62 ["deed"] (qAl a.k_NoPlace):=by
 refine okX T.D62.F qBy (fun vs H Q E h=>?_) (fun cdv A outer s H vs Q E hr h=>?_)
 · obtain⟨dz,xs,w,t,o,rfl,_⟩:=h
   rfl
 refine qM fun _ Y=>?_
 obtain⟨dz,xs,w,t,o,rfl,hd,⟨a0,a2,a3⟩,kb,kg⟩:=h
 apply Y
 refine⟨_,(qD (qd (PW.pt (xH (qH xj (qJ (pv 0)) (qo (qA qS (qA qS qE))) rfl) (jq (ji (jO (qK T.D21 (qBn T) hr rfl (qA (qJ (pv 0)) qE))))))) (qF (j4 rfl rfl T.c_NoPlace T.x_NoPlace (qA qS qE))) qP)
  (qF (qd (PW.pt (xH (qH xj (qJ (pv 0)) (qo (qA qS (qA qS qE))) rfl) (jq (PW.pt (j2 (ji (jO (qK T.D0 (jF T) hr rfl (qA (qJ (pv 0)) qE)))) (jV (qH qGb (qJ (pv 0)) (qJ (pv 0)) (qN _)))))))) (qF (j4 rfl rfl T.c_NoPlace T.x_NoPlace (qA qS qE))) qP))),?_⟩
 try dsimp only [jc,qj]
 have one:(1:Nat)≤sizeLine:=by decide
 have two:(2:Nat)≤sizeLine:=by decide
 refine(ixO hd a0 ⟨two,fun q hq=>⟨q,_,rfl,.inr (SqT.of qB),rfl,rfl,_,rfl,?_⟩⟩)
 rw [qUt]
 have w1:=qC hq (.tup [.str "open",.str "mix"])
 have hd1:=w1 _ _ hd
 generalize upd H q (.tup [.str "open",.str "mix"])=H1 at w1 hd1 ⊢
 by_cases h1:w="open"∨w="mix"
 · have eb:qEi w t o=lnO o:=by unfold qEi;rw [if_pos h1]
   rw [eb] at kb kg
   refine kI (decide_eq_true h1) ?_
   refine qM fun _ Y=>?_
   obtain⟨v,a3,hv⟩:=a3 (by rcases h1 with h | h;exact .inl h;exact .inr (.inl h))
   apply Y
   refine(ixO hd1 a3 ⟨v,o,rfl,hv.same w1,_,rfl,?_⟩)
   cases hb:lnO o with
   | false=>exact jI ⟨one,kb hb _ w1⟩
   | true=>
    refine qm ?_
    refine(ixO hd1 a0 ⟨two,fun q2 hq2=>⟨q2,_,rfl,.inr (SqT.of qB),rfl,rfl,_,rfl,?_⟩⟩)
    rw [qSt]
    have h2:¬ (w="close"∨w="lift"):=by
     rcases h1 with rfl | rfl
     · rintro (h | h) <;> exact absurd h (by decide+kernel)
     · rintro (h | h) <;> exact absurd h (by decide+kernel)
    exact jS (decide_eq_false h2) (qm (kg hb _ (w1.trans (qC hq2 _))))
 · refine jS (decide_eq_false h1) (qm ?_)
   refine(ixO hd1 a0 ⟨two,fun q2 hq2=>⟨q2,_,rfl,.inr (SqT.of qB),rfl,rfl,_,rfl,?_⟩⟩)
   rw [qSt]
   have w2:=qC hq2 (.tup [.str "close",.str "lift"])
   have w12:=w1.trans w2
   have hd2:=w2 _ _ hd1
   generalize upd H1 q2 (.tup [.str "close",.str "lift"])=H2 at w2 w12 hd2 ⊢
   by_cases h2:w="close"∨w="lift"
   · refine kI (decide_eq_true h2) ?_
     refine qM fun _ Y=>?_
     obtain⟨v,b3,hv⟩:=a3 (by rcases h2 with h | h;exact .inr (.inr (.inl h));exact .inr (.inr (.inr h)))
     apply Y
     clear a3
     cases hv with
     | no h=>
      have eb:qEi w t none=false:=by unfold qEi;rw [if_neg h1,if_pos h2]
      exact⟨_,rfl,dz,_,_,_,rfl,rfl,SqT.of hd2,b3,v,false,rfl,.no (h.same w12),false,rfl,jI (jI ⟨one,kb eb _ w12⟩)⟩
     | int u=>
      have eb:qEi w t (some u)=decide (t < u):=by unfold qEi;rw [if_neg h1,if_pos h2]
      rw [eb] at kb kg
      refine⟨_,rfl,dz,_,_,_,rfl,rfl,SqT.of hd2,b3,_,true,rfl,.int u,true,rfl,qm ?_⟩
      refine(ixO hd2 a2 ⟨_,rfl,dz,_,_,_,rfl,rfl,SqT.of hd2,b3,_,_,rfl,rfl,_,rfl,ju (fun c=>?_) (fun c=>?_)⟩)
      · have hc:u≤t:=by simpa using c
        exact⟨one,kb (decide_eq_false (by omega)) _ w12⟩
      · have hc:¬ u≤t:=by simpa using c
        exact kg (decide_eq_true (by omega)) _ w12
   · have eb:qEi w t o=true:=by unfold qEi;rw [if_neg h1,if_neg h2]
     exact jS (decide_eq_false h2) (qm (kg eb _ w12))
def qMl (lo hi:Int)(s:Int × Int × Int):Bool:=(decide (s.1 < hi) && decide (lo < s.2.2)) || (decide (lo≤s.2.1) && decide (s.2.1≤hi))
def xB (ms:List Im)(lo hi:Int):Bool:=(ql 0 ms).any (qMl lo hi)
inductive qEl (vs:List V)(H:Hp)(Q:VK)(_:XK):Prop
| mk (z:Addr) (ms:List Im) (lo hi:Int) (_:vs=[.ref z,.int lo,.int hi]) (_:Tr H z ms) (_:ms.length≤300) (_:∀ H',Same H H'→Q (.bl (xB ms lo hi)) H')
theorem qEa (T:Tx K mg a):FnOk P w K mg base CX0 3 a.A63 a.B63 ["track","low","high"] qEl:=by
 refine T.D63.F.ok vx (fun vs H Q E h=>?_) (fun cdv A outer s H vs Q E hr h=>?_)
 · obtain⟨z,ms,lo,hi,rfl,_⟩:=h
   rfl
 refine qM fun _ Y=>?_
 obtain⟨z,ms,lo,hi,rfl,tT,hml,kk⟩:=h
 apply Y
 refine⟨_,(qD (xg PassesOwn.never rfl (jW (qK T.D38 (qBt T) hr rfl (qA (pv 0) qE))) (qz (i:=3) vx.nd rfl (Or.inl rfl)) (qF (qd (qBf (PW.pt (j2 (PW.pt (xH (qH xx (qJ (pv 3)) (pv 2) (qN _)) (jq (qH xx (pv 1) (qJ (pv 3)) (qN _))))) (jV (PW.pt (xH (qH qJ3 (pv 1) (qJ (pv 3)) (qN _)) (jq (qH qJ3 (qJ (pv 3)) (pv 2) (qN _))))))))) (qF (qL zu)) qP)))
  (qF (qL zu))),?_⟩
 try dsimp only [jc,qj]
 unfold xB at kk
 refine⟨_,rfl,z,ms,rfl,tT,hml,fun y us H1 e1 hy hy1 hsp=>?_⟩
 generalize ql 0 ms=ss at hsp kk
 refine⟨y,rfl,⟨_,SqL.of hy1⟩,xI (K:=K) (a:=y) (xs:=us) (fun i σ H'=>∃ o:Option V,σ=[some (.ref z),some (.int lo),some (.int hi),o]∧H'=H1∧(ss.take i).any (qMl lo hi)=false) ⟨none,rfl,rfl,rfl⟩ ?_ ?_ ?_⟩
 · rintro i σ H' hi ⟨o,rfl,rfl,_⟩
   exact SqL.of hy1
 · rintro i x σ H' hx ⟨o,rfl,rfl,hno⟩
   refine qM fun _ Y=>?_
   obtain⟨x0,x1,x2,p,hs,rfl,hp⟩:=hsp.get hx
   apply Y
   have q:=SqT.of (K:=K) hp
   have b0:atI [V.int x0,.int x1,.int x2] 0=some (.int x0):=rfl
   have b1:atI [V.int x0,.int x1,.int x2] 1=some (.int x1):=rfl
   have b2:atI [V.int x0,.int x1,.int x2] 2=some (.int x2):=rfl
   refine⟨fun t' H2=>H2=H'∧t'=qMl lo hi (x0,x1,x2),?_,?_⟩
   · unfold qMl
     dsimp only
     refine⟨_,rfl,p,_,_,_,rfl,rfl,q,b0,_,rfl,_,_,rfl,rfl,_,rfl,?_⟩
     by_cases h1:x0 < hi
     · rw [decide_eq_true h1,Bool.true_and]
       refine jI ⟨_,rfl,_,rfl,p,_,_,_,rfl,rfl,q,b2,_,_,rfl,rfl,_,rfl,?_⟩
       by_cases h2:lo < x2
       · rw [decide_eq_true h2,Bool.true_or]
         exact jI ⟨rfl,rfl⟩
       rw [decide_eq_false h2,Bool.false_or]
       refine qm ⟨_,rfl,_,rfl,p,_,_,_,rfl,rfl,q,b1,_,_,rfl,rfl,_,rfl,?_⟩
       by_cases h3:lo≤x1
       · rw [decide_eq_true h3,Bool.true_and]
         exact jI ⟨_,rfl,p,_,_,_,rfl,rfl,q,b1,_,rfl,_,_,rfl,rfl,_,rfl,rfl,rfl⟩
       · rw [decide_eq_false h3,Bool.false_and]
         exact qm ⟨rfl,rfl⟩
     · rw [decide_eq_false h1,Bool.false_and,Bool.false_or]
       refine qm (qm ⟨_,rfl,_,rfl,p,_,_,_,rfl,rfl,q,b1,_,_,rfl,rfl,_,rfl,?_⟩)
       by_cases h3:lo≤x1
       · rw [decide_eq_true h3,Bool.true_and]
         exact jI ⟨_,rfl,p,_,_,_,rfl,rfl,q,b1,_,rfl,_,_,rfl,rfl,_,rfl,rfl,rfl⟩
       · rw [decide_eq_false h3,Bool.false_and]
         exact qm ⟨rfl,rfl⟩
   rintro t' H2 ⟨rfl,rfl⟩
   cases ht:qMl lo hi (x0,x1,x2) with
   | true=>
    have:ss.any (qMl lo hi)=true:=List.any_eq_true.mpr ⟨_,List.mem_of_getElem? hs,ht⟩
    rw [this] at kk
    exact jI (kk _ e1)
   | false=>
    refine qm ⟨_,rfl,rfl,?_⟩
    rw [List.take_add_one,hs,List.any_append,hno]
    show (false || (qMl lo hi (x0,x1,x2) || false))=false
    rw [ht];rfl
 · rintro σ H' ⟨o,rfl,rfl,hno⟩
   rw [hsp.len,List.take_length] at hno
   rw [hno] at kk
   exact kk _ e1
structure TabG (H:Hp)(tz:Addr)(ts:List (List Im))(tie:List Int)(n:Nat):Prop where
 tab:TabF H (.ref tz) ts tie
 ok:∀ ms∈ts,MsB ms∧ms.length≤100
 nt:n < ts.length
 len:ts.length≤8
 tl:tie.length≤8
 tin:∀ x∈tie,∃ k:Nat,x=(k:Int)∧k < ts.length
theorem TabG.same {H H':Hp}{tz:Addr}{ts:List (List Im)}{tie:List Int}{n:Nat}(e:Same H H')(h:TabG H tz ts tie n):TabG H' tz ts tie n:=⟨h.tab.same e,h.ok,h.nt,h.len,h.tl,h.tin⟩
theorem TabG.ch {H:Hp}{tz:Addr}{ts:List (List Im)}{tie:List Int}{n:Nat}(h:TabG H tz ts tie n)(push:Bool):(chF tie (n:Int) push).length≤10∧∀ x∈chF tie (n:Int) push,∃ k:Nat,x=(k:Int)∧k < ts.length:=by
 unfold chF
 split
 · refine⟨?_,fun x hx=>?_⟩
   · rw [List.length_cons]
     have:=List.length_filter_le (fun x=>decide (x≠(n:Int))) tie
     have:=h.tl
     omega
   · rcases List.mem_cons.mp hx with rfl | hx
     · exact⟨n,rfl,h.nt⟩
     · exact h.tin x (List.mem_filter.mp hx).1
 · refine⟨by show 1≤10;decide,fun x hx=>?_⟩
   have:x=(n:Int):=by simpa using hx
   exact⟨n,this,h.nt⟩
def x8 (ts:List (List Im))(ns:List Int)(lo hi:Int):Bool:=ns.any fun k=>xB (ts.getD k.toNat []) lo hi
inductive qC7 (M:Addr)(vs:List V)(H:Hp)(Q:VK)(E:XK):Prop
| mk (tz dz:Addr) (ts:List (List Im)) (tie:List Int) (n:Nat) (d:Dk) (_:vs=[.ref tz,.ref dz]) (_:TabG H tz ts tie n) (_:DAt H dz (n:Int) d) (_:(x8 ts (chF tie (n:Int) d.push) d.t d.hi=true→∀ H',Same H H'→E (.ref M) none H')) (_:(x8 ts (chF tie (n:Int) d.push) d.t d.hi=false→∀ H',Same H H'→Q .non H'))
theorem qDy (T:Tx K mg a):FnOk P w K mg base (CXR P w) 4 a.A64 a.B64 ["table","deed"] (qC7 a.k_Mixed):=by
 refine okX T.D64.F zl (fun vs H Q E h=>?_) (fun cdv A outer s H vs Q E hr h=>?_)
 · obtain⟨tz,dz,ts,tie,n,d,rfl,_⟩:=h
   rfl
 refine qM fun _ Y=>?_
 obtain⟨tz,dz,ts,tie,n,d,rfl,hP,hD,kb,kg⟩:=h
 apply Y
 refine⟨_,(qD (qX 2 zl.nd (qK T.D58 (wv T) hr rfl (qA (pv 1) qE)))
  (qF (xg (qUp rfl rfl rfl rfl) rfl (jW (qK T.D61 (zy T) hr rfl (qA (pv 0) (qA (pv 1) qE)))) (qz (i:=3) zl.nd rfl (Or.inl rfl)) (qF (qd (jO (qK T.D63 (qEa T) hr rfl (qA (jK q9 (qJ (pv 0)) (pv 3) (fun _ _=>rfl)) (qA (qJ (pv 2)) (qA (qJ (pv 2)) qE))))) (qF (j4 rfl rfl T.c_Mixed T.x_Mixed (qA qS qE))) qP))))),?_⟩
 try dsimp only [jc,qj]
 have one:(1:Nat)≤sizeLine:=by decide
 refine qM fun _ Y=>?_
 obtain⟨tt,tl,ti,zs,e0,g2,g3,g4,g5⟩:=id hP.tab
 cases e0
 have hzl:=g4.len
 obtain⟨hcl,hch⟩:=hP.ch d.push
 apply Y
 unfold x8 at kb kg
 refine⟨_,rfl,dz,_,d,rfl,hD,fun p H1 e1 hp=>?_⟩
 refine⟨_,rfl,_,rfl,tz,tl,ti,dz,tie,_,d,rfl,e1 _ _ g2,e1 _ _ g5,by have:=hP.tl;omega,hD.same e1,fun y H2 e2 hy hy2=>?_⟩
 generalize chF tie (n:Int) d.push=ns at hy2 hcl hch kb kg
 refine⟨y,rfl,⟨_,SqL.of hy2⟩,xI (K:=K) (a:=y) (xs:=ns.map V.int) (fun i σ H'=>∃ o:Option V,σ=[some (.ref tz),some (.ref dz),some (.ref p),o]∧Same H2 H'∧(ns.take i).any (fun k=>xB (ts.getD k.toNat []) d.t d.hi)=false) ⟨none,rfl,Same.refl _,rfl⟩ ?_ ?_ ?_⟩
 · rintro i σ H' hi ⟨o,rfl,e,_⟩
   exact SqL.of (e _ _ hy2)
 · rintro i x σ H' hx ⟨o,rfl,e,hno⟩
   refine qM fun _ Y=>?_
   obtain⟨xi,hxi,rfl⟩:∃ xi:Int,ns[i]? =some xi∧x= .int xi:=by
    rw [List.getElem?_map] at hx
    cases hq:ns[i]? with
    | none=>rw [hq] at hx;cases hx
    | some k=>rw [hq] at hx;cases hx;exact⟨k,rfl,rfl⟩
   obtain⟨k,rfl,hk⟩:=hch xi (List.mem_of_getElem? hxi)
   have e02:=e1.trans (e2.trans e)
   have ez:zs[k]? =some zs[k]:=List.getElem?_eq_getElem (by omega)
   obtain⟨ms,z,hms,ezz,tT⟩:=g4.get ez
   apply Y
   rw [ezz] at ez
   have egd:ts.getD ((k:Int)).toNat []=ms:=by rw [Int.toNat_natCast,List.getD_eq_getElem?_getD,hms];rfl
   have hml:=(hP.ok ms (List.mem_of_getElem? hms)).2
   refine(ixO (e02 _ _ g2) at0 ⟨_,rfl,tl,_,_,_,rfl,rfl,SqL.of (e02 _ _ g3),jJ ez,vZ rfl (SqT.of ((e2.trans e) _ _ hp)) at0 (vZ rfl (SqT.of ((e2.trans e) _ _ hp)) at1 ⟨z,ms,_,_,rfl,tT.same e02,by omega,fun H3 e3=>?_⟩)⟩)
   refine⟨_,rfl,?_⟩
   cases ht:xB ms d.t d.hi with
   | true=>
    refine jI ⟨one,kb ?_ _ (e02.trans e3)⟩
    exact List.any_eq_true.mpr ⟨_,List.mem_of_getElem? hxi,by rw [egd];exact ht⟩
   | false=>
    refine qm ⟨_,rfl,e.trans e3,?_⟩
    rw [List.take_add_one,hxi,List.any_append,hno]
    show (false || (xB (ts.getD ((k:Int)).toNat []) d.t d.hi || false))=false
    rw [egd,ht];rfl
 · rintro σ H' ⟨o,rfl,e,hno⟩
   rw [List.length_map,List.take_length] at hno
   exact kg hno H' (e1.trans (e2.trans e))
def qV (ms:List Im):Int:=(ms.map Im.mo).sum
def qBl (ms:List Im)(lo hi:Int)(ls:List Im):List Im:=jw 0 (xq 0 lo 0 ms++[.gap (xU (lo - qV ms) 0)]++ls++xq hi (qV ms) 0 ms)
inductive qNu (vs:List V)(H:Hp)(Q:VK)(_:XK):Prop
| mk (z l:Addr) (ms ls:List Im) (lo hi:Int) (_:vs=[.ref z,.int lo,.int hi,.ref l]) (_:Tr H z ms) (_:Tr H l ls) (_:MsB ms) (_:ms.length≤100) (_:ls.length≤10) (_:0≤hi) (_:hi≤2 ^ 500) (_:∀ (y:Addr) (H':Hp),Same H H'→H y=none→Tr H' y (qBl ms lo hi ls)→Q (.ref y) H')
theorem qNs (T:Tx K mg a):FnOk P w K mg base CX0 8 a.A71 a.B71 ["track","low","high","laid"] qNu:=by
 refine T.D71.F.ok qHn (fun vs H Q E h=>?_) (fun cdv A outer s H vs Q E hr h=>?_)
 · obtain⟨z,l,ms,ls,lo,hi,rfl,_⟩:=h
   rfl
 refine qM fun _ Y=>?_
 obtain⟨z,l,ms,ls,lo,hi,rfl,tT,tL,hB,hl1,hl2,h0,h1,kk⟩:=h
 apply Y
 refine⟨_,(qD (qX 4 qHn.nd (qo (qA qS (qA (qc (zr rfl) rfl T.b_max rfl (qA (qO jM (pv 1) (qK T.D25 (qBs T) hr rfl (qA (pv 0) qE))) (qA qG qE))) qE))))
  (qF (qL (qK T.D24 (qCz T) hr rfl (qA (qO kf (qO kf (qO kf (qK T.D35 (kY T) hr rfl (qA (pv 0) (qA qG (qA (pv 1) qE)))) (qr (qA (pv 4) qE))) (pv 3)) (qK T.D35 (kY T) hr rfl (qA (pv 0) (qA (pv 2) (qA (qK T.D25 (qBs T) hr rfl (qA (pv 0) qE)) qE))))) qE))))),?_⟩
 try dsimp only [jc,qj]
 have two:(2:Nat)≤sizeLine:=by decide
 have one:(1:Nat)≤sizeLine:=by decide
 have sm:∀ j:Nat,j≤1000→j≤sizeLine:=fun j h=>by have:=qY (n:=j) (by omega);omega
 refine⟨_,rfl,_,rfl,z,ms,rfl,tT,by omega,fun H1 e1=>?_⟩
 refine⟨_,_,rfl,rfl,_,_,rfl,two,fun g hg=>?_⟩
 have w2:=qC hg (.tup [.str "gap",.int (if (0:Int) > lo - (ms.map Im.mo).sum then 0 else lo - (ms.map Im.mo).sum)])
 have kg:upd H1 g (.tup [.str "gap",.int (if (0:Int) > lo - (ms.map Im.mo).sum then 0 else lo - (ms.map Im.mo).sum)]) g=some (.tup [.str "gap",.int (xU (lo - qV ms) 0)]):=qB
 have e2:=e1.trans w2
 change _
 generalize upd H1 g (.tup [.str "gap",.int (if (0:Int) > lo - (ms.map Im.mo).sum then 0 else lo - (ms.map Im.mo).sum)])=H2 at w2 kg e2
 refine⟨_,rfl,_,rfl,z,ms,0,lo,rfl,tT.same e2,hB,by decide,by decide,fun y1 H3 e3 hy1 ⟨us1,k1,i1⟩=>?_⟩
 have n1:=i1.len
 have n1':=vO 0 lo 0 ms
 refine⟨_,rfl,one,fun l2 hl2=>?_⟩
 have w4:=qC hl2 (.lst [.ref g])
 refine⟨y1,l2,_,_,rfl,rfl,w4 _ _ k1,qB,sm _ (by show us1.length+1≤1000;omega),fun y2 hy2=>?_⟩
 have w5:=qC hy2 (.lst (us1++[.ref g]))
 have w45:=w4.trans w5
 have e5:=(e2.trans e3).trans w45
 have k2:(upd (upd H3 l2 (.lst [.ref g])) y2 (.lst (us1++[.ref g]))) y2=some (.lst (us1++[.ref g])):=qB
 have i2:IsIs (upd (upd H3 l2 (.lst [.ref g])) y2 (.lst (us1++[.ref g]))) (xq 0 lo 0 ms++[.gap (xU (lo - qV ms) 0)]) (us1++[.ref g]):=(i1.ts (qZ w45)).app (.one (isG ((e3.trans w45) _ _ kg)))
 change _
 generalize upd (upd H3 l2 (.lst [.ref g])) y2 (.lst (us1++[.ref g]))=H5 at w45 e5 k2 i2
 refine qM fun _ Y=>?_
 obtain⟨ul,kl,il⟩:=tL.same e5
 apply Y
 have nl:=il.len
 have n2:=i2.len
 rw [List.length_append,List.length_append] at n2
 refine⟨_,rfl,y2,l,_,_,rfl,rfl,k2,kl,sm _ (by rw [List.length_append];show us1.length+1+ul.length≤1000;omega),fun y3 hy3=>?_⟩
 have w6:=qC hy3 (.lst (us1++[.ref g]++ul))
 have e6:=e5.trans w6
 have k3:(upd H5 y3 (.lst (us1++[.ref g]++ul))) y3=some (.lst (us1++[.ref g]++ul)):=qB
 have i3:IsIs (upd H5 y3 (.lst (us1++[.ref g]++ul))) (xq 0 lo 0 ms++[.gap (xU (lo - qV ms) 0)]++ls) (us1++[.ref g]++ul):=(i2.app il).ts (qZ w6)
 change _
 generalize upd H5 y3 (.lst (us1++[.ref g]++ul))=H6 at w6 e6 k3 i3
 refine⟨_,rfl,_,rfl,_,rfl,z,ms,rfl,tT.same e6,by omega,fun H7 e7=>?_⟩
 refine⟨z,ms,hi,qV ms,rfl,tT.same (e6.trans e7),hB,h0,h1,fun y4 H8 e8 hy4 ⟨us4,k4,i4⟩=>?_⟩
 have n4:=i4.len
 have n4':=vO hi (qV ms) 0 ms
 have e78:=e7.trans e8
 have hlen:(us1++[V.ref g]++ul).length=us1.length+1+ul.length:=by rw [List.length_append,List.length_append];rfl
 refine⟨y3,y4,_,_,rfl,rfl,e78 _ _ k3,k4,sm _ (by omega),fun y5 hy5=>?_⟩
 have w9:=qC hy5 (.lst (us1++[.ref g]++ul++us4))
 have e9:=(e6.trans e78).trans w9
 refine⟨y5,_,rfl,⟨_,qB,((i3.ts (qZ e78)).app i4).ts (qZ w9)⟩,?_,fun y H10 e10 hy tY=>kk y H10 (e9.trans e10) (e9.free hy) tY⟩
 rw [List.length_append,List.length_append,List.length_append]
 show (xq 0 lo 0 ms).length+1+ls.length+(xq hi (qV ms) 0 ms).length≤300
 omega
def LayOk (H:Hp)(rd:Addr):Im→Prop
 | .clip n p q r s l=>∃ N,Reel H rd n N∧GF n p q r s l∧InR (Vk p q r s 0) (q*s) N∧InR (Vk p q r s (l - 1)) (q*s) N
 | .nest n b l=>qDm n=true∧n.length≤1000∧0≤b∧1≤l
 | _=>False
theorem LayOk.same {H H':Hp}{rd:Addr}{m:Im}(e:Same H H')(h:LayOk H rd m):LayOk H' rd m:=by
 cases m with
 | clip n p q r s l=>obtain⟨N,h1,h2⟩:=h;exact⟨N,h1.same e,h2⟩
 | nest n b l=>exact h
 | gap=>exact h
 | mix=>exact h
def DOk (H:Hp)(rd:Addr)(ms:List Im):Dk→Prop
 | .cut t=>0≤t∧t≤2 ^ 400∧qFk ms t=true
 | .hel _=>False
 | .opn t l=>0≤t∧t≤2 ^ 400∧1≤l
 | .cls t u=>0≤t∧t < u∧u≤2 ^ 400
 | .lft t u=>0≤t∧t < u∧u≤2 ^ 400
 | .lin t m=>0≤t∧t≤2 ^ 400∧LayOk H rd m
 | .lov t m=>0≤t∧t≤2 ^ 400∧LayOk H rd m∧0≤m.mo∧m.mo≤2 ^ 400
def Dk.lay:Dk→Option Im
 | .lin _ m=>some m
 | .lov _ m=>some m
 | _=>none
theorem Dk.lay_in (d:Dk):inV (.str d.wd) [.str "lay_in",.str "lay_over"]=d.lay.isSome:=by
 cases d with
 | cut t=>show inV (.str "cut") _=false;decide+kernel
 | hel t=>show inV (.str "heal") _=false;decide+kernel
 | opn t l=>show inV (.str "open") _=false;decide+kernel
 | cls t u=>show inV (.str "close") _=false;decide+kernel
 | lft t u=>show inV (.str "lift") _=false;decide+kernel
 | lin t m=>show inV (.str "lay_in") _=true;decide+kernel
 | lov t m=>show inV (.str "lay_over") _=true;decide+kernel
theorem DAt.lay {H:Hp}{dz:Addr}{n:Int}{d:Dk}{m:Im}(h:DAt H dz n d)(hl:d.lay=some m):∃ xs v,H dz=some (.tup xs)∧atI xs 3=some v∧IsI H m v:=by
 cases d with
 | lin t m'=>cases hl;obtain⟨v,h1,h2⟩:=h;exact⟨_,v,h1,rfl,h2⟩
 | lov t m'=>cases hl;obtain⟨v,h1,h2⟩:=h;exact⟨_,v,h1,rfl,h2⟩
 | _=>cases hl
theorem DOk.lay {H:Hp}{rd:Addr}{ms:List Im}{d:Dk}{m:Im}(h:DOk H rd ms d)(hl:d.lay=some m):LayOk H rd m:=by
 cases d with
 | lin t m'=>cases hl;exact h.2.2
 | lov t m'=>cases hl;exact h.2.2.1
 | _=>cases hl
theorem DOk.ch {H:Hp}{rd:Addr}{ms:List Im}{d:Dk}(h:DOk H rd ms d):inV (.str d.wd) [.str "cut",.str "lay_in",.str "open",.str "close",.str "lift",.str "lay_over"]=true:=by
 cases d with
 | cut t=>show inV (.str "cut") _=true;decide+kernel
 | hel t=>exact h.elim
 | opn t l=>show inV (.str "open") _=true;decide+kernel
 | cls t u=>show inV (.str "close") _=true;decide+kernel
 | lft t u=>show inV (.str "lift") _=true;decide+kernel
 | lin t m=>show inV (.str "lay_in") _=true;decide+kernel
 | lov t m=>show inV (.str "lay_over") _=true;decide+kernel
theorem Dk.cut_wd {d:Dk}(h:d.wd="cut"):∃ t,d= .cut t:=by
 cases d with
 | cut t=>exact⟨t,rfl⟩
 | hel t=>exact absurd (show ("heal":Str)="cut" from h) (by decide+kernel)
 | opn t l=>exact absurd (show ("open":Str)="cut" from h) (by decide+kernel)
 | cls t l=>exact absurd (show ("close":Str)="cut" from h) (by decide+kernel)
 | lft t l=>exact absurd (show ("lift":Str)="cut" from h) (by decide+kernel)
 | lin t l=>exact absurd (show ("lay_in":Str)="cut" from h) (by decide+kernel)
 | lov t l=>exact absurd (show ("lay_over":Str)="cut" from h) (by decide+kernel)
theorem DOk.same {H H':Hp}{rd:Addr}{ms:List Im}{d:Dk}(e:Same H H')(h:DOk H rd ms d):DOk H' rd ms d:=by
 cases d with
 | lin t m=>exact⟨h.1,h.2.1,h.2.2.same e⟩
 | lov t m=>exact⟨h.1,h.2.1,h.2.2.1.same e,h.2.2.2⟩
 | _=>exact h
theorem NmB.same {H H':Hp}(s:Same H H'){x:V}{b:Bool}(h:NmB K H x b):NmB K H' x b:=by
 cases h with
 | str z h=>exact .str z h
 | no ty e=>exact .no (qFp s ty) e
theorem LnB.same {H H':Hp}(s:Same H H'){x:V}{b:Bool}(h:LnB H x b):LnB H' x b:=by
 cases h with
 | int i=>exact .int i
 | no h=>exact .no (h.same s)
theorem CfB.same {H H':Hp}(s:Same H H'){x:V}{b:Bool}(h:CfB K H x b):CfB K H' x b:=by
 cases h with
 | no ty e=>exact .no (qFp s ty) e
 | len e h=>exact .len (s _ _ e) h
 | word e h1 h2=>exact .word (s _ _ e) h1 h2
 | nm e h=>exact .nm (s _ _ e) (h.same s)
 | st e h1 h2=>exact .st (s _ _ e) (h1.same s) (h2.same s)
 | sp e h1 h2 h3=>exact .sp (s _ _ e) (h1.same s) (h2.same s) (h3.same s)
 | ln e h1 h2 h3 h4=>exact .ln (s _ _ e) (h1.same s) (h2.same s) (h3.same s) (h4.same s)
theorem ItB.same {H H':Hp}(s:Same H H'){x:V}{rd:Addr}{b:Bool}(h:ItB K H x rd b):ItB K H' x rd b:=by
 cases h with
 | form h=>exact .form (h.same s)
 | reel hc g hk hv=>exact .reel (hc.same s) g (s _ _ hk) hv
 | pics hc g hr hb=>exact .pics (hc.same s) g (hr.same s) hb
inductive ChO (K:W.Frag)(H:Hp)(rd dz:Addr)(n:Nat)(ts:List (List Im))(tie:List Int)(ms:List Im):Nat→Prop where
 | cut0 {t:Int} (hd:H dz=some (.tup [.str "cut",.int (n:Int),.int t])) (h:qFk ms t=false):ChO K H rd dz n ts tie ms 0
 | bad {w:Str} {t:Int} {x:V} (hw:w="lay_in"∨w="lay_over") (hd:H dz=some (.tup [.str w,.int (n:Int),.int t,x])) (h:NsB K H x false) (h2:ItB K H x rd false):ChO K H rd dz n ts tie ms 3
 | ok {d:Dk} {c:Nat} (hD:DAt H dz (n:Int) d) (hO:DOk H rd ms d) (hc:c=if x8 ts (chF tie (n:Int) d.push) d.t d.hi=true then 1 else 2):ChO K H rd dz n ts tie ms c
theorem ChO.same {H H':Hp}(e:Same H H'){rd dz:Addr}{n:Nat}{ts:List (List Im)}{tie:List Int}{ms:List Im}{c:Nat}(h:ChO K H rd dz n ts tie ms c):ChO K H' rd dz n ts tie ms c:=by
 cases h with
 | cut0 hd h=>exact .cut0 (e _ _ hd) h
 | bad hw hd h h2=>exact .bad hw (e _ _ hd) (h.same e) (h2.same e)
 | ok hD hO hc=>exact .ok (hD.same e) (hO.same e) hc
inductive qB0 (K:W.Frag)(N M C:Addr)(vs:List V)(H:Hp)(Q:VK)(E:XK):Prop
| mk (tz dz rd:Addr) (ts:List (List Im)) (tie:List Int) (n:Nat) (ms:List Im) (c:Nat) (_:vs=[.ref tz,.ref dz,.ref rd]) (_:TabG H tz ts tie n) (_:ts[n]? =some ms) (_:ChO K H rd dz n ts tie ms c) (_:(c=0→∀ H',Same H H'→E (.ref N) none H')) (_:(c=1→∀ H',Same H H'→E (.ref M) none H')) (_:(c=3→∀ H',Same H H'→E (.ref C) none H')) (_:(c=2→∀ H',Same H H'→Q .non H'))
theorem qBz (T:Tx K mg a):FnOk P w K mg base (CXR P w) 7 a.A65 a.B65 ["table","deed","reels"] (qB0 K a.k_NoPlace a.k_Mixed a.k_NoClip):=by
 refine okX T.D65.F qC3 (fun vs H Q E h=>?_) (fun cdv A outer s H vs Q E hr h=>?_)
 · obtain⟨tz,dz,rd,ts,tie,n,ms,c,rfl,_⟩:=h
   rfl
 refine qM fun _ Y=>?_
 obtain⟨tz,dz,rd,ts,tie,n,ms,c,rfl,hP,hms,hC,k0,k1,k3,k2⟩:=h
 apply Y
 refine⟨_,(qD (qd (qH vN (qJ (pv 1)) (xJ (v:=.ref a.n_CHANGES) rfl T.g_CHANGES rfl) rfl) (qF (j4 rfl rfl T.c_NoPlace T.x_NoPlace (qA qS qE))) qP)
  (qD (kM (qd (PW.pt (xH (qH jX (qJ (pv 1)) qS (qN _)) (jq (ji (jO (qK T.D33 (qD8 T) hr rfl (qA (jK q9 (qJ (pv 0)) (qJ (pv 1)) (fun _ _=>rfl)) (qA (qJ (pv 1)) qE)))))))) (qF (j4 rfl rfl T.c_NoPlace T.x_NoPlace (qA qS qE))) qP))
  (qD (kM (qd (PW.pt (xH (qH xj (qJ (pv 1)) (xJ (v:=.ref a.n_LAYS) rfl T.g_LAYS rfl) rfl) (jq (ji (jO (qK T.D22 (qB1 T) hr rfl (qA (qJ (pv 1)) qE))))))) (qF (jn (wJ T.D15 (qEf T) hr rfl (qA (qJ (pv 1)) (qA (pv 2) qE))))) qP))
  (qF (jn (wJ T.D64 (qDy T) hr rfl (qA (pv 0) (qA (pv 1) qE)))))))),?_⟩
 try dsimp only [jc,qj]
 have one:(1:Nat)≤sizeLine:=by decide
 refine qM fun _ Y=>?_
 obtain⟨tt,tl,ti,zs,e0,g2,g3,g4,g5⟩:=id hP.tab
 cases e0
 have hzl:=g4.len
 have hnt:=hP.nt
 have ez:zs[n]? =some (zs[n]'(by omega)):=List.getElem?_eq_getElem (by omega)
 obtain⟨ms',z,hms',ezz,tT⟩:=g4.get ez
 rw [hms] at hms'
 cases hms'
 apply Y
 rw [ezz] at ez
 cases hC with
 | @cut0 t hd h=>
  have a0:atI [V.str "cut",.int (n:Int),.int t] 0=some (.str "cut"):=rfl
  have a1:atI [V.str "cut",.int (n:Int),.int t] 1=some (.int (n:Int)):=rfl
  have a2:atI [V.str "cut",.int (n:Int),.int t] 2=some (.int t):=rfl
  refine(ixO hd a0 ⟨a.n_CHANGES,_,rfl,.inr (T.sq_CHANGES _),rfl,rfl,false,qKw (b:=true) (by decide+kernel),qm ?_⟩)
  refine⟨fun σ H1=>False,?_,fun _ _ h=>h.elim⟩
  refine(ixO hd a0 ⟨rfl,_,rfl,kI (by decide+kernel) ?_⟩)
  refine(ixO g2 at0 (ixO hd a1 ⟨tl,_,_,_,rfl,rfl,SqL.of g3,jJ ez,ixO hd a2 ⟨z,ms,t,rfl,tT,fun H1 e1=>?_⟩⟩))
  rw [h]
  exact⟨false,rfl,jI ⟨one,k0 rfl H1 e1⟩⟩
 | @bad w t x hw hd h h2=>
  have a0:atI [V.str w,.int (n:Int),.int t,x] 0=some (.str w):=rfl
  have a3:atI [V.str w,.int (n:Int),.int t,x] 3=some x:=rfl
  have i1:inV (.str w) [.str "cut",.str "lay_in",.str "open",.str "close",.str "lift",.str "lay_over"]=true:=by rcases hw with rfl | rfl <;> decide+kernel
  have i2:inV (.str w) [.str "lay_in",.str "lay_over"]=true:=by rcases hw with rfl | rfl <;> decide+kernel
  have i3:decide (V.str w=V.str "cut")=false:=by rcases hw with rfl | rfl <;> decide+kernel
  refine(ixO hd a0 ⟨a.n_CHANGES,_,rfl,.inr (T.sq_CHANGES _),rfl,rfl,false,qKw i1,qm ?_⟩)
  refine⟨fun σ H1=>σ=[some (.ref tz),some (.ref dz),some (.ref rd)]∧H1=H,?_,?_⟩
  · exact(ixO hd a0 ⟨rfl,_,rfl,jS i3 (qm ⟨rfl,rfl⟩)⟩)
  rintro σ H1 ⟨rfl,rfl⟩
  refine⟨fun σ H1=>False,?_,fun _ _ h=>h.elim⟩
  refine(ixO hd a0 ⟨a.n_LAYS,_,rfl,.inr (T.sq_LAYS _),rfl,rfl,true,zW i2,jI ?_⟩)
  refine(ixO hd a3 ⟨x,false,rfl,h,fun H2 e2=>⟨false,rfl,jI ?_⟩⟩)
  exact(ixO (e2 _ _ hd) a3 ⟨_,rfl,x,rd,false,rfl,h2.same e2,(fun h=>by cases h),fun _ H3 e3=>k3 rfl H3 (e2.trans e3)⟩)
 | @ok d c hD hO hc=>
  refine qM fun _ Y=>?_
  obtain⟨xs,hd,a0,a1,a2⟩:=hD.opn
  apply Y
  refine(ixO hd a0 ⟨a.n_CHANGES,_,rfl,.inr (T.sq_CHANGES _),rfl,rfl,false,qKw hO.ch,qm ?_⟩)
  refine⟨fun σ H1=>σ=[some (.ref tz),some (.ref dz),some (.ref rd)]∧Same H H1,?_,?_⟩
  · refine(ixO hd a0 ⟨rfl,_,rfl,ju (fun c=>?_) (fun c=>qm ⟨rfl,Same.refl _⟩)⟩)
    obtain⟨t,rfl⟩:=Dk.cut_wd (by simpa using c)
    refine(ixO g2 at0 (ixO hd a1 ⟨tl,_,_,_,rfl,rfl,SqL.of g3,jJ ez,ixO hd a2 ⟨z,ms,t,rfl,tT,fun H1 e1=>?_⟩⟩))
    rw [hO.2.2]
    exact⟨true,rfl,qm ⟨rfl,e1⟩⟩
  rintro σ H1 ⟨rfl,e1⟩
  refine⟨fun σ H2=>σ=[some (.ref tz),some (.ref dz),some (.ref rd)]∧Same H H2,?_,?_⟩
  · refine(ixO (e1 _ _ hd) a0 ⟨a.n_LAYS,_,rfl,.inr (T.sq_LAYS _),rfl,rfl,d.lay.isSome,zW d.lay_in,?_⟩)
    cases hl:d.lay with
    | none=>exact qm (qm ⟨rfl,e1⟩)
    | some m=>
     refine qM fun _ Y=>?_
     obtain⟨xs',v,hd',a3,hI⟩:=(hD.same e1).lay hl
     apply Y
     have hL:=(hO.lay hl).same e1
     cases m with
     | nest nn b l=>
      refine qM fun _ Y=>?_
      obtain⟨zv,rfl,hz⟩:=id hI
      obtain⟨h1,h2,h3,h4⟩:=hL
      apply Y
      refine jI (ixO hd' a3 ⟨_,true,rfl,.nums hz h1 h2 (by rw [decide_eq_true h3,decide_eq_true h4];rfl),fun H2 e2=>?_⟩)
      exact⟨true,rfl,qm ⟨rfl,e1.trans e2⟩⟩
     | gap l=>exact hL.elim
     | mix l=>exact hL.elim
     | clip nn p q r s1 l=>
      refine qM fun _ Y=>?_
      obtain⟨zv,x',y',rfl,hz,hx',hy'⟩:=id hI
      obtain⟨N,hr1,hg,i0,i1⟩:=hL
      apply Y
      refine jI (ixO hd' a3 ⟨_,false,rfl,.len hz (by show 5≠4;decide),fun H2 e2=>?_⟩)
      refine⟨false,rfl,jI (ixO (e2 _ _ hd') a3 ⟨_,rfl,_,rd,true,rfl,.pics ⟨x',y',e2 _ _ hz,e2 _ _ hx',e2 _ _ hy'⟩ hg (hr1.same e2) ⟨fun _=>⟨i0,i1⟩,fun _=>rfl⟩,fun _ H3 e3=>?_,fun h=>by cases h⟩)⟩
      exact⟨rfl,(e1.trans e2).trans e3⟩
  rintro σ H2 ⟨rfl,e2⟩
  refine⟨_,rfl,_,rfl,tz,dz,ts,tie,n,d,rfl,hP.same e2,hD.same e2,fun ht H3 e3=>?_,fun ht H3 e3=>?_⟩
  · rw [ht,if_pos rfl] at hc
    exact k1 hc H3 (e2.trans e3)
  · rw [ht,if_neg (by decide)] at hc
    exact k2 hc H3 (e2.trans e3)
def goB (n n':Str)(p q r s len p' q' r' s':Int):Bool:=decide (n=n') && ((r == r' && s == s') && (p' == plP p q r s len && q' == plQ p q r s len))
inductive sp_goes_on (K:W.Frag)(vs:List V)(H:Hp)(Q:VK)(_:XK):Prop
| mk (v u:V) (n n':Str) (p q r s len p' q' r' s' len':Int) (_:vs=[v,u]) (_:Cp K H v n p q r s len) (_:Cp K H u n' p' q' r' s' len') (_:Bn 700 p q r s) (_:len.natAbs < 2 ^ 700) (_:∀ H',Same H H'→Q (.bl (goB n n' p q r s len p' q' r' s')) H')
theorem qK9 (vs:List V)(i:Nat):qIz vs none (some (i:Int))=vs.take i:=by
 unfold qIz
 rw [HT.sIx_none,HT.sIx_nat,List.drop_zero,Nat.sub_zero]
 by_cases h:i≤vs.length
 · rw [Nat.min_eq_left h]
 · rw [Nat.min_eq_right (by omega),List.take_of_length_le (Nat.le_refl _),List.take_of_length_le (by omega)]
theorem qLk (vs:List V)(i:Nat):qIz vs (some (i:Int)) none=vs.drop i:=by
 unfold qIz
 rw [HT.sIx_none,HT.sIx_nat]
 by_cases h:i≤vs.length
 · rw [Nat.min_eq_left h,List.take_of_length_le (by rw [List.length_drop];omega)]
 · rw [Nat.min_eq_right (by omega),List.drop_of_length_le (by omega),List.drop_of_length_le (by omega)]
   simp
theorem IsIs.take {H:Hp}:∀ {ms:List Im} {vs:List V} {i:Nat},IsIs H ms vs→IsIs H (ms.take i) (vs.take i)
 | [],[],_,_=>by simp [IsIs]
 | _::_,_::_,0,_=>trivial
 | _::_,_::_,_+1,h=>⟨h.1,h.2.take⟩
 | [],_::_,_,h=>h.elim
 | _::_,[],_,h=>h.elim
theorem IsIs.drop {H:Hp}:∀ {ms:List Im} {vs:List V} {i:Nat},IsIs H ms vs→IsIs H (ms.drop i) (vs.drop i)
 | [],[],_,_=>by simp [IsIs]
 | _::_,_::_,0,h=>h
 | _::_,_::_,_+1,h=>h.2.drop (i:=_)
 | [],_::_,_,h=>h.elim
 | _::_,[],_,h=>h.elim
theorem DOk.hi {H:Hp}{rd:Addr}{ms:List Im}{d:Dk}(h:DOk H rd ms d):0≤d.t∧0≤d.hi∧d.hi≤2 ^ 500:=by
 have e:(2:Int) ^ 400+2 ^ 400≤2 ^ 500:=by decide
 have e2:(0:Int)≤2 ^ 400:=by decide
 generalize (2:Int) ^ 500=B at e ⊢
 cases d with
 | cut t=>obtain⟨h1,h2,_⟩:=h;exact⟨h1,h1,by show t≤B;omega⟩
 | hel t=>exact h.elim
 | opn t l=>obtain⟨h1,h2,_⟩:=h;exact⟨h1,h1,by show t≤B;omega⟩
 | cls t u=>obtain⟨h1,h2,h3⟩:=h;exact⟨h1,by show 0≤u;omega,by show u≤B;omega⟩
 | lft t u=>obtain⟨h1,h2,h3⟩:=h;exact⟨h1,by show 0≤u;omega,by show u≤B;omega⟩
 | lin t m=>obtain⟨h1,h2,_⟩:=h;exact⟨h1,h1,by show t≤B;omega⟩
 | lov t m=>obtain⟨h1,h2,h3,h4,h5⟩:=h;exact⟨h1,by show 0≤t+m.mo;omega,by show t+m.mo≤B;omega⟩
def qVe (ms:List Im)(t:Int):Prop:=cbF ms t=none∨∃ i j:Int,cbF ms t=some (i,j)∧j≠i+1
def ChW (w:Str):Prop:=w="cut"∨w="lay_in"∨w="open"∨w="close"∨w="lift"∨w="lay_over"
structure TabD (H:Hp)(tz rd:Addr)(rl:Rls)(ts:List (List Im))(tie:List Int):Prop where
 tab:TabF H (.ref tz) ts tie
 ok:∀ ms∈ts,MsB ms∧ms.length≤100∧∀ m∈ms,ItR rl m
 len:ts.length≤8
 tl:tie.length≤8
 tin:∀ x∈tie,∃ k:Nat,x=(k:Int)∧k < ts.length
 re:ReelsAt H rd rl
theorem TabD.g {H:Hp}{tz rd:Addr}{rl:Rls}{ts:List (List Im)}{tie:List Int}{n:Nat}(h:TabD H tz rd rl ts tie)(hn:n < ts.length):TabG H tz ts tie n:=⟨h.tab,fun ms hm=>⟨(h.ok ms hm).1,(h.ok ms hm).2.1⟩,hn,h.len,h.tl,h.tin⟩
theorem TabD.same {H H':Hp}{tz rd:Addr}{rl:Rls}{ts:List (List Im)}{tie:List Int}(e:Same H H')(h:TabD H tz rd rl ts tie):TabD H' tz rd rl ts tie:=⟨h.tab.same e,h.ok,h.len,h.tl,h.tin,h.re.same e⟩
instance (w:Str):Decidable (Wd3 w):=by unfold Wd3;infer_instance
theorem qE8 {w:Str}:inV (.str w) [.str "roll",.str "slip",.str "slide"]=decide (Wd3 w):=by
 by_cases h1:w="roll"
 · subst h1;decide+kernel
 by_cases h2:w="slip"
 · subst h2;decide+kernel
 by_cases h3:w="slide"
 · subst h3;decide+kernel
 have:¬ Wd3 w:=by rintro (h | h | h);exact h1 h;exact h2 h;exact h3 h
 rw [decide_eq_false this]
 simp [inV,eqV,h1,h2,h3,Ne.symm h1,Ne.symm h2,Ne.symm h3]
def qEh (d:Dk)(n k:Int):List Im:=if k=n then d.laid else d.laid.map fun m=>.gap m.mo
def qKr (ts0:List (List Im))(d:Dk)(n:Int)(ns:List Int):List (List Im):=ns.foldl (fun ts k=>ts.set k.toNat (qBl (ts0.getD k.toNat []) d.t d.hi (qEh d n k))) ts0
theorem qOe (ts0:List (List Im))(d:Dk)(n:Int):∀ ns:List Int,(qKr ts0 d n ns).length=ts0.length:=fun ns=>by
 unfold qKr
 have:∀ (ns:List Int) (ts:List (List Im)),(ns.foldl (fun ts k=>ts.set k.toNat (qBl (ts0.getD k.toNat []) d.t d.hi (qEh d n k))) ts).length=ts.length:=fun ns=>by
  induction ns with
  | nil=>intro ts;rfl
  | cons k ns ih=>intro ts;rw [List.foldl_cons,ih,List.length_set]
 exact this ns ts0
theorem qPh (ts0:List (List Im))(d:Dk)(n:Int)(ns:List Int)(k:Int):qKr ts0 d n (ns++[k])=(qKr ts0 d n ns).set k.toNat (qBl (ts0.getD k.toNat []) d.t d.hi (qEh d n k)):=by
 unfold qKr
 rw [List.foldl_append]
 rfl
theorem qTw (tie:List Int)(n:Int)(push:Bool):chF tie n push≠[]:=by
 unfold chF
 split <;> simp
inductive qIh (vs:List V)(H:Hp)(Q:VK)(_:XK):Prop
| mk (tz dz rd:Addr) (ts:List (List Im)) (tie:List Int) (n:Nat) (d:Dk) (ms:List Im) (_:vs=[.ref tz,.ref dz]) (_:TabG H tz ts tie n) (_:DAt H dz (n:Int) d) (_:DOk H rd ms d) (_:∀ (t:Addr) (H':Hp),Same H H'→NewTab H H' t (qKr ts d (n:Int) (chF tie (n:Int) d.push)) tie→Q (.ref t) H')
theorem qG9 (T:Tx K mg a):FnOk P w K mg base CX0 9 a.A72 a.B72 ["table","deed"] qIh:=by
 refine T.D72.F.ok x9 (fun vs H Q E h=>?_) (fun cdv A outer s H vs Q E hr h=>?_)
 · obtain⟨tz,dz,rd,ts,tie,n,d,ms,rfl,_⟩:=h
   rfl
 refine qM fun _ Y=>?_
 obtain⟨tz,dz,rd,ts,tie,n,d,ms,rfl,hP,hD,hO,kk⟩:=h
 apply Y
 refine⟨_,(qD (qX 2 x9.nd (qK T.D58 (wv T) hr rfl (qA (pv 1) qE)))
  (qD (qX 3 x9.nd (pv 0))
  (qD (xg PassesOwn.never rfl (jW (qK T.D61 (zy T) hr rfl (qA (pv 0) (qA (pv 1) qE)))) (qz (i:=4) x9.nd rfl (Or.inl rfl)) (qD (kM (qX 5 x9.nd (qCe (qH jX (pv 4) (qJ (pv 1)) (qN _)) (qK T.D59 (qEx T) hr rfl (qA (pv 1) qE)) (qK T.D60 (qDe T) hr rfl (qA (pv 1) qE)))))
  (qF (qX 3 x9.nd (qK T.D56 (wr T) hr rfl (qA (pv 3) (qA (pv 4) (qA (qK T.D71 (qNs T) hr rfl (qA (jK q9 (qJ (pv 0)) (pv 4) (fun _ _=>rfl)) (qA (qJ (pv 2)) (qA (qJ (pv 2)) (qA (pv 5) qE))))) qE))))))))
  (qF (qL (pv 3)))))),?_⟩
 try dsimp only [jc,qj]
 refine qM fun _ Y=>?_
 obtain⟨tt,tl,ti,zs,e0,g2,g3,g4,g5⟩:=id hP.tab
 cases e0
 have hzl:=g4.len
 obtain⟨hcl,hch⟩:=hP.ch d.push
 have hne:=qTw tie (n:Int) d.push
 obtain⟨xs,hd,a0,a1,a2⟩:=hD.opn
 obtain⟨ht0,hh0,hh1⟩:=hO.hi
 apply Y
 refine⟨_,rfl,dz,_,d,rfl,hD,fun p H1 e1 hp=>?_⟩
 refine⟨_,rfl,_,rfl,_,rfl,tz,tl,ti,dz,tie,_,d,rfl,e1 _ _ g2,e1 _ _ g5,by have:=hP.tl;omega,hD.same e1,fun y H2 e2 hy hy2=>?_⟩
 generalize chF tie (n:Int) d.push=ns at hy2 hcl hch hne kk
 refine⟨y,rfl,⟨_,SqL.of hy2⟩,xI (K:=K) (a:=y) (xs:=ns.map V.int) (fun i σ H'=>∃ (o1 o2:Option V) (tt':Addr),σ=[some (.ref tz),some (.ref dz),some (.ref p),some (.ref tt'),o1,o2]∧TabF H' (.ref tt') (qKr ts d (n:Int) (ns.take i)) tie∧(0 < i→NewTab H H' tt' (qKr ts d (n:Int) (ns.take i)) tie)∧Same H2 H') ⟨none,none,tz,rfl,(hP.tab.same e1).same e2,by omega,Same.refl _⟩ ?_ ?_ ?_⟩
 · rintro i σ H' hi ⟨o1,o2,tt',rfl,_,_,e⟩
   exact SqL.of (e _ _ hy2)
 · rintro i x σ H' hx ⟨o1,o2,tt',rfl,hT',_,e⟩
   refine qM fun _ Y=>?_
   obtain⟨xi,hxi,rfl⟩:∃ xi:Int,ns[i]? =some xi∧x= .int xi:=by
    rw [List.getElem?_map] at hx
    cases hq:ns[i]? with
    | none=>rw [hq] at hx;cases hx
    | some k=>rw [hq] at hx;cases hx;exact⟨k,rfl,rfl⟩
   obtain⟨k,rfl,hk⟩:=hch xi (List.mem_of_getElem? hxi)
   have e02:=e1.trans (e2.trans e)
   have ez:zs[k]? =some (zs[k]'(by omega)):=List.getElem?_eq_getElem (by omega)
   obtain⟨ms1,z,hms,ezz,tT⟩:=g4.get ez
   rw [ezz] at ez
   obtain⟨hMB,hM1⟩:=hP.ok ms1 (List.mem_of_getElem? hms)
   apply Y
   have dl:=d.laid_len
   have egd:ts.getD ((k:Int)).toNat []=ms1:=by rw [Int.toNat_natCast,List.getD_eq_getElem?_getD,hms];rfl
   refine⟨fun σ H3=>∃ (l:Addr),σ=[some (.ref tz),some (.ref dz),some (.ref p),some (.ref tt'),some (.int (k:Int)),some (.ref l)]∧Same H' H3∧Tr H3 l (qEh d (n:Int) (k:Int)),?_,?_⟩
   · unfold qEh
     refine⟨_,rfl,ixO (e02 _ _ hd) a1 ⟨rfl,_,rfl,ju (fun c=>?_) (fun c=>?_)⟩⟩
     · have hc:(k:Int)=(n:Int):=by have:V.int (k:Int)=V.int (n:Int):=by simpa using c
                                   exact V.int.inj this
       rw [if_pos hc]
       exact⟨_,rfl,dz,_,d,rfl,hD.same e02,fun l H3 e3 hl tL=>⟨l,rfl,e3,tL⟩⟩
     · have hc:¬ (k:Int)=(n:Int):=fun z=>by rw [z] at c;simp at c
       rw [if_neg hc]
       exact⟨_,rfl,dz,_,d,rfl,hD.same e02,fun l H3 e3 hl tL=>⟨l,rfl,e3,tL⟩⟩
   rintro σ H3 ⟨l,rfl,e3,tL⟩
   have hls:(qEh d (n:Int) (k:Int)).length≤10:=by
    unfold qEh
    split
    · omega
    · rw [List.length_map];omega
   have e03:=e02.trans e3
   refine⟨_,rfl,_,rfl,ixO (e03 _ _ g2) at0 ⟨_,rfl,tl,_,_,_,rfl,rfl,SqL.of (e03 _ _ g3),jJ ez,vZ rfl (SqT.of ((e2.trans (e.trans e3)) _ _ hp)) at0 (vZ rfl (SqT.of ((e2.trans (e.trans e3)) _ _ hp)) at1 ⟨_,rfl,z,l,ms1,_,_,_,rfl,tT.same e03,tL,hMB,hM1,hls,hh0,hh1,fun yy H4 e4 hyy tY=>?_⟩)⟩⟩
   refine⟨tt',yy,k,_,tie,_,rfl,(hT'.same e3).same e4,tY,by rw [qOe];omega,by rw [qOe];have:=hP.len;omega,fun t H5 e5 hN=>?_⟩
   have ets:qKr ts d (n:Int) (ns.take (i+1))=(qKr ts d (n:Int) (ns.take i)).set k (qBl ms1 d.t d.hi (qEh d (n:Int) (k:Int))):=by
    rw [List.take_add_one,hxi]
    show qKr ts d (n:Int) (ns.take i++[(k:Int)])=_
    rw [qPh,egd,Int.toNat_natCast]
   rw [ets]
   exact⟨_,_,t,rfl,(hN H3 e4 hyy).tab,fun _=>hN H (e03.trans e4) (e03.free hyy),((e.trans e3).trans e4).trans e5⟩
 · rintro σ H' ⟨o1,o2,tt',rfl,_,hN,e⟩
   rw [List.length_map,List.take_length] at hN
   exact⟨_,rfl,kk _ H' (e1.trans (e2.trans e)) (hN (List.length_pos_iff.mpr hne))⟩
def tbF (ms:List Im)(k:Nat):Int:=if k=0 then 0 else match ms[k - 1]? with
 | some (.mix l)=>l - l.fdiv 2
 | _=>0
def teF (ms:List Im)(k:Nat):Int:=match ms[k+1]? with
 | some (.mix l)=>l.fdiv 2
 | _=>0
theorem qHx {ms:List Im}{k:Int}(h:jh ms k="mix"):∃ l,0≤k∧ms[k.toNat]? =some (.mix l):=by
 unfold jh at h
 by_cases h0:k < 0
 · rw [if_pos h0] at h
   exact absurd h (by decide+kernel)
 · rw [if_neg h0] at h
   cases hm:ms[k.toNat]? with
   | none=>rw [hm] at h;exact absurd h (by decide+kernel)
   | some m=>
    rw [hm] at h
    obtain⟨l,rfl⟩:=jD h
    exact⟨l,by omega,rfl⟩
inductive qAm (vs:List V)(H:Hp)(Q:VK)(_:XK):Prop
| mk (z:Addr) (ms:List Im) (k:Nat) (_:vs=[.ref z,.int (k:Int)]) (_:Tr H z ms) (_:Q (.int (tbF ms k)) H)
theorem qA7 (T:Tx K mg a):FnOk P w K mg base CX0 2 a.A42 a.B42 ["track","place"] qAm:=by
 refine T.D42.F.ok qAo (fun vs H Q E h=>?_) (fun cdv A outer s H vs Q E hr h=>?_)
 · obtain⟨z,ms,k,rfl,_⟩:=h
   rfl
 refine qM fun _ Y=>?_
 obtain⟨z,ms,k,rfl,tT,q⟩:=h
 apply Y
 refine⟨_,(qD (qd (qH zP (qK T.D28 (zB T) hr rfl (qA (pv 0) (qA (qO jM (pv 1) qG) qE))) qS (qN _)) (qF (qL qG)) qP)
  (qF (qL (qK T.D37 (vz T) hr rfl (qA (qJ (jK q9 (pv 0) (qO jM (pv 1) qG) (fun _ _=>rfl))) qE))))),?_⟩
 try dsimp only [jc,qj]
 refine⟨_,rfl,_,rfl,_,_,rfl,rfl,z,ms,_,rfl,tT,rfl,_,rfl,ju (fun c=>?_) (fun c=>?_)⟩
 · have hn:jh ms ((k:Int) - 1)≠"mix":=by simpa using c
   have e:tbF ms k=0:=by
    unfold tbF
    by_cases k0:k=0
    · rw [if_pos k0]
    · rw [if_neg k0]
      split
      · next l hl=>exact absurd (wq hl (by omega)) hn
      · rfl
   rw [e] at q
   exact q
 · have hk:jh ms ((k:Int) - 1)="mix":=by simpa using c
   refine qM fun _ Y=>?_
   obtain⟨l,k1,hl⟩:=qHx hk
   have ek:((k:Int) - 1).toNat=k - 1:=by omega
   rw [ek] at hl
   have e:tbF ms k=l - l.fdiv 2:=by
    unfold tbF
    rw [if_neg (by omega),hl]
   rw [e] at q
   obtain⟨vs,hz,his⟩:=tT
   obtain⟨v,hv,hI⟩:=his.get' hl
   obtain⟨zi,rfl,hzi⟩:=hI
   apply Y
   have hat:atI vs ((k:Int) - 1)=some (.ref zi):=by
    have e:(k:Int) - 1=((k - 1:Nat):Int):=by omega
    rw [e];exact jJ hv
   exact⟨_,rfl,_,rfl,_,_,rfl,rfl,z,_,_,_,rfl,rfl,SqL.of hz,hat,ixT (SqT.of hzi) at1 ⟨l,rfl,q⟩⟩
inductive qC6 (vs:List V)(H:Hp)(Q:VK)(_:XK):Prop
| mk (z:Addr) (ms:List Im) (k:Nat) (_:vs=[.ref z,.int (k:Int)]) (_:Tr H z ms) (_:Q (.int (teF ms k)) H)
theorem qDd (T:Tx K mg a):FnOk P w K mg base CX0 2 a.A43 a.B43 ["track","place"] qC6:=by
 refine T.D43.F.ok qDg (fun vs H Q E h=>?_) (fun cdv A outer s H vs Q E hr h=>?_)
 · obtain⟨z,ms,k,rfl,_⟩:=h
   rfl
 refine qM fun _ Y=>?_
 obtain⟨z,ms,k,rfl,tT,q⟩:=h
 apply Y
 refine⟨_,(qD (qd (qH zP (qK T.D28 (zB T) hr rfl (qA (pv 0) (qA (qO qp (pv 1) qG) qE))) qS (qN _)) (qF (qL qG)) qP)
  (qF (qL (qK T.D36 (kB T) hr rfl (qA (qJ (jK q9 (pv 0) (qO qp (pv 1) qG) (fun _ _=>rfl))) qE))))),?_⟩
 try dsimp only [jc,qj]
 refine⟨_,rfl,_,rfl,_,_,rfl,rfl,z,ms,_,rfl,tT,rfl,_,rfl,ju (fun c=>?_) (fun c=>?_)⟩
 · have hn:jh ms ((k:Int)+1)≠"mix":=by simpa using c
   have e:teF ms k=0:=by
    unfold teF
    split
    · next l hl=>exact absurd (wq hl (by omega)) hn
    · rfl
   rw [e] at q
   exact q
 · have hk:jh ms ((k:Int)+1)="mix":=by simpa using c
   refine qM fun _ Y=>?_
   obtain⟨l,k1,hl⟩:=qHx hk
   have ek:((k:Int)+1).toNat=k+1:=by omega
   rw [ek] at hl
   have e:teF ms k=l.fdiv 2:=by
    unfold teF
    rw [hl]
   rw [e] at q
   obtain⟨vs,hz,his⟩:=tT
   obtain⟨v,hv,hI⟩:=his.get' hl
   obtain⟨zi,rfl,hzi⟩:=hI
   apply Y
   have hat:atI vs ((k:Int)+1)=some (.ref zi):=by
    have e:(k:Int)+1=((k+1:Nat):Int):=by omega
    rw [e];exact jJ hv
   exact⟨_,rfl,_,rfl,_,_,rfl,rfl,z,_,_,_,rfl,rfl,SqL.of hz,hat,ixT (SqT.of hzi) at1 ⟨l,rfl,q⟩⟩
def qTq (x y:Int):Int:=if y < x then y else x
def qVl (x y:Int):Int:=if y > x then y else x
def mmV (A B:Int):Int:=if B > A then qVl (2*A+1) 0 else qVl (2*B) 0
def mmF (rl:Rls)(ms:List Im)(t:Int):Option Int:=match cbF ms t with
 | none=>none
 | some (i,j)=>match xk ms i,xk ms j with
  | .clip n p q r s l,.clip n' p' q' r' s' l'=>(match rl n,rl n' with
   | some N,some N'=>some (mmV (qTq (l - tbF ms i.toNat) (qDk p' q' r' s' N')) (qTq (l' - teF ms j.toNat) (qCa p q r s l N)))
   | _,_=>none)
  | _,_=>none
theorem wo {ms:List Im}{t:Int}{i j:Int}(h:cbF ms t=some (i,j)):jh ms i="clip"∧jh ms j="clip":=by
 unfold cbF at h
 cases hn:nbF ms t with
 | none=>rw [hn] at h;cases h
 | some r=>
  obtain⟨x,y⟩:=r
  rw [hn] at h
  dsimp only at h
  split at h
  · rename_i c;cases h;exact c
  · cases h
inductive qH5 (N:Addr)(vs:List V)(H:Hp)(Q:VK)(E:XK):Prop
| mk (z rd:Addr) (ms:List Im) (t:V) (ot:Option Int) (rl:Rls) (_:vs=[.ref z,t,.ref rd]) (_:Tr H z ms) (_:(∀ m∈ms,ItR rl m)) (_:ReelsAt H rd rl) (_:Nu H t ot) (_:(ot.bind (mmF rl ms)=none→∀ H',Same H H'→E (.ref N) none H')) (_:∀ M,ot.bind (mmF rl ms)=some M→∀ H',Same H H'→Q (.int M) H')
theorem qBo (T:Tx K mg a):FnOk P w K mg base (CXR P w) 6 a.A44 a.B44 ["track","moment","reels"] (qH5 a.k_NoPlace):=by
 refine okX T.D44.F xT (fun vs H Q E h=>?_) (fun cdv A outer s H vs Q E hr h=>?_)
 · obtain⟨z,rd,ms,t,ot,rl,rfl,_⟩:=h
   rfl
 refine qM fun _ Y=>?_
 obtain⟨z,rd,ms,t,ot,rl,rfl,tT,hit,hrl,ht,kb,kg⟩:=h
 apply Y
 refine⟨_,(qD (qX 3 xT.nd (qCe (jO (qK T.D0 (jF T) hr rfl (qA (pv 1) qE))) (qK T.D32 (zR T) hr rfl (qA (pv 0) (qA (pv 1) qE))) qEw))
  (qD (qd (qDs (qH9 (pv 3))) (qF (j4 rfl rfl T.c_NoPlace T.x_NoPlace (qA qS qE))) qP)
  (qD (qX 4 xT.nd (jK q9 (pv 0) (qJ (pv 3)) (fun _ _=>rfl)))
  (qD (qX 5 xT.nd (jK q9 (pv 0) (qJ (pv 3)) (fun _ _=>rfl)))
  (qD (qX 6 xT.nd (qc (vU rfl) rfl T.b_min rfl (qA (qO jM (qJ (pv 4)) (qK T.D42 (qA7 T) hr rfl (qA (pv 0) (qA (qJ (pv 3)) qE)))) (qA (qK T.D19 (qHh T) hr rfl (qA (pv 5) (qA (pv 2) qE))) qE))))
  (qD (qX 7 xT.nd (qc (vU rfl) rfl T.b_min rfl (qA (qO jM (qJ (pv 5)) (qK T.D43 (qDd T) hr rfl (qA (pv 0) (qA (qJ (pv 3)) qE)))) (qA (qK T.D20 (qGx T) hr rfl (qA (pv 4) (qA (pv 2) qE))) qE))))
  (qD (qd (qH qGr (pv 7) (pv 6) (qN _)) (qF (qL (qc (zr rfl) rfl T.b_max rfl (qA (qO qp (qO jC qG (pv 6)) qG) (qA qG qE))))) qP)
  (qF (qL (qc (zr rfl) rfl T.b_max rfl (qA (qO jC qG (pv 7)) (qA qG qE)))))))))))),?_⟩
 try dsimp only [jc,qj]
 have one:(1:Nat)≤sizeLine:=by decide
 cases ht with
 | no h=>exact⟨_,rfl,t,false,rfl,.no h,false,rfl,qm ⟨_,rfl,_,rfl,kI (by decide) ⟨one,kb rfl H (Same.refl _)⟩⟩⟩
 | int t=>
 replace kb:mmF rl ms t=none→∀ H',Same H H'→E (.ref a.k_NoPlace) none H':=kb
 replace kg:∀ M,mmF rl ms t=some M→∀ H',Same H H'→Q (.int M) H':=kg
 refine⟨_,rfl,_,true,rfl,.int t,true,rfl,jI ?_⟩
 refine⟨_,rfl,_,rfl,z,ms,_,rfl,tT,?_⟩
 unfold mmF at kb kg
 cases hcb:cbF ms t with
 | none=>
  rw [hcb] at kb
  intro H1 e1
  exact⟨_,rfl,_,rfl,kI (by decide) ⟨one,kb rfl H1 e1⟩⟩
 | some r=>
 refine qM fun _ Y=>?_
 obtain⟨ii,jj⟩:=r
 rw [hcb] at kg
 obtain⟨hk1,hk2⟩:=wo hcb
 obtain⟨i,n,p,q,r,s1,l,rfl,hi⟩:=vK hk1
 obtain⟨j,n',p',q',r',s2,l',rfl,hj⟩:=vK hk2
 obtain⟨N,c1⟩:=hit _ (List.mem_of_getElem? hi) _ _ _ _ _ _ rfl
 obtain⟨N',c2⟩:=hit _ (List.mem_of_getElem? hj) _ _ _ _ _ _ rfl
 apply Y
 have ei:xk ms (i:Int)= .clip n p q r s1 l:=by unfold xk;rw [Int.toNat_natCast,hi];rfl
 have ej:xk ms (j:Int)= .clip n' p' q' r' s2 l':=by unfold xk;rw [Int.toNat_natCast,hj];rfl
 dsimp only at kg
 rw [ei,ej] at kg
 dsimp only at kg
 rw [c1.rn,c2.rn,Int.toNat_natCast,Int.toNat_natCast] at kg
 have kg:=kg _ rfl
 intro pp H1 e1 hpp
 refine⟨_,rfl,_,rfl,ju (fun c=>absurd c (by simp)) (fun _=>?_)⟩
 refine qM fun _ Y=>?_
 obtain⟨vs,hz,his⟩:=tT.same e1
 obtain⟨va,hva,Ia⟩:=his.get' hi
 obtain⟨vb,hvb,Ib⟩:=his.get' hj
 apply Y
 refine⟨_,rfl,ixO hpp at0 ⟨z,_,_,_,rfl,rfl,SqL.of hz,jJ hva,?_⟩⟩
 refine⟨_,rfl,ixO hpp at1 ⟨z,_,_,_,rfl,rfl,SqL.of hz,jJ hvb,?_⟩⟩
 refine qM fun _ Y=>?_
 obtain⟨za,xa,ya,rfl,hza,hxa,hya⟩:=id Ia
 obtain⟨zb,xb,yb,rfl,hzb,hxb,hyb⟩:=id Ib
 apply Y
 have tT1:Tr H1 z ms:=⟨vs,hz,his⟩
 refine(ixO hza qIe ⟨_,rfl,ixO hpp at0 ⟨z,ms,i,rfl,tT1,_,_,rfl,rfl,?_⟩⟩)
 refine⟨_,rfl,_,rfl,_,n',p',q',r',s2,l',N',rd,rfl,qMb Ib,c2.g1,c2.g2,(hrl _ _ c2.rn).same e1,c2.bN,fun H2 e2=>?_⟩
 refine⟨_,_,rfl,?_⟩
 refine(ixO (e2 _ _ hzb) qIe ⟨_,rfl,ixO (e2 _ _ hpp) at1 ⟨z,ms,j,rfl,tT1.same e2,_,_,rfl,rfl,?_⟩⟩)
 refine⟨_,rfl,_,rfl,_,n,p,q,r,s1,l,N,rd,rfl,qMb (Ia.ts (qZ e2)),c1.g1,c1.g2,c1.bl,(hrl _ _ c1.rn).same (e1.trans e2),c1.bN,fun H3 e3=>?_⟩
 refine⟨_,_,rfl,?_⟩
 have kk':=kg H3 ((e1.trans e2).trans e3)
 unfold mmV qTq at kk'
 unfold qDk qCa at kk'
 dsimp only
 generalize (if qA6 (plP p' q' r' s2 (-1)*s2) (-1*r'*plQ p' q' r' s2 (-1)) (plQ p' q' r' s2 (-1)*s2) N' < l - tbF ms i then qA6 (plP p' q' r' s2 (-1)*s2) (-1*r'*plQ p' q' r' s2 (-1)) (plQ p' q' r' s2 (-1)*s2) N' else l - tbF ms i)=MA at kk' ⊢
 generalize (if qA6 (plP p q r s1 l*s1) (1*r*plQ p q r s1 l) (plQ p q r s1 l*s1) N < l' - teF ms j then qA6 (plP p q r s1 l*s1) (1*r*plQ p q r s1 l) (plQ p q r s1 l*s1) N else l' - teF ms j)=MB at kk' ⊢
 refine⟨_,rfl,_,rfl,_,_,rfl,rfl,_,rfl,ju (fun c=>?_) (fun c=>?_)⟩
 · have c':MB > MA:=by simpa using c
   rw [if_pos c'] at kk'
   exact⟨_,rfl,_,_,rfl,rfl,cmL (by decide) (by decide),_,_,rfl,rfl,_,_,rfl,kk'⟩
 · have c':¬ MB > MA:=by simpa using c
   rw [if_neg c'] at kk'
   exact⟨_,rfl,_,_,rfl,rfl,cmL (by decide) (by decide),_,_,rfl,kk'⟩
inductive qJo (N S:Addr)(vs:List V)(H:Hp)(Q:VK)(E:XK):Prop
| mk (tz dz rd:Addr) (ts:List (List Im)) (tie:List Int) (n0:Nat) (ms:List Im) (t l:Int) (rl:Rls) (_:vs=[.ref tz,.ref dz,.ref rd]) (_:TabG H tz ts tie n0) (_:ts[n0]? =some ms) (_:H dz=some (.tup [.str "mix",.int (n0:Int),.int t,.int l])) (_:(∀ m∈ms,ItR rl m)) (_:ReelsAt H rd rl) (_:(qVe ms t→∀ H',Same H H'→E (.ref N) none H')) (_:(∀ (i:Nat) (M:Int),cbF ms t=some ((i:Int),((i+1:Nat):Int))→mmF rl ms t=some M→(M < l→∀ (dx:Addr) (H':Hp),Same H H'→H' dx=some (.xd [("most",.int M)])→E (.ref S) (some dx) H')∧(l≤M→∀ (t':Addr) (H':Hp),Same H H'→NewTab H H' t' (ts.set n0 (ms.take (i+1)++[.mix l]++ms.drop (i+1))) tie→Q (.ref t') H')))
theorem qRh {rl:Rls}{ms:List Im}{t i j:Int}(hit:∀ m∈ms,ItR rl m)(h:cbF ms t=some (i,j)):∃ M,mmF rl ms t=some M:=by
 obtain⟨hk1,hk2⟩:=wo h
 obtain⟨i,n,p,q,r,s1,l,rfl,hi⟩:=vK hk1
 obtain⟨j,n',p',q',r',s2,l',rfl,hj⟩:=vK hk2
 obtain⟨N,c1⟩:=hit _ (List.mem_of_getElem? hi) _ _ _ _ _ _ rfl
 obtain⟨N',c2⟩:=hit _ (List.mem_of_getElem? hj) _ _ _ _ _ _ rfl
 have ei:xk ms (i:Int)= .clip n p q r s1 l:=by unfold xk;rw [Int.toNat_natCast,hi];rfl
 have ej:xk ms (j:Int)= .clip n' p' q' r' s2 l':=by unfold xk;rw [Int.toNat_natCast,hj];rfl
 unfold mmF
 rw [h]
 dsimp only
 rw [ei,ej]
 dsimp only
 rw [c1.rn,c2.rn]
 exact⟨_,rfl⟩
theorem qI8 (T:Tx K mg a):FnOk P w K mg base (CXR P w) 7 a.A69 a.B69 ["table","deed","reels"] (qJo a.k_NoPlace a.k_Short):=by
 refine okX T.D69.F qCh (fun vs H Q E h=>?_) (fun cdv A outer s H vs Q E hr h=>?_)
 · obtain⟨tz,dz,rd,ts,tie,n0,ms,t,l,rl,rfl,_⟩:=h
   rfl
 refine qM fun _ Y=>?_
 obtain⟨tz,dz,rd,ts,tie,n0,ms,t,l,rl,rfl,hP,hms,hd,hit,hrl,kb,kk⟩:=h
 apply Y
 refine⟨_,(qD (qX 3 qCh.nd (jK q9 (qJ (pv 0)) (qJ (pv 1)) (fun _ _=>rfl)))
  (qD (qX 4 qCh.nd (qK T.D32 (zR T) hr rfl (qA (pv 3) (qA (qJ (pv 1)) qE))))
  (qD (qd (PW.pt (j2 (qDs (qH9 (pv 4))) (jV (qH zP (qJ (pv 4)) (qO qp (qJ (pv 4)) qG) (qN _))))) (qF (j4 rfl rfl T.c_NoPlace T.x_NoPlace (qA qS qE))) qP)
  (qD (qX 5 qCh.nd (wJ T.D44 (qBo T) hr rfl (qA (pv 3) (qA (qJ (pv 1)) (qA (pv 2) qE)))))
  (qD (qd (qH qGr (qJ (pv 1)) (pv 5) (qN _)) (qF (qMt T.m_Short (qFr T) T.ib_Short (hr.mono (by decide)) rfl rfl T.c_Short (qA (pv 5) qE))) qP)
  (qF (qL (qK T.D56 (wr T) hr rfl (qA (pv 0) (qA (qJ (pv 1)) (qA (qO kf (qO kf (zV vF (pv 3) wB (zX (qJ (pv 4)))) (qr (qA (qo (qA qS (qA (qJ (pv 1)) qE))) qE))) (zV vF (pv 3) (zX (qJ (pv 4))) wB)) qE))))))))))),?_⟩
 try dsimp only [jc,qj]
 have one:(1:Nat)≤sizeLine:=by decide
 refine qM fun _ Y=>?_
 obtain⟨tt,tl,ti,zs,e0,g2,g3,g4,g5⟩:=id hP.tab
 cases e0
 have hzl:=g4.len
 have hnt:=hP.nt
 have ez:zs[n0]? =some (zs[n0]'(by omega)):=List.getElem?_eq_getElem (by omega)
 obtain⟨ms',z,hms',ezz,tT⟩:=g4.get ez
 rw [hms] at hms'
 cases hms'
 rw [ezz] at ez
 obtain⟨hMB,hM1⟩:=hP.ok ms (List.mem_of_getElem? hms)
 apply Y
 have sm:∀ j:Nat,j≤1000→j≤sizeLine:=fun j h=>by have:=qY (n:=j) (by omega);omega
 refine(ixO g2 at0 (ixO hd qS1 ⟨tl,_,_,_,rfl,rfl,SqL.of g3,jJ ez,?_⟩))
 refine⟨_,rfl,ixO hd qOj ⟨z,ms,_,rfl,tT,?_⟩⟩
 cases hcb:cbF ms t with
 | none=>
  intro H1 e1
  exact⟨_,rfl,_,rfl,kI (by decide) (jI ⟨one,kb (.inl hcb) H1 e1⟩)⟩
 | some rr=>
 obtain⟨ii,jj⟩:=rr
 intro pz H1 e1 hpz
 refine⟨_,rfl,_,rfl,ju (fun c=>absurd c (by simp)) (fun _=>?_)⟩
 refine(ixO hpz at1 (ixO hpz at0 ⟨_,_,rfl,rfl,rfl,_,rfl,?_⟩))
 by_cases hij:jj=ii+1
 case neg=>
  have hne:(!decide (V.int jj=V.int (ii+1)))=true:=by
   rw [decide_eq_false (fun z=>hij (V.int.inj z))];rfl
  exact kI hne ⟨one,kb (.inr ⟨ii,jj,hcb,hij⟩) H1 e1⟩
 have hne:(!decide (V.int jj=V.int (ii+1)))=false:=by rw [hij];simp
 refine jS hne ?_
 refine qM fun _ Y=>?_
 obtain⟨hk1,_⟩:=wo hcb
 obtain⟨i,n,p,q,r,s1,l1,rfl,hi⟩:=vK hk1
 apply Y
 obtain rfl:jj=((i+1:Nat):Int):=by omega
 refine qM fun _ Y=>?_
 obtain⟨M,hM⟩:=qRh hit hcb
 obtain⟨kS,kQ⟩:=kk i M hcb hM
 apply Y
 refine⟨_,rfl,ixO (e1 _ _ hd) qOj ⟨_,rfl,z,rd,ms,_,some t,rl,rfl,tT.same e1,hit,hrl.same e1,.int t,fun h=>(by have h':mmF rl ms t=none:=h;rw [hM] at h';cases h'),fun M' h H2 e2=>?_⟩⟩
 obtain rfl:M'=M:=by
  have h':mmF rl ms t=some M':=h
  rw [hM] at h'
  exact(Option.some.inj h').symm
 have e12:=e1.trans e2
 refine(ixO (e12 _ _ hd) qGp ⟨_,rfl,_,_,rfl,rfl,_,rfl,ju (fun c=>?_) (fun c=>?_)⟩)
 · have hc:M' < l:=by simpa using c
   exact⟨_,rfl,_,rfl,fun dx hdx=>kS hc dx _ (e12.trans (qC hdx _)) qB⟩
 have hc:l≤M':=by have:¬ M' < l:=by simpa using c
                  omega
 refine⟨_,rfl,ixO (e12 _ _ hd) qS1 ?_⟩
 refine qM fun _ Y=>?_
 obtain⟨vs,hz,his⟩:=tT.same e12
 apply Y
 have hvl:=his.len
 have hpz2:=e2 _ _ hpz
 refine⟨_,rfl,ixO hpz2 at1 ⟨_,rfl,z,_,rfl,SqL.of hz,fun a1' ha1=>?_⟩⟩
 rw [qK9]
 have v1:=qC ha1 (.lst (vs.take (i+1)))
 refine(vZ rfl (SqT.of ((e12.trans v1) _ _ hd)) qGp ⟨sL2,fun g hg=>⟨sL1,fun a2' ha2=>?_⟩⟩)
 have vg:=qC hg (.tup [.str "mix",.int l])
 have v2:=qC ha2 (.lst [.ref g])
 refine⟨a1',a2',_,_,rfl,rfl,v2 _ _ (vg _ _ qB),qB,sm _ (by rw [List.length_take];show min (i+1) _+1≤1000;omega),fun a3 ha3=>?_⟩
 have v3:=qC ha3 (.lst (vs.take (i+1)++[.ref g]))
 have v13:=((v1.trans vg).trans v2).trans v3
 have kg:(upd (upd (upd (upd H2 a1' (.lst (vs.take (i+1)))) g (.tup [.str "mix",.int l])) a2' (.lst [.ref g])) a3 (.lst (vs.take (i+1)++[.ref g]))) g=some (.tup [.str "mix",.int l]):=(v2.trans v3) _ _ qB
 have k3:(upd (upd (upd (upd H2 a1' (.lst (vs.take (i+1)))) g (.tup [.str "mix",.int l])) a2' (.lst [.ref g])) a3 (.lst (vs.take (i+1)++[.ref g]))) a3=some (.lst (vs.take (i+1)++[.ref g])):=qB
 change _
 generalize upd (upd (upd (upd H2 a1' (.lst (vs.take (i+1)))) g (.tup [.str "mix",.int l])) a2' (.lst [.ref g])) a3 (.lst (vs.take (i+1)++[.ref g]))=H3 at v13 kg k3
 refine⟨_,rfl,ixO (v13 _ _ hpz2) at1 ⟨_,rfl,z,_,rfl,SqL.of (v13 _ _ hz),fun a4 ha4=>?_⟩⟩
 rw [qLk]
 have v4:=qC ha4 (.lst (vs.drop (i+1)))
 refine⟨a3,a4,_,_,rfl,rfl,v4 _ _ k3,qB,sm _ (by rw [List.length_append,List.length_take,List.length_drop];show min (i+1) _+1+_≤1000;omega),fun a5 ha5=>?_⟩
 have v5:=qC ha5 (.lst (vs.take (i+1)++[.ref g]++vs.drop (i+1)))
 have v45:=v4.trans v5
 have e5:=(e12.trans v13).trans v45
 have hisE:=(his.ts (qZ v13)).ts (qZ v45)
 exact⟨tz,a5,n0,ts,tie,ms.take (i+1)++[.mix l]++ms.drop (i+1),rfl,hP.tab.same e5,⟨_,qB,(hisE.take.app (.one (isM (v45 _ _ kg)))).app hisE.drop⟩,hnt,by have:=hP.len;omega,fun t' H6 e6 hN=>kQ hc t' H6 (e5.trans e6) (hN H e5 (((e12.trans v13).trans v4).free ha5))⟩
inductive spX_unmixed_x (N:Addr)(vs:List V)(H:Hp)(Q:VK)(E:XK):Prop
| mk (tz dz:Addr) (ts:List (List Im)) (tie:List Int) (n0:Nat) (ms:List Im) (t:Int) (_:vs=[.ref tz,.ref dz]) (_:TabG H tz ts tie n0) (_:ts[n0]? =some ms) (_:H dz=some (.tup [.str "unmix",.int (n0:Int),.int t])) (_:((cbF ms t=none∨∃ i:Int,cbF ms t=some (i,i+1))→∀ H',Same H H'→E (.ref N) none H')) (_:∀ i:Nat,cbF ms t=some ((i:Int),((i+2:Nat):Int))→∀ (t':Addr) (H':Hp),Same H H'→NewTab H H' t' (ts.set n0 (ms.take (i+1)++ms.drop (i+2))) tie→Q (.ref t') H')
inductive Res where
 | place
 | mixed
 | clip
 | short (M:Int)
 | good (ts:List (List Im))
def qVt:Nat→Res
 | 0=>.place
 | 1=>.mixed
 | _=>.clip
inductive DdX (K:W.Frag)(H:Hp)(rd dz:Addr)(rl:Rls)(ts:List (List Im))(tie:List Int):Res→Prop where
 | mix {n i:Nat} {t l M:Int} {ms:List Im} {r:Res} (hd:H dz=some (.tup [.str "mix",.int (n:Int),.int t,.int l])) (hm:ts[n]? =some ms) (h0:0≤t) (hl:1≤l) (hc:cbF ms t=some ((i:Int),((i+1:Nat):Int))) (hM:mmF rl ms t=some M) (hr:r=if M < l then .short M else .good (ts.set n (ms.take (i+1)++[.mix l]++ms.drop (i+1)))):DdX K H rd dz rl ts tie r
 | chg0 {xs:List V} {w:Str} {n:Nat} {t:Int} {o:Option Int} {ms:List Im} {c:Nat} (hd:H dz=some (.tup xs)) (hw:ChW w) (a1:atI xs 1=some (.int (n:Int))) (hN:qT8 H xs w t o) (hm:ts[n]? =some ms) (h0:0≤t) (hb:qEi w t o=true) (h:ChO K H rd dz n ts tie ms c) (hc:c≠2):DdX K H rd dz rl ts tie (qVt c)
 | chg {xs:List V} {w:Str} {n:Nat} {t:Int} {o:Option Int} {ms:List Im} {d:Dk} (hd:H dz=some (.tup xs)) (hw:ChW w) (a1:atI xs 1=some (.int (n:Int))) (hN:qT8 H xs w t o) (hm:ts[n]? =some ms) (h0:0≤t) (hb:qEi w t o=true) (hD:DAt H dz (n:Int) d) (hO:DOk H rd ms d) (ht:x8 ts (chF tie (n:Int) d.push) d.t d.hi=false):DdX K H rd dz rl ts tie (.good (qKr ts d (n:Int) (chF tie (n:Int) d.push)))
inductive qCt (K:W.Frag)(N M C S:Addr)(vs:List V)(H:Hp)(Q:VK)(E:XK):Prop
| mk (tz dz rd:Addr) (rl:Rls) (ts:List (List Im)) (tie:List Int) (r:Res) (_:vs=[.ref tz,.ref dz,.ref rd]) (_:TabD H tz rd rl ts tie) (_:DdX K H rd dz rl ts tie r) (_:(r= .place→∀ H',Same H H'→E (.ref N) none H')) (_:(r= .mixed→∀ H',Same H H'→E (.ref M) none H')) (_:(r= .clip→∀ H',Same H H'→E (.ref C) none H')) (_:(∀ m,r= .short m→∀ (dx:Addr) (H':Hp),Same H H'→H' dx=some (.xd [("most",.int m)])→E (.ref S) (some dx) H')) (_:(∀ ts',r= .good ts'→∀ (t':Addr) (H':Hp),Same H H'→NewTab H H' t' ts' tie→Q (.ref t') H'))
theorem NewTab.back {H H1 H':Hp}(e1:Same H H1){t:Addr}{ts:List (List Im)}{tie:List Int}(h:NewTab H1 H' t ts tie):NewTab H H' t ts tie:=
 let ⟨tl,ti,zs,q1,q2,q3,q4,q5,q6,q7,q8⟩:=h.ex
 ⟨tl,ti,zs,q1,q2,q3,q4,e1.free q5,e1.free q6,q7,fun b hb=>⟨e1.free (q8 b hb).1,(q8 b hb).2⟩⟩
theorem vC (T:Tx K mg a):FnOk P w K mg base (CXR P w) 10 a.A73 a.B73 ["table","deed","reels"] (qCt K a.k_NoPlace a.k_Mixed a.k_NoClip a.k_Short):=by
 refine okX T.D73.F qIb (fun vs H Q E h=>?_) (fun cdv A outer s H vs Q E hr h=>?_)
 · obtain⟨tz,dz,rd,rl,ts,tie,r,rfl,_⟩:=h
   rfl
 refine qM fun _ Y=>?_
 obtain⟨tz,dz,rd,rl,ts,tie,r,rfl,hP,hC,k0,k1,k3,k4,k2⟩:=h
 apply Y
 refine⟨_,(qD (qd (qH xj (qJ (pv 1)) (xJ (v:=.ref a.n_ROLLS) rfl T.g_ROLLS rfl) rfl) vR qP)
  (qD (jn (wJ T.D45 (qCx T) hr rfl (qA (pv 0) (qA (qJ (pv 1)) (qA (qJ (pv 1)) qE)))))
  (qD (jn (wJ T.D62 (qAd T) hr rfl (qA (pv 1) qE)))
  (qD (qd (qH jX (qJ (pv 1)) qS (qN _)) vR qP)
  (qD (qd (qH jX (qJ (pv 1)) qS (qN _)) (qF (qL (wJ T.D69 (qI8 T) hr rfl (qA (pv 0) (qA (pv 1) (qA (pv 2) qE)))))) qP)
  (qD (qd (qH jX (qJ (pv 1)) qS (qN _)) vR qP)
  (qD (jn (wJ T.D65 (qBz T) hr rfl (qA (pv 0) (qA (pv 1) (qA (pv 2) qE)))))
  (qF (qL (qK T.D72 (qG9 T) hr rfl (qA (pv 0) (qA (pv 1) qE)))))))))))),?_⟩
 try dsimp only [jc,qj]
 refine qM fun _ Y=>?_
 obtain⟨tt,tl,ti,zs,e0,g2,g3,g4,g5⟩:=id hP.tab
 cases e0
 apply Y
 have hzl:=g4.len
 have r0:=Same.refl H
 have pl:∀ {n:Nat} {t:Int},n < ts.length→0≤t→qO2 zs.length (some (n:Int)) (some t)=true:=fun {n t} h1 h2=>by
  unfold qO2
  dsimp only
  rw [hzl,decide_eq_true (show (0:Int)≤(n:Int) by omega),decide_eq_true (show (n:Int) < ts.length by omega),decide_eq_true h2]
  rfl
 cases hC with
 | @mix n i t l M ms r hd hm h0 hl hc hM hr'=>
  have a0:atI [V.str "mix",.int (n:Int),.int t,.int l] 0=some (.str "mix"):=rfl
  have a1:atI [V.str "mix",.int (n:Int),.int t,.int l] 1=some (.int (n:Int)):=rfl
  have a2:atI [V.str "mix",.int (n:Int),.int t,.int l] 2=some (.int t):=rfl
  have hw:¬ Wd3 "mix":=by decide+kernel
  have hnb:qEi "mix" t (some l)=true:=by
   unfold qEi
   rw [if_pos (.inr rfl)]
   exact decide_eq_true hl
  refine(ixO hd a0 ⟨a.n_ROLLS,_,rfl,.inr (T.sq_ROLLS _),rfl,rfl,false,zW (by rw [qE8];exact decide_eq_false hw),qm ?_⟩)
  refine⟨_,rfl,ixO hd a1 (ixO hd a2 ⟨tz,tl,ti,zs,_,_,some ((n:Int)),some t,rfl,g2,g3,.int _,.int _,fun hf=>(by rw [pl (glt hm) h0] at hf;cases hf),fun _=>?_⟩)⟩
  refine⟨_,rfl,dz,_,"mix",t,some l,rfl,hd,⟨a0,a2,fun _=>⟨_,rfl,.int l⟩⟩,fun z=>(by rw [hnb] at z;cases z),fun _ H1 e1=>?_⟩
  have hG:=(hP.g (glt hm)).same e1
  have hit:=(hP.ok ms (List.mem_of_getElem? hm)).2.2
  refine(ixO (e1 _ _ hd) a0 ⟨rfl,_,rfl,jS (by decide+kernel) ?_⟩)
  refine(ixO (e1 _ _ hd) a0 ⟨rfl,_,rfl,kI (by decide+kernel) ?_⟩)
  refine⟨_,rfl,_,rfl,_,rfl,tz,dz,rd,ts,tie,n,ms,t,l,rl,rfl,hG,hm,e1 _ _ hd,hit,hP.re.same e1,fun h H2 e2=>?_,fun i' M' hc' hM'=>?_⟩
  · rcases h with h | ⟨x,y,h,hxy⟩
    · rw [hc] at h;cases h
    · rw [hc] at h
      cases h
      exact absurd (by omega) hxy
  · rw [hc] at hc'
    rw [hM] at hM'
    refine qM fun _ Y=>?_
    cases hM'
    have ei:i'=i:=by
     have:=congrArg Prod.fst (Option.some.inj hc')
     dsimp only at this
     omega
    subst ei
    apply Y
    refine⟨fun hlt dx H2 e2 hx=>?_,fun hle t' H2 e2 hN=>?_⟩
    · rw [if_pos hlt] at hr'
      exact k4 _ hr' dx H2 (e1.trans e2) hx
    · rw [if_neg (by omega)] at hr'
      exact k2 _ hr' t' H2 (e1.trans e2) (hN.back e1)
 | @chg0 xs w n t o ms c hd hcw a1 hN hm h0 hb h hc2=>
  have a0:=hN.1
  have a2:=hN.2.1
  have hw:¬ Wd3 w:=by rcases hcw with rfl | rfl | rfl | rfl | rfl | rfl <;> decide+kernel
  have w1:decide (V.str w=V.str "heal")=false:=by rcases hcw with rfl | rfl | rfl | rfl | rfl | rfl <;> decide+kernel
  have w2:decide (V.str w=V.str "mix")=false:=by rcases hcw with rfl | rfl | rfl | rfl | rfl | rfl <;> decide+kernel
  have w3:decide (V.str w=V.str "unmix")=false:=by rcases hcw with rfl | rfl | rfl | rfl | rfl | rfl <;> decide+kernel
  have hG:=hP.g (glt hm)
  refine(ixO hd a0 ⟨a.n_ROLLS,_,rfl,.inr (T.sq_ROLLS _),rfl,rfl,false,zW (by rw [qE8];exact decide_eq_false hw),qm ?_⟩)
  refine⟨_,rfl,ixO hd a1 (ixO hd a2 ⟨tz,tl,ti,zs,_,_,some ((n:Int)),some t,rfl,g2,g3,.int _,.int _,fun hf=>(by rw [pl (glt hm) h0] at hf;cases hf),fun _=>?_⟩)⟩
  refine⟨_,rfl,dz,xs,w,t,o,rfl,hd,hN,fun z=>(by rw [hb] at z;cases z),fun _ H1 e1=>?_⟩
  refine(ixO (e1 _ _ hd) a0 ⟨rfl,_,rfl,jS w1 ?_⟩)
  refine(ixO (e1 _ _ hd) a0 ⟨rfl,_,rfl,jS w2 ?_⟩)
  refine(ixO (e1 _ _ hd) a0 ⟨rfl,_,rfl,jS w3 ?_⟩)
  refine⟨_,rfl,_,rfl,_,rfl,tz,dz,rd,ts,tie,n,ms,c,rfl,hG.same e1,hm,h.same e1,fun hc H2 e2=>k0 (by rw [hc];rfl) H2 (e1.trans e2),fun hc H2 e2=>k1 (by rw [hc];rfl) H2 (e1.trans e2),fun hc H2 e2=>k3 (by rw [hc];rfl) H2 (e1.trans e2),fun hc=>absurd hc hc2⟩
 | @chg xs w n t o ms d hd hcw a1 hN hm h0 hb hD hO ht=>
  have a0:=hN.1
  have a2:=hN.2.1
  have hw:¬ Wd3 w:=by rcases hcw with rfl | rfl | rfl | rfl | rfl | rfl <;> decide+kernel
  have w1:decide (V.str w=V.str "heal")=false:=by rcases hcw with rfl | rfl | rfl | rfl | rfl | rfl <;> decide+kernel
  have w2:decide (V.str w=V.str "mix")=false:=by rcases hcw with rfl | rfl | rfl | rfl | rfl | rfl <;> decide+kernel
  have w3:decide (V.str w=V.str "unmix")=false:=by rcases hcw with rfl | rfl | rfl | rfl | rfl | rfl <;> decide+kernel
  have hG:=hP.g (glt hm)
  refine(ixO hd a0 ⟨a.n_ROLLS,_,rfl,.inr (T.sq_ROLLS _),rfl,rfl,false,zW (by rw [qE8];exact decide_eq_false hw),qm ?_⟩)
  refine⟨_,rfl,ixO hd a1 (ixO hd a2 ⟨tz,tl,ti,zs,_,_,some ((n:Int)),some t,rfl,g2,g3,.int _,.int _,fun hf=>(by rw [pl (glt hm) h0] at hf;cases hf),fun _=>?_⟩)⟩
  refine⟨_,rfl,dz,xs,w,t,o,rfl,hd,hN,fun z=>(by rw [hb] at z;cases z),fun _ H1 e1=>?_⟩
  refine(ixO (e1 _ _ hd) a0 ⟨rfl,_,rfl,jS w1 ?_⟩)
  refine(ixO (e1 _ _ hd) a0 ⟨rfl,_,rfl,jS w2 ?_⟩)
  refine(ixO (e1 _ _ hd) a0 ⟨rfl,_,rfl,jS w3 ?_⟩)
  refine⟨_,rfl,_,rfl,_,rfl,tz,dz,rd,ts,tie,n,ms,2,rfl,hG.same e1,hm,(ChO.ok hD hO (by rw [ht];rfl)).same e1,(fun hc=>by cases hc),(fun hc=>by cases hc),(fun hc=>by cases hc),fun _ H2 e2=>?_⟩
  have e12:=e1.trans e2
  exact⟨_,rfl,_,rfl,tz,dz,rd,ts,tie,n,d,ms,rfl,hG.same e12,hD.same e12,hO.same e12,fun t' H3 e3 hN=>k2 _ rfl t' H3 (e12.trans e3) (hN.back e12)⟩
inductive qEn (vs:List V)(H:Hp)(Q:VK)(_:XK):Prop
| mk (c n:Int) (_:vs=[.int c,.int n]) (_:0≤n) (_:n≤400) (_:∀ (z:Addr) (xs:List Int) (H':Hp),Same H H'→H z=none→H' z=some (.lst (xs.map V.int))→xs.length=n.toNat→(∀ x∈xs,0≤x∧x < 10000000019)→Q (.ref z) H')
theorem zf (T:Tx K mg a):FnOk P w K mg base CX0 1 a.A77 a.B77 ["_law_cell","_law_size"] qEn:=by
 refine T.D77.F.ok jH (fun vs H Q E h=>?_) (fun cdv A outer s H vs Q E hr h=>?_)
 · obtain⟨c,n,rfl,_⟩:=h
   rfl
 refine qM fun _ Y=>?_
 obtain⟨c,n,rfl,n0,n1,kk⟩:=h
 apply Y
 refine⟨_,(qD (qX 2 jH.nd (qr qE))
  (qD (qd (qH qGb (pv 0) (qO qQq qG qG) (qN _)) (qD (qX 3 jH.nd (qO qg (pv 0) qG))
  (qD (xg PassesOwn.never rfl (jg rfl T.b_range (qA (pv 1) qE)) (qz (i:=4) jH.nd rfl (Or.inl rfl)) (qD (jn (qDj F.plainAttrs_list F.slot_list_append F.type_list_append jm (pv 2) (qA (qO qq (pv 3) qG) qE)))
  (qF (qX 3 jH.nd (qO qg (pv 3) qG)))))
  (qF (qL (qSz (pv 2)))))) qP)
  (qD (qX 5 jH.nd (qO qq (qO jC (qO qp (qO qq (pv 0) qG) qG) qG) qG))
  (qD (xg PassesOwn.never rfl (jg rfl T.b_range (qA (pv 1) qE)) (qz (i:=4) jH.nd rfl (Or.inl rfl)) (qD (qX 5 jH.nd (qO qp (qO qp (qO qq (qO jC (pv 5) (qO qp (qO qg (pv 5) qG) qG)) qG) (pv 4)) qG))
  (qF (jn (qDj F.plainAttrs_list F.slot_list_append F.type_list_append jm (pv 2) (qA (pv 5) qE))))))
  (qF (qL (pv 2))))))),?_⟩
 try dsimp only [jc,qj]
 refine⟨sL0,fun z hz=>?_⟩
 have wz:∀ (xs:List Int),Same H (upd H z (.lst (xs.map V.int))):=fun xs=>qC hz _
 refine⟨_,rfl,_,_,rfl,rfl,cpw (n:=40) (by decide),_,_,rfl,rfl,_,rfl,ju (fun _=>?_) (fun _=>?_)⟩
 · refine⟨_,rfl,_,_,rfl,rfl,cdB (by decide) (by decide),?_⟩
   refine⟨_,rfl,n,rfl,by omega,by omega,we (n:=n.toNat) (fun i σ H'=>∃ (xs:List Int) (r:Int) (o p:Option V),σ=[some (.int c),some (.int n),some (.ref z),some (.int r),o,p]∧H'=upd H z (.lst (xs.map V.int))∧xs.length=i∧(∀ x∈xs,0≤x∧x < 10000000019))
    ⟨[],_,none,none,rfl,rfl,rfl,(by simp)⟩ ?_ ?_⟩
   · rintro i σ H' hi ⟨xs,r,o,p,rfl,rfl,hl,hx⟩
     have f:=fm r (show (0:Int) < 10000000019 by decide)
     refine⟨_,rfl,.inl ⟨rfl,_,SqL.of qB⟩,_,rfl,_,_,rfl,rfl,nz,z,_,_,rfl,rfl,qB,(by rw [List.length_map];exact qY (by omega)),?_⟩
     refine⟨_,rfl,_,_,rfl,rfl,cdB (by decide) (by decide),xs++[r.fmod 10000000019],_,_,_,rfl,?_,?_,?_⟩
     · rw [qKg,List.map_append];rfl
     · rw [List.length_append,hl];rfl
     · intro y hy
       rcases List.mem_append.mp hy with hy | hy
       · exact hx y hy
       · have e:y=r.fmod 10000000019:=by simpa using hy
         rw [e];exact f
   · rintro σ H' ⟨xs,r,o,p,rfl,rfl,hl,hx⟩
     refine⟨_,rfl,z,_,rfl,SqL.of qB,fun y hy=>?_⟩
     rw [← List.map_reverse]
     exact kk y xs.reverse _ ((wz xs).trans (qC hy _)) ((wz xs).free hy) qB (by rw [List.length_reverse];exact hl) (fun x hx'=>hx x (List.mem_reverse.mp hx'))
 · have f0:=fm c (show (0:Int) < 2147483647 by decide)
   refine⟨_,rfl,_,_,rfl,rfl,nz,_,_,rfl,rfl,_,_,rfl,rfl,cmR (by decide) (by decide),_,_,rfl,rfl,nz,?_⟩
   have f1:=fm ((c.fmod 2147483647+1)*48271) (show (0:Int) < 2147483647 by decide)
   refine⟨_,rfl,n,rfl,by omega,by omega,we (n:=n.toNat) (fun i σ H'=>∃ (xs:List Int) (r:Int) (o p:Option V),σ=[some (.int c),some (.int n),some (.ref z),o,p,some (.int r)]∧H'=upd H z (.lst (xs.map V.int))∧xs.length=i∧(∀ x∈xs,0≤x∧x < 10000000019)∧0≤r∧r < 2147484647)
    ⟨[],_,none,none,rfl,rfl,rfl,(by simp),f1.1,by omega⟩ ?_ ?_⟩
   · rintro i σ H' hi ⟨xs,r,o,p,rfl,rfl,hl,hx,r0,r1⟩
     have f:=fm (r*(r.fdiv 1009+69621)) (show (0:Int) < 2147483647 by decide)
     refine⟨_,rfl,_,rfl,_,_,rfl,rfl,cdB (by decide) (by decide),_,_,rfl,rfl,_,_,rfl,rfl,cmL (by omega) (by omega),_,_,rfl,rfl,nz,_,rfl,_,_,rfl,rfl,_,_,rfl,rfl,?_⟩
     refine⟨_,rfl,.inl ⟨rfl,_,SqL.of qB⟩,_,rfl,z,_,_,rfl,rfl,qB,(by rw [List.length_map];exact qY (by omega)),?_⟩
     refine⟨xs++[(r*(r.fdiv 1009+69621)).fmod 2147483647+(0+(i:Int))+1],_,_,_,rfl,?_,?_,?_,by omega,by omega⟩
     · rw [qKg,List.map_append];rfl
     · rw [List.length_append,hl];rfl
     · intro y hy
       rcases List.mem_append.mp hy with hy | hy
       · exact hx y hy
       · have e:y=(r*(r.fdiv 1009+69621)).fmod 2147483647+(0+(i:Int))+1:=by simpa using hy
         rw [e];omega
   · rintro σ H' ⟨xs,r,o,p,rfl,rfl,hl,hx,_,_⟩
     exact⟨_,rfl,kk z xs _ (wz xs) hz qB hl hx⟩
def SB (z:Addr)(H H':Hp):Prop:=∀ b u,b≠z→H b=some u→H' b=some u
theorem SB.refl (z:Addr)(H:Hp):SB z H H:=fun _ _ _ h=>h
theorem SB.trans {z:Addr}{H H1 H2:Hp}(a:SB z H H1)(b:SB z H1 H2):SB z H H2:=fun c u n h=>b c u n (a c u n h)
theorem jv {z:Addr}{H H':Hp}(e:Same H H'):SB z H H':=fun b u _ h=>e b u h
theorem qTg {z:Addr}{H:Hp}{o:HO}:SB z H (upd H z o):=fun b u n h=>by rw [qW n];exact h
theorem SB.ts {z:Addr}{H H':Hp}{xs:List V}(e:SB z H H')(h:H z=some (.lst xs)):TS H H':=fun b ys hb=>e b _ (qJ9 hb h (by intro q;cases q)) hb
inductive qD3 (vs:List V)(H:Hp)(Q:VK)(_:XK):Prop
| mk (t b:Int) (_:vs=[.int t,.int b]) (_:0 < b) (_:b.natAbs < 2 ^ 8000) (_:qPe H Q (jk t b) (jU t b))
theorem vp (T:Tx K mg a):FnOk P w K mg base CX0 1 a.A78 a.B78 ["_law_top","_law_bottom"] qD3:=by
 refine T.D78.F.ok xX (fun vs H Q E h=>?_) (fun cdv A outer s H vs Q E hr h=>?_)
 · obtain⟨t,b,rfl,_⟩:=h
   rfl
 refine qM fun _ Y=>?_
 obtain⟨t,b,rfl,hb,hb2,k⟩:=h
 apply Y
 refine⟨_,(qD (qX 2 xX.nd (qc qFs rfl T.b_abs rfl (qA (pv 0) qE)))
  (qD (qX 3 xX.nd (pv 1))
  (qD (qF7 PassesOwn.never (qH zP (pv 3) qG (qN _)) (qF (qTy (i:=2) (j:=3) rfl xX.nd rfl rfl (by decide) rfl rfl (qA (pv 3) (qA (qO qq (pv 2) (pv 3)) qE)) rfl)))
  (qF (qL (qo (qA (qO qg (pv 0) (pv 2)) (qA (qO qg (pv 1) (pv 2)) qE)))))))),?_⟩
 try dsimp only [jc,qj]
 refine⟨_,rfl,t,rfl,_,rfl,?_⟩
 refine qKt (fun σ H'=>H'=H∧∃ x y:Int,σ=[some (.int t),some (.int b),some (.int x),some (.int y)]∧0≤x∧0≤y∧Int.gcd x y=Int.gcd t b)
  (fun σ _=>match σ with | [_,_,_,some (.int y)]=>y.natAbs | _=>0) ⟨rfl,_,_,rfl,?_,by omega,?_⟩ ?_ ?_
 · split <;> omega
 · have e1:(if t < 0 then -t else t)=((t.natAbs:Nat):Int):=by split <;> omega
   rw [e1]
   rfl
 · rintro σ H1 ⟨rfl,x,y,rfl,h0,h1,e⟩
   refine⟨_,rfl,rfl,_,rfl,?_⟩
   refine ju (fun c=>?_) (fun c=>?_)
   · have hy:y≠0:=by simpa using c
     refine⟨_,rfl,_,rfl,_,rfl,_,_,rfl,rfl,hy,_,_,rfl,⟨rfl,y,x.fmod y,rfl,h1,Int.fmod_nonneg_of_pos x (by omega),?_⟩,?_⟩
     · rw [qLg];exact e
     · exact qM6 x y hy
   · have hy:y=0:=by simpa using c
     refine qM fun _ Y=>?_
     subst hy
     have e2:x=sg t b:=by
      unfold sg
      rw [if_neg (by omega),← e,Int.gcd_zero_right]
      omega
     obtain⟨d1,d2⟩:=qK8 (t:=t) (b:=b) (by omega) hb2
     apply Y
     have q':qPe H1 Q (t.fdiv x) (b.fdiv x):=by rw [e2];exact k
     exact⟨_,rfl,_,rfl,_,_,rfl,rfl,(by rw [e2];exact d1),_,rfl,_,rfl,_,_,rfl,rfl,(by rw [e2];exact d2),sL2,q'⟩
 · rintro σ H1 Q1 Q2 hq h
   refine qM fun _ Y=>?_
   obtain⟨v,e,s,k,hk,z⟩:=h
   apply Y
   exact⟨v,e,s,k,hk,hq _ _ z⟩
theorem qE6 {H:Hp}{zx:Addr}{ys:List Int}{x:Int}{Q:VK}(h:H zx=some (.lst ((ys++[x]).map V.int)))(q:∀ H',SB zx H H'→H' zx=some (.lst (ys.map V.int))→(∀ b,b≠zx→H' b=H b)→Q (.int x) H'):qVz (.ref zx) [] H Q:=by
 refine⟨zx,_,.int x,rfl,rfl,h,?_,?_⟩
 · rw [List.map_append,List.length_append,List.length_map]
   simp
 · have e:((ys++[x]).map V.int).dropLast=ys.map V.int:=by rw [List.map_append];simp
   rw [e]
   exact q _ qTg qB fun b hb=>qW hb
theorem xA {α:Type}{xs:List α}{n:Nat}(h:xs.length=n+1):∃ ys x,xs=ys++[x]∧ys.length=n:=by
 have hne:xs≠[]:=by intro q;rw [q] at h;simp at h
 exact⟨xs.dropLast,xs.getLast hne,(List.dropLast_concat_getLast hne).symm,by rw [List.length_dropLast,h];rfl⟩
def RE (H:Hp)(re:Addr)(A:Int):Prop:=Rd H re (.dK [(Sum.inr "a",.int A),(Sum.inr "reelb",.int 1000000000)])∧60≤A∧A < 360
theorem qUj {z:Addr}{H H':Hp}(e:SB z H H'){a:Addr}{u:HO}(n:a≠z)(h:Rd H a u):Rd H' a u:=by
 rcases h with h | ⟨o,h⟩
 · exact .inl (e _ _ n h)
 · exact .inr ⟨o,e _ _ n h⟩
theorem RE.ne {H:Hp}{re z:Addr}{A:Int}{xs:List V}(h:RE H re A)(hz:H z=some (.lst xs)):re≠z:=by
 rcases h.1 with q | ⟨o,q⟩
 · exact qJ9 q hz (by intro q;cases q)
 · exact qJ9 q hz (by intro q;cases q)
theorem RE.sb {z:Addr}{H H':Hp}(e:SB z H H'){re:Addr}{A:Int}(n:re≠z)(h:RE H re A):RE H' re A:=⟨qUj e n h.1,h.2⟩
theorem RE.same {H H':Hp}(e:Same H H'){re:Addr}{A:Int}(h:RE H re A):RE H' re A:=⟨qJh e h.1,h.2⟩
theorem RE.ga {H:Hp}{re:Addr}{A:Int}(h:RE H re A):DGet H re (.str "a") (some (.int A)):=.inl ⟨_,Sum.inr "a",h.1,rfl,rfl⟩
theorem RE.gb {H:Hp}{re:Addr}{A:Int}(h:RE H re A):DGet H re (.str "reelb") (some (.int 1000000000)):=.inl ⟨_,Sum.inr "reelb",h.1,rfl,rfl⟩
def stF (lo rs to bo len:Int):Int:=if to < 0 then lo*7*bo+rs*bo - 7*(len - 1)*to else lo*7*bo+rs*bo
def qBm (i:Int):Int:=if i < 0 then -i else i
def CF (A:Int)(m:Im):Prop:=∃ (nm:Str) (N lo rs to bo len:Int),((nm="a"∧N=A)∨(nm="reelb"∧N=1000000000))∧1≤len∧len≤10∧-6≤to∧to≤6∧1≤bo∧bo≤5∧0≤lo∧lo+(((len - 1)*qBm to).fdiv bo+1) < N∧0≤rs∧rs < 7∧
 m= .clip nm (jk (stF lo rs to bo len) (7*bo)) (jU (stF lo rs to bo len) (7*bo)) (jk to bo) (jU to bo) len
theorem qKs {x y X Y:Int}(hx:-X≤x∧x≤X)(hy:-Y≤y∧y≤Y)(hX:0≤X)(hY:0≤Y):-(X*Y)≤x*y∧x*y≤X*Y:=by
 have h1:(x*y).natAbs≤X.natAbs*Y.natAbs:=by
  rw [Int.natAbs_mul]
  exact Nat.mul_le_mul (by omega) (by omega)
 have h2:((X.natAbs*Y.natAbs:Nat):Int)=X*Y:=by
  rw [Int.natCast_mul]
  have e1:(X.natAbs:Int)=X:=by omega
  have e2:(Y.natAbs:Int)=Y:=by omega
  rw [e1,e2]
 omega
theorem qT7 {lo rs to bo len:Int}(l0:0≤lo)(l1:lo≤1000000000)(r0:0≤rs)(r1:rs < 7)(t0:-6≤to)(t1:to≤6)(b0:1≤bo)(b1:bo≤5)(n0:1≤len)(n1:len≤10):(stF lo rs to bo len).natAbs < 2 ^ 60:=by
 have h1:=qKs (x:=lo*7) (y:=bo) (X:=7000000000) (Y:=5) ⟨by omega,by omega⟩ ⟨by omega,by omega⟩ (by decide) (by decide)
 have h2:=qKs (x:=rs) (y:=bo) (X:=7) (Y:=5) ⟨by omega,by omega⟩ ⟨by omega,by omega⟩ (by decide) (by decide)
 have h3:=qKs (x:=7*(len - 1)) (y:=to) (X:=63) (Y:=6) ⟨by omega,by omega⟩ ⟨by omega,by omega⟩ (by decide) (by decide)
 unfold stF
 split <;> omega
def rlE (A:Int):Rls:=fun n=>if n="a" then some A else if n="reelb" then some 1000000000 else none
theorem CF.it {A:Int}{m:Im}(h:CF A m)(hA0:60≤A)(hA:A < 360):ItR (rlE A) m∧ImB m∧1≤m.mo∧m.mo≤10:=by
 obtain⟨nm,N,lo,rs,to,bo,len,hn,n0,n1,t0,t1,b0,b1,l0,l1,r0,r1,rfl⟩:=h
 have hf:0≤((len - 1)*qBm to).fdiv bo:=by
  have:=qt (p:=(len - 1)*qBm to) (q:=bo) (by omega)
  have h0:0≤(len - 1)*qBm to:=Int.mul_nonneg (by omega) (by unfold qBm;split <;> omega)
  have:¬ (((len - 1)*qBm to).fdiv bo+1≤0):=fun q=>by
   have:=Int.mul_le_mul_of_nonneg_right (c:=bo) q (by omega)
   omega
  omega
 have lo1:lo≤1000000000:=by rcases hn with ⟨_,rfl⟩ | ⟨_,rfl⟩ <;> omega
 have hs:=qT7 l0 lo1 r0 r1 t0 t1 b0 b1 n0 n1
 have p110:∀ {i:Int},i.natAbs < 2 ^ 60→i.natAbs < 2 ^ 110:=fun h=>Nat.lt_of_lt_of_le h (Nat.pow_le_pow_right (by decide) (by decide))
 have e60:(100:Nat) < 2 ^ 60:=by decide
 have g1:qOq 110 (jk (stF lo rs to bo len) (7*bo)) (jU (stF lo rs to bo len) (7*bo)):=qK4 (by omega) (p110 hs) (p110 (by omega))
 have g2:qOq 110 (jk to bo) (jU to bo):=qK4 (by omega) (p110 (by omega)) (p110 (by omega))
 have hr:rlE A nm=some N:=by
  unfold rlE
  rcases hn with ⟨rfl,rfl⟩ | ⟨rfl,rfl⟩
  · rw [if_pos rfl]
  · rw [if_neg (by decide+kernel),if_pos rfl]
 have hc:Rc nm (jk (stF lo rs to bo len) (7*bo)) (jU (stF lo rs to bo len) (7*bo)) (jk to bo) (jU to bo) len (rlE A) N:=⟨g1,g2,Nat.lt_of_le_of_lt (show len.natAbs≤10 by omega) (by decide),n0,hr,Nat.lt_of_le_of_lt (show N.natAbs≤1000000000 by rcases hn with ⟨_,rfl⟩ | ⟨_,rfl⟩ <;> omega) (by decide)⟩
 refine⟨fun n p q r s l e=>?_,hc.bn.mono (m:=700),n0,n1⟩
 cases e
 exact⟨N,hc⟩
inductive qIr (vs:List V)(H:Hp)(Q:VK)(_:XK):Prop
| mk (zx re:Addr) (xs:List Int) (A sz:Int) (_:vs=[.ref zx,.ref re,.int sz]) (_:H zx=some (.lst (xs.map V.int))) (_:6≤xs.length) (_:RE H re A) (_:1≤sz) (_:sz≤10) (_:∀ (v:V) (m:Im) (xs':List Int) (H':Hp),SB zx H H'→H' zx=some (.lst (xs'.map V.int))→xs'.length+6=xs.length→CF A m→IsI H' m v→Q v H')
theorem vW (T:Tx K mg a):FnOk P w K mg base CX0 2 a.A79 a.B79 ["_law_xs","_law_reels_here","_law_size"] qIr:=by
 refine T.D79.F.ok qy (fun vs H Q E h=>?_) (fun cdv A outer s H vs Q E hr h=>?_)
 · obtain⟨zx,re,xs,A',sz,rfl,_⟩:=h
   rfl
 refine qM fun _ Y=>?_
 obtain⟨zx,re,xs,A',sz,rfl,hz,hl,hre,hs1,hs2,kk⟩:=h
 have hu:=hr.units
 have hu1:(A.deeper (PyProof.Rows.envOfC (Str.ofString "_law_clip") (qI kF) s.heap.objs.size a.A79 cdv)).units+1 < cLine:=by omega
 obtain⟨n,hn⟩:∃ n,xs.length=n+6:=⟨xs.length - 6,by omega⟩
 obtain⟨y1,x1,rfl,l1⟩:=xA (n:=n+5) (by omega)
 obtain⟨y2,x2,rfl,l2⟩:=xA (n:=n+4) l1
 obtain⟨y3,x3,rfl,l3⟩:=xA (n:=n+3) l2
 obtain⟨y4,x4,rfl,l4⟩:=xA (n:=n+2) l3
 obtain⟨y5,x5,rfl,l5⟩:=xA (n:=n+1) l4
 obtain⟨y6,x6,rfl,l6⟩:=xA (n:=n) l5
 apply Y
 have nre:=hre.ne hz
 refine⟨_,(qD (qX 3 qy.nd (jK q9 (qr (qA qS (qA qS qE))) (qO qq (qO qg (j6 F.plainAttrs_list F.slot_list_pop F.type_list_pop j8 (pv 0)) qG) qG) (fun _ _=>rfl)))
  (qD (qX 4 qy.nd (qO qp qG (qO qq (qO qg (j6 F.plainAttrs_list F.slot_list_pop F.type_list_pop j8 (pv 0)) qG) (pv 2))))
  (qD (qX 5 qy.nd (qO jM (qO qq (qO qg (j6 F.plainAttrs_list F.slot_list_pop F.type_list_pop j8 (pv 0)) qG) qG) qG))
  (qD (qX 6 qy.nd (qO qp qG (qO qq (qO qg (j6 F.plainAttrs_list F.slot_list_pop F.type_list_pop j8 (pv 0)) qG) qG)))
  (qD (qX 7 qy.nd (qO qp (qO qg (qO jC (qO jM (pv 4) qG) (qc qFs rfl T.b_abs rfl (qA (pv 5) qE))) (pv 6)) qG))
  (qD (kM (qd (qH qGb (pv 7) (qAh hu1 (pv 1) (pv 3) (fun _ _=>rfl)) (qN _)) (qD (qX 5 qy.nd qG)
  (qF (qX 7 qy.nd qG))) qP))
  (qD (qX 8 qy.nd (qO qq (j6 F.plainAttrs_list F.slot_list_pop F.type_list_pop j8 (pv 0)) (qO jM (qAh hu1 (pv 1) (pv 3) (fun _ _=>rfl)) (pv 7))))
  (qD (qX 9 qy.nd (qO qq (qO qg (j6 F.plainAttrs_list F.slot_list_pop F.type_list_pop j8 (pv 0)) qG) qG))
  (qD (qX 10 qy.nd (qO qp (qO jC (qO jC (pv 8) qG) (pv 6)) (qO jC (pv 9) (pv 6))))
  (qD (kM (qd (qH xx (pv 5) qG (qN _)) (qF (qX 10 qy.nd (qO jM (pv 10) (qO jC (qO jC qG (qO jM (pv 4) qG)) (pv 5))))) qP))
  (qF (qL (qo (qA qS (qA (pv 3) (qA (qK T.D78 (vp T) hr rfl (qA (pv 10) (qA (qO jC qG (pv 6)) qE))) (qA (qK T.D78 (vp T) hr rfl (qA (pv 5) (qA (pv 6) qE))) (qA (pv 4) qE)))))))))))))))))),?_⟩
 try dsimp only [jc,qj]
 refine⟨sL2,fun ld hld=>?_⟩
 have w0:=qC hld (.lst [.str "a",.str "reelb"])
 have hz0:=w0 _ _ hz
 have nld:ld≠zx:=(qU hz hld).symm
 refine⟨_,rfl,.inl ⟨rfl,_,SqL.of hz0⟩,qE6 hz0 fun H1 s1 hz1 k1=>?_⟩
 have f1:=fm (x1.fdiv 3) (show (0:Int) < 2 by decide)
 refine qM fun _ Y=>?_
 obtain⟨v,hv,hor⟩:=at2 (x:=V.str "a") (y:=.str "reelb") f1.1 f1.2
 apply Y
 refine⟨_,_,rfl,rfl,cdB (by decide) (by decide),_,_,rfl,rfl,nz,ld,_,_,v,rfl,rfl,SqL.of (s1 _ _ nld qB),hv,?_⟩
 have sb1:SB zx H H1:=(jv w0).trans s1
 have re1:=hre.sb sb1 nre
 refine qM fun _ Y=>?_
 obtain⟨nm,N,rfl,hnm,hget⟩:∃ (nm:Str) (N:Int),v= .str nm∧((nm="a"∧N=A')∨(nm="reelb"∧N=1000000000))∧∀ {H':Hp},RE H' re A'→DGet H' re (.str nm) (some (.int N)):=by
  rcases hor with rfl | rfl
  · exact⟨"a",A',rfl,.inl ⟨rfl,rfl⟩,fun h=>h.ga⟩
  · exact⟨"reelb",1000000000,rfl,.inr ⟨rfl,rfl⟩,fun h=>h.gb⟩
 apply Y
 have hN:60≤N∧N≤1000000000:=by
  have:=hre.2
  rcases hnm with ⟨_,rfl⟩ | ⟨_,rfl⟩ <;> omega
 refine⟨_,rfl,.inl ⟨rfl,_,SqL.of hz1⟩,qE6 hz1 fun H2 s2 hz2 k2=>?_⟩
 have f2:=fm (x2.fdiv 3) (show (0:Int) < sz by omega)
 refine⟨_,_,rfl,rfl,cdB (by decide) (by decide),_,rfl,_,_,rfl,rfl,(by omega),_,_,rfl,rfl,?_⟩
 refine⟨_,rfl,.inl ⟨rfl,_,SqL.of hz2⟩,qE6 hz2 fun H3 s3 hz3 k3=>?_⟩
 have f3:=fm (x3.fdiv 3) (show (0:Int) < 13 by decide)
 refine⟨_,_,rfl,rfl,cdB (by decide) (by decide),_,_,rfl,rfl,nz,_,_,rfl,rfl,?_⟩
 refine⟨_,rfl,.inl ⟨rfl,_,SqL.of hz3⟩,qE6 hz3 fun H4 s4 hz4 k4=>?_⟩
 have f4:=fm (x4.fdiv 3) (show (0:Int) < 5 by decide)
 refine⟨_,_,rfl,rfl,cdB (by decide) (by decide),_,_,rfl,rfl,nz,_,_,rfl,rfl,?_⟩
 have sb4:SB zx H H4:=((sb1.trans s2).trans s3).trans s4
 dsimp only
 generalize hlen:1+(x2.fdiv 3).fmod sz=len
 generalize hto:(x3.fdiv 3).fmod 13 - 6=to
 generalize hbo:1+(x4.fdiv 3).fmod 5=bo
 have n0:1≤len:=by omega
 have n1:len≤10:=by omega
 have t0:-6≤to:=by omega
 have t1:to≤6:=by omega
 have b0:1≤bo:=by omega
 have b1:bo≤5:=by omega
 refine⟨_,rfl,_,_,rfl,rfl,_,rfl,_,rfl,_,_,rfl,rfl,cmL (by omega) (by omega),_,rfl,_,_,rfl,rfl,cdB (by omega) (by omega),_,_,rfl,rfl,?_⟩
 have ha:(if to < 0 then -to else to)=qBm to:=rfl
 rw [ha]
 have pos:∀ i:Int,0≤i→0≤((len - 1)*i).fdiv bo:=fun i hi=>by
  have h1:=qt (p:=(len - 1)*i) (q:=bo) (by omega)
  have h0:0≤(len - 1)*i:=Int.mul_nonneg (by omega) hi
  have:¬ (((len - 1)*i).fdiv bo+1≤0):=fun q=>by
   have:=Int.mul_le_mul_of_nonneg_right (c:=bo) q (by omega)
   omega
  omega
 have abs0:∀ i:Int,0≤qBm i:=fun i=>by unfold qBm;split <;> omega
 refine⟨fun σ' H'=>H'=H4∧∃ to:Int,σ'=[some (.ref zx),some (.ref re),some (.int sz),some (.str nm),some (.int len),some (.int to),some (.int bo),some (.int (((len - 1)*qBm to).fdiv bo+1)),none,none,none]∧-6≤to∧to≤6∧((len - 1)*qBm to).fdiv bo+1 < N,?_,?_⟩
 · refine⟨_,rfl,_,rfl,_,rfl,re,_,rfl,hget (hre.sb sb4 nre),_,_,rfl,rfl,_,rfl,ju (fun _=>?_) (fun c=>?_)⟩
   · have ez:((len - 1)*qBm 0).fdiv bo+1=1:=by
      have:qBm 0=0:=rfl
      rw [this,Int.mul_zero,Int.zero_fdiv];rfl
     refine⟨rfl,0,?_,by decide,by decide,by rw [ez];omega⟩
     rw [ez]
     rfl
   · exact⟨rfl,to,rfl,t0,t1,by simpa using c⟩
 rintro σ' H' ⟨rfl,to,rfl,t0,t1,hfar⟩
 have hf0:=pos (qBm to) (abs0 to)
 refine⟨_,rfl,.inl ⟨rfl,_,SqL.of hz4⟩,qE6 hz4 fun H5 s5 hz5 k5=>?_⟩
 have sb5:=sb4.trans s5
 refine⟨_,rfl,_,rfl,re,_,rfl,hget (hre.sb sb5 nre),_,rfl,_,_,rfl,rfl,_,_,rfl,rfl,(by omega),?_⟩
 have f5:=fm x5 (show (0:Int) < N - (((len - 1)*qBm to).fdiv bo+1) by omega)
 dsimp only
 generalize x5.fmod (N - (((len - 1)*qBm to).fdiv bo+1))=lo at f5 ⊢
 refine⟨_,rfl,.inl ⟨rfl,_,SqL.of hz5⟩,qE6 hz5 fun H6 s6 hz6 k6=>?_⟩
 have sb6:=sb5.trans s6
 have f6:=fm (x6.fdiv 3) (show (0:Int) < 7 by decide)
 refine⟨_,_,rfl,rfl,cdB (by decide) (by decide),_,_,rfl,rfl,nz,?_⟩
 dsimp only
 generalize (x6.fdiv 3).fmod 7=rs at f6 ⊢
 have m1:=qKs (x:=lo*7) (y:=bo) (X:=7000000000) (Y:=5) ⟨by omega,by omega⟩ ⟨by omega,by omega⟩ (by decide) (by decide)
 refine⟨_,rfl,_,_,rfl,rfl,cmR (by decide) (by decide),_,rfl,_,_,rfl,rfl,cmR (by omega) (by omega),_,rfl,_,rfl,_,_,rfl,rfl,cmR (by omega) (by omega),_,_,rfl,rfl,?_⟩
 refine⟨fun σ' H'=>H'=H6∧∃ st:Int,σ'=[some (.ref zx),some (.ref re),some (.int sz),some (.str nm),some (.int len),some (.int to),some (.int bo),some (.int (((len - 1)*qBm to).fdiv bo+1)),some (.int lo),some (.int rs),some (.int st)]∧st=stF lo rs to bo len,?_,?_⟩
 · refine⟨_,rfl,_,_,rfl,rfl,_,rfl,ju (fun c=>?_) (fun c=>?_)⟩
   · have c':to < 0:=by simpa using c
     refine⟨_,rfl,_,rfl,_,_,rfl,rfl,_,_,rfl,rfl,cmL (by decide) (by decide),_,rfl,_,_,rfl,rfl,cmR (by omega) (by omega),_,_,rfl,rfl,rfl,_,rfl,?_⟩
     unfold stF;rw [if_pos c']
   · have c':¬ to < 0:=by simpa using c
     refine⟨rfl,_,rfl,?_⟩
     unfold stF;rw [if_neg c']
 rintro σ' H' ⟨rfl,st,rfl,hst⟩
 refine⟨_,rfl,_,rfl,_,rfl,_,_,rfl,rfl,cmL (by decide) (by decide),st,7*bo,rfl,by omega,?_,fun p hp=>?_⟩
 · have:(7*bo).natAbs < 2 ^ 6:=by omega
   exact Nat.lt_of_lt_of_le this (Nat.pow_le_pow_right (by decide) (by decide))
 have w7:=qC hp (.tup [.int (jk st (7*bo)),.int (jU st (7*bo))])
 refine⟨_,rfl,_,rfl,to,bo,rfl,by omega,?_,fun q hq=>?_⟩
 · have:bo.natAbs < 2 ^ 6:=by omega
   exact Nat.lt_of_lt_of_le this (Nat.pow_le_pow_right (by decide) (by decide))
 have w8:=qC hq (.tup [.int (jk to bo),.int (jU to bo)])
 refine⟨_,rfl,sL5,fun u hu'=>?_⟩
 have w9:=qC hu' (.tup [.str "clip",.str nm,.ref p,.ref q,.int len])
 have w79:=(w7.trans w8).trans w9
 refine kk _ (.clip nm (jk st (7*bo)) (jU st (7*bo)) (jk to bo) (jU to bo) len) y6 _ (sb6.trans (jv w79)) (w79 _ _ hz6) (by simp) ?_ (isC qB (w9 _ _ (w8 _ _ qB)) (w9 _ _ qB))
 exact⟨nm,N,lo,rs,to,bo,len,hnm,n0,n1,t0,t1,b0,b1,f5.1,by omega,f6.1,f6.2,by rw [hst]⟩
def TI (A:Int)(m:Im):Prop:=(∃ l,m= .gap l∧1≤l∧l≤10)∨(∃ b l,m= .nest "low" b l∧0≤b∧b < 9∧1≤l∧l≤10)∨CF A m
def GG (ms:List Im):Prop:=∀ (i:Nat) (l l':Int),ms[i]? =some (.gap l)→ms[i+1]? =some (.gap l')→False
def qBu (ms:List Im):Prop:=∀ l,ms[ms.length - 1]?≠some (.gap l)
theorem qJ4 {ms:List Im}{m:Im}(h:GG ms)(hl:qBu ms∨∀ l,m≠ .gap l):GG (ms++[m]):=by
 intro i l l' h1 h2
 have hi:i+1 < (ms++[m]).length:=(glt h2)
 rw [List.length_append,List.length_singleton] at hi
 by_cases hc:i+1 < ms.length
 · rw [List.getElem?_append_left (by omega)] at h1
   rw [List.getElem?_append_left hc] at h2
   exact h i l l' h1 h2
 · have e:i+1=ms.length:=by omega
   rw [List.getElem?_append_left (by omega)] at h1
   rw [List.getElem?_append_right (by omega),e,Nat.sub_self] at h2
   have e2:m= .gap l':=by simpa using h2
   have e3:ms.length - 1=i:=by omega
   rcases hl with hl | hl
   · exact hl l (by rw [e3];exact h1)
   · exact hl l' e2
theorem qUe {ms:List Im}(h:GG ms):GG ms.dropLast:=by
 intro i l l' h1 h2
 have hi:=(glt h2)
 rw [List.length_dropLast] at hi
 rw [List.getElem?_dropLast,if_pos (by omega)] at h1 h2
 exact h i l l' h1 h2
theorem qTh {ms:List Im}{l:Int}(h:GG ms)(hl:ms[ms.length - 1]? =some (.gap l)):qBu ms.dropLast:=by
 intro l' h1
 have hi:=(glt h1)
 rw [List.length_dropLast] at hi h1
 rw [List.getElem?_dropLast,if_pos (by omega)] at h1
 have e:ms.length - 1 - 1+1=ms.length - 1:=by omega
 exact h _ l' l h1 (by rw [e];exact hl)
theorem qFv {z y:Addr}{H H':Hp}{o:HO}(e:SB z H H')(h:H y=none):SB z H (upd H' y o):=fun b u n hb=>by
 rw [qW (qU hb h)];exact e b u n hb
theorem qJ6 {H:Hp}{ms:List Im}{vs:List V}(h:IsIs H ms vs)(hne:ms≠[]):∃ v m,vs[vs.length - 1]? =some v∧ms[ms.length - 1]? =some m∧IsI H m v:=by
 have hl:0 < ms.length:=List.length_pos_iff.mpr hne
 have hi:vs.length - 1 < vs.length:=by rw [h.len];omega
 have ev:vs[vs.length - 1]? =some vs[vs.length - 1]:=List.getElem?_eq_getElem hi
 obtain⟨m,h1,h2⟩:=h.get ev
 refine⟨_,m,ev,?_,h2⟩
 rw [h.len] at h1
 exact h1
inductive qF2 (vs:List V)(H:Hp)(Q:VK)(_:XK):Prop
| mk (zx re:Addr) (xs:List Int) (A:Int) (_:vs=[.ref zx,.ref re,.int 10]) (_:H zx=some (.lst (xs.map V.int))) (_:36≤xs.length) (_:RE H re A) (_:∀ (y:Addr) (ms:List Im) (xs':List Int) (H':Hp),SB zx H H'→H y=none→H' zx=some (.lst (xs'.map V.int))→xs.length≤xs'.length+36→Tr H' y ms→ms.length≤5→(∀ m∈ms,TI A m)→GG ms→qBu ms→Q (.ref y) H')
theorem qGe (T:Tx K mg a):FnOk P w K mg base CX0 3 a.A80 a.B80 ["_law_xs","_law_reels_here","_law_size"] qF2:=by
 refine T.D80.F.ok xw (fun vs H Q E h=>?_) (fun cdv A outer s H vs Q E hr h=>?_)
 · obtain⟨zx,re,xs,A',rfl,_⟩:=h
   rfl
 refine qM fun _ Y=>?_
 obtain⟨zx,re,xs,A',rfl,hz,hl,hre,kk⟩:=h
 apply Y
 have hu:=hr.units
 have nre:=hre.ne hz
 refine⟨_,(qD (qX 3 xw.nd (qr qE))
  (qD (xg PassesOwn.never rfl (jg rfl T.b_range (qA (qO qq (qO qg (j6 F.plainAttrs_list F.slot_list_pop F.type_list_pop j8 (pv 0)) qG) qG) qE)) (qz (i:=4) xw.nd rfl (Or.inl rfl)) (qD (qX 5 xw.nd (qO qq (qO qg (j6 F.plainAttrs_list F.slot_list_pop F.type_list_pop j8 (pv 0)) qG) qG))
  (qF (qd (qBf (PW.pt (xH (qH jX (pv 5) qG (qN _)) (jq (PW.pt (j2 (qH (qQo hu) (pv 3) (qr qE) (qN _)) (jV (qH zP (qJ (jK q9 (pv 3) (kh xP qG) (fun _ _=>rfl))) qS (qN _))))))))) (qF (jn (qDj F.plainAttrs_list F.slot_list_append F.type_list_append jm (pv 3) (qA (qo (qA qS (qA (qO qp qG (qO qq (qO qg (j6 F.plainAttrs_list F.slot_list_pop F.type_list_pop j8 (pv 0)) qG) (pv 2))) qE))) qE)))) (qF (qd (qH jX (pv 5) qG (qN _)) (qF (jn (qDj F.plainAttrs_list F.slot_list_append F.type_list_append jm (pv 3) (qA (qo (qA qS (qA qS (qA (qO qq (qO qg (j6 F.plainAttrs_list F.slot_list_pop F.type_list_pop j8 (pv 0)) qG) qG) (qA (qO qp qG (qO qq (qO qg (j6 F.plainAttrs_list F.slot_list_pop F.type_list_pop j8 (pv 0)) qG) (pv 2))) qE))))) qE)))) (qF (jn (qDj F.plainAttrs_list F.slot_list_append F.type_list_append jm (pv 3) (qA (qK T.D79 (vW T) hr rfl (qA (pv 0) (qA (pv 1) (qA (pv 2) qE)))) qE))))))))))
  (qD (qd (qBf (PW.pt (xH (qH (qN2 hu) (pv 3) (qr qE) (qN _)) (jq (qH jX (qJ (jK q9 (pv 3) (kh xP qG) (fun _ _=>rfl))) qS (qN _)))))) (qF (jn (j6 F.plainAttrs_list F.slot_list_pop F.type_list_pop j8 (pv 3)))) qP)
  (qF (qL (pv 3)))))),?_⟩
 try dsimp only [jc,qj]
 refine⟨sL0,fun y hy=>?_⟩
 have w0:=qC hy (.lst [])
 have ny:y≠zx:=(qU hz hy).symm
 refine qM fun _ Y=>?_
 obtain⟨n,hn⟩:∃ n,xs.length=n+1:=⟨xs.length - 1,by omega⟩
 obtain⟨y1,x1,rfl,l1⟩:=xA hn
 apply Y
 refine⟨_,rfl,.inl ⟨rfl,_,SqL.of (w0 _ _ hz)⟩,qE6 (w0 _ _ hz) fun H1 s1 hz1 k1=>?_⟩
 have f1:=fm (x1.fdiv 3) (show (0:Int) < 6 by decide)
 refine⟨_,_,rfl,rfl,cdB (by decide) (by decide),_,_,rfl,rfl,nz,_,rfl,by omega,by omega,we (n:=((x1.fdiv 3).fmod 6).toNat) (fun i σ H'=>∃ (o1 o2:Option V) (ms:List Im) (vs:List V) (xs':List Int),σ=[some (.ref zx),some (.ref re),some (.int 10),some (.ref y),o1,o2]∧H' zx=some (.lst (xs'.map V.int))∧n≤xs'.length+7*i∧H' y=some (.lst vs)∧IsIs H' ms vs∧ms.length≤i∧(∀ m∈ms,TI A' m)∧GG ms∧SB zx H H')
  ⟨none,none,[],[],y1,rfl,hz1,by omega,s1 _ _ ny qB,trivial,by simp,by simp,by intro i l l' h1;simp at h1,(jv w0).trans s1⟩ ?_ ?_⟩
 · rintro i σ H' hi ⟨o1,o2,ms,vs,xs',rfl,hzx,hxl,hv,hiv,hml,hti,hgg,sb⟩
   refine qM fun _ Y=>?_
   obtain⟨n',hn'⟩:∃ n,xs'.length=n+7:=⟨xs'.length - 7,by omega⟩
   obtain⟨u1,p1,rfl,lu1⟩:=xA (n:=n'+6) (by omega)
   apply Y
   have hvl:vs.length≤i:=by rw [hiv.len];exact hml
   refine⟨_,rfl,.inl ⟨rfl,_,SqL.of hzx⟩,qE6 hzx fun H2 s2 hz2 k2=>?_⟩
   have hiv2:=hiv.ts (s2.ts hzx)
   have hv2:=s2 _ _ ny hv
   have sb2:=sb.trans s2
   refine⟨_,_,rfl,rfl,cdB (by decide) (by decide),_,_,rfl,rfl,nz,?_⟩
   refine⟨fun b H'=>Same H2 H'∧(b=true→qBu ms),?_,?_⟩
   · refine⟨_,rfl,rfl,_,rfl,ju (fun _=>?_) (fun _=>⟨Same.refl _,by simp⟩)⟩
     refine⟨_,rfl,sL0,fun en hen=>qU1 ⟨vs,(qC hen _) _ _ hv2,hiv2.ts (qZ (qC hen _))⟩ qB ⟨_,rfl,?_⟩⟩
     have w3:=qC hen (.lst [])
     by_cases hne:ms=[]
     · have e:ms.isEmpty=true:=by rw [hne];rfl
       rw [e]
       exact jI ⟨w3,fun _ l h=>by rw [hne] at h;simp at h⟩
     · have e:ms.isEmpty=false:=by
        cases ms with
        | nil=>exact absurd rfl hne
        | cons=>rfl
       rw [e]
       refine qm ?_
       refine qM fun _ Y=>?_
       obtain⟨v,m,h1,h2,h4⟩:=qJ6 (hiv2.ts (qZ w3)) hne
       obtain⟨zi,xi,rfl,hzi,h0,_⟩:=h4.opn
       apply Y
       refine⟨_,rfl,_,rfl,y,_,_,_,rfl,rfl,SqL.of (w3 _ _ hv2),qE7 h1,zi,xi,_,_,rfl,rfl,SqT.of hzi,h0,rfl,_,rfl,w3,fun c l q=>?_⟩
       rw [h2] at q
       have q:m= .gap l:=Option.some.inj q
       subst q
       revert c
       show (!decide (V.str "gap"=V.str "gap"))=true→False
       simp
   rintro b H3 ⟨w3,hb⟩
   have hv3:=w3 _ _ hv2
   have hiv3:=hiv2.ts (qZ w3)
   have hz3:=w3 _ _ hz2
   have sb3:=sb2.trans (jv w3)
   cases b with
   | true=>
    refine jI ?_
    refine qM fun _ Y=>?_
    obtain⟨u2,p2,rfl,lu2⟩:=xA (n:=n'+5) lu1
    apply Y
    refine⟨_,rfl,.inl ⟨rfl,_,SqL.of hv3⟩,_,rfl,.inl ⟨rfl,_,SqL.of hz3⟩,qE6 hz3 fun H4 s4 hz4 k4=>?_⟩
    have f2:=fm (p2.fdiv 3) (show (0:Int) < 10 by decide)
    refine⟨_,_,rfl,rfl,cdB (by decide) (by decide),_,rfl,_,_,rfl,rfl,nz,_,_,rfl,rfl,sL2,fun g hg=>?_⟩
    have w5:=qC hg (.tup [.str "gap",.int (1+(p2.fdiv 3).fmod 10)])
    have hv5:=w5 _ _ (s4 _ _ ny hv3)
    refine⟨y,_,_,rfl,rfl,hv5,qY (by omega),?_⟩
    refine⟨_,_,ms++[.gap (1+(p2.fdiv 3).fmod 10)],_,u2,rfl,?_,by omega,qB,(((hiv3.ts (s4.ts hz3)).ts (qZ w5)).app (.one (isG qB))).ts (zZ hv5),by simp;omega,?_,qJ4 hgg (.inl (hb rfl)),qFv ((sb3.trans s4).trans (jv w5)) hy⟩
    · rw [qW ny.symm];exact w5 _ _ hz4
    · intro m hm
      rcases List.mem_append.mp hm with hm | hm
      · exact hti m hm
      · have:m= .gap (1+(p2.fdiv 3).fmod 10):=by simpa using hm
        exact .inl ⟨_,this,by omega,by omega⟩
   | false=>
    refine qm ?_
    refine⟨_,rfl,rfl,_,rfl,ju (fun _=>?_) (fun _=>?_)⟩
    · obtain⟨u2,p2,rfl,lu2⟩:=xA (n:=n'+5) lu1
      refine qM fun _ Y=>?_
      obtain⟨u3,p3,rfl,lu3⟩:=xA (n:=n'+4) lu2
      apply Y
      refine⟨_,rfl,.inl ⟨rfl,_,SqL.of hv3⟩,_,rfl,.inl ⟨rfl,_,SqL.of hz3⟩,qE6 hz3 fun H4 s4 hz4 k4=>?_⟩
      have f2:=fm (p2.fdiv 3) (show (0:Int) < 9 by decide)
      refine⟨_,_,rfl,rfl,cdB (by decide) (by decide),_,_,rfl,rfl,nz,_,rfl,.inl ⟨rfl,_,SqL.of hz4⟩,qE6 hz4 fun H5 s5 hz5 k5=>?_⟩
      have f3:=fm (p3.fdiv 3) (show (0:Int) < 10 by decide)
      refine⟨_,_,rfl,rfl,cdB (by decide) (by decide),_,rfl,_,_,rfl,rfl,nz,_,_,rfl,rfl,sL4,fun g hg=>?_⟩
      have w5:=qC hg (.tup [.str "nest",.str "low",.int ((p2.fdiv 3).fmod 9),.int (1+(p3.fdiv 3).fmod 10)])
      have hv5:=w5 _ _ (s5 _ _ ny (s4 _ _ ny hv3))
      refine⟨y,_,_,rfl,rfl,hv5,qY (by omega),?_⟩
      refine⟨_,_,ms++[.nest "low" ((p2.fdiv 3).fmod 9) (1+(p3.fdiv 3).fmod 10)],_,u3,rfl,?_,by omega,qB,((((hiv3.ts (s4.ts hz3)).ts (s5.ts hz4)).ts (qZ w5)).app (.one (isN qB))).ts (zZ hv5),by simp;omega,?_,qJ4 hgg (.inr fun l q=>nomatch q),qFv (((sb3.trans s4).trans s5).trans (jv w5)) hy⟩
      · rw [qW ny.symm];exact w5 _ _ hz5
      · intro m hm
        rcases List.mem_append.mp hm with hm | hm
        · exact hti m hm
        · have:m= .nest "low" ((p2.fdiv 3).fmod 9) (1+(p3.fdiv 3).fmod 10):=by simpa using hm
          exact .inr (.inl ⟨_,_,this,by omega,by omega,by omega,by omega⟩)
    · refine⟨_,rfl,.inl ⟨rfl,_,SqL.of hv3⟩,_,rfl,_,rfl,_,rfl,zx,re,u1,A',10,rfl,hz3,by omega,hre.sb sb3 nre,by decide,by decide,fun v m u' H4 s4 hz4 hl4 hcf hI=>?_⟩
      have hv5:=s4 _ _ ny hv3
      refine⟨y,_,_,rfl,rfl,hv5,qY (by omega),?_⟩
      have hng:∀ l,m≠ .gap l:=fun l q=>by
       obtain⟨_,_,_,_,_,_,_,_,_,_,_,_,_,_,_,_,_,_,e⟩:=hcf
       rw [q] at e
       cases e
      refine⟨_,_,ms++[m],_,u',rfl,?_,by omega,qB,((hiv3.ts (s4.ts hz3)).app (.one hI)).ts (zZ hv5),by simp;omega,?_,qJ4 hgg (.inr hng),qFv (sb3.trans s4) hy⟩
      · rw [qW ny.symm];exact hz4
      · intro m' hm
        rcases List.mem_append.mp hm with hm | hm
        · exact hti m' hm
        · have:m'=m:=by simpa using hm
          rw [this];exact .inr (.inr hcf)
 rintro σ H' ⟨o1,o2,ms,vs,xs',rfl,hzx,hxl,hv,hiv,hml,hti,hgg,sb⟩
 have hm5:ms.length≤5:=by omega
 have hxl':(y1++[x1]).length≤xs'.length+36:=by rw [hn];omega
 refine⟨fun b H2=>Same H' H2∧(b=true→∃ l,ms[ms.length - 1]? =some (.gap l))∧(b=false→qBu ms),?_,?_⟩
 · refine⟨_,rfl,sL0,fun en hen=>qUw ⟨vs,(qC hen _) _ _ hv,hiv.ts (qZ (qC hen _))⟩ qB ⟨_,rfl,?_⟩⟩
   have w3:=qC hen (.lst [])
   by_cases hne:ms=[]
   · have e:ms.isEmpty=true:=by rw [hne];rfl
     rw [e]
     exact qm ⟨w3,by simp,fun _ l h=>by rw [hne] at h;simp at h⟩
   · have e:ms.isEmpty=false:=by
      cases ms with
      | nil=>exact absurd rfl hne
      | cons=>rfl
     rw [e]
     refine jI ?_
     refine qM fun _ Y=>?_
     obtain⟨v,m,h1,h2,h4⟩:=qJ6 (hiv.ts (qZ w3)) hne
     obtain⟨zi,xi,rfl,hzi,h0,_⟩:=h4.opn
     apply Y
     refine⟨_,rfl,_,rfl,y,_,_,_,rfl,rfl,SqL.of (w3 _ _ hv),qE7 h1,zi,xi,_,_,rfl,rfl,SqT.of hzi,h0,rfl,_,rfl,w3,fun c=>?_,fun c l q=>?_⟩
     · obtain⟨l,rfl⟩:=zk (by simpa using c)
       exact⟨l,h2⟩
     · rw [h2] at q
       have q:m= .gap l:=Option.some.inj q
       subst q
       revert c
       show decide (V.str "gap"=V.str "gap")=false→False
       simp
 rintro b H2 ⟨w2,hb,hb'⟩
 have hv2:=w2 _ _ hv
 have hiv2:=hiv.ts (qZ w2)
 cases b with
 | true=>
  refine qM fun _ Y=>?_
  obtain⟨l,hl2⟩:=hb rfl
  have hne:ms≠[]:=by intro q;rw [q] at hl2;simp at hl2
  obtain⟨v,m,h1,h2,h4⟩:=qJ6 hiv2 hne
  apply Y
  refine jI ⟨_,rfl,.inl ⟨rfl,_,SqL.of hv2⟩,y,_,v,rfl,rfl,hv2,h1,_,rfl,?_⟩
  refine kk y ms.dropLast xs' _ (qFv (sb.trans (jv w2)) hy) hy ?_ hxl' ⟨_,qB,hiv2.dl.ts (zZ hv2)⟩ (by rw [List.length_dropLast];omega) (fun m hm=>hti m (List.dropLast_subset _ hm)) (qUe hgg) (qTh hgg hl2)
  rw [qW ny.symm];exact w2 _ _ hzx
 | false=>exact qm ⟨_,rfl,kk y ms xs' _ (sb.trans (jv w2)) hy (w2 _ _ hzx) hxl' ⟨_,hv2,hiv2⟩ hm5 hti hgg (hb' rfl)⟩
inductive qFd (vs:List V)(H:Hp)(Q:VK)(_:XK):Prop
| mk (c:Int) (_:vs=[.int c]) (_:∀ (re:Addr) (A:Int) (H':Hp),Same H H'→H re=none→H' re=some (.dK [(Sum.inr "a",.int A),(Sum.inr "reelb",.int 1000000000)])→60≤A→A < 360→Q (.ref re) H')
theorem qFo (T:Tx K mg a):FnOk P w K mg base CX0 1 a.A81 a.B81 ["_law_cell"] qFd:=by
 refine T.D81.F.ok qGn (fun vs H Q E h=>?_) (fun cdv A outer s H vs Q E hr h=>?_)
 · obtain⟨c,rfl,_⟩:=h
   rfl
 refine qM fun _ Y=>?_
 obtain⟨c,rfl,kk⟩:=h
 apply Y
 refine⟨_,(qF (qL (qNb (qFt qS (qO qp qG (qO qq (pv 0) qG)) (qFt qS (qO qQq qG qG) qOm)) rfl rfl (by simp) (by decide)))),?_⟩
 try dsimp only [jc,qj]
 refine fun re hre=>?_
 have f:=fm c (show (0:Int) < 300 by decide)
 refine⟨_,rfl,_,_,rfl,rfl,nz,_,_,rfl,rfl,_,_,rfl,rfl,cpw (n:=9) (by decide),?_⟩
 refine⟨qB,[(Sum.inr "a",.int (60+c.fmod 300)),(Sum.inr "reelb",.int (10 ^ (9:Int).toNat))],rfl,(by show 2≤15;decide),?_⟩
 rw [qKg]
 have em:∀ x y:V,qCr [] [((Sum.inr ("a":Str):Key),x),(Sum.inr ("reelb":Str),y)]=[(Sum.inr ("a":Str),x),(Sum.inr ("reelb":Str),y)]:=fun x y=>by rfl
 rw [em]
 have e9:(10:Int) ^ (9:Int).toNat=1000000000:=by decide
 rw [e9]
 exact kk re _ _ (qC hre _) hre qB (by omega) (by omega)
theorem qFn:∀ (zs:List Im),(∀ z∈zs,0≤z.mo)→0≤(zs.map Im.mo).sum:=fun zs=>by
 induction zs with
 | nil=>intro _;simp
 | cons z zs ih=>intro h;have:=ih fun y hy=>h y (by simp [hy]);have:=h z (by simp);rw [List.map_cons,List.sum_cons];omega
theorem qG7:∀ (xs:List Im) (b:Int) (i0:Nat),(∀ x∈xs,0≤x.mo)→xh b i0 xs (b+(xs.map Im.mo).sum)=none
 | [],b,i0,_=>rfl
 | x::xs,b,i0,hx=>by
  have h0:=hx x (by simp)
  have hs:=qFn xs fun y hy=>hx y (by simp [hy])
  have ih:=qG7 xs (b+x.mo) (i0+1) fun y hy=>hx y (by simp [hy])
  rw [xh,List.map_cons,List.sum_cons,if_neg (by omega)]
  rw [show b+(x.mo+(xs.map Im.mo).sum)=b+x.mo+(xs.map Im.mo).sum by omega]
  exact ih
theorem qTm {pre post:List Im}(h0:∀ m∈pre,0≤m.mo)(hl:∀ i m,pre.length=i+1→pre[i]? =some m→m.wd≠"mix")(hp:∀ m∈post,0 < m.mo):
 cbF (pre++post) (pre.map Im.mo).sum=none∨∃ i:Nat,pre.length=i+1∧cbF (pre++post) (pre.map Im.mo).sum=some ((i:Int),((i+1:Nat):Int)):=by
 have hz:(pre.map Im.mo).sum=0+(pre.map Im.mo).sum:=by omega
 cases post with
 | nil=>
  left
  unfold cbF nbF
  rw [List.append_nil,hz,qG7 pre 0 0 h0]
 | cons m post=>
  have e:=qBe pre 0 0 m post h0 (hp m (by simp))
  rw [← hz,Nat.zero_add] at e
  unfold cbF nbF
  rw [e]
  dsimp only
  by_cases hn:pre.length=0
  · left
    rw [if_pos (.inr (by omega))]
  · obtain⟨i,hi⟩:∃ i,pre.length=i+1:=⟨pre.length - 1,by omega⟩
    obtain⟨x,hx⟩:∃ x,pre[i]? =some x:=⟨_,List.getElem?_eq_getElem (by omega)⟩
    have hx':(pre++m::post)[i]? =some x:=by rw [List.getElem?_append_left (by omega)];exact hx
    have ek:jh (pre++m::post) ((pre.length:Int) - 1)=x.wd:=wq hx' (by omega)
    rw [if_neg (fun h=>h.elim (fun h=>h rfl) fun h=>by omega),ek,if_neg (hl i x hi hx)]
    dsimp only
    by_cases hc:jh (pre++m::post) ((pre.length:Int) - 1)="clip"∧jh (pre++m::post) (pre.length:Int)="clip"
    · right
      refine⟨i,hi,?_⟩
      rw [if_pos hc,show (pre.length:Int) - 1=(i:Int) by omega,show (pre.length:Int)=((i+1:Nat):Int) by omega]
    · left
      rw [if_neg hc]
structure Wk (A:Int)(ms0:List Im)(j:Nat)(ms:List Im):Prop where
 ex:∃ pre:List Im,ms=pre++ms0.drop j∧(pre.map Im.mo).sum=qK5 ms0 j∧pre.length≤2*j∧(∀ i m,pre.length=i+1→pre[i]? =some m→m.wd≠"mix")∧∀ m∈pre,TI A m∨∃ l,m= .mix l∧1≤l∧l≤5
theorem TI.mo {A:Int}{m:Im}(h:TI A m):1≤m.mo∧m.mo≤10:=by
 rcases h with ⟨l,rfl,h1,h2⟩ | ⟨b,l,rfl,_,_,h1,h2⟩ | ⟨nm,N,lo,rs,to,bo,len,_,h1,h2,_,_,_,_,_,_,_,_,rfl⟩
 · exact⟨h1,h2⟩
 · exact⟨h1,h2⟩
 · exact⟨h1,h2⟩
theorem TI.nm {A:Int}{m:Im}(h:TI A m):m.wd≠"mix":=by
 rcases h with ⟨l,rfl,h1,h2⟩ | ⟨b,l,rfl,_,_,h1,h2⟩ | ⟨nm,N,lo,rs,to,bo,len,_,h1,h2,_,_,_,_,_,_,_,_,rfl⟩
 · show ("gap":Str)≠"mix";decide+kernel
 · show ("nest":Str)≠"mix";decide+kernel
 · show ("clip":Str)≠"mix";decide+kernel
theorem Wk.start {A:Int}{ms0:List Im}:Wk A ms0 0 ms0:=⟨[],rfl,rfl,Nat.le_refl _,fun i m h=>(by cases h),fun m h=>absurd h (by simp)⟩
theorem qH6 {ms:List Im}{j:Nat}{m:Im}(h:ms[j]? =some m):qK5 ms (j+1)=qK5 ms j+m.mo:=by
 unfold qK5
 rw [List.take_add_one,h]
 simp
theorem qG8 {xs:List Im}{x y:Im}{i:Nat}(hl:(xs++[x]).length=i+1)(h:(xs++[x])[i]? =some y):y=x:=by
 rw [List.length_append,List.length_singleton] at hl
 rw [List.getElem?_append_right (by omega),show i - xs.length=0 by omega] at h
 simpa using h.symm
theorem Wk.next {A:Int}{ms0 ms:List Im}{j:Nat}(h:Wk A ms0 j ms)(hT:∀ m∈ms0,TI A m):Wk A ms0 (j+1) ms:=by
 obtain⟨pre,e,hs,hl,hn,hI⟩:=h.ex
 cases hj:ms0[j]? with
 | none=>
  have hjl:ms0.length≤j:=List.getElem?_eq_none_iff.mp hj
  refine⟨pre,?_,?_,by omega,hn,hI⟩
  · rw [e,List.drop_eq_nil_of_le hjl,List.drop_eq_nil_of_le (by omega)]
  · rw [hs];unfold qK5;rw [List.take_of_length_le hjl,List.take_of_length_le (by omega)]
 | some m=>
  have hm:=hT m (List.mem_of_getElem? hj)
  refine⟨pre++[m],?_,?_,by rw [List.length_append,List.length_singleton];omega,fun i y h1 h2=>?_,fun y hy=>?_⟩
  · rw [e,jd hj];simp
  · rw [qH6 hj,List.map_append,List.sum_append,hs];simp
  · rw [qG8 h1 h2];exact hm.nm
  · rcases List.mem_append.mp hy with h' | h'
    · exact hI y h'
    · rw [List.mem_singleton] at h';subst h';exact .inl hm
theorem Wk.cb {A:Int}{ms0 ms:List Im}{j:Nat}(h:Wk A ms0 j ms)(hT:∀ m∈ms0,TI A m):cbF ms (qK5 ms0 j)=none∨∃ i:Nat,cbF ms (qK5 ms0 j)=some ((i:Int),((i+1:Nat):Int))∧∀ l:Int,1≤l→l≤5→Wk A ms0 (j+1) (ms.take (i+1)++[.mix l]++ms.drop (i+1)):=by
 obtain⟨pre,e,hs,hl,hn,hI⟩:=h.ex
 have h0:∀ m∈pre,0≤m.mo:=fun m hm=>by
  rcases hI m hm with h | ⟨l,rfl,_⟩
  · have:=h.mo;omega
  · exact Int.le_refl _
 have hp:∀ m∈ms0.drop j,0 < m.mo:=fun m hm=>by have:=(hT m (List.mem_of_mem_drop hm)).mo;omega
 have hc:=qTm h0 hn hp
 rw [hs,← e] at hc
 rcases hc with hc | ⟨i,hi,hc⟩
 · exact .inl hc
 refine .inr ⟨i,hc,fun l l1 l5=>?_⟩
 have et:ms.take (i+1)=pre:=by rw [e,← hi,List.take_left]
 have ed:ms.drop (i+1)=ms0.drop j:=by rw [e,← hi,List.drop_left]
 rw [et,ed]
 obtain⟨k1,k2⟩:=wo hc
 cases hj:ms0[j]? with
 | none=>
  have hjl:ms0.length≤j:=List.getElem?_eq_none_iff.mp hj
  rw [List.drop_eq_nil_of_le hjl,List.append_nil] at e
  exfalso
  unfold jh at k2
  rw [if_neg (by omega),List.getElem?_eq_none (by rw [e,hi];omega)] at k2
  exact absurd k2 (by decide+kernel)
 | some m=>
  have hm:=hT m (List.mem_of_getElem? hj)
  refine⟨pre++[.mix l]++[m],?_,?_,?_,fun i y h1 h2=>?_,fun y hy=>?_⟩
  · rw [jd hj];simp
  · rw [qH6 hj,List.map_append,List.sum_append,List.map_append,List.sum_append,hs]
    simp [Im.mo]
  · rw [List.length_append,List.length_append,List.length_singleton,List.length_singleton];omega
  · rw [qG8 h1 h2];exact hm.nm
  · rcases List.mem_append.mp hy with h' | h'
    · rcases List.mem_append.mp h' with h'' | h''
      · exact hI y h''
      · rw [List.mem_singleton] at h'';exact .inr ⟨l,h'',l1,l5⟩
    · rw [List.mem_singleton] at h';subst h';exact .inl hm
theorem qUq {P:Program}{w:World}{K:W.Frag}{mg:Str→Option Value}{base:Heap}{k:Nat}{f:Addr}{fd:FuncData}{ps:List Str}{sp:Sp}(F:FnOk P w K mg base (CXR P w) k f fd ps sp):FnOk P w K mg base CX0 k f fd ps (fun vs H Q _=>sp vs H Q fun _ _ _=>False):=by
 refine⟨fun vs H Q E h=>F.len _ _ _ _ h,fun A outer s H args us vs Q E hr he hb hv hs=>codeAny_mono (F.run A outer s H args us vs Q (fun _ _ _=>False) hr he hb hv hs) fun r s' hq=>?_⟩
 cases r with
 | error e=>
  refine qM fun _ Y=>?_
  obtain⟨_,_,_,_,_,_,_,_,_,q⟩:=hq
  apply Y
  exact q.elim
 | ok fl=>cases fl <;> exact hq
inductive qHm (K:W.Frag)(vs:List V)(H:Hp)(Q:VK)(_:XK):Prop
| mk (tz dz rd:Addr) (rl:Rls) (ts:List (List Im)) (tie:List Int) (ts':List (List Im)) (_:vs=[.ref tz,.ref dz,.ref rd]) (_:TabD H tz rd rl ts tie) (_:DdX K H rd dz rl ts tie (.good ts')) (_:∀ (t':Addr) (H':Hp),Same H H'→NewTab H H' t' ts' tie→Q (.ref t') H')
theorem qId (T:Tx K mg a):FnOk P w K mg base CX0 10 a.A73 a.B73 ["table","deed","reels"] (qHm K):=
 (qUq (vC T)).imp fun vs H Q E h=>by
   refine qM fun _ Y=>?_
   obtain⟨tz,dz,rd,rl,ts,tie,ts',rfl,hP,hD,kk⟩:=h
   apply Y
   exact⟨tz,dz,rd,rl,ts,tie,_,rfl,hP,hD,(fun h=>by cases h),(fun h=>by cases h),(fun h=>by cases h),(fun m h=>by cases h),fun ts'' h=>by cases h;exact kk⟩
theorem RE.at {H:Hp}{re:Addr}{A:Int}(h:RE H re A):ReelsAt H re (rlE A):=by
 intro n N e
 unfold rlE at e
 split at e
 · rename_i hn;cases e;subst hn;exact⟨_,h.1,rfl⟩
 · split at e
   · rename_i hn;cases e;subst hn;exact⟨_,h.1,rfl⟩
   · cases e
def TM (A:Int)(m:Im):Prop:=TI A m∨∃ l,m= .mix l∧1≤l∧l≤5
theorem TM.it {A:Int}{m:Im}(h:TM A m)(hA0:60≤A)(hA:A < 360):ItR (rlE A) m∧ImB m∧0≤m.mo∧m.mo≤10:=by
 rcases h with (⟨l,rfl,h1,h2⟩ | ⟨b,l,rfl,_,_,h1,h2⟩ | h) | ⟨l,rfl,h1,h2⟩
 · exact⟨fun n p q r s l e=>(by cases e),trivial,by show 0≤l;omega,h2⟩
 · exact⟨fun n p q r s l e=>(by cases e),trivial,by show 0≤l;omega,h2⟩
 · obtain⟨q1,q2,q3,q4⟩:=h.it hA0 hA
   exact⟨q1,q2,by omega,q4⟩
 · exact⟨fun n p q r s l e=>(by cases e),trivial,by show (0:Int)≤0;decide,by show (0:Int)≤10;decide⟩
structure TbM (A:Int)(ts:List (List Im))(tie:List Int):Prop where
 l3:ts.length=3
 ms:∀ ms∈ts,ms.length≤17∧∀ m∈ms,TM A m
 tl:tie.length≤3
 tin:∀ x∈tie,∃ k:Nat,x=(k:Int)∧k < ts.length
theorem TbM.tabD {A:Int}{H:Hp}{tz re:Addr}{ts:List (List Im)}{tie:List Int}(h:TbM A ts tie)(ht:TabF H (.ref tz) ts tie)(hr:RE H re A):TabD H tz re (rlE A) ts tie:=by
 refine⟨ht,fun ms hm=>?_,by have:=h.l3;omega,by have:=h.tl;omega,h.tin,hr.at⟩
 obtain⟨q1,q2⟩:=h.ms ms hm
 exact⟨⟨fun m hm'=>⟨((q2 m hm').it hr.2.1 hr.2.2).2.1,((q2 m hm').it hr.2.1 hr.2.2).2.2.1⟩,by omega⟩,by omega,fun m hm'=>((q2 m hm').it hr.2.1 hr.2.2).1⟩
theorem Wk.tm {A:Int}{ms0 ms:List Im}{j:Nat}(h:Wk A ms0 j ms)(hT:∀ m∈ms0,TI A m)(hl:ms0.length≤5)(hj:j≤6):ms.length≤17∧∀ m∈ms,TM A m:=by
 obtain⟨pre,e,hs,hn,_,hI⟩:=h.ex
 subst e
 refine⟨by rw [List.length_append,List.length_drop];omega,fun m hm=>?_⟩
 rcases List.mem_append.mp hm with h' | h'
 · exact hI m h'
 · exact .inl (hT m (List.mem_of_mem_drop h'))
inductive qOb (vs:List V)(H:Hp)(Q:VK)(_:XK):Prop
| mk (z:Addr) (ms:List Im) (t:Int) (_:vs=[.ref z,.int t]) (_:Tr H z ms) (_:ms.length≤300) (_:AtR H Q (qFb 0 0 ms t))
theorem v9:∀ (i:Nat) (ms:List Im) (m:Im),jf i (ms++[m])=jf i ms++(if m.wd="mix" then [i+ms.length] else [])
 | i,[],m=>by
  by_cases h:m.wd="mix"
  · obtain⟨l,rfl⟩:=jD h
    rw [if_pos h];rfl
  · rw [if_neg h,List.nil_append,xZ h];rfl
 | i,m'::ms,m=>by
  have ih:=v9 (i+1) ms m
  have e:i+1+ms.length=i+(m'::ms).length:=by rw [List.length_cons];omega
  rw [e] at ih
  by_cases h:m'.wd="mix"
  · obtain⟨l,rfl⟩:=jD h
    rw [List.cons_append,jf,jf,ih];rfl
  · rw [List.cons_append,xZ h,xZ h,ih]
theorem qO0 (T:Tx K mg a):FnOk P w K mg base CX0 4 a.A40 a.B40 ["track","moment"] qOb:=by
 refine T.D40.F.ok wu (fun vs H Q E h=>?_) (fun cdv A outer s H vs Q E hr h=>?_)
 · obtain⟨z,ms,t,rfl,_⟩:=h
   rfl
 refine qM fun _ Y=>?_
 obtain⟨z,ms,t,rfl,⟨xs,hz,his⟩,hl,kk⟩:=h
 apply Y
 have hxl:=his.len
 refine⟨_,(qD (qPl (i:=2) [] [] wu.nd rfl rfl rfl (qNo rfl T.b_enumerate (qA (pv 0) qE)) (fun _ _ _ _=>(qH jX (jK (xr (K:=K) rfl) (pv 1) qG (fun _ _=>rfl)) qS (qN _))) (fun _ _ _ _=>(pv 0)))
  (qD (xg PassesOwn.never rfl (qT5 rfl T.b_zip (qA (pv 2) (qA (qK T.D38 (qBt T) hr rfl (qA (pv 0) qE)) qE))) (qH4 rfl (xV (qz (i:=3) wu.nd rfl (Or.inl rfl)) (xV (qz (i:=4) wu.nd rfl (Or.inl rfl)) qDh))) (qF (qd (PW.pt (xH (qH qJ3 (qJ (pv 4)) (pv 1) (qN _)) (jq (qH xx (pv 1) (qJ (pv 4)) (qN _))))) (qF (qL (qo (qA (pv 3) (qA (qO jM (pv 1) (qJ (pv 4))) qE))))) qP)))
  (qF (qL qEw)))),?_⟩
 try dsimp only [jc,qj]
 refine⟨_,rfl,z,rfl,⟨_,SqL.of hz⟩,qL4 (K:=K) (a:=z) (xs:=xs) (fun i acc H'=>Same H H'∧acc=(jf 0 (ms.take i)).map (fun(n:Nat)=>V.int (n:Int))∧acc.length≤i) ⟨Same.refl _,rfl,by simp⟩ ?_ ?_ ?_⟩
 · rintro i acc H' hi ⟨e,rfl,hal⟩
   exact⟨SqL.of (e _ _ hz),qY (by omega)⟩
 · rintro i x acc H' p hi hx ⟨e,rfl,hal⟩ hp
   refine qM fun _ Y=>?_
   obtain⟨m,hm,hIx⟩:=his.get hx
   have w1:=qC hp (.tup [.int (i:Int),x])
   have hI:=hIx.ts (qZ (e.trans w1))
   obtain⟨zi,xi,rfl,hzi,h0,h1⟩:=hI.opn
   apply Y
   have htk:ms.take (i+1)=ms.take i++[m]:=by rw [List.take_add_one,hm];rfl
   have hlt:(ms.take i).length=i:=by rw [List.length_take];omega
   refine⟨_,rfl,zi,xi,_,_,rfl,rfl,SqT.of hzi,h0,rfl,_,rfl,ju (fun c=>?_) (fun c=>?_)⟩
   · have hw:m.wd="mix":=by simpa using c
     refine⟨_,rfl,Nxt.mk hi ⟨e.trans w1,?_,by simp at hal ⊢;omega⟩⟩
     rw [htk,v9,if_pos hw,hlt,List.map_append,Nat.zero_add];rfl
   · have hw:¬ m.wd="mix":=by simpa using c
     refine Nxt.mk hi ⟨e.trans w1,?_,by omega⟩
     rw [htk,v9,if_neg hw,List.append_nil]
 rintro acc H1 ⟨e1,rfl,hal⟩ pl hpl
 rw [hxl,List.take_length] at*
 have w2:=qC hpl (.lst ((jf 0 ms).map fun(n:Nat)=>V.int (n:Int)))
 have hP:(upd H1 pl (.lst ((jf 0 ms).map fun(n:Nat)=>V.int (n:Int)))) pl=some (.lst ((jf 0 ms).map fun(n:Nat)=>V.int (n:Int))):=qB
 have e2:=e1.trans w2
 generalize upd H1 pl (.lst ((jf 0 ms).map fun(n:Nat)=>V.int (n:Int)))=H2 at hP e2 ⊢
 have tr2:Tr H2 z ms:=⟨xs,e2 _ _ hz,his.ts (qZ e2)⟩
 refine⟨_,rfl,_,rfl,z,ms,rfl,tr2,hl,fun sp us H3 e3 _ hsp hus=>?_⟩
 have hP3:=e3 _ _ hP
 have hul:=hus.len
 refine⟨pl,sp,rfl,⟨_,SqL.of hP3⟩,⟨_,SqL.of hsp⟩,qRp (K:=K) (a:=pl) (b:=sp) (xs:=(jf 0 ms).map fun(n:Nat)=>V.int (n:Int)) (ys:=us) (fun i σ H'=>∃ (o1 o2:Option V),σ=[some (.ref z),some (.int t),some (.ref pl),o1,o2]∧qMh ((jf 0 ms).drop i) ((ql 0 ms).drop i) t=qFb 0 0 ms t∧Same H3 H') ?_ ⟨none,none,rfl,qGm 0 0 ms t,Same.refl _⟩ ?_ ?_ ?_⟩
 · rw [List.length_map,hul,qAv 0 0 ms]
 · rintro i σ H' hi ⟨o1,o2,rfl,_,e⟩
   exact⟨SqL.of (e _ _ hP3),SqL.of (e _ _ hsp)⟩
 · rintro i x y σ H' p hx hy ⟨o1,o2,rfl,hap,e⟩ hp
   refine qM fun _ Y=>?_
   obtain⟨n,hn,rfl⟩:∃ n:Nat,(jf 0 ms)[i]? =some n∧x= .int (n:Int):=by
    rw [List.getElem?_map] at hx
    cases e:(jf 0 ms)[i]? with
    | none=>rw [e] at hx;cases hx
    | some m=>rw [e] at hx;exact⟨m,rfl,(Option.some.inj hx).symm⟩
   obtain⟨x0,y0,z0,q,hs,rfl,hq⟩:=hus.get hy
   apply Y
   have w4:=qC hp (.tup [.int (n:Int),.ref q])
   have e4:=e.trans w4
   have hq4:=e4 _ _ hq
   rw [jd hn,jd hs,qMh] at hap
   refine⟨p,_,rfl,SqT.of qB,rfl,_,_,rfl,_,_,rfl,rfl,?_⟩
   generalize upd H' p (.tup [.int (n:Int),.ref q])=H5 at e4 hq4 ⊢
   have a0:atI [V.int x0,.int y0,.int z0] 0=some (.int x0):=rfl
   have a2:atI [V.int x0,.int y0,.int z0] 2=some (.int z0):=rfl
   refine(ixO hq4 a0 ⟨_,rfl,_,_,rfl,rfl,_,rfl,?_⟩)
   refine ju (fun c1=>?_) (fun c1=>?_)
   · refine⟨_,rfl,ixO hq4 a2 ⟨_,_,rfl,rfl,_,rfl,?_⟩⟩
     refine ju (fun c2=>?_) (fun c2=>?_)
     · rw [if_pos ⟨by simpa using c1,by simpa using c2⟩] at hap
       rw [← hap] at kk
       refine⟨_,rfl,_,rfl,ixO hq4 a0 ⟨_,_,rfl,rfl,sL2,fun f hf=>?_⟩⟩
       exact kk f _ (((e2.trans e3).trans e4).trans (qC hf _)) qB
     · rw [if_neg (fun c=>c2 (by simpa using c.2))] at hap
       exact⟨_,_,rfl,hap,e4⟩
   · rw [if_neg (fun c=>c1 (by simpa using c.1))] at hap
     exact qm ⟨_,_,rfl,hap,e4⟩
 · rintro σ H' ⟨o1,o2,rfl,hap,e⟩
   rw [List.length_map,List.drop_length] at hap
   have hn:qMh [] ((ql 0 ms).drop (jf 0 ms).length) t=none:=by
    generalize (ql 0 ms).drop (jf 0 ms).length=ss
    cases ss <;> rfl
   rw [hn] at hap
   rw [← hap] at kk
   exact kk H' ((e2.trans e3).trans e)
set_option genInjectivity true in
structure Te where
 n:Str
 pic:Int
 p:Int
 q:Int
def Te.d (t:Te):D:=.tup [.leaf (.str t.n),.leaf (.int t.pic),.tup [.leaf (.int t.p),.leaf (.int t.q)]]
def IsTe (K:W.Frag)(H:Hp)(t:Te)(v:V):Prop:=∃ z s:Addr,v= .ref z∧H z=some (.tup [.str t.n,.int t.pic,.ref s])∧SqT K H s [.int t.p,.int t.q]
def IsTes (K:W.Frag)(H:Hp):List Te→List V→Prop
 | [],[]=>True
 | t::ts,v::vs=>IsTe K H t v∧IsTes K H ts vs
 | _,_=>False
theorem IsTe.same {H H':Hp}(e:Same H H'){t:Te}{v:V}(h:IsTe K H t v):IsTe K H' t v:=
 let ⟨z,s,h1,h2,h3⟩:=h;⟨z,s,h1,e _ _ h2,L3.Same.tup e h3⟩
theorem IsTes.same {H H':Hp}(e:Same H H'):∀ {ts:List Te} {vs:List V},IsTes K H ts vs→IsTes K H' ts vs
 | [],[],_=>trivial
 | _::_,_::_,h=>⟨h.1.same e,IsTes.same e h.2⟩
 | [],_::_,h=>h.elim
 | _::_,[],h=>h.elim
theorem IsTes.len {H:Hp}:∀ {ts:List Te} {vs:List V},IsTes K H ts vs→vs.length=ts.length
 | [],[],_=>rfl
 | _::_,_::_,h=>by rw [List.length_cons,List.length_cons,IsTes.len h.2]
 | [],_::_,h=>h.elim
 | _::_,[],h=>h.elim
theorem IsTe.rep {H:Hp}{t:Te}{v:V}(h:IsTe K H t v):Rep K H t.d v:=by
 obtain⟨z,s,rfl,h2,h3⟩:=h
 unfold Te.d Rep
 refine⟨z,_,rfl,SqT.of h2,?_⟩
 unfold Reps Reps Reps Reps
 refine⟨?_,?_,?_,trivial⟩
 · unfold Rep;exact⟨rfl,rfl⟩
 · unfold Rep;exact⟨rfl,rfl⟩
 · unfold Rep;exact⟨s,_,rfl,h3,qCc (xs:=[.int t.p,.int t.q]) rfl⟩
theorem IsTes.rep {H:Hp}:∀ {ts:List Te} {vs:List V},IsTes K H ts vs→Reps K H (ts.map Te.d) vs
 | [],[],_=>by unfold List.map Reps;trivial
 | _::_,_::_,h=>by unfold List.map Reps;exact⟨h.1.rep,h.2.rep⟩
 | [],_::_,h=>h.elim
 | _::_,[],h=>h.elim
theorem qNk (t:Te):eqD t.d t.d=true:=by simp [Te.d,eqD,zN,eqV]
theorem qAk:∀ ts:List Te,zN (ts.map Te.d) (ts.map Te.d)=true
 | []=>by simp [zN]
 | m::ms=>by unfold List.map zN;rw [qNk,qAk ms];rfl
theorem qI9:∀ ts:List Te,kj (ts.map Te.d)≤2
 | []=>by simp [kj]
 | m::ms=>by
  have h2:=qI9 ms
  have h1:dep m.d≤2:=by simp [Te.d,dep,kj]
  unfold List.map kj
  omega
def TL (K:W.Frag)(H:Hp)(z:Addr)(ts:List Te):Prop:=∃ vs,H z=some (.lst vs)∧IsTes K H ts vs
theorem TL.same {H H':Hp}{z:Addr}{ts:List Te}(e:Same H H')(h:TL K H z ts):TL K H' z ts:=let ⟨vs,h1,h2⟩:=h;⟨vs,e _ _ h1,h2.same e⟩
theorem TL.rep {H:Hp}{z:Addr}{ts:List Te}(h:TL K H z ts):Rep K H (.lst (ts.map Te.d)) (.ref z):=by
 obtain⟨vs,h1,h2⟩:=h
 unfold Rep
 exact⟨z,vs,rfl,SqL.of h1,h2.rep⟩
theorem neTL {H:Hp}{x y:Addr}{ts:List Te}{Q:VK}(h1:TL K H x ts)(h2:TL K H y ts)(q:Q (.bl false) H):qRc K true (.ref x) (.ref y) H Q:=by
 refine⟨_,_,h1.rep,h2.rep,rfl,by have:=qI9 ts;unfold dep;omega,?_⟩
 have e:eqD (.lst (ts.map Te.d)) (.lst (ts.map Te.d))=true:=by unfold eqD;exact qAk ts
 rw [e]
 exact q
theorem qRw {H:Hp}{y:Addr}(h2:H y=some (.lst [])):Rep K H (.lst []) (.ref y):=by
 unfold Rep;exact⟨y,[],rfl,SqL.of h2,by unfold Reps;trivial⟩
theorem qWe {H:Hp}{x y:Addr}{ts:List Te}{Q:VK}(h1:TL K H x ts)(h2:H y=some (.lst []))(q:Q (.bl (!ts.isEmpty)) H):qRc K true (.ref x) (.ref y) H Q:=by
 refine⟨_,.lst [],h1.rep,qRw h2,rfl,by have:=qI9 ts;unfold dep;omega,?_⟩
 have e:eqD (.lst (ts.map Te.d)) (.lst [])=ts.isEmpty:=by cases ts <;> simp [eqD,zN]
 rw [e]
 exact q
def Im.g:Im→Prop
 | .clip _ p q r s l=>0 < q∧0 < s∧p.natAbs < 2 ^ 400∧q.natAbs < 2 ^ 400∧r.natAbs < 2 ^ 400∧s.natAbs < 2 ^ 400∧1≤l∧l < 2 ^ 400
 | .nest _ b l=>0≤b∧b < 2 ^ 60∧1≤l
 | .gap l=>1≤l
 | .mix l=>1≤l∧l < 2 ^ 60
theorem Im.g_mo {m:Im}(h:m.g):0≤m.mo:=by
 cases m with
 | clip n p q r s l=>have:=h.2.2.2.2.2.2.1;show 0≤l;omega
 | nest n b l=>have:=h.2.2;show 0≤l;omega
 | gap l=>have h:1≤l:=h;show 0≤l;omega
 | mix l=>exact Int.le_refl _
def qPt (ms:List Im):Prop:=∀ (i:Nat) (l:Int),ms[i]? =some (.mix l)→1≤i∧(∃ n p q r s k,ms[i - 1]? =some (.clip n p q r s k))∧∃ n p q r s k,ms[i+1]? =some (.clip n p q r s k)
def qLa (p q r s k:Int):Int:=(p*s+k*r*q).fdiv (q*s)
def qDc (ms:List Im)(i:Nat)(j:Int):List Te:=
 match ms[i]?,ms[i - 1]?,ms[i+1]? with
 | some (.mix l),some (.clip n p q r s k),some (.clip n' p' q' r' s' _)=>[⟨n,qLa p q r s (k+(j - l.fdiv 2)),jk (l - j) (l+1),jU (l - j) (l+1)⟩,⟨n',qLa p' q' r' s' (j - l.fdiv 2),jk (j+1) (l+1),jU (j+1) (l+1)⟩]
 | _,_,_=>[]
def jz (f:Str→Int→List Te)(ms:List Im)(t:Int):List Te:=
 match qFb 0 0 ms t with
 | some (i,j)=>qDc ms i j
 | none=>match xh 0 0 ms t with
  | none=>[]
  | some (i,d)=>match ms[i]? with
   | some (.clip n p q r s _)=>[⟨n,qLa p q r s d,1,1⟩]
   | some (.nest nm b _)=>f nm (b+d)
   | _=>[]
def wD:List (List Te)→List Te
 | []=>[]
 | x::r=>if x.isEmpty then wD r else x
abbrev Rms:=Str→Option (List (List Im))
def qx (rm:Rms):Nat→Str→Int→List Te
 | 0,_,_=>[]
 | n+1,nm,t=>wD (((rm nm).getD []).map fun ms=>jz (qx rm n) ms t)
def RoomAt (H:Hp)(rz:Addr)(rm:Rms):Prop:=∃ (re td:Addr) (kvs:List (Key × V)),H rz=some (.tup [.ref re,.ref td])∧Rd H td (.dK kvs)∧∀ nm ts,rm nm=some ts→∃ v,qL1 kvs (Sum.inr nm)=some v∧TabAt H v ts
theorem RoomAt.same {H H':Hp}(e:Same H H'){rz:Addr}{rm:Rms}(h:RoomAt H rz rm):RoomAt H' rz rm:=
 let ⟨re,td,kvs,h1,h2,h3⟩:=h;⟨re,td,kvs,e _ _ h1,qJh e h2,fun nm ts q=>let ⟨v,a,b⟩:=h3 nm ts q;⟨v,a,b.same e⟩⟩
def Lv (rm:Rms):Nat→Str→Prop
 | 0,_=>False
 | n+1,nm=>∃ ts,rm nm=some ts∧ts.length≤300∧∀ ms∈ts,ms.length≤300∧qPt ms∧∀ m∈ms,m.g∧∀ nm' b l,m= .nest nm' b l→Lv rm n nm'
def LvT (rm:Rms)(n:Nat)(ms:List Im):Prop:=ms.length≤300∧qPt ms∧∀ m∈ms,m.g∧∀ nm' b l,m= .nest nm' b l→Lv rm n nm'
theorem qKx:∀ {b:Int} {i:Nat} {ms:List Im} {t:Int} {k:Nat} {d:Int},xh b i ms t=some (k,d)→(∀ m∈ms,m.g)→0≤b→0≤d∧d≤t
 | _,_,[],_,_,_,h,_,_=>by simp [xh] at h
 | b,i,m::ms,t,k,d,h,hg,hb=>by
  rw [xh] at h
  by_cases hc:b≤t∧t < b+m.mo
  · rw [if_pos hc] at h
    cases h
    omega
  · rw [if_neg hc] at h
    have:=Im.g_mo (hg m (by simp))
    exact qKx h (fun x hx=>hg x (by simp [hx])) (by omega)
theorem qDl:∀ {b:Int} {i:Nat} {ms:List Im} {t:Int} {k:Nat} {d:Int},xh b i ms t=some (k,d)→i≤k∧∃ m,ms[k - i]? =some m
 | _,_,[],_,_,_,h=>by simp [xh] at h
 | b,i,m::ms,t,k,d,h=>by
  rw [xh] at h
  by_cases hc:b≤t∧t < b+m.mo
  · rw [if_pos hc] at h
    cases h
    exact⟨Nat.le_refl _,m,by simp⟩
  · rw [if_neg hc] at h
    obtain⟨h1,m',h2⟩:=qDl h
    have e:k - i=(k - (i+1))+1:=by omega
    exact⟨by omega,m',by rw [e,List.getElem?_cons_succ];exact h2⟩
theorem qAu {i:Int}(h:i.natAbs < 2 ^ 400):Sm2 i:=Nat.lt_of_lt_of_le h (Nat.pow_le_pow_right (by decide) (by decide))
inductive qD6 (K:W.Frag)(vs:List V)(H:Hp)(Q:VK)(_:XK):Prop
| mk (z:Addr) (ms:List Im) (i:Nat) (j l:Int) (_:vs=[.ref z,.int (i:Int),.int j]) (_:Tr H z ms) (_:qPt ms) (_:(∀ m∈ms,m.g)) (_:ms[i]? =some (.mix l)) (_:0≤j) (_:j < l) (_:∀ (y:Addr) (H':Hp),Same H H'→H y=none→TL K H' y (qDc ms i j)→Q (.ref y) H')
theorem qEc (T:Tx K mg a):FnOk P w K mg base CX0 6 a.A41 a.B41 ["track","place","j"] (qD6 K):=by
 refine T.D41.F.ok jG (fun vs H Q E h=>?_) (fun cdv A outer s H vs Q E hr h=>?_)
 · obtain⟨z,ms,i,j,l,rfl,_⟩:=h
   rfl
 refine qM fun _ Y=>?_
 obtain⟨z,ms,i,j,l,rfl,⟨xs,hz,his⟩,hok,hg,hm,j0,j1,kk⟩:=h
 apply Y
 refine⟨_,(qD (qX 3 jG.nd (qJ (jK q9 (pv 0) (pv 1) (fun _ _=>rfl))))
  (qD (qX 4 jG.nd (jK q9 (pv 0) (qO jM (pv 1) qG) (fun _ _=>rfl)))
  (qD (qX 5 jG.nd (jK q9 (pv 0) (qO qp (pv 1) qG) (fun _ _=>rfl)))
  (qD (qX 6 jG.nd (qK T.D39 (qGi T) hr rfl (qA (pv 3) (qA (pv 2) qE))))
  (qD (qX 7 jG.nd (qO jM (pv 2) (qK T.D36 (kB T) hr rfl (qA (pv 3) qE))))
  (qD (qX 8 jG.nd (qo (qA (qJ (pv 4)) (qA (qK T.D13 (xK T) hr rfl (qA (pv 4) (qA (qO qp (qJ (pv 4)) (pv 7)) qE))) (qA (qJ (pv 6)) qE)))))
  (qD (qX 9 jG.nd (qo (qA (qJ (pv 5)) (qA (qK T.D13 (xK T) hr rfl (qA (pv 5) (qA (pv 7) qE))) (qA (qJ (pv 6)) qE)))))
  (qF (qL (qr (qA (pv 8) (qA (pv 9) qE)))))))))))),?_⟩
 try dsimp only [jc,qj]
 refine qM fun _ Y=>?_
 obtain⟨i1,⟨n,p,q,r,s1,k,ha⟩,n',p',q',r',s2,k',hb⟩:=hok i l hm
 have gm:=hg _ (List.mem_of_getElem? hm)
 have ga:=hg _ (List.mem_of_getElem? ha)
 have gb:=hg _ (List.mem_of_getElem? hb)
 have el:qDc ms i j=[⟨n,qLa p q r s1 (k+(j - l.fdiv 2)),jk (l - j) (l+1),jU (l - j) (l+1)⟩,⟨n',qLa p' q' r' s2 (j - l.fdiv 2),jk (j+1) (l+1),jU (j+1) (l+1)⟩]:=by
  unfold qDc;rw [hm,ha,hb]
 rw [el] at kk
 have l60:l < 2 ^ 60:=gm.2
 obtain⟨vm,hvm,Im⟩:=his.get' hm
 obtain⟨va,hva,Ia⟩:=his.get' ha
 obtain⟨vb,hvb,Ib⟩:=his.get' hb
 obtain⟨zm,rfl,hzm⟩:=id Im
 apply Y
 have am:atI xs (i:Int)=some (.ref zm):=jJ hvm
 have aa:atI xs ((i:Int) - 1)=some va:=by
  have e:(i:Int) - 1=((i - 1:Nat):Int):=by omega
  rw [e];exact jJ hva
 have ab:atI xs ((i:Int)+1)=some vb:=by
  have e:(i:Int)+1=((i+1:Nat):Int):=by omega
  rw [e];exact jJ hvb
 have hS:=SqL.of (K:=K) hz
 refine⟨_,rfl,_,rfl,z,_,_,_,rfl,rfl,hS,am,ixT (SqT.of hzm) at1 ?_⟩
 refine⟨_,rfl,_,rfl,_,_,rfl,rfl,z,_,_,_,rfl,rfl,hS,aa,?_⟩
 refine⟨_,rfl,_,rfl,_,_,rfl,rfl,z,_,_,_,rfl,rfl,hS,ab,?_⟩
 refine⟨_,rfl,_,rfl,l,j,rfl,j0,j1,l60,fun sh H1 w1 ⟨sx,sy,hsh,hsx,hsy⟩=>?_⟩
 refine⟨_,rfl,_,rfl,l,rfl,_,_,rfl,rfl,?_⟩
 have Ia1:=Ia.ts (qZ w1)
 have Ib1:=Ib.ts (qZ w1)
 refine qM fun _ Y=>?_
 obtain⟨za,xa,ya,rfl,hza,hxa,hya⟩:=id Ia1
 obtain⟨zb,xb,yb,rfl,hzb,hxb,hyb⟩:=id Ib1
 obtain⟨q0,s0,bp,bq,br,bs,k0,k1⟩:=id ga
 obtain⟨q0',s0',bp',bq',br',bs',_,_⟩:=id gb
 apply Y
 have hf:l.fdiv 2≤l∧0≤l.fdiv 2:=by
  have:=qt (p:=l) (q:=2) (by decide)
  omega
 have bk1:Sm2 (k+(j - l.fdiv 2)):=by
  have e:(2:Int) ^ 400+2 ^ 61 < 2 ^ 401:=by decide
  have:(k+(j - l.fdiv 2)).natAbs < 2 ^ 401:=by omega
  exact Nat.lt_of_lt_of_le this (Nat.pow_le_pow_right (by decide) (by decide))
 have bk2:Sm2 (j - l.fdiv 2):=by
  have:(j - l.fdiv 2).natAbs < 2 ^ 61:=by omega
  exact Nat.lt_of_lt_of_le this (Nat.pow_le_pow_right (by decide) (by decide))
 refine(ixO hza qBa ⟨_,rfl,ixO hza qIe ⟨_,rfl,_,_,rfl,rfl,?_⟩⟩)
 refine⟨_,n,p,q,r,s1,k,_,rfl,qMb Ia1,q0,s0,qAu bp,qAu bq,qAu br,qAu bs,bk1,fun H2 w2=>?_⟩
 refine(ixO (w2 _ _ hsh) at0 ⟨sL3,fun f1 hf1=>?_⟩)
 have w3:=qC hf1 (.tup [.str n,.int ((p*s1+(k+(j - l.fdiv 2))*r*q).fdiv (q*s1)),.ref sx])
 have w23:=w2.trans w3
 refine(ixO (w23 _ _ hzb) qBa ⟨_,rfl,_,rfl,?_⟩)
 refine⟨_,n',p',q',r',s2,k',_,rfl,qMb (Ib1.ts (qZ w23)),q0',s0',qAu bp',qAu bq',qAu br',qAu bs',bk2,fun H4 w4=>?_⟩
 have w24:=w23.trans w4
 refine(ixO (w24 _ _ hsh) at1 ⟨sL3,fun f2 hf2=>?_⟩)
 have w5:=qC hf2 (.tup [.str n',.int ((p'*s2+(j - l.fdiv 2)*r'*q').fdiv (q'*s2)),.ref sy])
 refine⟨_,rfl,_,rfl,sL2,fun y hy=>?_⟩
 have w6:=qC hy (.lst [.ref f1,.ref f2])
 have w25:=(w24.trans w5).trans w6
 refine kk y _ (w1.trans w25) ((w1.trans (w24.trans w5)).free hy) ⟨_,qB,⟨f1,sx,rfl,w6 _ _ (w5 _ _ (w4 _ _ qB)),SqT.of (w25 _ _ hsx)⟩,⟨f2,sy,rfl,w6 _ _ qB,SqT.of (w25 _ _ hsy)⟩,trivial⟩
inductive z6 (K:W.Frag)(n:Nat)(vs:List V)(H:Hp)(Q:VK)(_:XK):Prop
| mk (rz:Addr) (nm:Str) (t:Int) (rm:Rms) (_:vs=[.ref rz,.str nm,.int t]) (_:RoomAt H rz rm) (_:Lv rm n nm) (_:0≤t) (_:t+n*2 ^ 61 < 2 ^ 400) (_:∀ (y:Addr) (H':Hp),Same H H'→H y=none→TL K H' y (qx rm n nm t)→Q (.ref y) H')
inductive vh (K:W.Frag)(n:Nat)(vs:List V)(H:Hp)(Q:VK)(_:XK):Prop
| mk (z rz:Addr) (ms:List Im) (t:Int) (rm:Rms) (_:vs=[.ref z,.int t,.ref rz]) (_:Tr H z ms) (_:LvT rm n ms) (_:(n≠0→RoomAt H rz rm)) (_:0≤t) (_:t+n*2 ^ 61+2 ^ 60 < 2 ^ 400) (_:∀ (y:Addr) (H':Hp),Same H H'→H y=none→TL K H' y (jz (qx rm n) ms t)→Q (.ref y) H')
theorem qBq (T:Tx K mg a)(n:Nat)(IH:∀ {base:Heap},FnOk P w K mg base CX0 (2*n+7) a.A75 a.B75 ["room","name","moment"] (z6 K n)):
 FnOk P w K mg base CX0 (2*n+8) a.A74 a.B74 ["track","moment","room"] (vh K n):=by
 refine T.D74.F.ok vd (fun vs H Q E h=>?_) (fun cdv A outer s H vs Q E hrn h=>?_)
 · obtain⟨z,rz,ms,t,rm,rfl,_⟩:=h
   rfl
 refine qM fun _ Y=>?_
 obtain⟨z,rz,ms,t,rm,rfl,tT,⟨hml,hmx,hgs⟩,hrm,t0,t1,kk⟩:=h
 apply Y
 have hr:=hrn.mono (show 7≤2*n+7 by omega)
 refine⟨_,(qD (qX 3 vd.nd (qK T.D40 (qO0 T) hr rfl (qA (pv 0) (qA (pv 1) qE))))
  (qD (qd (qDs (qMv (pv 3))) (qF (qL (qK T.D41 (qEc T) hr rfl (qA (pv 0) (qA (qJ (pv 3)) (qA (qJ (pv 3)) qE)))))) qP)
  (qD (qX 4 vd.nd (qK T.D27 (qAs T) hr rfl (qA (pv 0) (qA (pv 1) qE))))
  (qD (qd (qDs (qH9 (pv 4))) (qF (qL (qr qE))) qP)
  (qD (qX 5 vd.nd (jK q9 (pv 0) (qJ (pv 4)) (fun _ _=>rfl)))
  (qD (qd (qH jX (qJ (pv 5)) qS (qN _)) (qF (qL (qr (qA (qo (qA (qJ (pv 5)) (qA (qK T.D13 (xK T) hr rfl (qA (pv 5) (qA (qJ (pv 4)) qE))) (qA (xJ (v:=.ref a.n_WHOLE_SHARE) rfl T.g_WHOLE_SHARE rfl) qE)))) qE)))) qP)
  (qD (qd (qH jX (qJ (pv 5)) qS (qN _)) (qF (qL (qK T.D75 IH hrn rfl (qA (pv 2) (qA (qJ (pv 5)) (qA (qO qp (qJ (pv 5)) (qJ (pv 4))) qE))) (Nat.le_refl _)))) qP)
  (qF (qL (qr qE)))))))))),?_⟩
 try dsimp only [jc,qj]
 have hg:∀ m∈ms,m.g:=fun m hm=>(hgs m hm).1
 refine qM fun _ Y=>?_
 obtain⟨xs,hz,his⟩:=id tT
 apply Y
 refine⟨_,rfl,_,rfl,z,ms,t,rfl,tT,hml,?_⟩
 cases hmf:qFb 0 0 ms t with
 | some c=>
  obtain⟨i,j⟩:=c
  intro p H1 e1 hp
  have et:jz (qx rm n) ms t=qDc ms i j:=by unfold jz;rw [hmf]
  rw [et] at kk
  refine qM fun _ Y=>?_
  obtain⟨l,_,hm,j0,j1⟩:=qJt hmf
  apply Y
  rw [Nat.sub_zero] at hm
  refine⟨_,rfl,_,rfl,qUn (by intro z;cases z) ?_⟩
  refine⟨_,rfl,ixO hp at0 (ixO hp at1 ?_)⟩
  exact⟨z,ms,i,j,l,rfl,tT.same e1,hmx,hg,hm,j0,j1,fun y H2 e2 hy ht=>kk y H2 (e1.trans e2) (e1.free hy) ht⟩
 | none=>
  intro H1 e1
  refine⟨_,rfl,_,rfl,qL6 rfl ?_⟩
  refine⟨_,rfl,_,rfl,z,ms,t,rfl,tT.same e1,?_⟩
  cases hit:xh 0 0 ms t with
  | none=>
   intro H2 e2
   have et:jz (qx rm n) ms t=[]:=by unfold jz;rw [hmf,hit]
   rw [et] at kk
   refine⟨_,rfl,_,rfl,ju (fun _=>?_) (fun c=>absurd (by simp) c)⟩
   refine⟨sL0,fun y hy=>?_⟩
   exact kk y _ ((e1.trans e2).trans (qC hy _)) ((e1.trans e2).free hy) ⟨[],qB,trivial⟩
  | some c=>
   obtain⟨i,d⟩:=c
   intro p H2 e2 hp
   refine qM fun _ Y=>?_
   obtain⟨d0,d1⟩:=qKx hit hg (by decide)
   obtain⟨_,m,hm⟩:=qDl hit
   rw [Nat.sub_zero] at hm
   obtain⟨v,hv,hI⟩:=his.get' hm
   apply Y
   have e12:=e1.trans e2
   have hI2:=hI.ts (qZ e12)
   refine⟨_,rfl,_,rfl,ju (fun c=>absurd c (by simp)) (fun _=>?_)⟩
   refine⟨_,rfl,ixO hp at0 ⟨z,_,_,_,rfl,rfl,SqL.of (e12 _ _ hz),jJ hv,?_⟩⟩
   refine qM fun _ Y=>?_
   obtain⟨gm,hnest⟩:=hgs m (List.mem_of_getElem? hm)
   obtain⟨zi,xi,rfl,hzi,h0,h1⟩:=hI2.opn
   apply Y
   refine⟨_,rfl,zi,xi,_,_,rfl,rfl,SqT.of hzi,h0,rfl,_,rfl,?_⟩
   cases m with
   | clip nm p' q r s1 l=>
    have et:jz (qx rm n) ms t=[⟨nm,qLa p' q r s1 d,1,1⟩]:=by unfold jz;rw [hmf,hit];simp only [hm]
    rw [et] at kk
    refine ju (fun _=>?_) (fun c=>absurd (by show decide (V.str "clip"=V.str "clip")=true;simp) c)
    refine qM fun _ Y=>?_
    obtain⟨q0,s0,bp,bq,br,bs,_,_⟩:=gm
    obtain⟨z2,x2,y2,e3,hz2,hx2,hy2⟩:=id hI2
    cases e3
    apply Y
    refine(ixO hz2 qBa ⟨_,rfl,ixO hp at1 ?_⟩)
    refine⟨_,nm,p',q,r,s1,l,d,rfl,qMb hI2,q0,s0,qAu bp,qAu bq,qAu br,qAu bs,qAu (by have:(0:Int)≤n*2 ^ 61:=Int.mul_nonneg (by omega) (by decide);omega),fun H3 w3=>?_⟩
    refine⟨sL3,fun f hf=>⟨sL1,fun y hy=>?_⟩⟩
    have w4:=qC hf (.tup [.str nm,.int ((p'*s1+d*r*q).fdiv (q*s1)),.ref a.n_WHOLE_SHARE])
    have w5:=qC hy (.lst [.ref f])
    exact kk y _ (((e12.trans w3).trans w4).trans w5) (((e12.trans w3).trans w4).free hy) ⟨_,qB,⟨f,_,rfl,w5 _ _ qB,T.sq_WHOLE_SHARE _⟩,trivial⟩
   | nest nm b l=>
    have et:jz (qx rm n) ms t=qx rm n nm (b+d):=by unfold jz;rw [hmf,hit];simp only [hm]
    rw [et] at kk
    refine ju (fun c=>absurd (show decide (V.str "nest"=V.str "clip")=true from c) (by rw [qSp];decide+kernel)) (fun _=>?_)
    refine⟨_,rfl,zi,xi,_,_,rfl,rfl,SqT.of hzi,h0,rfl,_,rfl,?_⟩
    refine ju (fun _=>?_) (fun c=>absurd (by show decide (V.str "nest"=V.str "nest")=true;simp) c)
    have lv:=hnest nm b l rfl
    have n0:n≠0:=by
     intro q
     subst q
     exact lv
    refine qM fun _ Y=>?_
    obtain⟨b0,b1,l1⟩:=gm
    obtain⟨z2,e3,hz2⟩:=id hI2
    cases e3
    apply Y
    have a1:atI [V.str "nest",.str nm,.int b,.int l] 1=some (.str nm):=rfl
    have a2:atI [V.str "nest",.str nm,.int b,.int l] 2=some (.int b):=rfl
    refine⟨_,rfl,ixO hz2 a1 (ixO hz2 a2 (ixO hp at1 ⟨_,_,rfl,rfl,?_⟩))⟩
    refine⟨rz,nm,b+d,rm,rfl,(hrm n0).same e12,lv,by omega,by omega,fun y H3 e3 hy ht=>kk y H3 (e12.trans e3) (e12.free hy) ht⟩
   | gap l=>
    have et:jz (qx rm n) ms t=[]:=by unfold jz;rw [hmf,hit];simp only [hm]
    rw [et] at kk
    refine ju (fun c=>absurd (show decide (V.str "gap"=V.str "clip")=true from c) (by rw [qSp];decide+kernel)) (fun _=>?_)
    refine⟨_,rfl,zi,xi,_,_,rfl,rfl,SqT.of hzi,h0,rfl,_,rfl,?_⟩
    refine ju (fun c=>absurd (show decide (V.str "gap"=V.str "nest")=true from c) (by rw [qSp];decide+kernel)) (fun _=>?_)
    refine⟨sL0,fun y hy=>?_⟩
    exact kk y _ (e12.trans (qC hy _)) (e12.free hy) ⟨[],qB,trivial⟩
   | mix l=>
    have et:jz (qx rm n) ms t=[]:=by unfold jz;rw [hmf,hit];simp only [hm]
    rw [et] at kk
    refine ju (fun c=>absurd (show decide (V.str "mix"=V.str "clip")=true from c) (by rw [qSp];decide+kernel)) (fun _=>?_)
    refine⟨_,rfl,zi,xi,_,_,rfl,rfl,SqT.of hzi,h0,rfl,_,rfl,?_⟩
    refine ju (fun c=>absurd (show decide (V.str "mix"=V.str "nest")=true from c) (by rw [qSp];decide+kernel)) (fun _=>?_)
    refine⟨sL0,fun y hy=>?_⟩
    exact kk y _ (e12.trans (qC hy _)) (e12.free hy) ⟨[],qB,trivial⟩
theorem qBh (T:Tx K mg a):FnOk P w K mg base CX0 7 a.A75 a.B75 ["room","name","moment"] (z6 K 0):=by
 refine T.D75.F.ok zz (fun vs H Q E h=>?_) (fun cdv A outer s H vs Q E hrn h=>?_)
 · obtain⟨_,_,_,_,_,_,h,_⟩:=h
   exact h.elim
 · obtain⟨_,_,_,_,_,_,h,_⟩:=h
   exact h.elim
theorem qHr (T:Tx K mg a)(n:Nat)(IH:∀ {base:Heap},FnOk P w K mg base CX0 (2*n+8) a.A74 a.B74 ["track","moment","room"] (vh K n)):
 FnOk P w K mg base CX0 (2*n+9) a.A75 a.B75 ["room","name","moment"] (z6 K (n+1)):=by
 refine T.D75.F.ok zz (fun vs H Q E h=>?_) (fun cdv A outer s H vs Q E hrn h=>?_)
 · obtain⟨rz,nm,t,rm,rfl,_⟩:=h
   rfl
 refine qM fun _ Y=>?_
 obtain⟨rz,nm,t,rm,rfl,hR,⟨ts,hts,htl,hlv⟩,t0,t1,kk⟩:=h
 apply Y
 have hu:=hrn.units
 have hu1:(A.deeper (PyProof.Rows.envOfC (Str.ofString "told_at") (qI ww) s.heap.objs.size a.A75 cdv)).units+1 < cLine:=by omega
 refine⟨_,(qD (qX 3 zz.nd (qJ (qAh hu1 (qJ (pv 0)) (pv 1) (fun _ _=>rfl))))
  (qD (xg PassesOwn.never rfl (jW (pv 3)) (qz (i:=4) zz.nd rfl (Or.inl rfl)) (qD (qX 5 zz.nd (qK T.D74 IH hrn rfl (qA (pv 4) (qA (pv 2) (qA (pv 0) qE))) (Nat.le_refl _)))
  (qF (qd (qH (qN2 hu) (pv 5) (qr qE) (qN _)) (qF (qL (pv 5))) qP))))
  (qF (qL (qr qE))))),?_⟩
 try dsimp only [jc,qj]
 have et:qx rm (n+1) nm t=wD (ts.map fun ms=>jz (qx rm n) ms t):=by rw [qx,hts];rfl
 rw [et] at kk
 refine qM fun _ Y=>?_
 obtain⟨re,td,kvs,h1,h2,h3⟩:=id hR
 obtain⟨v,hv,tt,tl,ti,zs,rfl,h4,h5,h6⟩:=h3 nm ts hts
 apply Y
 refine(ixO h1 at1 ⟨_,rfl,td,_,rfl,.inl ⟨kvs,Sum.inr nm,h2,rfl,hv.symm⟩,ixT (SqT.of h4) at0 ?_⟩)
 refine⟨_,rfl,tl,rfl,⟨_,SqL.of h5⟩,xI (K:=K) (a:=tl) (xs:=zs) (fun i σ H'=>∃ (o1 o2:Option V),σ=[some (.ref rz),some (.str nm),some (.int t),some (.ref tl),o1,o2]∧wD ((ts.drop i).map fun ms=>jz (qx rm n) ms t)=wD (ts.map fun ms=>jz (qx rm n) ms t)∧Same H H') ⟨none,none,rfl,rfl,Same.refl _⟩ ?_ ?_ ?_⟩
 · rintro i σ H' hi ⟨o1,o2,rfl,_,e⟩
   exact SqL.of (e _ _ h5)
 · rintro i x σ H' hx ⟨o1,o2,rfl,hap,e⟩
   refine qM fun _ Y=>?_
   obtain⟨ms,z,hms,rfl,hT⟩:=h6.get hx
   apply Y
   rw [jd hms,List.map_cons,wD] at hap
   refine⟨_,rfl,_,rfl,_,rfl,z,rz,ms,t,rm,rfl,hT.same e,hlv ms (List.mem_of_getElem? hms),fun _=>hR.same e,t0,?_,fun y H1 e1 hy ht=>?_⟩
   · have e1:((n+1:Nat):Int)=(n:Int)+1:=by omega
     rw [e1,Int.add_mul] at t1
     omega
   refine⟨_,rfl,sL0,fun en hen=>qWe (ht.same (qC hen _)) qB ⟨_,rfl,?_⟩⟩
   have w2:=qC hen (.lst [])
   cases hq:(jz (qx rm n) ms t).isEmpty with
   | true=>
    rw [hq,if_pos rfl] at hap
    exact qm ⟨_,_,rfl,hap,(e.trans e1).trans w2⟩
   | false=>
    rw [hq,if_neg (by decide)] at hap
    rw [← hap] at kk
    exact jI ⟨_,rfl,kk y _ ((e.trans e1).trans w2) (e.free hy) (ht.same w2)⟩
 · rintro σ H' ⟨o1,o2,rfl,hap,e⟩
   rw [h6.len,List.drop_length] at hap
   have hn:wD ([].map fun ms=>jz (qx rm n) ms t)=[]:=rfl
   rw [hn] at hap
   rw [← hap] at kk
   refine⟨sL0,fun y hy=>?_⟩
   exact kk y _ (e.trans (qC hy _)) (e.free hy) ⟨[],qB,trivial⟩
theorem qMo (T:Tx K mg a):∀ (n:Nat),(∀ {base:Heap},FnOk P w K mg base CX0 (2*n+7) a.A75 a.B75 ["room","name","moment"] (z6 K n))∧(∀ {base:Heap},FnOk P w K mg base CX0 (2*n+8) a.A74 a.B74 ["track","moment","room"] (vh K n))
 | 0=>⟨qBh T,qBq T 0 (qBh T)⟩
 | n+1=>by
  have ih:=qMo T n
  have h1:∀ {base:Heap},FnOk P w K mg base CX0 (2*(n+1)+7) a.A75 a.B75 ["room","name","moment"] (z6 K (n+1)):=qHr T n ih.2
  exact⟨h1,qBq T (n+1) h1⟩
def itT (f:Str→Int→List Te)(m:Im)(d:Int):List Te:=match m with
 | .clip n p q r s _=>[⟨n,qLa p q r s d,1,1⟩]
 | .nest nm b _=>f nm (b+d)
 | _=>[]
def mxT (p:Option Im)(l:Int)(h:Option Im)(j:Int):List Te:=match p,h with
 | some (.clip n p q r s k),some (.clip n' p' q' r' s' _)=>[⟨n,qLa p q r s (k+(j - l.fdiv 2)),jk (l - j) (l+1),jU (l - j) (l+1)⟩,⟨n',qLa p' q' r' s' (j - l.fdiv 2),jk (j+1) (l+1),jU (j+1) (l+1)⟩]
 | _,_=>[]
def zp:Option Im→Int→List Im→Int→Option (List Te)
 | _,_,[],_=>none
 | p,b,.mix l::ms,t=>if b - l.fdiv 2≤t∧t < b+(l - l.fdiv 2) then some (mxT p l ms.head? (t - (b - l.fdiv 2))) else zp (some (.mix l)) b ms t
 | _,b,m::ms,t=>zp (some m) (b+m.mo) ms t
theorem j5 (p:Option Im)(b l:Int)(ms:List Im)(t:Int):zp p b (.mix l::ms) t=if b - l.fdiv 2≤t∧t < b+(l - l.fdiv 2) then some (mxT p l ms.head? (t - (b - l.fdiv 2))) else zp (some (.mix l)) b ms t:=by rw [zp]
theorem qk {m:Im}(h:m.wd≠"mix")(p:Option Im)(b:Int)(ms:List Im)(t:Int):zp p b (m::ms) t=zp (some m) (b+m.mo) ms t:=by
 cases m with
 | mix l=>exact absurd rfl h
 | _=>rw [zp];intro l h;cases h
def zO (f:Str→Int→List Te):Int→List Im→Int→List Te
 | _,[],_=>[]
 | b,m::ms,t=>if b≤t∧t < b+m.mo then itT f m (t - b) else zO f (b+m.mo) ms t
def zI (f:Str→Int→List Te)(ms:List Im)(t:Int):List Te:=(zp none 0 ms t).getD (zO f 0 ms t)
theorem qJq:∀ (ms pre:List Im) (b:Int) (t:Int),zp pre.getLast? b ms t=(qFb b pre.length ms t).map fun x=>qDc (pre++ms) x.1 x.2
 | [],pre,b,t=>by simp [zp,qFb]
 | m::ms,pre,b,t=>by
  by_cases hm:m.wd="mix"
  · obtain⟨l,rfl⟩:=jD hm
    rw [j5,qFb]
    by_cases hc:b - l.fdiv 2≤t∧t < b+(l - l.fdiv 2)
    · rw [if_pos hc,if_pos hc]
      simp only [Option.map_some]
      congr 1
      unfold qDc mxT
      have e0:(pre++Im.mix l::ms)[pre.length]? =some (.mix l):=by simp
      have e2:(pre++Im.mix l::ms)[pre.length+1]? =ms.head?:=by
       rw [List.getElem?_append_right (by omega)]
       simp [List.head?_eq_getElem?]
      rw [e0,e2]
      rcases List.eq_nil_or_concat pre with h | ⟨p',x,h⟩
      · subst h
        simp only [List.getLast?_nil,List.length_nil,List.nil_append]
        rw [show (0 - 1:Nat)=0 from rfl,List.getElem?_cons_zero]
      · subst h
        have e1:(p'.concat x++Im.mix l::ms)[(p'.concat x).length - 1]? =some x:=by simp
        have eL:(p'.concat x).getLast?=some x:=by simp
        rw [e1,eL]
        cases x <;> (cases ms.head? with
         | none=>rfl
         | some y=>cases y <;> rfl)
    · rw [if_neg hc,if_neg hc]
      have:=qJq ms (pre++[.mix l]) b t
      simp only [List.getLast?_append,List.getLast?_singleton,Option.some_or,List.length_append,List.length_singleton,List.append_assoc,List.singleton_append] at this
      exact this
  · rw [qk hm,qBd hm]
    have:=qJq ms (pre++[m]) (b+m.mo) t
    simp only [List.getLast?_append,List.getLast?_singleton,Option.some_or,List.length_append,List.length_singleton,List.append_assoc,List.singleton_append] at this
    exact this
theorem qOt (f:Str→Int→List Te):∀ (ms pre:List Im) (b:Int) (t:Int),zO f b ms t=(match xh b pre.length ms t with
 | none=>[]
 | some (i,d)=>match (pre++ms)[i]? with
  | some (.clip n p q r s _)=>[⟨n,qLa p q r s d,1,1⟩]
  | some (.nest nm b _)=>f nm (b+d)
  | _=>[])
 | [],pre,b,t=>rfl
 | m::ms,pre,b,t=>by
  rw [zO,xh]
  by_cases hc:b≤t∧t < b+m.mo
  · rw [if_pos hc,if_pos hc]
    have e0:(pre++m::ms)[pre.length]? =some m:=by simp
    dsimp only
    rw [e0]
    cases m <;> rfl
  · rw [if_neg hc,if_neg hc]
    have:=qOt f ms (pre++[m]) (b+m.mo) t
    simp only [List.length_append,List.length_singleton,List.append_assoc,List.singleton_append] at this
    exact this
theorem qNa (f:Str→Int→List Te)(ms:List Im)(t:Int):jz f ms t=zI f ms t:=by
 unfold jz zI
 have h1:=qJq ms [] 0 t
 have h2:=qOt f ms [] 0 t
 simp only [List.getLast?_nil,List.length_nil,List.nil_append] at h1 h2
 rw [h1]
 cases hm:qFb 0 0 ms t with
 | some x=>rfl
 | none=>rw [h2];rfl
theorem qAc (c:Int):∀ (ms:List Im) (p:Option Im) (b t:Int),zp p (b+c) ms (t+c)=zp p b ms t
 | [],_,_,_=>by simp [zp]
 | m::ms,p,b,t=>by
  by_cases hm:m.wd="mix"
  · obtain⟨l,rfl⟩:=jD hm
    rw [j5,j5,qAc c ms]
    by_cases h:b - l.fdiv 2≤t∧t < b+(l - l.fdiv 2)
    · rw [if_pos h,if_pos (by omega),show t+c - (b+c - l.fdiv 2)=t - (b - l.fdiv 2) by omega]
    · rw [if_neg h,if_neg (by omega)]
  · rw [qk hm,qk hm,show b+c+m.mo=b+m.mo+c by omega,qAc c ms]
theorem qAf (f:Str→Int→List Te)(c:Int):∀ (ms:List Im) (b t:Int),zO f (b+c) ms (t+c)=zO f b ms t
 | [],_,_=>rfl
 | m::ms,b,t=>by
  rw [zO,zO,show b+c+m.mo=b+m.mo+c by omega,qAf f c ms]
  by_cases h:b≤t∧t < b+m.mo
  · rw [if_pos h,if_pos (by omega),show t+c - (b+c)=t - b by omega]
  · rw [if_neg h,if_neg (by omega)]
theorem jx:∀ (ms:List Im) (p:Option Im) (b t:Int),(∀ x∈ql b ms,¬ (x.1≤t∧t < x.2.2))→zp p b ms t=none
 | [],_,_,_,_=>by simp [zp]
 | m::ms,p,b,t,h=>by
  by_cases hm:m.wd="mix"
  · obtain⟨l,rfl⟩:=jD hm
    rw [ql] at h
    have h0:¬ (b - l.fdiv 2≤t∧t < b+(l - l.fdiv 2)):=h (b - l.fdiv 2,b,b+(l - l.fdiv 2)) (by simp)
    rw [j5,if_neg h0]
    exact jx ms _ b t fun x hx=>h x (by simp [hx])
  · rw [qh hm] at h
    rw [qk hm]
    exact jx ms _ _ t h
def NLM (A:List Im):Prop:=∀ l,A.getLast?≠some (.mix l)
def NHM (A:List Im):Prop:=∀ l,A.head?≠some (.mix l)
theorem qR (m:Im)(ms:List Im):qV (m::ms)=m.mo+qV ms:=by simp [qV]
theorem jb (A B:List Im):qV (A++B)=qV A+qV B:=by simp [qV]
theorem qf:qV []=0:=rfl
theorem je (m:Im)(A:List Im):(m::A).getLast?=A.getLast?.or (some m):=by
 cases A with
 | nil=>rfl
 | cons a A=>rw [List.getLast?_cons_cons];cases h:(a::A).getLast? with
  | none=>simp at h
  | some x=>rfl
theorem vk (B:List Im)(t:Int):∀ (A:List Im) (p:Option Im) (b:Int),NLM A→zp p b (A++B) t=(zp p b A t).or (zp (A.getLast?.or p) (b+qV A) B t)
 | [],p,b,_=>by simp [zp,qf]
 | m::A,p,b,h=>by
  have hA:NLM A:=fun l e=>h l (by rw [je,e];rfl)
  have el:(m::A).getLast?.or p=A.getLast?.or (some m):=by rw [je];cases A.getLast? <;> rfl
  rw [el]
  by_cases hm:m.wd="mix"
  · obtain⟨l,rfl⟩:=jD hm
    have ne:A≠[]:=fun e=>h l (by rw [e];rfl)
    rw [List.cons_append,j5,j5,vk B t A _ _ hA,qR,show b+((Im.mix l).mo+qV A)=b+qV A by simp [Im.mo]]
    have eh:(A++B).head?=A.head?:=by cases A with
     | nil=>exact absurd rfl ne
     | cons a A=>rfl
    rw [eh]
    split <;> rfl
  · rw [List.cons_append,qk hm,qk hm,vk B t A _ _ hA,qR,show b+(m.mo+qV A)=b+m.mo+qV A by omega]
theorem qH3 {B:List Im}(h:NHM B)(p p':Option Im)(b t:Int):zp p b B t=zp p' b B t:=by
 cases B with
 | nil=>simp [zp]
 | cons m B=>
  by_cases hm:m.wd="mix"
  · obtain⟨l,rfl⟩:=jD hm
    exact absurd rfl (h l)
  · rw [qk hm,qk hm]
def Nn (ms:List Im):Prop:=∀ m∈ms,0≤m.mo
theorem Nn.tail {m:Im}{ms:List Im}(h:Nn (m::ms)):Nn ms:=fun x hx=>h x (by simp [hx])
theorem Nn.len {ms:List Im}(h:Nn ms):0≤qV ms:=qFn ms h
theorem kD (f:Str→Int→List Te):∀ (ms:List Im) (b t:Int),Nn ms→t < b→zO f b ms t=[]
 | [],_,_,_,_=>rfl
 | m::ms,b,t,h,ht=>by
  have:=h m (by simp)
  rw [zO,if_neg (by omega)]
  exact kD f ms _ _ h.tail (by omega)
theorem qEz (f:Str→Int→List Te):∀ (ms:List Im) (b t:Int),Nn ms→b+qV ms≤t→zO f b ms t=[]
 | [],_,_,_,_=>rfl
 | m::ms,b,t,h,ht=>by
  have:=h m (by simp)
  have:=h.tail.len
  rw [qR] at ht
  rw [zO,if_neg (by omega)]
  exact qEz f ms _ _ h.tail (by omega)
theorem wb (f:Str→Int→List Te)(B:List Im)(t:Int)(hB:Nn B):∀ (A:List Im) (b:Int),Nn A→zO f b (A++B) t=if t < b+qV A then zO f b A t else zO f (b+qV A) B t
 | [],b,_=>by
  rw [List.nil_append,qf,Int.add_zero]
  split
  · exact kD f B b t hB (by omega)
  · rfl
 | m::A,b,h=>by
  have h0:=h m (by simp)
  have hl:=h.tail.len
  rw [List.cons_append,zO,zO,wb f B t hB A _ h.tail,qR,show b+(m.mo+qV A)=b+m.mo+qV A by omega]
  by_cases hc:b≤t∧t < b+m.mo
  · rw [if_pos hc,if_pos hc,if_pos (by omega)]
  · rw [if_neg hc,if_neg hc]
def Wf (m:Im):Prop:=match m with
 | .clip _ p q r s l=>0 < q∧0 < s∧Int.gcd p q=1∧1≤l
 | .nest _ _ l=>1≤l
 | .gap l=>1≤l
 | .mix l=>1≤l
theorem Wf.mo {m:Im}(h:Wf m):0≤m.mo:=by
 cases m with
 | clip n p q r s l=>have:1≤l:=h.2.2.2;show 0≤l;omega
 | nest n b l=>have h:1≤l:=h;show 0≤l;omega
 | gap l=>have h:1≤l:=h;show 0≤l;omega
 | mix l=>exact Int.le_refl _
theorem qGq {p q r s lo k:Int}(hq:0 < q)(hs:0 < s):qLa (plP p q r s lo) (plQ p q r s lo) r s k=qLa p q r s (lo+k):=qS9 hq hs
theorem qLh (f:Str→Int→List Te){m:Im}(hm:m.wd≠"mix")(hw:Wf m)(lo hi k:Int):itT f (jT m lo hi) k=itT f m (lo+k):=by
 cases m with
 | mix l=>exact absurd rfl hm
 | clip n p q r s l=>
  show [(⟨n,qLa (plP p q r s lo) (plQ p q r s lo) r s k,1,1⟩:Te)]=[⟨n,qLa p q r s (lo+k),1,1⟩]
  rw [qGq hw.1 hw.2.1]
 | nest n b l=>show f n (b+lo+k)=f n (b+(lo+k));rw [Int.add_assoc]
 | gap l=>rfl
theorem qRv {m:Im}(hm:m.wd≠"mix")(hw:Wf m)(lo:Int)(l:Int)(h:Option Im)(j:Int):mxT (some (jT m lo m.mo)) l h j=mxT (some m) l h j:=by
 cases m with
 | mix l=>exact absurd rfl hm
 | clip n p q r s k=>
  cases h with
  | none=>rfl
  | some y=>
   cases y with
   | clip n' p' q' r' s' k'=>
    unfold jT mxT
    dsimp only [Im.mo]
    rw [qGq hw.1 hw.2.1,show lo+(k - lo+(j - l.fdiv 2))=k+(j - l.fdiv 2) by omega]
   | _=>rfl
 | nest n b l=>rfl
 | gap l=>rfl
theorem qR7 {m:Im}(hm:m.wd≠"mix")(hw:Wf m)(hi:Int)(p:Option Im)(l j:Int):mxT p l (some (jT m 0 hi)) j=mxT p l (some m) j:=by
 cases m with
 | mix l=>exact absurd rfl hm
 | clip n p' q r s k=>
  cases p with
  | none=>rfl
  | some y=>
   cases y with
   | clip n' p'' q' r' s' k'=>
    unfold jT mxT
    dsimp only
    rw [qGq hw.1 hw.2.1,Int.zero_add]
   | _=>rfl
 | nest n b l=>cases p with
  | none=>rfl
  | some y=>cases y <;> rfl
 | gap l=>cases p with
  | none=>rfl
  | some y=>cases y <;> rfl
theorem xv {m:Im}(lo hi:Int):(jT m lo hi).mo=hi - lo:=by cases m <;> rfl
theorem xY (m:Im)(lo hi:Int):(jT m lo hi).wd≠"mix":=by
 cases m
 · show ("clip":Str)≠"mix";decide+kernel
 · show ("nest":Str)≠"mix";decide+kernel
 · show ("gap":Str)≠"mix";decide+kernel
 · show ("gap":Str)≠"mix";decide+kernel
theorem qLx {m m':Im}(he:∀ l h j,mxT (some m) l h j=mxT (some m') l h j)(B:List Im)(b t:Int):zp (some m) b B t=zp (some m') b B t:=by
 cases B with
 | nil=>simp [zp]
 | cons x B=>
  by_cases hm:x.wd="mix"
  · obtain⟨l,rfl⟩:=jD hm
    rw [j5,j5,he]
  · rw [qk hm,qk hm]
theorem qAi {m:Im}(hm:m.wd≠"mix")(hw:Wf m)(d:Int)(B:List Im)(t:Int):∀ (A:List Im) (p:Option Im) (b:Int),zp p b (A++jT m 0 d::jT m d m.mo::B) t=zp p b (A++m::B) t
 | [],p,b=>by
  rw [List.nil_append,List.nil_append,qk (xY m 0 d),qk (xY m d m.mo),qk hm,xv,xv,show b+(d - 0)+(m.mo - d)=b+m.mo by omega]
  exact qLx (qRv hm hw d) B _ t
 | x::A,p,b=>by
  by_cases hx:x.wd="mix"
  · obtain⟨l,rfl⟩:=jD hx
    rw [List.cons_append,List.cons_append,j5,j5,qAi hm hw d B t A]
    cases A with
    | nil=>
     show (if _ then some (mxT p l (some (jT m 0 d)) _) else _)=if _ then some (mxT p l (some m) _) else _
     rw [qR7 hm hw]
    | cons a A=>rfl
  · rw [List.cons_append,List.cons_append,qk hx,qk hx,qAi hm hw d B t A]
theorem qE4 (f:Str→Int→List Te){m:Im}(hm:m.wd≠"mix")(hw:Wf m){d:Int}(d0:0 < d)(d1:d < m.mo)(B:List Im)(t:Int):∀ (A:List Im) (b:Int),zO f b (A++jT m 0 d::jT m d m.mo::B) t=zO f b (A++m::B) t
 | [],b=>by
  rw [List.nil_append,List.nil_append,zO,zO,zO,xv,xv,show b+(d - 0)+(m.mo - d)=b+m.mo by omega]
  by_cases h1:b≤t∧t < b+d
  · rw [if_pos (by omega),if_pos (by omega),qLh f hm hw,Int.zero_add]
  · rw [if_neg (by omega)]
    by_cases h2:b+d≤t∧t < b+m.mo
    · rw [if_pos (by omega),if_pos (by omega),qLh f hm hw,show d+(t - (b+(d - 0)))=t - b by omega]
    · rw [if_neg (by omega),if_neg (by omega)]
 | x::A,b=>by
  rw [List.cons_append,List.cons_append,zO,zO,qE4 f hm hw d0 d1 B t A]
def jl:Int→List Im→List Im × List Im
 | _,[]=>([],[])
 | t,m::ms=>if m.mo≤t then (m::(jl (t - m.mo) ms).1,(jl (t - m.mo) ms).2) else if 0 < t then ([jT m 0 t],jT m t m.mo::ms) else ([],m::ms)
theorem j3:∀ (ms:List Im) (c:Int),0≤c→((jl c ms).1++(jl c ms).2=ms∧(qV (jl c ms).1=c∨(qV (jl c ms).1=qV ms∧qV ms≤c∧(jl c ms).2=[])))∨∃ (A B:List Im) (m:Im) (d:Int),ms=A++m::B∧(jl c ms).1=A++[jT m 0 d]∧(jl c ms).2=jT m d m.mo::B∧0 < d∧d < m.mo∧m.wd≠"mix"∧c=qV A+d
 | [],c,hc=>.inl ⟨rfl,.inr ⟨rfl,by rw [qf];exact hc,rfl⟩⟩
 | m::ms,c,hc=>by
  rw [jl]
  by_cases h:m.mo≤c
  · rw [if_pos h]
    dsimp only
    rcases j3 ms (c - m.mo) (by omega) with ⟨h1,h2⟩ | ⟨A,B,x,d,h1,h2,h3,h4,h5,h6,h7⟩
    · refine .inl ⟨by rw [List.cons_append,h1],?_⟩
      rw [qR,qR]
      rcases h2 with h2 | ⟨h2,h3,h4⟩
      · exact .inl (by omega)
      · exact .inr ⟨by omega,by omega,h4⟩
    · exact .inr ⟨m::A,B,x,d,by rw [h1];rfl,by rw [h2];rfl,h3,h4,h5,h6,by rw [qR];omega⟩
  · rw [if_neg h]
    by_cases h0:0 < c
    · rw [if_pos h0]
      refine .inr ⟨[],ms,m,c,rfl,rfl,rfl,h0,by omega,fun e=>?_,by rw [qf];omega⟩
      obtain⟨l,rfl⟩:=jD e
      exact h (by show (0:Int)≤c;omega)
    · rw [if_neg h0]
      exact .inl ⟨rfl,.inl (by show qV []=c;rw [qf];omega)⟩
theorem qK1 (f:Str→Int→List Te){ms:List Im}(hw:∀ m∈ms,Wf m){c:Int}(hc:0≤c)(t:Int):zI f ((jl c ms).1++(jl c ms).2) t=zI f ms t:=by
 rcases j3 ms c hc with ⟨h1,_⟩ | ⟨A,B,x,d,h1,h2,h3,h4,h5,h6,h7⟩
 · rw [h1]
 · rw [h2,h3,List.append_assoc]
   have hx:=hw x (by rw [h1];simp)
   unfold zI
   rw [h1]
   show (zp none 0 (A++jT x 0 d::jT x d x.mo::B) t).getD (zO f 0 (A++jT x 0 d::jT x d x.mo::B) t)=_
   rw [qAi h6 hx,qE4 f h6 hx h4 h5]
theorem wA {m:Im}(hm:m.wd≠"mix")(hw:Wf m):jT m 0 m.mo=m:=by
 cases m with
 | mix l=>exact absurd rfl hm
 | clip n p q r s l=>
  obtain⟨h1,h2⟩:=qNd (r:=r) (s:=s) hw.1 hw.2.1 hw.2.2.1
  show Im.clip n (plP p q r s 0) (plQ p q r s 0) r s (l - 0)=_
  rw [h1,h2,Int.sub_zero]
 | nest n b l=>show Im.nest n (b+0) (l - 0)=_;rw [Int.add_zero,Int.sub_zero]
 | gap l=>show Im.gap (l - 0)=_;rw [Int.sub_zero]
def NMA (b c:Int)(ms:List Im):Prop:=∀ x∈ql b ms,x.2.1≠c
theorem NMA.tail {b c:Int}{m:Im}{ms:List Im}(h:NMA b c (m::ms)):NMA (b+m.mo) c ms:=fun x hx=>by
 by_cases hm:m.wd="mix"
 · obtain⟨l,rfl⟩:=jD hm
   refine h x ?_
   rw [ql]
   have e:b+(Im.mix l).mo=b:=by simp [Im.mo]
   rw [e] at hx
   simp [hx]
 · refine h x ?_
   rw [qh hm];exact hx
theorem NMA.head {b c:Int}{l:Int}{ms:List Im}(h:NMA b c (.mix l::ms)):b≠c:=h (b - l.fdiv 2,b,b+(l - l.fdiv 2)) (by rw [ql];simp)
theorem Wf.pos {m:Im}(h:Wf m)(hm:m.wd≠"mix"):1≤m.mo:=by
 cases m with
 | clip n p q r s l=>exact h.2.2.2
 | nest n b l=>exact h
 | gap l=>exact h
 | mix l=>exact absurd rfl hm
theorem qHf:∀ (ms:List Im) (b c:Int),(∀ m∈ms,Wf m)→0≤b→c≤b→xq 0 c b ms=[]
 | [],_,_,_,_,_=>rfl
 | m::ms,b,c,hw,h0,hc=>by
  have hm0:=(hw m (by simp)).mo
  rw [xq,qHf ms (b+m.mo) c (fun x hx=>hw x (by simp [hx])) (by omega) (by omega),List.append_nil]
  by_cases hm:m.wd="mix"
  · rw [if_pos hm,if_neg (by omega)]
  · rw [if_neg hm,if_neg]
    unfold xU qJ1
    split <;> split <;> omega
theorem qQz:∀ (ms:List Im) (b c:Int),(∀ m∈ms,Wf m)→NMA b c ms→0≤b→b≤c→(b=0→NHM ms)→xq 0 c b ms=(jl (c - b) ms).1
 | [],_,_,_,_,_,_,_=>rfl
 | m::ms,b,c,hw,hn,h0,hc,hh=>by
  have hwm:=hw m (by simp)
  have hm0:=hwm.mo
  rw [xq,jl]
  by_cases hm:m.wd="mix"
  · obtain⟨l,rfl⟩:=jD hm
    have e0:(Im.mix l).mo=0:=rfl
    have hbc:=hn.head
    have hb0:b≠0:=fun e=>hh e l rfl
    rw [if_pos hm,if_pos ⟨by omega,by omega⟩,if_pos (by omega),e0,qQz ms (b+0) c (fun x hx=>hw x (by simp [hx])) hn.tail (by omega) (by omega) (fun e=>absurd e (by omega))]
    rw [show c - (b+0)=c - b - 0 by omega]
    rfl
  · have hp:=hwm.pos hm
    have e1:xU 0 b=b:=by unfold xU;split <;> omega
    rw [if_neg hm,e1]
    by_cases h:m.mo≤c - b
    · have e2:qJ1 c (b+m.mo)=b+m.mo:=by unfold qJ1;split <;> omega
      rw [e2,if_pos (by omega),if_pos h,qQz ms (b+m.mo) c (fun x hx=>hw x (by simp [hx])) hn.tail (by omega) (by omega) (fun e=>absurd e (by omega)),show b - b=0 by omega,show b+m.mo - b=m.mo by omega,wA hm hwm,show c - (b+m.mo)=c - b - m.mo by omega]
      rfl
    · have e2:qJ1 c (b+m.mo)=c:=by unfold qJ1;split <;> omega
      rw [e2,if_neg h,qHf ms (b+m.mo) c (fun x hx=>hw x (by simp [hx])) (by omega) (by omega),List.append_nil]
      by_cases hlt:0 < c - b
      · rw [if_pos (by omega),if_pos hlt,show b - b=0 by omega]
      · rw [if_neg (by omega),if_neg hlt]
theorem qDt:∀ (ms:List Im) (b c E:Int),(∀ m∈ms,Wf m)→c≤b→(b=c→NHM ms)→E=b+qV ms→(∀ x∈ql b ms,x.2.1 < E)→xq c E b ms=ms
 | [],_,_,_,_,_,_,_,_=>rfl
 | m::ms,b,c,E,hw,hc,hh,hE,hx=>by
  have hwm:=hw m (by simp)
  have hm0:=hwm.mo
  have hl:=Nn.len (ms:=ms) fun x hx=>(hw x (by simp [hx])).mo
  rw [qR] at hE
  rw [xq]
  by_cases hm:m.wd="mix"
  · obtain⟨l,rfl⟩:=jD hm
    have hb:b≠c:=fun e=>hh e l rfl
    rw [ql] at hx
    have hbE:b < E:=hx (b - l.fdiv 2,b,b+(l - l.fdiv 2)) (by simp)
    have e0:b+(Im.mix l).mo=b:=by simp [Im.mo]
    rw [if_pos hm,if_pos ⟨by omega,hbE⟩,e0,qDt ms b c E (fun x hx=>hw x (by simp [hx])) hc (fun e=>absurd e hb) (by simp [Im.mo] at hE;omega) (fun x h=>hx x (by simp [h]))]
    rfl
  · have hp:=hwm.pos hm
    rw [qh hm] at hx
    have e1:xU c b=b:=by unfold xU;split <;> omega
    have e2:qJ1 E (b+m.mo)=b+m.mo:=by unfold qJ1;split <;> omega
    rw [if_neg hm,e1,e2,if_pos (by omega),show b - b=0 by omega,show b+m.mo - b=m.mo by omega,wA hm hwm,qDt ms (b+m.mo) c E (fun x hx=>hw x (by simp [hx])) (by omega) (fun e=>absurd e (by omega)) (by omega) hx]
    rfl
theorem qSi:∀ (ms:List Im) (b c E:Int),(∀ m∈ms,Wf m)→NMA b c ms→b≤c→E=b+qV ms→(∀ x∈ql b ms,x.2.1 < E)→xq c E b ms=(jl (c - b) ms).2
 | [],_,_,_,_,_,_,_,_=>rfl
 | m::ms,b,c,E,hw,hn,hc,hE,hx=>by
  have hwm:=hw m (by simp)
  have hm0:=hwm.mo
  have hl:=Nn.len (ms:=ms) fun x hx=>(hw x (by simp [hx])).mo
  rw [qR] at hE
  rw [xq,jl]
  by_cases hm:m.wd="mix"
  · obtain⟨l,rfl⟩:=jD hm
    have hbc:=hn.head
    have e0:(Im.mix l).mo=0:=rfl
    rw [if_pos hm,if_neg (by omega),if_pos (by omega),List.nil_append]
    dsimp only
    have hn':=hn.tail
    rw [e0] at hn' ⊢
    rw [ql] at hx
    rw [qSi ms (b+0) c E (fun x hx=>hw x (by simp [hx])) hn' (by omega) (by omega) (fun x h=>hx x (by rw [Int.add_zero] at h;simp [h])),show c - (b+0)=c - b - 0 by omega]
  · have hp:=hwm.pos hm
    rw [qh hm] at hx
    rw [if_neg hm]
    have e1:xU c b=c:=by unfold xU;split <;> omega
    have e2:qJ1 E (b+m.mo)=b+m.mo:=by unfold qJ1;split <;> omega
    rw [e1,e2]
    by_cases h:m.mo≤c - b
    · rw [if_neg (by omega),if_pos h,List.nil_append]
      dsimp only
      rw [qSi ms (b+m.mo) c E (fun x hx=>hw x (by simp [hx])) hn.tail (by omega) (by omega) hx,show c - (b+m.mo)=c - b - m.mo by omega]
    · rw [if_pos (by omega),if_neg h,show b+m.mo - b=m.mo by omega]
      have hh:b+m.mo=c→NHM ms:=fun e=>absurd e (by omega)
      rw [qDt ms (b+m.mo) c E (fun x hx=>hw x (by simp [hx])) (by omega) hh (by omega) hx]
      by_cases hlt:0 < c - b
      · rw [if_pos hlt];rfl
      · rw [if_neg hlt,show c - b=0 by omega,wA hm hwm];rfl
theorem qE5 (f:Str→Int→List Te):∀ (ms:List Im) (w b t:Int),Nn ms→0≤w→zO f b (jw w ms) t=zO f (b+w) ms t
 | [],w,b,t,_,_=>rfl
 | m::ms,w,b,t,hn,hw=>by
  have h0:=hn m (by simp)
  by_cases hg:m.wd="gap"
  · obtain⟨l,rfl⟩:=zk hg
    have h0:0≤l:=h0
    rw [jw,qE5 f ms _ _ _ hn.tail (by omega),zO]
    by_cases hc:b+w≤t∧t < b+w+l
    · rw [if_pos (show _∧t < b+w+(Im.gap l).mo from hc),kD f ms _ _ hn.tail (by omega)]
      rfl
    · rw [if_neg (show ¬ (_∧t < b+w+(Im.gap l).mo) from hc)]
      show zO f (b+(w+l)) ms t=zO f (b+w+l) ms t
      rw [Int.add_assoc]
  · have ih:=fun b=>qE5 f ms 0 b t hn.tail (Int.le_refl 0)
    rw [qi hg]
    by_cases hp:0 < w
    · rw [if_pos hp,zO]
      by_cases hc:b≤t∧t < b+w
      · rw [if_pos (show _∧t < b+(Im.gap w).mo from hc),kD f (m::ms) _ _ hn (by omega)]
        rfl
      · rw [if_neg (show ¬ (_∧t < b+(Im.gap w).mo) from hc)]
        show zO f (b+w) (m::jw 0 ms) t=_
        rw [zO,zO,ih,Int.add_zero]
    · rw [if_neg hp,show w=0 by omega,Int.add_zero,zO,zO,ih,Int.add_zero]
def qO8 (o:Option Im):Prop:=∃ n p q r s l,o=some (.clip n p q r s l)
def MO:Option Im→List Im→Prop
 | _,[]=>True
 | p,.mix l::ms=>(qO8 p∧qO8 ms.head?)∧MO (some (.mix l)) ms
 | _,.clip n p q r s l::ms=>MO (some (.clip n p q r s l)) ms
 | _,.nest n b l::ms=>MO (some (.nest n b l)) ms
 | _,.gap l::ms=>MO (some (.gap l)) ms
theorem jB {m:Im}(h:m.wd≠"mix")(p:Option Im)(ms:List Im):MO p (m::ms)=MO (some m) ms:=by
 cases m with
 | mix l=>exact absurd rfl h
 | _=>rfl
theorem MO.nh {p:Option Im}{ms:List Im}(h:MO p ms)(hp:¬ qO8 p):NHM ms:=by
 cases ms with
 | nil=>intro l e;cases e
 | cons m ms=>
  intro l e
  cases e
  exact hp h.1.1
theorem wp:∀ (ms:List Im) (w b t:Int) (p p':Option Im),0≤w→MO p' ms→Nn ms→(NHM ms∨(w=0∧p=p'))→zp p b (jw w ms) t=zp p' (b+w) ms t
 | [],w,b,t,p,p',_,_,_,_=>by simp [jw,zp]
 | m::ms,w,b,t,p,p',hw,hM,hN,hh=>by
  by_cases hm:m.wd="mix"
  · obtain⟨l,rfl⟩:=jD hm
    rcases hh with hh | ⟨rfl,rfl⟩
    · exact absurd rfl (hh l)
    obtain⟨⟨h1,h2⟩,h3⟩:=hM
    have hg:(Im.mix l).wd≠"gap":=by show ("mix":Str)≠"gap";decide+kernel
    rw [qi hg,if_neg (by omega),j5,j5,wp ms 0 b t _ (some (.mix l)) (Int.le_refl 0) h3 hN.tail (.inr ⟨rfl,rfl⟩),Int.add_zero]
    have eh:(jw 0 ms).head?=ms.head?:=by
     obtain⟨n,p,q,r,s,k,h2⟩:=h2
     cases ms with
     | nil=>cases h2
     | cons x ms=>cases h2;rw [jw,if_neg (by omega)];rfl
    rw [eh]
  · rw [jB hm] at hM
    by_cases hg:m.wd="gap"
    · obtain⟨l,rfl⟩:=zk hg
      have hn:NHM ms:=hM.nh fun⟨_,_,_,_,_,_,e⟩=>by cases e
      rw [jw,qk hm]
      rw [wp ms (w+l) b t p (some (.gap l)) (by have:0≤l:=hN (.gap l) (by simp);omega) hM (fun x hx=>hN x (by simp [hx])) (.inl hn)]
      show _=zp _ (b+w+l) ms t
      rw [Int.add_assoc]
    · rw [qi hg,qk hm]
      by_cases hp:0 < w
      · have hgn:(Im.gap w).wd≠"mix":=by show ("gap":Str)≠"mix";decide+kernel
        rw [if_pos hp,qk hgn,qk hm,wp ms 0 _ t (some m) (some m) (Int.le_refl 0) hM hN.tail (.inr ⟨rfl,rfl⟩),Int.add_zero]
        rfl
      · rw [if_neg hp,qk hm,wp ms 0 _ t (some m) (some m) (Int.le_refl 0) hM hN.tail (.inr ⟨rfl,rfl⟩),Int.add_zero,show w=0 by omega,Int.add_zero]
theorem zS:∀ (A B:List Im) (b:Int),ql b (A++B)=ql b A++ql (b+qV A) B
 | [],B,b=>by rw [qf,Int.add_zero];rfl
 | m::A,B,b=>by
  by_cases hm:m.wd="mix"
  · obtain⟨l,rfl⟩:=jD hm
    rw [List.cons_append,ql,ql,zS A B b,qR,show b+((Im.mix l).mo+qV A)=b+qV A by simp [Im.mo]]
    rfl
  · rw [List.cons_append,qh hm,qh hm,zS A B,qR,show b+(m.mo+qV A)=b+m.mo+qV A by omega]
theorem zT:∀ (ms:List Im) (b:Int),(∀ m∈ms,Wf m)→∀ x∈ql b ms,x.1≤x.2.1∧x.2.1 < x.2.2∧b≤x.2.1∧x.2.1≤b+qV ms
 | [],b,_,x,h=>by cases h
 | m::ms,b,hw,x,h=>by
  have hwm:=hw m (by simp)
  have hl:=Nn.len (ms:=ms) fun x hx=>(hw x (by simp [hx])).mo
  have h0:=hwm.mo
  rw [qR]
  by_cases hm:m.wd="mix"
  · obtain⟨l,rfl⟩:=jD hm
    have l1:1≤l:=hwm
    have e0:(Im.mix l).mo=0:=rfl
    rw [ql] at h
    rcases List.mem_cons.mp h with rfl | h
    · dsimp only
      have:=qt (p:=l) (q:=2) (by decide)
      refine⟨by omega,by omega,by omega,by omega⟩
    · have:=zT ms b (fun x hx=>hw x (by simp [hx])) x h
      omega
  · rw [qh hm] at h
    have:=zT ms (b+m.mo) (fun x hx=>hw x (by simp [hx])) x h
    omega
theorem qF4:∀ (ms:List Im) (b:Int) (p:Option Im),(∀ m∈ms,Wf m)→MO p ms→∀ x∈ql b ms,x.2.1 < b+qV ms
 | [],b,_,_,_,x,h=>by cases h
 | m::ms,b,p,hw,hM,x,h=>by
  have hwm:=hw m (by simp)
  have hw':∀ m∈ms,Wf m:=fun x hx=>hw x (by simp [hx])
  have h0:=hwm.mo
  rw [qR]
  by_cases hm:m.wd="mix"
  · obtain⟨l,rfl⟩:=jD hm
    have e0:(Im.mix l).mo=0:=rfl
    obtain⟨⟨h1,h2⟩,h3⟩:=hM
    rw [ql] at h
    rcases List.mem_cons.mp h with rfl | h
    · dsimp only
      obtain⟨n,p,q,r,s,k,h2⟩:=h2
      cases ms with
      | nil=>cases h2
      | cons y ms=>
       cases h2
       have hk:1≤k:=(hw' _ (List.mem_cons_self ..)).2.2.2
       have hl:=Nn.len (ms:=ms) fun x hx=>(hw x (by simp [hx])).mo
       rw [qR]
       show b < b+(0+(k+qV ms))
       omega
    · have:=qF4 ms b _ hw' h3 x h
      omega
  · rw [jB hm] at hM
    rw [qh hm] at h
    have:=qF4 ms (b+m.mo) _ hw' hM x h
    omega
theorem MO.nl:∀ {ms:List Im} {p:Option Im},MO p ms→NLM ms
 | [],_,_=>fun l e=>by cases e
 | m::ms,p,h=>fun l e=>by
  rw [je] at e
  by_cases hm:m.wd="mix"
  · obtain⟨k,rfl⟩:=jD hm
    cases ms with
    | nil=>obtain⟨_,_,_,_,_,_,e⟩:=h.1.2;cases e
    | cons x ms=>
     refine h.2.nl l ?_
     cases h':(x::ms).getLast? with
     | none=>simp at h'
     | some y=>rw [h'] at e;exact e
  · rw [jB hm] at h
    cases ms with
    | nil=>cases e;exact hm rfl
    | cons x ms=>
     refine h.nl l ?_
     cases h':(x::ms).getLast? with
     | none=>simp at h'
     | some y=>rw [h'] at e;exact e
theorem qNr {ms:List Im}(h:∀ m∈ms,m.wd≠"mix")(b:Int):ql b ms=[]:=by
 induction ms generalizing b with
 | nil=>rfl
 | cons m ms ih=>rw [qh (h m (by simp))];exact ih (fun x hx=>h x (by simp [hx])) _
theorem qC5 (m:Im)(lo hi:Int):qV [jT m lo hi]=hi - lo:=by rw [qR,xv,qf,Int.add_zero]
theorem wt {ms:List Im}(hw:∀ m∈ms,Wf m){c:Int}(hc:0≤c)(hn:NMA 0 c ms):(∀ x∈ql 0 (jl c ms).1,x∈ql 0 ms∧x.2.1 < c)∧(∀ x∈ql c (jl c ms).2,x∈ql 0 ms∧c < x.2.1)∧((jl c ms).2=[]∨qV (jl c ms).1=c)∧qV (jl c ms).1≤c:=by
 have ord:=zT ms 0 hw
 rcases j3 ms c hc with ⟨h1,h2⟩ | ⟨A,B,m,d,h1,h2,h3,h4,h5,h6,h7⟩
 · have hwL:∀ m∈(jl c ms).1,Wf m:=fun m hm=>hw m (by rw [← h1];exact List.mem_append_left _ hm)
   have hwR:∀ m∈(jl c ms).2,Wf m:=fun m hm=>hw m (by rw [← h1];exact List.mem_append_right _ hm)
   have hs:ql 0 ms=ql 0 (jl c ms).1++ql (0+qV (jl c ms).1) (jl c ms).2:=by rw [← zS,h1]
   refine⟨fun x hx=>?_,fun x hx=>?_,?_,?_⟩
   · have hx':x∈ql 0 ms:=by rw [hs];exact List.mem_append_left _ hx
     have h4:=zT _ 0 hwL x hx
     have h5:=hn x hx'
     refine⟨hx',?_⟩
     rcases h2 with h2 | ⟨h2,h3,_⟩ <;> omega
   · rcases h2 with h2 | ⟨h2,h3,h4⟩
     · rw [h2,Int.zero_add] at hs
       have hx':x∈ql 0 ms:=by rw [hs];exact List.mem_append_right _ hx
       have h4:=zT _ c hwR x hx
       have h5:=hn x hx'
       exact⟨hx',by omega⟩
     · rw [h4] at hx;cases hx
   · rcases h2 with h2 | ⟨h2,h3,h4⟩
     · exact .inr h2
     · exact .inl h4
   · rcases h2 with h2 | ⟨h2,h3,h4⟩ <;> omega
 · have hwA:∀ m∈A,Wf m:=fun x hx=>hw x (by rw [h1];simp [hx])
   have hwB:∀ m∈B,Wf m:=fun x hx=>hw x (by rw [h1];simp [hx])
   have hs:ql 0 ms=ql 0 A++ql (0+qV A+m.mo) B:=by rw [h1,zS,qh h6]
   rw [h2,h3]
   refine⟨fun x hx=>?_,fun x hx=>?_,.inr ?_,?_⟩
   · rw [zS,qh (xY m 0 d)] at hx
     rcases List.mem_append.mp hx with hx | hx
     · have h8:=zT _ 0 hwA x hx
       exact⟨by rw [hs];exact List.mem_append_left _ hx,by omega⟩
     · cases hx
   · rw [qh (xY m d m.mo),xv,show c+(m.mo - d)=0+qV A+m.mo by omega] at hx
     have h8:=zT _ _ hwB x hx
     exact⟨by rw [hs];exact List.mem_append_right _ hx,by omega⟩
   · rw [jb,qC5];omega
   · rw [jb,qC5];omega
theorem qH8 {ms:List Im}(hw:∀ m∈ms,Wf m){c:Int}(hc:0≤c)(hn:NMA 0 c ms)(hM:MO none ms):NLM (jl c ms).1:=by
 obtain⟨s1,_,s3,_⟩:=wt hw hc hn
 rcases j3 ms c hc with ⟨h1,h2⟩ | ⟨A,B,m,d,h1,h2,h3,h4,h5,h6,h7⟩
 · intro l e
   rcases s3 with h | h
   · rw [h,List.append_nil] at h1
     rw [h1] at e
     exact hM.nl l e
   · obtain⟨A,eA⟩:=List.getLast?_eq_some_iff.mp e
     have hx:(0+qV A - l.fdiv 2,0+qV A,0+qV A+(l - l.fdiv 2))∈ql 0 (jl c ms).1:=by
      rw [eA,zS]
      exact List.mem_append_right _ (by rw [ql];simp)
     have:=(s1 _ hx).2
     rw [eA,jb,qR,qf] at h
     have e0:(Im.mix l).mo=0:=rfl
     dsimp only at this
     omega
 · rw [h2]
   intro l e
   rw [List.getLast?_append] at e
   have e:jT m 0 d= .mix l:=by simpa using e
   exact xY m 0 d (by rw [e];rfl)
theorem qIw {ms:List Im}(hw:∀ m∈ms,Wf m){c:Int}(hc:0≤c)(hn:NMA 0 c ms):NHM (jl c ms).2:=by
 obtain⟨_,s2,_,_⟩:=wt hw hc hn
 intro l e
 cases h:(jl c ms).2 with
 | nil=>rw [h] at e;cases e
 | cons x R=>
  rw [h] at e s2
  cases e
  have:=(s2 (c - l.fdiv 2,c,c+(l - l.fdiv 2)) (by rw [ql];simp)).2
  dsimp only at this
  omega
theorem qF3 (p p':Option Im)(A B:List Im)(hA:MO p A)(hB:MO (A.getLast?.or p) B):MO p (A++B):=by
 induction A generalizing p with
 | nil=>exact hB
 | cons m A ih=>
  have el:(m::A).getLast?.or p=A.getLast?.or (some m):=by rw [je];cases A.getLast? <;> rfl
  rw [el] at hB
  by_cases hm:m.wd="mix"
  · obtain⟨l,rfl⟩:=jD hm
    obtain⟨⟨h1,h2⟩,h3⟩:=hA
    refine⟨⟨h1,?_⟩,ih _ h3 hB⟩
    cases A with
    | nil=>obtain⟨_,_,_,_,_,_,e⟩:=h2;cases e
    | cons a A=>exact h2
  · rw [List.cons_append,jB hm] at*
    exact ih _ hA hB
theorem qMc {A:List Im}(h:∀ m∈A,m.wd≠"mix")(p:Option Im):MO p A:=by
 induction A generalizing p with
 | nil=>exact trivial
 | cons m A ih=>rw [jB (h m (by simp))];exact ih (fun x hx=>h x (by simp [hx])) _
theorem qRq {B:List Im}(h:NHM B){p p':Option Im}(hB:MO p B):MO p' B:=by
 cases B with
 | nil=>exact trivial
 | cons m B=>
  by_cases hm:m.wd="mix"
  · obtain⟨l,rfl⟩:=jD hm
    exact absurd rfl (h l)
  · rw [jB hm] at*;exact hB
theorem qNw:∀ {A B:List Im} {p:Option Im},MO p (A++B)→NLM A→MO p A
 | [],_,_,_,_=>trivial
 | m::A,B,p,h,hl=>by
  have hA:NLM A:=fun l e=>hl l (by rw [je,e];rfl)
  by_cases hm:m.wd="mix"
  · obtain⟨l,rfl⟩:=jD hm
    have ne:A≠[]:=fun e=>hl l (by rw [e];rfl)
    obtain⟨⟨h1,h2⟩,h3⟩:=h
    refine⟨⟨h1,?_⟩,qNw (B:=B) h3 hA⟩
    cases A with
    | nil=>exact absurd rfl ne
    | cons a A=>exact h2
  · rw [List.cons_append,jB hm] at h
    rw [jB hm]
    exact qNw h hA
theorem qIa:∀ {A B:List Im} {p:Option Im},MO p (A++B)→MO (A.getLast?.or p) B
 | [],_,_,h=>h
 | m::A,B,p,h=>by
  have el:(m::A).getLast?.or p=A.getLast?.or (some m):=by rw [je];cases A.getLast? <;> rfl
  rw [el]
  by_cases hm:m.wd="mix"
  · obtain⟨l,rfl⟩:=jD hm
    exact qIa h.2
  · rw [List.cons_append,jB hm] at h
    exact qIa h
theorem qGy {m:Im}(lo hi:Int):qO8 (some m)→qO8 (some (jT m lo hi)):=by
 rintro ⟨n,p,q,r,s,l,e⟩
 cases e
 exact⟨_,_,_,_,_,_,rfl⟩
theorem qKv {ms:List Im}(hw:∀ m∈ms,Wf m){c:Int}(hc:0≤c)(hn:NMA 0 c ms)(hM:MO none ms):MO none (jl c ms).1∧∀ p,MO p (jl c ms).2:=by
 have nl:=qH8 hw hc hn hM
 have nh:=qIw hw hc hn
 rcases j3 ms c hc with ⟨h1,h2⟩ | ⟨A,B,m,d,h1,h2,h3,h4,h5,h6,h7⟩
 · rw [← h1] at hM
   exact⟨qNw hM nl,fun p=>qRq nh (qIa hM)⟩
 · rw [h1] at hM
   rw [h2,h3] at*
   have hs:=qIa hM
   rw [jB h6] at hs
   refine⟨?_,fun p=>?_⟩
   ·
    have:∀ (A:List Im) (p:Option Im),MO p (A++m::B)→MO p (A++[jT m 0 d]):=fun A=>by
     induction A with
     | nil=>intro p _;exact qMc (fun x hx=>by rw [List.nil_append,List.mem_singleton] at hx;subst hx;exact xY m 0 d) p
     | cons a A ih=>
      intro p h
      by_cases ha:a.wd="mix"
      · obtain⟨l,rfl⟩:=jD ha
        obtain⟨⟨h1,h2⟩,h3⟩:=h
        refine⟨⟨h1,?_⟩,ih _ h3⟩
        cases A with
        | nil=>exact qGy 0 d h2
        | cons a A=>exact h2
      · rw [List.cons_append,jB ha] at*
        exact ih _ h
    exact this A none hM
   · rw [jB (xY m d m.mo)]
     cases B with
     | nil=>exact trivial
     | cons x B=>
      by_cases hx:x.wd="mix"
      · obtain⟨l,rfl⟩:=jD hx
        exact⟨⟨qGy d m.mo hs.1.1,hs.1.2⟩,hs.2⟩
      · rw [jB hx] at hs ⊢;exact hs
theorem qGt {m:Im}(hw:Wf m){lo hi:Int}(h:lo < hi):Wf (jT m lo hi):=by
 cases m with
 | clip n p q r s l=>exact⟨qHd hw.1 hw.2.1,hw.2.1,qTc hw.1 hw.2.1,by show 1≤hi - lo;omega⟩
 | nest n b l=>show 1≤hi - lo;omega
 | gap l=>show 1≤hi - lo;omega
 | mix l=>show 1≤hi - lo;omega
theorem vG {ms:List Im}(hw:∀ m∈ms,Wf m){c:Int}(hc:0≤c):(∀ m∈(jl c ms).1,Wf m)∧∀ m∈(jl c ms).2,Wf m:=by
 rcases j3 ms c hc with ⟨h1,h2⟩ | ⟨A,B,m,d,h1,h2,h3,h4,h5,h6,h7⟩
 · exact⟨fun m hm=>hw m (by rw [← h1];exact List.mem_append_left _ hm),fun m hm=>hw m (by rw [← h1];exact List.mem_append_right _ hm)⟩
 · rw [h2,h3]
   have hm:=hw m (by rw [h1];simp)
   refine⟨fun x hx=>?_,fun x hx=>?_⟩
   · rcases List.mem_append.mp hx with hx | hx
     · exact hw x (by rw [h1];simp [hx])
     · rw [List.mem_singleton] at hx;subst hx;exact qGt hm h4
   · rcases List.mem_cons.mp hx with rfl | hx
     · exact qGt hm h5
     · exact hw x (by rw [h1];simp [hx])
structure Rel (ms:List Im)(lo hi:Int)(ls:List Im):Prop where
 wf:∀ m∈ms,Wf m
 mo:MO none ms
 l0:0≤lo
 lh:lo≤hi
 nt:xB ms lo hi=false
 lw:∀ m∈ls,Wf m
 lm:∀ m∈ls,m.wd≠"mix"
theorem Rel.far {ms:List Im}{lo hi:Int}{ls:List Im}(h:Rel ms lo hi ls):∀ x∈ql 0 ms,(x.2.1 < lo∧x.2.2≤lo)∨(hi < x.2.1∧hi≤x.1):=by
 intro x hx
 have ord:=zT ms 0 h.wf x hx
 have nt:=h.nt
 have lh:=h.lh
 unfold xB at nt
 rw [List.any_eq_false] at nt
 have:=nt x hx
 unfold qMl at this
 simp only [Bool.or_eq_true,Bool.and_eq_true,decide_eq_true_eq] at this
 by_cases h1:x.2.1 < lo
 · left;refine⟨h1,?_⟩
   by_cases h2:x.2.2≤lo
   · exact h2
   · exact absurd (.inl ⟨by omega,by omega⟩) this
 · right
   have h2:hi < x.2.1:=by
    by_cases h3:hi < x.2.1
    · exact h3
    · exact absurd (.inr ⟨by omega,by omega⟩) this
   refine⟨h2,?_⟩
   by_cases h4:hi≤x.1
   · exact h4
   · exact absurd (.inl ⟨by omega,by omega⟩) this
theorem Rel.nlo {ms:List Im}{lo hi:Int}{ls:List Im}(h:Rel ms lo hi ls):NMA 0 lo ms:=fun x hx=>by have:=h.far x hx;have:=h.lh;omega
theorem Rel.nhi {ms:List Im}{lo hi:Int}{ls:List Im}(h:Rel ms lo hi ls):NMA 0 hi ms:=fun x hx=>by have:=h.far x hx;have:=h.lh;omega
theorem Rel.eq {ms:List Im}{lo hi:Int}{ls:List Im}(h:Rel ms lo hi ls):qBl ms lo hi ls=jw 0 ((jl lo ms).1++[.gap (xU (lo - qV ms) 0)]++ls++(jl hi ms).2):=by
 unfold qBl
 rw [qQz ms 0 lo h.wf h.nlo (Int.le_refl 0) h.l0 (fun _=>h.mo.nh fun⟨_,_,_,_,_,_,e⟩=>by cases e),qSi ms 0 hi (qV ms) h.wf h.nhi (by have:=h.l0;have:=h.lh;omega) (by omega) (fun x hx=>by have:=qF4 ms 0 none h.wf h.mo x hx;omega),Int.sub_zero,Int.sub_zero]
theorem qCw {ms:List Im}{c:Int}(hc:0≤c)(hw:∀ m∈ms,Wf m):qV (jl c ms).1+xU (c - qV ms) 0=c∧qV (jl c ms).1+qV (jl c ms).2=qV ms∧(c≤qV ms→qV (jl c ms).1=c):=by
 have hl:=Nn.len fun x hx=>(hw x hx).mo
 rcases j3 ms c hc with ⟨h1,h2⟩ | ⟨A,B,m,d,h1,h2,h3,h4,h5,h6,h7⟩
 · have e:qV (jl c ms).1+qV (jl c ms).2=qV ms:=by rw [← jb,h1]
   have:=Nn.len fun x hx=>((vG hw hc).2 x hx).mo
   have:=Nn.len fun x hx=>((vG hw hc).1 x hx).mo
   unfold xU
   rcases h2 with h2 | ⟨h2,h3,h4⟩
   · refine⟨by split <;> omega,e,fun _=>h2⟩
   · refine⟨by split <;> omega,e,fun _=>by omega⟩
 · have hm:=hw m (by rw [h1];simp)
   have hlB:=Nn.len (ms:=B) fun x hx=>(hw x (by rw [h1];simp [hx])).mo
   have e:qV ms=qV A+(m.mo+qV B):=by rw [h1,jb,qR]
   rw [h2,h3,jb,qC5,qR,xv]
   unfold xU
   refine⟨by split <;> omega,by omega,fun _=>by omega⟩
theorem qQh (f:Str→Int→List Te){ms:List Im}{lo hi:Int}{ls:List Im}(h:Rel ms lo hi ls){t:Int}(ht:0≤t):
 zI f (qBl ms lo hi ls) t=if t < lo then zI f ms t else if t < lo+qV ls then zI f ls (t - lo) else zI f ms (t - lo - qV ls+hi):=by
 have l0:=h.l0
 have lh:=h.lh
 have h0:0≤hi:=by omega
 obtain⟨a1,_,a3,a4⟩:=wt h.wf l0 h.nlo
 obtain⟨b1,b2,b3,b4⟩:=wt h.wf h0 h.nhi
 have aN:=qH8 h.wf l0 h.nlo h.mo
 have bN:=qH8 h.wf h0 h.nhi h.mo
 have bH:=qIw h.wf h0 h.nhi
 obtain⟨aM,aM2⟩:=qKv h.wf l0 h.nlo h.mo
 obtain⟨bM,bM2⟩:=qKv h.wf h0 h.nhi h.mo
 obtain⟨aW,aW2⟩:=vG h.wf l0
 obtain⟨bW,bW2⟩:=vG h.wf h0
 obtain⟨aL,aL2,_⟩:=qCw l0 h.wf
 have aH:=qIw h.wf l0 h.nlo
 have t1:=qK1 f h.wf l0 t
 have t2:=qK1 f h.wf h0 (t - lo - qV ls+hi)
 have a2:=(wt h.wf l0 h.nlo).2.1
 have hlls:=Nn.len fun x hx=>(h.lw x hx).mo
 rw [h.eq]
 generalize (jl lo ms).1=L at*
 generalize (jl lo ms).2=L2 at*
 generalize (jl hi ms).2=R at*
 generalize (jl hi ms).1=R1 at*
 generalize xU (lo - qV ms) 0=pad at*
 have pad0:0≤pad:=by omega
 have nL:Nn L:=fun x hx=>(aW x hx).mo
 have nL2:Nn L2:=fun x hx=>(aW2 x hx).mo
 have nR:Nn R:=fun x hx=>(bW2 x hx).mo
 have nR1:Nn R1:=fun x hx=>(bW x hx).mo
 have nls:Nn ls:=fun x hx=>(h.lw x hx).mo
 have nG:Nn (.gap pad::ls):=fun x hx=>by
  rcases List.mem_cons.mp hx with rfl | hx
  · exact pad0
  · exact nls x hx
 have mG:∀ m∈Im.gap pad::ls,m.wd≠"mix":=fun x hx=>by
  rcases List.mem_cons.mp hx with rfl | hx
  · show ("gap":Str)≠"mix";decide+kernel
  · exact h.lm x hx
 have nlG:NLM (.gap pad::ls):=fun l e=>mG (.mix l) (List.mem_of_getLast? e) rfl
 have eX:L++[.gap pad]++ls++R=L++((.gap pad::ls)++R):=by simp
 have lG:qV (.gap pad::ls)=pad+qV ls:=by rw [qR];rfl
 rw [eX]
 have nX:Nn (L++((.gap pad::ls)++R)):=fun x hx=>by
  rcases List.mem_append.mp hx with hx | hx
  · exact nL x hx
  · rcases List.mem_append.mp hx with hx | hx
    · exact nG x hx
    · exact nR x hx
 have MX:MO none (L++((.gap pad::ls)++R)):=by
  refine qF3 none none L _ aM (qF3 _ none _ R (qMc mG _) (bM2 _))
 have e1:zI f (jw 0 (L++((.gap pad::ls)++R))) t=((zp none 0 L t).or (zp none (lo+qV ls) R t)).getD (if t < qV L then zO f 0 L t else if t < lo+qV ls then zO f (qV L) (.gap pad::ls) t else zO f (lo+qV ls) R t):=by
  unfold zI
  rw [wp _ 0 0 t none none (Int.le_refl 0) MX nX (.inr ⟨rfl,rfl⟩),qE5 f _ 0 0 t nX (Int.le_refl 0),Int.add_zero]
  rw [vk _ t L _ _ aN,vk R t _ _ _ nlG,jx (.gap pad::ls) _ _ t (fun x hx=>by rw [qNr mG] at hx;cases hx),qH3 bH _ none,lG]
  rw [wb f _ t (fun x hx=>(List.mem_append.mp hx).elim (nG x) (nR x)) L 0 nL,wb f R t nR _ _ nG,lG]
  rw [show 0+qV L+(pad+qV ls)=lo+qV ls by omega,show 0+qV L=qV L by omega]
  rfl
 rw [e1]
 have eg0:(Im.gap pad).mo=pad:=rfl
 have far:=h.far
 by_cases c1:t < lo
 · rw [if_pos c1,← t1]
   have m2:zp none (lo+qV ls) R t=none:=by
    refine jx _ _ _ _ fun x hx=>?_
    have hsp:∀ (B:List Im) (b c:Int) (x:Int × Int × Int),x∈ql (b+c) B→(x.1 - c,x.2.1 - c,x.2.2 - c)∈ql b B:=fun B=>by
     induction B with
     | nil=>intro b c x hx;cases hx
     | cons m B ih=>
      intro b c x hx
      by_cases hm:m.wd="mix"
      · obtain⟨l,rfl⟩:=jD hm
        rw [ql] at hx ⊢
        rcases List.mem_cons.mp hx with rfl | hx
        · refine List.mem_cons.mpr (.inl ?_)
          dsimp only
          ext <;> dsimp only <;> omega
        · exact List.mem_cons_of_mem _ (ih b c x hx)
      · rw [qh hm] at hx ⊢
        exact ih (b+m.mo) c x (by rw [show b+m.mo+c=b+c+m.mo by omega];exact hx)
    have hx':=hsp R hi (lo+qV ls - hi) x (by rw [show hi+(lo+qV ls - hi)=lo+qV ls by omega];exact hx)
    have hb:=b2 _ hx'
    have:=far _ hb.1
    have:=hb.2
    dsimp only at*
    omega
   have m3:zp (L.getLast?.or none) (0+qV L) L2 t=none:=by
    rcases a3 with e | e
    · rw [e];simp [zp]
    · rw [e,Int.zero_add]
      refine jx _ _ _ _ fun x hx=>?_
      have hb:=a2 x hx
      have:=far x hb.1
      have:=hb.2
      omega
   unfold zI
   rw [m2,vk L2 t L _ _ aN,m3,wb f L2 t nL2 L 0 nL,show 0+qV L=qV L by omega]
   congr 1
   by_cases c2:t < qV L
   · rw [if_pos c2,if_pos c2]
   · rw [if_neg c2,if_neg c2,if_pos (by omega),zO,eg0,if_pos ⟨by omega,by omega⟩]
     rcases a3 with e | e
     · rw [e];rfl
     · omega
 · rw [if_neg c1]
   have m1:zp none 0 L t=none:=jx _ _ _ _ fun x hx=>by
    have hb:=a1 x hx
    have:=far x hb.1
    omega
   rw [m1,Option.none_or,if_neg (by omega)]
   have hsp:∀ x∈ql (lo+qV ls) R,lo+qV ls≤x.1:=by
    intro x hx
    have hsp:∀ (B:List Im) (b c:Int) (x:Int × Int × Int),x∈ql (b+c) B→(x.1 - c,x.2.1 - c,x.2.2 - c)∈ql b B:=fun B=>by
     induction B with
     | nil=>intro b c x hx;cases hx
     | cons m B ih=>
      intro b c x hx
      by_cases hm:m.wd="mix"
      · obtain⟨l,rfl⟩:=jD hm
        rw [ql] at hx ⊢
        rcases List.mem_cons.mp hx with rfl | hx
        · refine List.mem_cons.mpr (.inl ?_)
          dsimp only
          ext <;> dsimp only <;> omega
        · exact List.mem_cons_of_mem _ (ih b c x hx)
      · rw [qh hm] at hx ⊢
        exact ih (b+m.mo) c x (by rw [show b+m.mo+c=b+c+m.mo by omega];exact hx)
    have hx':=hsp R hi (lo+qV ls - hi) x (by rw [show hi+(lo+qV ls - hi)=lo+qV ls by omega];exact hx)
    have hb:=b2 _ hx'
    have:=far _ hb.1
    have:=hb.2
    dsimp only at*
    omega
   by_cases c2:t < lo+qV ls
   · rw [if_pos c2,if_pos c2,jx R _ _ _ (fun x hx=>by have:=hsp x hx;omega)]
     unfold zI
     have eg:zO f (qV L) (.gap pad::ls) t=zO f 0 ls (t - lo):=by
      rw [zO,eg0,if_neg (by omega)]
      have I:=qAf f lo ls 0 (t - lo)
      rw [show t - lo+lo=t by omega] at I
      rw [show qV L+pad=0+lo by omega,I]
     rw [eg,jx ls _ _ _ (fun x hx=>by rw [qNr h.lm] at hx;cases hx)]
   · rw [if_neg c2,if_neg c2,← t2]
     unfold zI
     rw [vk R _ R1 _ _ bN,jx R1 _ _ _ (fun x hx=>by have hb:=b1 x hx;have:=far x hb.1;omega),Option.none_or,wb f R _ nR R1 0 nR1,if_neg (by omega)]
     rcases b3 with e | e
     · rw [e];simp [zp,zO]
     · have M:=qAc (lo+qV ls - hi) R none (0+hi) (t - lo - qV ls+hi)
       have I:=qAf f (lo+qV ls - hi) R (0+hi) (t - lo - qV ls+hi)
       rw [show t - lo - qV ls+hi+(lo+qV ls - hi)=t by omega,show 0+hi+(lo+qV ls - hi)=lo+qV ls by omega] at M I
       rw [e,qH3 bH (R1.getLast?.or none) none,M,I]
def OS:Bool→List Im→Prop
 | g,[]=>g=false
 | g,.gap l::ms=>g=false∧1≤l∧OS true ms
 | _,.clip .. ::ms=>OS false ms
 | _,.nest .. ::ms=>OS false ms
 | _,.mix _::ms=>OS false ms
theorem xC {m:Im}(h:m.wd≠"gap")(g:Bool)(ms:List Im):OS g (m::ms)=OS false ms:=by
 cases m with
 | gap l=>exact absurd rfl h
 | _=>rfl
theorem OS.one:∀ {ms:List Im},(OS false ms→jw 0 ms=ms)∧(OS true ms→∀ w,0 < w→jw w ms= .gap w::ms)
 | []=>⟨fun _=>rfl,fun h=>by cases h⟩
 | m::ms=>by
  obtain⟨i1,i2⟩:=OS.one (ms:=ms)
  by_cases hg:m.wd="gap"
  · obtain⟨l,rfl⟩:=zk hg
    refine⟨fun h=>?_,fun h=>?_⟩
    · rw [jw,i2 h.2.2 (0+l) (by have:=h.2.1;omega),Int.zero_add]
    · cases h.1
  · refine⟨fun h=>?_,fun h w hw=>?_⟩
    · rw [xC hg] at h
      rw [qi hg,if_neg (by omega),i1 h]
    · rw [xC hg] at h
      rw [qi hg,if_pos hw,i1 h]
theorem qNm {A B:Im}{rest:List Im}(l:Int)(hA:A.wd≠"gap")(hB:B.wd≠"gap"):∀ (pre:List Im) (g:Bool),OS g (pre++A::B::rest)→OS g (pre++A:: .mix l::B::rest)
 | [],g,h=>by
  rw [List.nil_append,xC hA,xC hB] at h
  rw [List.nil_append,xC hA]
  show OS false (B::rest)
  rw [xC hB]
  exact h
 | x::pre,g,h=>by
  by_cases hg:x.wd="gap"
  · obtain⟨k,rfl⟩:=zk hg
    exact⟨h.1,h.2.1,qNm l hA hB pre _ h.2.2⟩
  · rw [List.cons_append,xC hg] at h ⊢
    exact qNm l hA hB pre _ h
theorem qJz:∀ (ms:List Im) (w:Int),Nn ms→0≤w→OS false (jw w ms)
 | [],_,_,_=>rfl
 | m::ms,w,hn,hw=>by
  have h0:=hn m (by simp)
  by_cases hg:m.wd="gap"
  · obtain⟨l,rfl⟩:=zk hg
    have h0:0≤l:=h0
    rw [jw]
    exact qJz ms _ hn.tail (by omega)
  · have ih:=qJz ms 0 hn.tail (Int.le_refl 0)
    rw [qi hg]
    by_cases hp:0 < w
    · rw [if_pos hp]
      refine⟨rfl,by omega,?_⟩
      rw [xC hg];exact ih
    · rw [if_neg hp,xC hg];exact ih
def tkE (ms:List Im):Int:=match ms.head? with
 | some (.mix l)=>l.fdiv 2
 | _=>0
def FS (R:Im→Int→Im→Prop):Int→Option Im→List Im→Prop
 | _,_,[]=>True
 | _,p,.mix l::ms=>(∀ A B,p=some A→ms.head?=some B→R A l B)∧FS R (l - l.fdiv 2) (some (.mix l)) ms
 | tb,_,.clip n p q r s k::ms=>tb+tkE ms≤k∧FS R 0 (some (.clip n p q r s k)) ms
 | _,_,.nest n b l::ms=>FS R 0 (some (.nest n b l)) ms
 | _,_,.gap l::ms=>FS R 0 (some (.gap l)) ms
theorem qHz {R:Im→Int→Im→Prop}{n n':Str}{p q r s k p' q' r' s' k':Int}{rest:List Im}{l:Int}(h2:(l - l.fdiv 2)+tkE rest≤k')(hR:R (.clip n p q r s k) l (.clip n' p' q' r' s' k')):
 ∀ (pre:List Im) (tb:Int) (po:Option Im),(match pre.getLast? with | none=>tb | some (.mix x)=>x - x.fdiv 2 | _=>0)+l.fdiv 2≤k→FS R tb po (pre++ .clip n p q r s k:: .clip n' p' q' r' s' k'::rest)→FS R tb po (pre++ .clip n p q r s k:: .mix l:: .clip n' p' q' r' s' k'::rest)
 | [],tb,po,h1,h=>by
  refine⟨h1,fun A B eA eB=>?_,h2,h.2.2⟩
  cases eA;cases eB
  exact hR
 | x::pre,tb,po,h1,h=>by
  have hd:∀ (X Y:List Im),(pre++ .clip n p q r s k::X).head?=(pre++ .clip n p q r s k::Y).head?:=fun X Y=>by cases pre <;> rfl
  have e1:∀ tb',(x.wd≠"mix"→tb'=0)→(∀ y,x= .mix y→tb'=y - y.fdiv 2)→(match pre.getLast? with | none=>tb' | some (.mix x)=>x - x.fdiv 2 | _=>0)+l.fdiv 2≤k:=fun tb' ha hb=>by
   rw [je] at h1
   cases hg:pre.getLast? with
   | none=>
    rw [hg] at h1
    cases x with
    | mix y=>rw [hb y rfl];exact h1
    | _=>rw [ha (by first | (show ("clip":Str)≠"mix";decide+kernel) | (show ("nest":Str)≠"mix";decide+kernel) | (show ("gap":Str)≠"mix";decide+kernel))];exact h1
   | some z=>rw [hg] at h1;cases z <;> exact h1
  cases x with
  | mix y=>
   obtain⟨a1,a2⟩:=h
   refine⟨fun A B eA eB=>a1 A B eA (by rw [← eB];exact hd _ _),qHz h2 hR pre _ _ (e1 _ (fun c=>absurd rfl c) (fun y' e=>by cases e;rfl)) a2⟩
  | clip n1 p1 q1 r1 s1 k1=>
   obtain⟨a1,a2⟩:=h
   refine⟨?_,qHz h2 hR pre _ _ (e1 0 (fun _=>rfl) (fun y e=>by cases e)) a2⟩
   unfold tkE at a1 ⊢
   rw [List.append_eq] at*
   rw [hd (.mix l:: .clip n' p' q' r' s' k'::rest) (.clip n' p' q' r' s' k'::rest)]
   exact a1
  | nest n1 b1 l1=>exact qHz h2 hR pre _ _ (e1 0 (fun _=>rfl) (fun y e=>by cases e)) h
  | gap l1=>exact qHz h2 hR pre _ _ (e1 0 (fun _=>rfl) (fun y e=>by cases e)) h
theorem qR5 {R:Im→Int→Im→Prop}:∀ {ms:List Im} (p:Option Im),(∀ m∈ms,Wf m∧m.wd≠"mix")→FS R 0 p ms
 | [],_,_=>trivial
 | m::ms,p,h=>by
  have ih:=fun p=>qR5 (R:=R) (ms:=ms) p fun x hx=>h x (by simp [hx])
  obtain⟨hw,hm⟩:=h m (by simp)
  cases m with
  | mix l=>exact absurd rfl hm
  | clip n p' q r s k=>
   refine⟨?_,ih _⟩
   have e:tkE ms=0:=by
    unfold tkE
    cases ms with
    | nil=>rfl
    | cons x ms=>
     have:=(h x (by simp)).2
     cases x with
     | mix y=>exact absurd rfl this
     | _=>rfl
   rw [e]
   have:=hw.2.2.2
   omega
  | nest n b l=>exact ih _
  | gap l=>exact ih _
theorem FS.span {R:Im→Int→Im→Prop}:∀ {ms:List Im} {tb:Int} {p:Option Im} {b:Int},FS R tb p ms→MO p ms→(∀ m∈ms,Wf m)→∀ x∈ql b ms,x.2.2≤b+qV ms
 | [],_,_,_,_,_,_,x,hx=>by cases hx
 | m::ms,tb,p,b,h,hM,hw,x,hx=>by
  have hw':∀ m∈ms,Wf m:=fun x hx=>hw x (by simp [hx])
  have hl:=Nn.len fun x hx=>(hw' x hx).mo
  have h0:=(hw m (by simp)).mo
  rw [qR]
  by_cases hm:m.wd="mix"
  · obtain⟨l,rfl⟩:=jD hm
    have e0:(Im.mix l).mo=0:=rfl
    rw [ql] at hx
    rcases List.mem_cons.mp hx with rfl | hx
    · obtain⟨n,p,q,r,s,k,e⟩:=hM.1.2
      cases ms with
      | nil=>cases e
      | cons y ms=>
       cases e
       have h1:l - l.fdiv 2+tkE ms≤k:=h.2.1
       have hl':=Nn.len (ms:=ms) fun x hx=>(hw' x (by simp [hx])).mo
       have tk:0≤tkE ms:=by
        unfold tkE
        cases ms with
        | nil=>exact Int.le_refl _
        | cons z ms=>
         cases z with
         | mix y=>
          have:1≤y:=hw' (.mix y) (by simp)
          have:=qt (p:=y) (q:=2) (by decide)
          show 0≤y.fdiv 2
          omega
         | _=>exact Int.le_refl _
       rw [qR]
       show b+(l - l.fdiv 2)≤b+(0+(k+qV ms))
       omega
    · have:=FS.span h.2 hM.2 hw' x hx
      omega
  · rw [qh hm] at hx
    rw [jB hm] at hM
    have hF:FS R 0 (some m) ms:=by
     cases m with
     | mix l=>exact absurd rfl hm
     | clip n p q r s k=>exact h.2
     | nest n b l=>exact h
     | gap l=>exact h
    have:=FS.span hF hM hw' x hx
    omega
theorem qP5 (f:Str→Int→List Te){R:Im→Int→Im→Prop}{ms:List Im}(hF:FS R 0 none ms)(hM:MO none ms)(hw:∀ m∈ms,Wf m){t:Int}(ht:qV ms≤t):zI f ms t=[]:=by
 unfold zI
 rw [jx ms _ _ _ (fun x hx=>by have:=hF.span hM hw x hx;omega),qEz f ms 0 t (fun x hx=>(hw x hx).mo) (by omega)]
 rfl
theorem qNh {A B:Im}{rest:List Im}(l:Int)(hA:qO8 (some A))(hB:qO8 (some B)):∀ (pre:List Im) (p:Option Im),MO p (pre++A::B::rest)→MO p (pre++A:: .mix l::B::rest)
 | [],p,h=>by
  obtain⟨n,p1,q,r,s,k,e⟩:=hA
  cases e
  obtain⟨n',p',q',r',s',k',e⟩:=hB
  cases e
  exact⟨⟨⟨_,_,_,_,_,_,rfl⟩,⟨_,_,_,_,_,_,rfl⟩⟩,h⟩
 | x::pre,p,h=>by
  by_cases hm:x.wd="mix"
  · obtain⟨y,rfl⟩:=jD hm
    refine⟨⟨h.1.1,?_⟩,qNh l hA hB pre _ h.2⟩
    have:=h.1.2
    cases pre <;> exact this
  · rw [List.cons_append,jB hm] at h ⊢
    exact qNh l hA hB pre _ h
theorem qWk {ms:List Im}(hw:∀ m∈ms,Wf m):0≤tkE ms:=by
 unfold tkE
 cases ms with
 | nil=>exact Int.le_refl _
 | cons z ms=>
  cases z with
  | mix y=>
   have:1≤y:=hw (.mix y) (by simp)
   have:=qt (p:=y) (q:=2) (by decide)
   show 0≤y.fdiv 2
   omega
  | _=>exact Int.le_refl _
theorem qEu {ms:List Im}(h:NHM ms):tkE ms=0:=by
 unfold tkE
 cases ms with
 | nil=>rfl
 | cons z ms=>
  cases z with
  | mix y=>exact absurd rfl (h y)
  | _=>rfl
theorem jE {R:Im→Int→Im→Prop}{m:Im}(hm:m.wd≠"mix"){tb:Int}{p:Option Im}{ms:List Im}:FS R tb p (m::ms)↔((m.wd="clip"→tb+tkE ms≤m.mo)∧FS R 0 (some m) ms):=by
 cases m with
 | mix l=>exact absurd rfl hm
 | clip n p q r s k=>exact⟨fun h=>⟨fun _=>h.1,h.2⟩,fun h=>⟨h.1 rfl,h.2⟩⟩
 | nest n b l=>exact⟨fun h=>⟨fun c=>absurd (show ("nest":Str)="clip" from c) (by decide+kernel),h⟩,fun h=>h.2⟩
 | gap l=>exact⟨fun h=>⟨fun c=>absurd (show ("gap":Str)="clip" from c) (by decide+kernel),h⟩,fun h=>h.2⟩
theorem qGv {R:Im→Int→Im→Prop}{l:Int}{tb:Int}{p:Option Im}{ms:List Im}:FS R tb p (.mix l::ms)↔((∀ A B,p=some A→ms.head?=some B→R A l B)∧FS R (l - l.fdiv 2) (some (.mix l)) ms):=Iff.rfl
theorem qR2 {R:Im→Int→Im→Prop}{B:List Im}(h:NHM B){tb:Int}{p p':Option Im}(hB:FS R tb p B):FS R tb p' B:=by
 cases B with
 | nil=>exact trivial
 | cons m B=>
  by_cases hm:m.wd="mix"
  · obtain⟨l,rfl⟩:=jD hm
    exact absurd rfl (h l)
  · exact(jE hm).mpr ((jE hm).mp hB)
theorem qQv {A B:List Im}(h:A≠[]):(A++B).head?=A.head?:=by
 cases A with
 | nil=>exact absurd rfl h
 | cons a A=>rfl
theorem qSy {A B:List Im}(hB:NHM B):tkE (A++B)=tkE A:=by
 cases A with
 | nil=>exact(qEu hB).trans rfl
 | cons a A=>rfl
theorem qK7 {R:Im→Int→Im→Prop}{B:List Im}(hB:NHM B)(fB:∀ p,FS R 0 p B):∀ (A:List Im) (tb:Int) (p:Option Im),NLM A→(A=[]→tb=0)→FS R tb p A→FS R tb p (A++B)
 | [],tb,p,_,h,_=>by rw [h rfl];exact fB p
 | m::A,tb,p,hl,h,hA=>by
  have hl':NLM A:=fun l e=>hl l (by rw [je,e];rfl)
  by_cases hm:m.wd="mix"
  · obtain⟨l,rfl⟩:=jD hm
    have ne:A≠[]:=fun e=>hl l (by rw [e];rfl)
    rw [List.cons_append,qGv] at*
    refine⟨fun X Y eX eY=>hA.1 X Y eX (by rw [← eY,qQv ne]),qK7 hB fB A _ _ hl' (fun e=>absurd e ne) hA.2⟩
  · rw [List.cons_append]
    obtain⟨h1,h2⟩:=(jE hm).mp hA
    exact(jE hm).mpr ⟨fun c=>by rw [qSy hB];exact h1 c,qK7 hB fB A _ _ hl' (fun _=>rfl) h2⟩
theorem qMz {R:Im→Int→Im→Prop}{X:List Im}(hX:∀ m∈X,Wf m):∀ (A:List Im) (tb:Int) (p:Option Im),NLM A→FS R tb p (A++X)→FS R tb p A
 | [],_,_,_,_=>trivial
 | m::A,tb,p,hl,h=>by
  have hl':NLM A:=fun l e=>hl l (by rw [je,e];rfl)
  by_cases hm:m.wd="mix"
  · obtain⟨l,rfl⟩:=jD hm
    have ne:A≠[]:=fun e=>hl l (by rw [e];rfl)
    rw [List.cons_append,qGv] at h
    refine⟨fun X' Y eX eY=>h.1 X' Y eX (by rw [qQv ne,eY]),qMz hX A _ _ hl' h.2⟩
  · rw [List.cons_append] at h
    obtain⟨h1,h2⟩:=(jE hm).mp h
    refine(jE hm).mpr ⟨fun c=>?_,qMz hX A _ _ hl' h2⟩
    have:=h1 c
    cases A with
    | nil=>
     have e:tkE []=0:=rfl
     have:=qWk hX
     rw [List.nil_append] at*
     omega
    | cons a A=>exact this
theorem qOl {R:Im→Int→Im→Prop}{B:List Im}(hB:NHM B):∀ (A:List Im) (tb:Int) (p p':Option Im),NLM A→(A=[]→tb=0)→FS R tb p (A++B)→FS R 0 p' B
 | [],tb,p,p',_,h,h'=>by rw [h rfl] at h';exact qR2 hB h'
 | m::A,tb,p,p',hl,_,h=>by
  have hl':NLM A:=fun l e=>hl l (by rw [je,e];rfl)
  by_cases hm:m.wd="mix"
  · obtain⟨l,rfl⟩:=jD hm
    have ne:A≠[]:=fun e=>hl l (by rw [e];rfl)
    exact qOl hB A _ _ p' hl' (fun e=>absurd e ne) h.2
  · rw [List.cons_append] at h
    exact qOl hB A _ _ p' hl' (fun _=>rfl) ((jE hm).mp h).2
def tbL (tb:Int)(A:List Im):Int:=match A.getLast? with
 | none=>tb
 | some (.mix x)=>x - x.fdiv 2
 | _=>0
theorem qQb {tb:Int}{m:Im}{A:List Im}:tbL tb (m::A)=tbL (match m with | .mix x=>x - x.fdiv 2 | _=>0) A:=by
 unfold tbL
 rw [je]
 cases A.getLast? with
 | none=>cases m <;> rfl
 | some z=>cases z <;> rfl
structure qT4 (R:Im→Int→Im→Prop):Prop where
 beg:∀ {A m:Im} {l hi:Int},Wf m→R A l m→R A l (jT m 0 hi)
 fin:∀ {m B:Im} {l lo:Int},Wf m→R m l B→R (jT m lo m.mo) l B
theorem qPw {m:Im}(hm:m.wd≠"mix")(lo hi:Int):(jT m lo hi).wd=m.wd:=by
 cases m with
 | mix l=>exact absurd rfl hm
 | _=>rfl
theorem qJl {R:Im→Int→Im→Prop}(hR:qT4 R){m:Im}(hm:m.wd≠"mix")(hw:Wf m){B:List Im}{d:Int}:∀ (A:List Im) (tb:Int) (p:Option Im),tbL tb A≤d→FS R tb p (A++m::B)→FS R tb p (A++[jT m 0 d])
 | [],tb,p,hd,h=>by
  obtain⟨h1,h2⟩:=(jE hm).mp h
  refine(jE (xY m 0 d)).mpr ⟨fun _=>?_,trivial⟩
  have e:tkE []=0:=rfl
  have hd:tb≤d:=hd
  rw [e,xv]
  omega
 | x::A,tb,p,hd,h=>by
  rw [qQb] at hd
  by_cases hx:x.wd="mix"
  · obtain⟨l,rfl⟩:=jD hx
    rw [List.cons_append,qGv] at h ⊢
    refine⟨fun X Y eX eY=>?_,qJl hR hm hw A _ _ hd h.2⟩
    cases A with
    | nil=>
     cases eY
     exact hR.beg hw (h.1 X m eX rfl)
    | cons a A=>exact h.1 X Y eX eY
  · rw [List.cons_append] at h ⊢
    obtain⟨h1,h2⟩:=(jE hx).mp h
    refine(jE hx).mpr ⟨fun c=>?_,qJl hR hm hw A _ _ ?_ h2⟩
    · have:=h1 c
      have e:tkE (A++[jT m 0 d])=tkE (A++m::B):=by
       cases A with
       | nil=>rw [List.nil_append,List.nil_append,qEu,qEu]
              · intro l e;cases e;exact hm rfl
              · intro l e
                have e:jT m 0 d= .mix l:=by simpa using e
                exact xY m 0 d (by rw [e];rfl)
       | cons a A=>rfl
      rw [e];exact this
    · cases x with
      | mix l=>exact absurd rfl hx
      | _=>exact hd
theorem qR6 {R:Im→Int→Im→Prop}(hR:qT4 R){m:Im}(hm:m.wd≠"mix")(hw:Wf m){B:List Im}{d tb:Int}{p p':Option Im}(hd:tkE B≤m.mo - d)(h:FS R tb p (m::B)):FS R 0 p' (jT m d m.mo::B):=by
 obtain⟨_,h2⟩:=(jE hm).mp h
 refine(jE (xY m d m.mo)).mpr ⟨fun _=>by rw [xv];omega,?_⟩
 cases B with
 | nil=>exact trivial
 | cons x B=>
  by_cases hx:x.wd="mix"
  · obtain⟨l,rfl⟩:=jD hx
    rw [qGv] at h2 ⊢
    exact⟨fun X Y eX eY=>by cases eX;exact hR.fin hw (h2.1 m Y rfl eY),h2.2⟩
  · exact(jE hx).mpr ((jE hx).mp h2)
theorem qJg {R:Im→Int→Im→Prop}{m:Im}{B:List Im}(hm:m.wd≠"mix"):∀ (A:List Im) (tb:Int) (p:Option Im),FS R tb p (A++m::B)→∃ tb' p',FS R tb' p' (m::B)
 | [],tb,p,h=>⟨tb,p,h⟩
 | x::A,tb,p,h=>by
  by_cases hx:x.wd="mix"
  · obtain⟨l,rfl⟩:=jD hx
    exact qJg hm A _ _ h.2
  · rw [List.cons_append] at h
    exact qJg hm A _ _ ((jE hx).mp h).2
def NoS (c:Int)(ms:List Im):Prop:=∀ x∈ql 0 ms,(x.2.1 < c∧x.2.2≤c)∨(c < x.2.1∧c≤x.1)
theorem NoS.nma {c:Int}{ms:List Im}(h:NoS c ms):NMA 0 c ms:=fun x hx=>by have:=h x hx;omega
theorem qQt {R:Im→Int→Im→Prop}(hR:qT4 R){ms:List Im}(hw:∀ m∈ms,Wf m){c:Int}(hc:0≤c)(hn:NoS c ms)(hM:MO none ms)(hF:FS R 0 none ms):FS R 0 none (jl c ms).1∧∀ p,FS R 0 p (jl c ms).2:=by
 have nl:=qH8 hw hc hn.nma hM
 have nh:=qIw hw hc hn.nma
 obtain⟨w1,w2⟩:=vG hw hc
 rcases j3 ms c hc with ⟨h1,h2⟩ | ⟨A,B,m,d,h1,h2,h3,h4,h5,h6,h7⟩
 · rw [← h1] at hF
   exact⟨qMz w2 _ _ _ nl hF,fun p=>qOl nh _ _ _ p nl (fun _=>rfl) hF⟩
 · rw [h1] at hF
   rw [h2,h3]
   have hm:=hw m (by rw [h1];simp)
   have hs:ql 0 ms=ql 0 A++ql (0+qV A+m.mo) B:=by rw [h1,zS,qh h6]
   refine⟨qJl hR h6 hm A _ _ ?_ hF,fun p=>?_⟩
   · unfold tbL
     cases hA:A.getLast? with
     | none=>dsimp only;omega
     | some z=>
      cases z with
      | mix l=>
       dsimp only
       obtain⟨A',eA⟩:=List.getLast?_eq_some_iff.mp hA
       have hx:(0+qV A' - l.fdiv 2,0+qV A',0+qV A'+(l - l.fdiv 2))∈ql 0 ms:=by
        rw [hs,eA,zS]
        refine List.mem_append_left _ (List.mem_append_right _ ?_)
        rw [ql];simp
       have h8:=hn _ hx
       have e0:(Im.mix l).mo=0:=rfl
       have e1:qV A=qV A':=by rw [eA,jb,qR,qf];omega
       dsimp only at h8
       omega
      | _=>dsimp only;omega
   · obtain⟨tb',p',hB⟩:=qJg h6 A _ _ hF
     refine qR6 hR h6 hm ?_ hB
     cases B with
     | nil=>show (0:Int)≤m.mo - d;omega
     | cons x B=>
      by_cases hx:x.wd="mix"
      · obtain⟨l,rfl⟩:=jD hx
        have h8:=hn (0+qV A+m.mo - l.fdiv 2,0+qV A+m.mo,0+qV A+m.mo+(l - l.fdiv 2)) (by rw [hs,ql];exact List.mem_append_right _ (by simp))
        dsimp only at h8
        show l.fdiv 2≤m.mo - d
        omega
      · have:tkE (x::B)=0:=qEu fun l e=>by cases e;exact hx rfl
        omega
theorem qNp:∀ {ms:List Im} {w:Int} {p:Option Im},MO p ms→0≤w→Nn ms→(NHM ms∨w=0)→tkE (jw w ms)=tkE ms
 | [],_,_,_,_,_,_=>rfl
 | m::ms,w,p,hM,hw,hN,hh=>by
  by_cases hm:m.wd="mix"
  · obtain⟨l,rfl⟩:=jD hm
    have hg:(Im.mix l).wd≠"gap":=by show ("mix":Str)≠"gap";decide+kernel
    rcases hh with hh | rfl
    · exact absurd rfl (hh l)
    · rw [qi hg,if_neg (by omega)];rfl
  · have e:tkE (m::ms)=0:=qEu fun l e=>by cases e;exact hm rfl
    rw [jB hm] at hM
    by_cases hg:m.wd="gap"
    · obtain⟨l,rfl⟩:=zk hg
      have hn:NHM ms:=hM.nh fun⟨_,_,_,_,_,_,e⟩=>by cases e
      have hl:0≤l:=hN (.gap l) (by simp)
      rw [e,jw,qNp hM (by omega) hN.tail (.inl hn),qEu hn]
    · rw [e,qi hg]
      split
      · rfl
      · exact e
theorem qKo {R:Im→Int→Im→Prop}:∀ (ms:List Im) (w tb:Int) (p p':Option Im),0≤w→(tb=0∨(w=0∧qO8 ms.head?))→MO p' ms→Nn ms→(NHM ms∨(w=0∧p=p'))→FS R tb p' ms→FS R tb p (jw w ms)
 | [],_,_,_,_,_,_,_,_,_,_=>trivial
 | m::ms,w,tb,p,p',hw,ht,hM,hN,hh,hF=>by
  by_cases hm:m.wd="mix"
  · obtain⟨l,rfl⟩:=jD hm
    rcases hh with hh | ⟨rfl,rfl⟩
    · exact absurd rfl (hh l)
    obtain⟨⟨h1,h2⟩,h3⟩:=hM
    have hg:(Im.mix l).wd≠"gap":=by show ("mix":Str)≠"gap";decide+kernel
    rw [qi hg,if_neg (by omega),qGv]
    have eh:(jw 0 ms).head?=ms.head?:=by
     obtain⟨n,p,q,r,s,k,h2⟩:=h2
     cases ms with
     | nil=>cases h2
     | cons x ms=>cases h2;rw [jw,if_neg (by omega)];rfl
    exact⟨fun A B eA eB=>hF.1 A B eA (by rw [← eh,eB]),qKo ms 0 _ _ _ (Int.le_refl 0) (.inr ⟨rfl,h2⟩) h3 hN.tail (.inr ⟨rfl,rfl⟩) hF.2⟩
  · rw [jB hm] at hM
    obtain⟨h1,h2⟩:=(jE hm).mp hF
    by_cases hg:m.wd="gap"
    · obtain⟨l,rfl⟩:=zk hg
      have hn:NHM ms:=hM.nh fun⟨_,_,_,_,_,_,e⟩=>by cases e
      have hl:0≤l:=hN (.gap l) (by simp)
      have e0:tb=0:=by
       rcases ht with ht | ⟨_,_,_,_,_,_,_,e⟩
       · exact ht
       · cases e
      subst e0
      rw [jw]
      exact qKo ms (w+l) 0 p (some (.gap l)) (by omega) (.inl rfl) hM hN.tail (.inl hn) h2
    · have ih:=qKo (R:=R) ms 0 0 (some m) (some m) (Int.le_refl 0) (.inl rfl) hM hN.tail (.inr ⟨rfl,rfl⟩) h2
      have et:=qNp hM (Int.le_refl 0) hN.tail (.inr rfl)
      rw [qi hg]
      split
      · show FS R 0 _ (m::jw 0 ms)
        refine(jE hm).mpr ⟨fun c=>?_,ih⟩
        rw [et]
        have:=h1 c
        omega
      · refine(jE hm).mpr ⟨fun c=>?_,ih⟩
        rw [et]
        exact h1 c
theorem qK2:∀ (ms:List Im) (w:Int) (p p':Option Im),0≤w→MO p' ms→Nn ms→(NHM ms∨(w=0∧p=p'))→MO p (jw w ms)
 | [],_,_,_,_,_,_,_=>trivial
 | m::ms,w,p,p',hw,hM,hN,hh=>by
  by_cases hm:m.wd="mix"
  · obtain⟨l,rfl⟩:=jD hm
    rcases hh with hh | ⟨rfl,rfl⟩
    · exact absurd rfl (hh l)
    obtain⟨⟨h1,h2⟩,h3⟩:=hM
    have hg:(Im.mix l).wd≠"gap":=by show ("mix":Str)≠"gap";decide+kernel
    have eh:(jw 0 ms).head?=ms.head?:=by
     obtain⟨n,p,q,r,s,k,h2⟩:=h2
     cases ms with
     | nil=>cases h2
     | cons x ms=>cases h2;rw [jw,if_neg (by omega)];rfl
    rw [qi hg,if_neg (by omega)]
    exact⟨⟨h1,by rw [eh];exact h2⟩,qK2 ms 0 _ _ (Int.le_refl 0) h3 hN.tail (.inr ⟨rfl,rfl⟩)⟩
  · rw [jB hm] at hM
    by_cases hg:m.wd="gap"
    · obtain⟨l,rfl⟩:=zk hg
      have hn:NHM ms:=hM.nh fun⟨_,_,_,_,_,_,e⟩=>by cases e
      have hl:0≤l:=hN (.gap l) (by simp)
      rw [jw]
      exact qK2 ms (w+l) p (some (.gap l)) (by omega) hM hN.tail (.inl hn)
    · have ih:=qK2 ms 0 (some m) (some m) (Int.le_refl 0) hM hN.tail (.inr ⟨rfl,rfl⟩)
      rw [qi hg]
      split
      · show MO (some (.gap w)) (m::jw 0 ms)
        rw [jB hm];exact ih
      · rw [jB hm];exact ih
theorem Rel.good {R:Im→Int→Im→Prop}(hR:qT4 R){ms:List Im}{lo hi:Int}{ls:List Im}(h:Rel ms lo hi ls)(hF:FS R 0 none ms):MO none (qBl ms lo hi ls)∧FS R 0 none (qBl ms lo hi ls)∧OS false (qBl ms lo hi ls)∧Nn ((jl lo ms).1++((.gap (xU (lo - qV ms) 0)::ls)++(jl hi ms).2))∧qBl ms lo hi ls=jw 0 ((jl lo ms).1++((.gap (xU (lo - qV ms) 0)::ls)++(jl hi ms).2)):=by
 have l0:=h.l0
 have lh:=h.lh
 have h0:0≤hi:=by omega
 have n1:NoS lo ms:=fun x hx=>by have:=h.far x hx;omega
 have n2:NoS hi ms:=fun x hx=>by have:=h.far x hx;omega
 obtain⟨aF,_⟩:=qQt hR h.wf l0 n1 h.mo hF
 obtain⟨_,bF⟩:=qQt hR h.wf h0 n2 h.mo hF
 have aN:=qH8 h.wf l0 h.nlo h.mo
 have bH:=qIw h.wf h0 h.nhi
 obtain⟨aM,_⟩:=qKv h.wf l0 h.nlo h.mo
 obtain⟨_,bM2⟩:=qKv h.wf h0 h.nhi h.mo
 obtain⟨aW,_⟩:=vG h.wf l0
 obtain⟨_,bW2⟩:=vG h.wf h0
 have pad0:0≤xU (lo - qV ms) 0:=by unfold xU;split <;> omega
 have mG:∀ m∈Im.gap (xU (lo - qV ms) 0)::ls,m.wd≠"mix":=fun x hx=>by
  rcases List.mem_cons.mp hx with rfl | hx
  · show ("gap":Str)≠"mix";decide+kernel
  · exact h.lm x hx
 have nlG:NLM (.gap (xU (lo - qV ms) 0)::ls):=fun l e=>mG (.mix l) (List.mem_of_getLast? e) rfl
 have nhG:NHM ((.gap (xU (lo - qV ms) 0)::ls)++(jl hi ms).2):=fun l e=>by cases e
 have nX:Nn ((jl lo ms).1++((.gap (xU (lo - qV ms) 0)::ls)++(jl hi ms).2)):=fun x hx=>by
  rcases List.mem_append.mp hx with hx | hx
  · exact(aW x hx).mo
  · rcases List.mem_append.mp hx with hx | hx
    · rcases List.mem_cons.mp hx with rfl | hx
      · exact pad0
      · exact(h.lw x hx).mo
    · exact(bW2 x hx).mo
 have MX:MO none ((jl lo ms).1++((.gap (xU (lo - qV ms) 0)::ls)++(jl hi ms).2)):=qF3 none none _ _ aM (qF3 _ none _ _ (qMc mG _) (bM2 _))
 have fls:∀ p,FS R 0 p (.gap (xU (lo - qV ms) 0)::ls):=fun p=>qR5 (R:=R) (ms:=ls) _ (fun x hx=>⟨h.lw x hx,h.lm x hx⟩)
 have FX:FS R 0 none ((jl lo ms).1++((.gap (xU (lo - qV ms) 0)::ls)++(jl hi ms).2)):=qK7 nhG (fun p=>qK7 bH bF _ 0 p nlG (fun _=>rfl) (fls p)) _ 0 none aN (fun _=>rfl) aF
 have e:qBl ms lo hi ls=jw 0 ((jl lo ms).1++((.gap (xU (lo - qV ms) 0)::ls)++(jl hi ms).2)):=by rw [h.eq];simp
 rw [e]
 exact⟨qK2 _ 0 none none (Int.le_refl 0) MX nX (.inr ⟨rfl,rfl⟩),qKo _ 0 0 none none (Int.le_refl 0) (.inl rfl) MX nX (.inr ⟨rfl,rfl⟩) FX,qJz _ 0 nX (Int.le_refl 0),nX,rfl⟩
theorem qCf {Pm:Im→Prop}(hg:∀ w,0 < w→Pm (.gap w)):∀ (ms:List Im) (w:Int),(∀ m∈ms,m.wd≠"gap"→Pm m)→∀ m∈jw w ms,Pm m
 | [],_,_,m,h=>by cases h
 | x::ms,w,hp,m,h=>by
  have hp':∀ m∈ms,m.wd≠"gap"→Pm m:=fun m hm=>hp m (by simp [hm])
  by_cases hx:x.wd="gap"
  · obtain⟨l,rfl⟩:=zk hx
    rw [jw] at h
    exact qCf hg ms _ hp' m h
  · rw [qi hx] at h
    split at h
    · rename_i hw
      rcases List.mem_cons.mp h with rfl | h
      · exact hg w hw
      · rcases List.mem_cons.mp h with rfl | h
        · exact hp m (by simp) hx
        · exact qCf hg ms _ hp' m h
    · rcases List.mem_cons.mp h with rfl | h
      · exact hp m (by simp) hx
      · exact qCf hg ms _ hp' m h
theorem qNe {Pm:Im→Prop}{ms:List Im}{c:Int}(hc:0≤c)(h1:∀ m∈ms,Pm m)(h2:∀ m∈ms,m.wd≠"mix"→∀ x y,0≤x→x < y→y≤m.mo→Pm (jT m x y)):(∀ m∈(jl c ms).1,Pm m)∧∀ m∈(jl c ms).2,Pm m:=by
 rcases j3 ms c hc with ⟨e1,_⟩ | ⟨A,B,m,d,e1,e2,e3,d0,d1,hm,_⟩
 · exact⟨fun m hm=>h1 m (by rw [← e1];exact List.mem_append_left _ hm),fun m hm=>h1 m (by rw [← e1];exact List.mem_append_right _ hm)⟩
 · have hmm:m∈ms:=by rw [e1];simp
   rw [e2,e3]
   refine⟨fun x hx=>?_,fun x hx=>?_⟩
   · rcases List.mem_append.mp hx with hx | hx
     · exact h1 x (by rw [e1];simp [hx])
     · rw [List.mem_singleton] at hx;subst hx;exact h2 m hmm hm 0 d (Int.le_refl 0) d0 (by omega)
   · rcases List.mem_cons.mp hx with rfl | hx
     · exact h2 m hmm hm d m.mo (by omega) d1 (Int.le_refl _)
     · exact h1 x (by rw [e1];simp [hx])
theorem qOx {Pm:Im→Prop}(hg:∀ w,0 < w→Pm (.gap w)){ms:List Im}{lo hi:Int}{ls:List Im}(h:Rel ms lo hi ls)(h1:∀ m∈ms,Pm m)(h2:∀ m∈ms,m.wd≠"mix"→∀ x y,0≤x→x < y→y≤m.mo→Pm (jT m x y))(h3:∀ m∈ls,Pm m):∀ m∈qBl ms lo hi ls,Pm m:=by
 rw [h.eq]
 refine qCf hg _ _ fun m hm hn=>?_
 have hhi:0≤hi:=by have:=h.l0;have:=h.lh;omega
 rcases List.mem_append.mp hm with hm | hm
 · rcases List.mem_append.mp hm with hm | hm
   · rcases List.mem_append.mp hm with hm | hm
     · exact(qNe h.l0 h1 h2).1 m hm
     · rw [List.mem_singleton] at hm;subst hm;exact absurd rfl hn
   · exact h3 m hm
 · exact(qNe hhi h1 h2).2 m hm
theorem qSs {ms:List Im}{lo hi:Int}{ls:List Im}(h:Rel ms lo hi ls):∀ m∈qBl ms lo hi ls,Wf m:=
 qOx (Pm:=Wf) (fun w hw=>by show 1≤w;omega) h h.wf (fun m hm _ x y _ hxy _=>qGt (h.wf m hm) hxy) h.lw
theorem qMe {ms:List Im}{lo hi:Int}{ls:List Im}(h:ls.length≤1):(qBl ms lo hi ls).length≤4*ms.length+4:=by
 unfold qBl
 have h1:=qFz 0 (xq 0 lo 0 ms++[.gap (xU (lo - qV ms) 0)]++ls++xq hi (qV ms) 0 ms)
 have h2:=vO 0 lo 0 ms
 have h3:=vO hi (qV ms) 0 ms
 rw [List.length_append,List.length_append,List.length_append,List.length_singleton] at h1
 omega
theorem qCd:∀ (Y:List Im) (a:Im) (w:Int),Nn Y→0≤w→a.wd≠"gap"→qV (jw w (Y++[a]))=w+qV Y+a.mo
 | [],a,w,_,hw,ha=>by
  rw [List.nil_append,qi ha,qf]
  split
  · show qV [.gap w,a]=_;rw [qR,qR,qf];show w+(a.mo+0)=_;omega
  · show qV [a]=_;rw [qR,qf];omega
 | m::Y,a,w,hn,hw,ha=>by
  have h0:=hn m (by simp)
  rw [List.cons_append,qR]
  by_cases hg:m.wd="gap"
  · obtain⟨l,rfl⟩:=zk hg
    have h0:0≤l:=h0
    rw [jw,qCd Y a (w+l) hn.tail (by omega) ha]
    show w+l+qV Y+a.mo=w+(l+qV Y)+a.mo
    omega
  · have ih:=qCd Y a 0 hn.tail (Int.le_refl 0) ha
    rw [qi hg]
    split
    · rw [qR,qR,ih];show w+(m.mo+(0+qV Y+a.mo))=_;omega
    · rw [qR,ih];omega
theorem qI2:∀ (Y:List Im) (w:Int),Nn Y→0≤w→qV (jw w Y)≤w+qV Y
 | [],w,_,hw=>by show qV []≤w+qV [];rw [qf];omega
 | m::Y,w,hn,hw=>by
  have h0:=hn m (by simp)
  rw [qR]
  by_cases hg:m.wd="gap"
  · obtain⟨l,rfl⟩:=zk hg
    have h0:0≤l:=h0
    have:=qI2 Y (w+l) hn.tail (by omega)
    rw [jw]
    have e:(Im.gap l).mo=l:=rfl
    omega
  · have ih:=qI2 Y 0 hn.tail (Int.le_refl 0)
    rw [qi hg]
    split
    · rw [qR,qR];have e:(Im.gap w).mo=w:=rfl;omega
    · rw [qR];omega
theorem qNg {ms:List Im}{lo hi:Int}{ls:List Im}(h:Rel ms lo hi ls):qV (qBl ms lo hi ls)≤lo+qV ls+qV ms:=by
 have l0:=h.l0
 have h0:0≤hi:=by have:=h.lh;omega
 obtain⟨aL,_,_⟩:=qCw l0 h.wf
 obtain⟨_,bL2,_⟩:=qCw h0 h.wf
 obtain⟨aW,_⟩:=vG h.wf l0
 obtain⟨bW1,bW⟩:=vG h.wf h0
 have hb1:=Nn.len fun x hx=>(bW1 x hx).mo
 have pad0:0≤xU (lo - qV ms) 0:=by unfold xU;split <;> omega
 have eg:(Im.gap (xU (lo - qV ms) 0)).mo=xU (lo - qV ms) 0:=rfl
 rw [h.eq]
 have:=qI2 ((jl lo ms).1++[.gap (xU (lo - qV ms) 0)]++ls++(jl hi ms).2) 0 (fun x hx=>by
  rcases List.mem_append.mp hx with hx | hx
  · rcases List.mem_append.mp hx with hx | hx
    · rcases List.mem_append.mp hx with hx | hx
      · exact(aW x hx).mo
      · rw [List.mem_singleton] at hx;subst hx;exact pad0
    · exact(h.lw x hx).mo
  · exact(bW x hx).mo) (Int.le_refl 0)
 rw [jb,jb,jb,qR,qf,eg] at this
 omega
theorem qJ7:∀ {ms:List Im} {g:Bool},OS g ms→∀ l,ms.getLast?≠some (.gap l)
 | [],_,_,l,e=>by cases e
 | m::ms,g,h,l,e=>by
  rw [je] at e
  by_cases hg:m.wd="gap"
  · obtain⟨k,rfl⟩:=zk hg
    obtain⟨_,_,h3⟩:=h
    cases ms with
    | nil=>cases h3
    | cons x ms=>
     refine qJ7 h3 l ?_
     cases h':(x::ms).getLast? with
     | none=>simp at h'
     | some y=>rw [h'] at e;exact e
  · rw [xC hg] at h
    cases ms with
    | nil=>cases e;exact hg rfl
    | cons x ms=>
     refine qJ7 h l ?_
     cases h':(x::ms).getLast? with
     | none=>simp at h'
     | some y=>rw [h'] at e;exact e
theorem qFc:∀ (ms:List Im) (c:Int),Nn ms→qV ms≤c→jl c ms=(ms,[])
 | [],_,_,_=>rfl
 | m::ms,c,hn,h=>by
  have:=hn.tail.len
  rw [qR] at h
  rw [jl,if_pos (by omega),qFc ms (c - m.mo) hn.tail (by omega)]
theorem qM4 {ms:List Im}{c:Int}(hc:0≤c)(hl:∀ l,ms.getLast?≠some (.gap l))(hne:(jl c ms).2≠[]):∃ (X:List Im) (a:Im),(jl c ms).2=X++[a]∧a.wd≠"gap":=by
 have key:∀ (A R:List Im),ms=A++R→R≠[]→∃ (X:List Im) (a:Im),R=X++[a]∧a.wd≠"gap":=fun A R e hR=>by
  obtain⟨X,a,eR⟩:=(List.eq_nil_or_concat R).resolve_left hR
  rw [List.concat_eq_append] at eR
  refine⟨X,a,eR,fun hg=>?_⟩
  obtain⟨l,rfl⟩:=zk hg
  exact hl l (by rw [e,eR];simp)
 rcases j3 ms c hc with ⟨e1,_⟩ | ⟨A,B,m,d,e1,e2,e3,d0,d1,hm,_⟩
 · exact key _ _ e1.symm hne
 · rw [e3]
   by_cases hB:B=[]
   · subst hB
     refine⟨[],jT m d m.mo,rfl,fun hg=>?_⟩
     rw [qPw hm] at hg
     obtain⟨l,rfl⟩:=zk hg
     exact hl l (by rw [e1];simp)
   · obtain⟨X,a,e4,ha⟩:=key (A++[m]) B (by rw [e1];simp) hB
     exact⟨jT m d m.mo::X,a,by rw [e4];rfl,ha⟩
theorem qRy {ms:List Im}{lo hi:Int}{ls:List Im}(h:Rel ms lo hi ls)(hO:OS false ms):(hi < qV ms→qV (qBl ms lo hi ls)=lo+qV ls+(qV ms - hi))∧(qV ms≤hi→∀ a,ls=[a]→a.wd≠"gap"→qV (qBl ms lo hi ls)=lo+a.mo)∧(qV ms≤lo→(∀ a∈ls,a.wd="gap")→qBl ms lo hi ls=ms):=by
 have l0:=h.l0
 have lh:=h.lh
 have h0:0≤hi:=by omega
 obtain⟨aL,_,_⟩:=qCw l0 h.wf
 obtain⟨_,bL2,bL3⟩:=qCw h0 h.wf
 obtain⟨aW,_⟩:=vG h.wf l0
 obtain⟨_,bW⟩:=vG h.wf h0
 have nms:Nn ms:=fun x hx=>(h.wf x hx).mo
 have hlls:=Nn.len fun x hx=>(h.lw x hx).mo
 have pad0:0≤xU (lo - qV ms) 0:=by unfold xU;split <;> omega
 have eg:(Im.gap (xU (lo - qV ms) 0)).mo=xU (lo - qV ms) 0:=rfl
 have nP:Nn ((jl lo ms).1++[.gap (xU (lo - qV ms) 0)]++ls):=fun x hx=>by
  rcases List.mem_append.mp hx with hx | hx
  · rcases List.mem_append.mp hx with hx | hx
    · exact(aW x hx).mo
    · rw [List.mem_singleton] at hx;subst hx;exact pad0
  · exact(h.lw x hx).mo
 have lP:qV ((jl lo ms).1++[.gap (xU (lo - qV ms) 0)]++ls)=lo+qV ls:=by rw [jb,jb,qR,qf,eg];omega
 rw [h.eq]
 refine⟨fun hh=>?_,fun hh a ea ha=>?_,fun hh ha=>?_⟩
 · have hR:qV (jl hi ms).2=qV ms - hi:=by have:=bL3 (by omega);omega
   have hne:(jl hi ms).2≠[]:=fun e=>by rw [e,qf] at hR;omega
   obtain⟨X,a,e,ha⟩:=qM4 h0 (qJ7 hO) hne
   rw [e] at bW hR ⊢
   rw [← List.append_assoc,qCd _ a 0 (fun x hx=>(List.mem_append.mp hx).elim (nP x) (fun hx=>(bW x (by simp [hx])).mo)) (Int.le_refl 0) ha,jb,lP]
   rw [jb,qR,qf] at hR
   omega
 · rw [qFc ms hi nms hh,ea]
   dsimp only
   rw [List.append_nil,qCd _ a 0 (fun x hx=>nP x (List.mem_append_left _ hx)) (Int.le_refl 0) ha]
   rw [jb,qR,qf,eg]
   omega
 · rw [qFc ms hi nms (by omega),qFc ms lo nms hh]
   dsimp only
   rw [List.append_nil]
   have dr:∀ (gs:List Im),(∀ a∈gs,a.wd="gap")→∀ Y:List Im,jw 0 (Y++gs)=jw 0 Y:=fun gs=>by
    induction gs with
    | nil=>intro _ Y;rw [List.append_nil]
    | cons g gs ih=>
     intro hg Y
     obtain⟨l,rfl⟩:=zk (hg g (by simp))
     rw [show Y++Im.gap l::gs=(Y++[.gap l])++gs by simp,ih (fun a ha=>hg a (by simp [ha])),qAa]
   rw [dr ls ha,qAa]
   exact OS.one.1 hO
def j7:List (List Te)→List (List Te)
 | []=>[]
 | x::r=>if j7 r=[]∧x=[] then [] else x::j7 r
instance:DecidableEq Te:=fun a b=>by
 cases a;cases b
 exact decidable_of_iff _ (by rw [Te.mk.injEq])
theorem qBc:∀ {X:List (List Te)},(∀ k,X.getD k []=[])→j7 X=[]
 | [],_=>rfl
 | x::X,h=>by
  rw [j7,if_pos ⟨qBc fun k=>h (k+1),h 0⟩]
theorem qAg:∀ {X Y:List (List Te)},(∀ k,X.getD k []=Y.getD k [])→j7 X=j7 Y
 | [],Y,h=>(qBc fun k=>(h k).symm).symm
 | x::X,[],h=>qBc fun k=>h k
 | x::X,y::Y,h=>by
  have e:x=y:=h 0
  have ih:=qAg (X:=X) (Y:=Y) fun k=>h (k+1)
  rw [j7,j7,e,ih]
theorem qE1:∀ (X:List (List Te)),(j7 X).length≤X.length
 | []=>Nat.le_refl _
 | x::X=>by
  have:=qE1 X
  rw [j7]
  split
  · simp
  · simp only [List.length_cons];omega
def xR (f:Str→Int→List Te)(ms:List Im)(n:Nat):List (List Te):=(List.range n).map fun(k:Nat)=>zI f ms (k:Int)
theorem qLe (f:Str→Int→List Te)(ms:List Im)(n k:Nat):(xR f ms n).getD k []=if k < n then zI f ms (k:Int) else []:=by
 unfold xR
 rw [List.getD_eq_getElem?_getD,List.getElem?_map]
 by_cases h:k < n
 · rw [if_pos h,List.getElem?_range h];rfl
 · rw [if_neg h,List.getElem?_eq_none (by simpa using h)];rfl
theorem qKy (f:Str→Int→List Te){R:Im→Int→Im→Prop}{ms:List Im}(hF:FS R 0 none ms)(hM:MO none ms)(hw:∀ m∈ms,Wf m)(k:Nat):(xR f ms (qV ms).toNat).getD k []=zI f ms (k:Int):=by
 rw [qLe]
 split
 · rfl
 · rw [qP5 f hF hM hw (by omega)]
theorem qR8 (f:Str→Int→List Te){R:Im→Int→Im→Prop}{ms:List Im}{lo hi:Nat}{ls:List Im}(h:Rel ms (lo:Int) (hi:Int) ls)(hF:FS R 0 none ms)(put:List (List Te))(hp:(put.length:Int)=qV ls)(hg:∀ k:Nat,k < put.length→put.getD k []=zI f ls (k:Int))(k:Nat):
 (((xR f ms (qV ms).toNat++List.replicate lo []).take lo++put++(xR f ms (qV ms).toNat).drop hi).getD k [])=zI f (qBl ms (lo:Int) (hi:Int) ls) (k:Int):=by
 rw [qQh f h (Int.natCast_nonneg k)]
 have T:=qKy f hF h.mo h.wf
 generalize xR f ms (qV ms).toNat=X at T
 have la:((X++List.replicate lo []).take lo).length=lo:=by rw [List.length_take,List.length_append,List.length_replicate];omega
 have ga:∀ j,j < lo→((X++List.replicate lo []).take lo).getD j []=X.getD j []:=fun j hj=>by
  rw [List.getD_eq_getElem?_getD,List.getElem?_take_of_lt hj,List.getD_eq_getElem?_getD]
  by_cases hX:j < X.length
  · rw [List.getElem?_append_left hX]
  · rw [List.getElem?_append_right (by omega),List.getElem?_eq_none (l:=X) (by omega)]
    cases hq:(List.replicate lo ([]:List Te))[j - X.length]? with
    | none=>rfl
    | some y=>obtain⟨_,e⟩:=List.getElem?_eq_some_iff.mp hq;rw [List.getElem_replicate] at e;rw [← e];rfl
 rw [List.append_assoc,List.getD_eq_getElem?_getD]
 by_cases c1:k < lo
 · rw [if_pos (by omega),List.getElem?_append_left (by omega),← List.getD_eq_getElem?_getD,ga k c1,T]
 · rw [if_neg (by omega),List.getElem?_append_right (by omega),la]
   by_cases c2:k - lo < put.length
   · rw [if_pos (by omega),List.getElem?_append_left c2,← List.getD_eq_getElem?_getD,hg _ c2,show ((k - lo:Nat):Int)=(k:Int) - (lo:Int) by omega]
   · rw [if_neg (by omega),List.getElem?_append_right (by omega),List.getElem?_drop,← List.getD_eq_getElem?_getD,T,show ((hi+(k - lo - put.length):Nat):Int)=(k:Int) - (lo:Int) - qV ls+(hi:Int) by omega]
def RmR (rl:Rls):Im→Int→Im→Prop:=fun A l B=>∀ n p q r s k n' p' q' r' s' k',A= .clip n p q r s k→B= .clip n' p' q' r' s' k'→∃ N N',rl n=some N∧rl n'=some N'∧l.fdiv 2≤qDk p' q' r' s' N'∧l - l.fdiv 2≤qCa p q r s k N
theorem qWj (rl:Rls):qT4 (RmR rl):=by
 refine⟨fun {A m l hi} hw h=>?_,fun {m B l lo} hw h=>?_⟩
 · intro n p q r s k n' p' q' r' s' k' eA eB
   cases m with
   | clip n1 p1 q1 r1 s1 k1=>
    obtain⟨z1,z2⟩:=qNd (r:=r1) (s:=s1) hw.1 hw.2.1 hw.2.2.1
    cases eB
    rw [z1,z2]
    exact h n p q r s k _ _ _ _ _ _ eA rfl
   | nest=>cases eB
   | gap=>cases eB
   | mix=>cases eB
 · intro n p q r s k n' p' q' r' s' k' eA eB
   cases m with
   | clip n1 p1 q1 r1 s1 k1=>
    cases eA
    obtain⟨N,N',q1',q2',q3',q4'⟩:=h _ _ _ _ _ _ _ _ _ _ _ _ rfl eB
    refine⟨N,N',q1',q2',q3',?_⟩
    obtain⟨z1,z2⟩:=qRz (p:=p1) (r:=r) (lo:=lo) (k:=k1 - lo) hw.1 hw.2.1
    unfold qCa at q4' ⊢
    show _≤qA6 (plP (plP p1 q1 r s lo) (plQ p1 q1 r s lo) r s (k1 - lo)*s) (1*r*plQ (plP p1 q1 r s lo) (plQ p1 q1 r s lo) r s (k1 - lo)) (plQ (plP p1 q1 r s lo) (plQ p1 q1 r s lo) r s (k1 - lo)*s) N
    rw [z1,z2,show lo+(k1 - lo)=k1 by omega]
    exact q4'
   | nest=>cases eA
   | gap=>cases eA
   | mix=>cases eA
theorem qTs {a b l:Int}(h:l≤mmV a b)(h1:1≤l):l.fdiv 2≤a∧l - l.fdiv 2≤b:=by
 have f:=qt (p:=l) (q:=2) (by decide)
 unfold mmV qVl at h
 split at h
 · split at h <;> omega
 · split at h <;> omega
theorem qOp {a b x:Int}(h:x≤qTq a b):x≤a∧x≤b:=by
 unfold qTq at h
 split at h <;> omega
theorem qQe {ms:List Im}{i:Nat}(hi:i≤ms.length):tbL 0 (ms.take i)=tbF ms i:=by
 unfold tbL tbF
 cases i with
 | zero=>rfl
 | succ i=>
  have e:(ms.take (i+1)).getLast?=ms[i]?:=by
   rw [List.getLast?_eq_getElem?,List.length_take,Nat.min_eq_left hi]
   exact List.getElem?_take_of_lt (by omega)
  rw [e,if_neg (by omega),Nat.add_sub_cancel]
  cases h:ms[i]? with
  | none=>rfl
  | some z=>cases z <;> rfl
theorem qP6 (ms:List Im)(i:Nat):tkE (ms.drop (i+1))=teF ms i:=by
 unfold tkE teF
 rw [List.head?_drop]
 all_goals
  cases ms[i+1]? with
  | none=>rfl
  | some z=>cases z <;> rfl
theorem qSd {m:Im}(h:m.wd="clip"):∃ n p q r s l,m= .clip n p q r s l:=by
 cases m with
 | clip n p q r s l=>exact⟨_,_,_,_,_,_,rfl⟩
 | nest=>exact absurd (show ("nest":Str)="clip" from h) (by decide+kernel)
 | gap=>exact absurd (show ("gap":Str)="clip" from h) (by decide+kernel)
 | mix=>exact absurd (show ("mix":Str)="clip" from h) (by decide+kernel)
theorem qR1 {ms:List Im}{t:Int}{i:Nat}(hc:cbF ms t=some ((i:Int),((i+1:Nat):Int))):∃ n p q r s k n' p' q' r' s' k',ms[i]? =some (.clip n p q r s k)∧ms[i+1]? =some (.clip n' p' q' r' s' k')∧ms=ms.take i++ .clip n p q r s k:: .clip n' p' q' r' s' k'::ms.drop (i+2)∧∀ l,ms.take (i+1)++[.mix l]++ms.drop (i+1)=ms.take i++ .clip n p q r s k:: .mix l:: .clip n' p' q' r' s' k'::ms.drop (i+2):=by
 obtain⟨k1,k2⟩:=wo hc
 have get:∀ j:Nat,jh ms (j:Int)="clip"→∃ n p q r s k,ms[j]? =some (.clip n p q r s k):=fun j hj=>by
  unfold jh at hj
  rw [if_neg (by omega),Int.toNat_natCast] at hj
  cases h:ms[j]? with
  | none=>rw [h] at hj;exact absurd hj (by decide+kernel)
  | some m=>
   rw [h] at hj
   obtain⟨n,p,q,r,s,l,rfl⟩:=qSd hj
   exact⟨_,_,_,_,_,_,rfl⟩
 obtain⟨n,p,q,r,s,k,h1⟩:=get i k1
 obtain⟨n',p',q',r',s',k',h2⟩:=get (i+1) k2
 have d1:=jd h1
 have d2:=jd h2
 refine⟨n,p,q,r,s,k,n',p',q',r',s',k',h1,h2,?_,fun l=>?_⟩
 · rw [← d2,← d1,List.take_append_drop]
 · rw [List.take_add_one,h1,d2]
   simp
theorem qSe {rl:Rls}{ms:List Im}{t:Int}{i:Nat}{M l:Int}(hc:cbF ms t=some ((i:Int),((i+1:Nat):Int)))(hM:mmF rl ms t=some M)(h1:1≤l)(hl:l≤M)(hO:OS false ms)(hm:MO none ms)(hF:FS (RmR rl) 0 none ms):
 OS false (ms.take (i+1)++[.mix l]++ms.drop (i+1))∧MO none (ms.take (i+1)++[.mix l]++ms.drop (i+1))∧FS (RmR rl) 0 none (ms.take (i+1)++[.mix l]++ms.drop (i+1)):=by
 obtain⟨n,p,q,r,s,k,n',p',q',r',s',k',e1,e2,e3,e4⟩:=qR1 hc
 have c1:xk ms ((i:Nat):Int)= .clip n p q r s k:=by unfold xk;rw [Int.toNat_natCast,e1];rfl
 have c2:xk ms ((i+1:Nat):Int)= .clip n' p' q' r' s' k':=by unfold xk;rw [Int.toNat_natCast,e2];rfl
 unfold mmF at hM
 rw [hc] at hM
 dsimp only at hM
 rw [c1,c2] at hM
 dsimp only at hM
 cases r1:rl n with
 | none=>rw [r1] at hM;cases hM
 | some N=>
 cases r2:rl n' with
 | none=>rw [r1,r2] at hM;cases hM
 | some N'=>
 rw [r1,r2] at hM
 dsimp only at hM
 rw [Int.toNat_natCast,Int.toNat_natCast] at hM
 cases hM
 obtain⟨q1,q2⟩:=qTs hl h1
 obtain⟨q3,q4⟩:=qOp q1
 obtain⟨q5,q6⟩:=qOp q2
 have hi:i < ms.length:=(glt e1)
 rw [e4 l]
 rw [e3] at hO hm hF
 refine⟨qNm l (by show ("clip":Str)≠"gap";decide+kernel) (by show ("clip":Str)≠"gap";decide+kernel) _ _ hO,qNh l ⟨_,_,_,_,_,_,rfl⟩ ⟨_,_,_,_,_,_,rfl⟩ _ _ hm,qHz ?_ ?_ _ _ _ ?_ hF⟩
 · have:=qP6 ms (i+1)
   rw [this]
   omega
 · intro n1 p1 q1 r1' s1 k1 n2 p2 q2 r2' s2 k2 eA eB
   cases eA;cases eB
   exact⟨N,N',r1,r2,q4,q6⟩
 · show tbL 0 (ms.take i)+l.fdiv 2≤k
   rw [qQe (by omega)]
   omega
theorem qSr:∀ (ms:List Im) (g:Bool),(∀ l,Im.gap l∈ms→1≤l)→GG ms→qBu ms→(g=true→ms≠[]∧∀ l,ms.head?≠some (.gap l))→OS g ms
 | [],g,_,_,_,h=>by
  cases g with
  | false=>rfl
  | true=>exact absurd rfl (h rfl).1
 | m::ms,g,hp,hg,hl,h=>by
  have hg':GG ms:=fun i l l' a b=>hg (i+1) l l' (by rw [List.getElem?_cons_succ];exact a) (by rw [List.getElem?_cons_succ];exact b)
  have hl':qBu ms:=fun l e=>by
   cases ms with
   | nil=>simp at e
   | cons x ms=>exact hl l (by simpa using e)
  have ih:=fun g=>qSr ms g (fun l hm=>hp l (by simp [hm])) hg' hl'
  by_cases hx:m.wd="gap"
  · obtain⟨l,rfl⟩:=zk hx
    refine⟨?_,hp l (by simp),ih true fun _=>⟨fun e=>?_,fun l' e=>?_⟩⟩
    · cases g with
      | false=>rfl
      | true=>exact absurd rfl ((h rfl).2 l)
    · subst e
      exact hl l rfl
    · refine hg 0 l l' rfl ?_
      rw [List.getElem?_cons_succ,← List.head?_eq_getElem?]
      exact e
  · rw [xC hx]
    exact ih false fun e=>by cases e
structure GdT (A:Int)(ms:List Im):Prop where
 os:OS false ms
 mo:MO none ms
 fs:FS (RmR (rlE A)) 0 none ms
def qVd (K:W.Frag)(C:Addr)(i:Option Nat)(tb:(Value→Option Addr→L2.St→Hp→Prop)→L2.TS)(ts:L2.TS):L2.TS:=fun D σ H=>∃ Ex,qTb K Ex C i (tb Ex) ts D σ H
theorem qOa {X:Cx}{body:List Stmt}{b₀:Stmt}{suite:List Stmt}{x:Str}{C:Addr}{nm:Option Str}{i:Option Nat}{np hpos pos:PySem.Pos}{tb:(Value→Option Addr→L2.St→Hp→Prop)→L2.TS}{ts:L2.TS}
 (hcl:qHy X nm i) (hN:X.N.Nodup) (hg:Gl X x) (hm:X.mg x=some (.ref C))
 (hb:∀ Ex l,PSs ((pnX X l).wish (XES (pnX X l) Ex)) body (tb Ex)) (hs:∀ l ea,PSs (hdX (pnX X l) ea).nox (b₀::suite) ts)
 (hstk:X.stack=X.env::X.outer:=by rfl) (hfr:X.env.frame=some X.env.locals:=by rfl) (hex:X.ex=[]:=by rfl) (hdb:(x == ("__debug__":Str))=false:=by decide):
 PS X (.Try body [.ExceptHandler (some (.Name x np)) nm (b₀::suite) hpos] [] [] pos) (qVd X.K C i tb ts):=by
 have q:=fun Ex=>qRb (np:=np) (hpos:=hpos) (pos:=pos) Ex hcl hN hg hm (hb Ex) hs hstk hfr hex hdb
 unfold L2.PS at q ⊢
 rintro pins s σ H D I ⟨Ex,h⟩
 exact q Ex pins s σ H D I h
theorem qMw:∀ (ms:List Im) (b:Int) (j:Nat) (x:Int),(∀ m∈ms,m.wd≠"mix")→(b::zw b ms)[j]? =some x→x=b+qK5 ms j∧0≤x - b∨(∃ m∈ms,m.mo < 0)
 | [],b,0,x,_,h=>by
  have e:x=b:=by simpa using h.symm
  left
  rw [e]
  exact⟨by simp [qK5],by omega⟩
 | [],b,j+1,x,_,h=>by simp [zw] at h
 | m::ms,b,0,x,_,h=>by
  have e:x=b:=by simpa using h.symm
  left
  rw [e]
  exact⟨by simp [qK5],by omega⟩
 | m::ms,b,j+1,x,hw,h=>by
  have hm:=hw m (by simp)
  rw [List.getElem?_cons_succ,wP hm] at h
  have em:=qO1 hm
  rcases qMw ms (b+m.l) j x (fun y hy=>hw y (by simp [hy])) h with ⟨e,h0⟩ | ⟨y,hy,h0⟩
  · by_cases hn:m.mo < 0
    · exact .inr ⟨m,by simp,hn⟩
    · left
      have eb:qK5 (m::ms) (j+1)=m.mo+qK5 ms j:=by unfold qK5;rw [List.take_succ_cons,List.map_cons,List.sum_cons]
      rw [eb]
      constructor <;> omega
  · exact .inr ⟨y,by simp [hy],h0⟩
structure WkG (A:Int)(ms0:List Im)(j:Nat)(ms:List Im):Prop where
 wk:Wk A ms0 j ms
 gd:GdT A ms
theorem WkG.next {A:Int}{ms0 ms:List Im}{j:Nat}(h:WkG A ms0 j ms)(hT:∀ m∈ms0,TI A m):WkG A ms0 (j+1) ms:=⟨h.wk.next hT,h.gd⟩
structure TbG (A:Int)(ts:List (List Im))(tie:List Int):Prop where
 tb:TbM A ts tie
 gd:∀ ms∈ts,GdT A ms
theorem TbG.set {A:Int}{ts:List (List Im)}{tie:List Int}{ms:List Im}(h:TbG A ts tie)(i:Nat)(hm:ms.length≤17∧∀ m∈ms,TM A m)(hg:GdT A ms):TbG A (ts.set i ms) tie:=by
 refine⟨?_,fun x hx=>?_⟩
 · refine⟨by rw [List.length_set];exact h.tb.l3,fun x hx=>?_,h.tb.tl,fun x hx=>by rw [List.length_set];exact h.tb.tin x hx⟩
   rcases List.mem_or_eq_of_mem_set hx with h' | h'
   · exact h.tb.ms x h'
   · subst h';exact hm
 · rcases List.mem_or_eq_of_mem_set hx with h' | h'
   · exact h.gd x h'
   · subst h';exact hg
theorem qP3 {ts:List (List Im)}{i:Nat}{ms:List Im}(h:ts[i]? =some ms):ts.set i ms=ts:=by
 apply List.ext_getElem?
 intro k
 rw [List.getElem?_set]
 split
 · rename_i e
   subst e
   rw [if_pos (glt h),h]
 · rfl
inductive qGf (vs:List V)(H:Hp)(Q:VK)(_:XK):Prop
| mk (tz re:Addr) (ts:List (List Im)) (tie:List Int) (A c:Int) (_:vs=[.ref tz,.ref re,.int c]) (_:TabF H (.ref tz) ts tie) (_:TbG A ts tie) (_:(∀ ms∈ts,ms.length≤5∧∀ m∈ms,TI A m)) (_:RE H re A) (_:0≤c) (_:c < 2147483700) (_:∀ (t':Addr) (ts':List (List Im)) (H':Hp),Same H H'→TabF H' (.ref t') ts' tie→TbG A ts' tie→Q (.ref t') H')
theorem qFh (T:Tx K mg a):FnOk P w K mg base CX0 11 a.A82 a.B82 ["_law_table_here","_law_reels_here","_law_cell"] qGf:=by
 refine T.D82.F.ok jP (fun vs H Q E h=>?_) (fun cdv A outer s H vs Q E hr h=>?_)
 · obtain⟨tz,re,ts,tie,A',c,rfl,_⟩:=h
   rfl
 refine qM fun _ Y=>?_
 obtain⟨tz,re,ts,tie,A',c,rfl,hT,hM,hI,hre,c0,c1,kk⟩:=h
 apply Y
 refine⟨_,(qD (xg PassesOwn.never rfl (jg rfl T.b_range (qA (qc jY rfl T.b_len rfl (qA (qJ (pv 0)) qE)) qE)) (qz (i:=3) jP.nd rfl (Or.inl rfl)) (qF (xg PassesOwn.never rfl (jW (qK T.D26 (qFa T) hr rfl (qA (jK q9 (qJ (pv 0)) (pv 3) (fun _ _=>rfl)) qE))) (qz (i:=4) jP.nd rfl (Or.inl rfl)) (qD (qX 2 jP.nd (qO qq (qO qp (qO jC (pv 2) qG) qG) qG))
  (qD (kM (qOa .none jP.nd rfl T.c_NoPlace (fun _ _=>(qF (qX 5 jP.nd (qKn T.D44 (qBo T) hr rfl (qA (jK (qFx (K:=K) rfl) (jK (xr (K:=K) rfl) (pv 0) qG (fun _ _=>rfl)) (pv 3) (fun _ _=>rfl)) (qA (pv 4) (qA (pv 1) qE))))))) (fun _ _=>(qF (qX 5 jP.nd qG)))))
  (qF (qd (qBf (PW.pt (xH (qH qGr (pv 5) qG (qN _)) (jq (qH qGr (qO qq (qO qg (pv 2) qG) qG) qG (qN _)))))) (qF (qX 0 jP.nd (qK T.D73 (qId T) hr rfl (qA (pv 0) (qA (qo (qA qS (qA (pv 3) (qA (pv 4) (qA (qO qp qG (qO qq (qO qg (pv 2) qG) (qc (vU rfl) rfl T.b_min rfl (qA (pv 5) (qA qG qE))))) qE))))) (qA (pv 1) qE)))))) qP)))))))
  (qF (qL (pv 0)))),?_⟩
 try dsimp only [jc,qj]
 refine qM fun _ Y=>?_
 obtain⟨tt,tl,ti,zs,e0,g2,g3,g4,g5⟩:=id hT
 cases e0
 apply Y
 have hzl:=g4.len
 have l3:=hM.tb.l3
 refine⟨_,rfl,tz,_,_,_,rfl,rfl,SqT.of g2,at0,tl,zs,rfl,.inl (SqL.of g3),_,rfl,by omega,by omega,we (n:=((zs.length:Nat):Int).toNat) (fun i σ H'=>∃ (t1:Addr) (ts1:List (List Im)) (c:Int) (o1 o2 o3:Option V),σ=[some (.ref t1),some (.ref re),some (.int c),o1,o2,o3]∧TabF H' (.ref t1) ts1 tie∧TbG A' ts1 tie∧(∀ k ms,i≤k→ts1[k]? =some ms→ms.length≤5∧∀ m∈ms,TI A' m)∧0≤c∧c < 2147483700∧Same H H')
  ⟨tz,ts,c,none,none,none,rfl,hT,hM,fun k ms _ hk=>hI ms (List.mem_of_getElem? hk),c0,c1,Same.refl _⟩ ?_ ?_⟩
 · rintro i σ H' hi ⟨t1,ts1,c,o1,o2,o3,rfl,hT1,hM1,hI1,c0,c1,e⟩
   refine qM fun _ Y=>?_
   obtain⟨_,tl1,ti1,zs1,e0,q2,q3,q4,q5⟩:=id hT1
   cases e0
   have hzl1:=q4.len
   have l31:=hM1.tb.l3
   obtain⟨v1,hv1⟩:∃ v,zs1[i]? =some v:=⟨_,List.getElem?_eq_getElem (by omega)⟩
   obtain⟨ms0,z,hms,rfl,tT⟩:=q4.get hv1
   have ai:atI zs1 (0+(i:Int))=some (.ref z):=by rw [Int.zero_add];exact jJ hv1
   obtain⟨m5,mT⟩:=hI1 i ms0 (Nat.le_refl _) hms
   apply Y
   refine(ixO q2 at0 ⟨_,rfl,tl1,_,_,_,rfl,rfl,SqL.of q3,ai,z,ms0,rfl,tT,by omega,fun y H2 e2 hy hy2=>?_⟩)
   refine⟨y,rfl,⟨_,SqL.of hy2⟩,xI (K:=K) (a:=y) (xs:=(0::zw 0 ms0).map V.int) (fun j σ H'=>∃ (t2:Addr) (ms:List Im) (c:Int) (o2 o3:Option V),σ=[some (.ref t2),some (.ref re),some (.int c),some (.int (0+(i:Int))),o2,o3]∧TabF H' (.ref t2) (ts1.set i ms) tie∧WkG A' ms0 j ms∧0≤c∧c < 2147483700∧Same H2 H') ⟨t1,ms0,c,o2,o3,rfl,?_,⟨Wk.start,hM1.gd _ (List.mem_of_getElem? hms)⟩,c0,c1,Same.refl _⟩ ?_ ?_ ?_⟩
   · rw [qP3 hms];exact hT1.same e2
   · rintro j σ H3 hj ⟨t2,ms,c,o2,o3,rfl,_,_,_,_,e3⟩
     exact SqL.of (e3 _ _ hy2)
   · rintro j x σ H3 hx ⟨t2,ms,c,o2,o3,rfl,hT2,hW,c0,c1,e3⟩
     refine qM fun _ Y=>?_
     obtain⟨t,ht,rfl⟩:∃ t:Int,(0::zw 0 ms0)[j]? =some t∧x= .int t:=by
      rw [List.getElem?_map] at hx
      cases hq:(0::zw 0 ms0)[j]? with
      | none=>rw [hq] at hx;cases hx
      | some k=>rw [hq] at hx;cases hx;exact⟨k,rfl,rfl⟩
     have hj6:j≤6:=by
      have h1:=(glt ht)
      rw [List.length_cons] at h1
      have:=wy 0 ms0
      omega
     obtain⟨et,ht0⟩:t=qK5 ms0 j∧0≤t:=by
      rcases qMw ms0 0 j t (fun m hm=>(mT m hm).nm) ht with h | ⟨m,hm,h⟩
      · omega
      · have:=(mT m hm).mo;omega
     apply Y
     have hMs:=hM1.set i (hW.wk.tm mT m5 hj6) hW.gd
     have eH3:=(e.trans e2).trans e3
     have hre3:=hre.same eH3
     have hD3:=hMs.tb.tabD hT2 hre3
     have f0:=fm (c*48271+11) (show (0:Int) < 2147483647 by decide)
     refine⟨_,rfl,_,_,rfl,rfl,cmR (by decide) (by decide),_,_,rfl,rfl,_,_,rfl,rfl,nz,?_⟩
     dsimp only
     generalize (c*48271+11).fmod 2147483647=c' at f0 ⊢
     refine qM fun _ Y=>?_
     obtain⟨_,tl2,ti2,zs2,e0,r2,r3,r4,r5⟩:=id hT2
     cases e0
     have hil:i < ts1.length:=by omega
     have hms2:(ts1.set i ms)[i]? =some ms:=by rw [List.getElem?_set,if_pos rfl,if_pos hil]
     obtain⟨v2,hv2⟩:∃ v,zs2[i]? =some v:=⟨_,List.getElem?_eq_getElem (by rw [r4.len,List.length_set];omega)⟩
     obtain⟨ms',z2,hms',rfl,tT2⟩:=r4.get hv2
     rw [hms2] at hms'
     cases hms'
     apply Y
     have ai2:atI zs2 (0+(i:Int))=some (.ref z2):=by rw [Int.zero_add];exact jJ hv2
     refine⟨fun σ H'=>∃ M:Int,σ=[some (.ref t2),some (.ref re),some (.int c'),some (.int (0+(i:Int))),some (.int t),some (.int M)]∧Same H3 H'∧(0 < M→mmF (rlE A') ms t=some M),?_,?_⟩
     · refine⟨fun B od σ' H'=>B= .ref a.k_NoPlace∧Same H3 H'∧σ'=[some (.ref t2),some (.ref re),some (.int c'),some (.int (0+(i:Int))),some (.int t),o3],?_,?_⟩
       · exact(ixO r2 at0 ⟨_,rfl,tl2,_,_,_,rfl,rfl,SqL.of r3,ai2,_,rfl,_,rfl,z2,re,ms,_,some t,rlE A',rfl,tT2,(hD3.ok ms (List.mem_of_getElem? hms2)).2.2,hD3.re,.int t,fun _ H' e'=>⟨rfl,e',rfl⟩,fun M h H' e'=>⟨M,rfl,e',fun _=>h⟩⟩)
       · rintro ea ⟨B1,B2⟩ σ' H' ⟨hB,sH,rfl⟩ hn hl'
         dsimp only at hB
         subst hB
         exact⟨T.yPP,0,rfl,sH.trans (qC hn _),fun h=>absurd h (by decide)⟩
     rintro σ H4 ⟨M,rfl,e4,hMM⟩
     refine⟨fun b H'=>H'=H4∧(b=true→0 < M),?_,?_⟩
     · refine⟨_,rfl,_,_,rfl,rfl,_,rfl,ju (fun q=>?_) (fun _=>⟨rfl,by simp⟩)⟩
       have hp:0 < M:=by simpa using q
       exact⟨_,rfl,_,_,rfl,rfl,cdB (by decide) (by decide),_,_,rfl,rfl,nz,_,_,rfl,rfl,_,rfl,rfl,fun _=>hp⟩
     rintro b H' ⟨rfl,hp⟩
     cases b with
     | false=>exact qm ⟨t2,ms,c',_,_,rfl,hT2.same e4,hW.next mT,f0.1,by omega,e3.trans e4⟩
     | true=>
     have hp:=hp rfl
     have hmm:=hMM hp
     rcases hW.wk.cb mT with hc | ⟨i2,hc,hWn⟩
     · rw [← et] at hc
       unfold mmF at hmm
       rw [hc] at hmm
       cases hmm
     rw [← et] at hc
     have hq:0 < (if (5:Int) < M then 5 else M)∧(if (5:Int) < M then 5 else M)≤M∧(if (5:Int) < M then 5 else M)≤5:=by split <;> omega
     refine jI ⟨_,rfl,_,rfl,_,rfl,_,rfl,_,_,rfl,rfl,cdB (by decide) (by decide),_,rfl,_,_,rfl,_,_,rfl,rfl,(by omega),_,_,rfl,rfl,qS4,fun p hp'=>?_⟩
     have f1:=fm (c'.fdiv 21) hq.1
     generalize (c'.fdiv 21).fmod (if (5:Int) < M then 5 else M)=u at f1
     have w5:=qC hp' (.tup [.str "mix",.int (0+(i:Int)),.int t,.int (1+u)])
     have e5:=e4.trans w5
     refine⟨_,rfl,t2,p,re,rlE A',_,tie,_,rfl,hD3.same e5,.mix (n:=i) (i:=i2) (t:=t) (l:=1+u) (M:=M) (ms:=ms) (by rw [show HO.tup [V.str "mix",.int (i:Int),.int t,.int (1+u)]=HO.tup [V.str "mix",.int (0+(i:Int)),.int t,.int (1+u)] by rw [Int.zero_add]];exact qB) hms2 ht0 (by omega) hc hmm (by rw [if_neg (by omega)]),fun t' H' e' hN=>?_⟩
     refine⟨t',_,c',_,_,rfl,?_,⟨hWn (1+u) (by omega) (by omega),?_⟩,f0.1,by omega,(e3.trans e5).trans e'⟩
     · have hN':=hN.tab
       rw [List.set_set] at hN'
       exact hN'
     · obtain⟨z1,z2,z3⟩:=qSe hc hmm (l:=1+u) (by omega) (by omega) hW.gd.os hW.gd.mo hW.gd.fs
       exact⟨z1,z2,z3⟩
   · rintro σ H3 ⟨t2,ms,c,o2,o3,rfl,hT2,hW,c0,c1,e3⟩
     have hj6:((0::zw 0 ms0).map V.int).length≤6:=by
      rw [List.length_map,List.length_cons]
      have:=wy 0 ms0
      omega
     refine⟨t2,ts1.set i ms,c,_,_,_,rfl,hT2,hM1.set i (hW.wk.tm mT m5 hj6) hW.gd,fun k ms' hk h=>?_,c0,c1,(e.trans e2).trans e3⟩
     rw [List.getElem?_set,if_neg (by omega)] at h
     exact hI1 k ms' (by omega) h
 · rintro σ H' ⟨t1,ts1,c,o1,o2,o3,rfl,hT1,hM1,hI1,c0,c1,e⟩
   exact⟨_,rfl,kk t1 ts1 _ e hT1 hM1⟩
theorem qVy {x b:Int}(hx:0≤x)(hb:0 < b):0≤x.fdiv b:=by
 have h:=(qt (p:=x) hb).2
 by_cases c:0≤x.fdiv b
 · exact c
 · have:=Int.mul_le_mul_of_nonneg_right (c:=b) (show x.fdiv b+1≤0 by omega) (by omega)
   omega
theorem qUu {lo rs to bo len N:Int}(b0:1≤bo)(n0:1≤len)(l0:0≤lo)(l1:lo+(((len - 1)*qBm to).fdiv bo+1) < N)(r0:0≤rs)(r1:rs < 7):
 (0≤stF lo rs to bo len∧stF lo rs to bo len < N*(7*bo))∧0≤stF lo rs to bo len+7*(len - 1)*to∧stF lo rs to bo len+7*(len - 1)*to < N*(7*bo):=by
 have hf:=qt (p:=(len - 1)*qBm to) (q:=bo) (by omega)
 have hx:0≤(len - 1)*qBm to:=Int.mul_nonneg (by omega) (by unfold qBm;split <;> omega)
 have hF:=qVy hx (show 0 < bo by omega)
 generalize ((len - 1)*qBm to).fdiv bo=F at*
 have m1:0≤bo*(7*lo+rs):=Int.mul_nonneg (by omega) (by omega)
 have m2:bo*(7*(lo+F+1)+rs) < bo*(7*N):=Int.mul_lt_mul_of_pos_left (by omega) (by omega)
 have m3:bo*(7*lo+rs) < bo*(7*N):=Int.mul_lt_mul_of_pos_left (by omega) (by omega)
 have e1:lo*7*bo+rs*bo=bo*(7*lo+rs):=by grind
 have e2:N*(7*bo)=bo*(7*N):=by grind
 have e3:bo*(7*(lo+F+1)+rs)=bo*(7*lo+rs)+7*((F+1)*bo):=by grind
 unfold stF
 rw [e2]
 by_cases ht:to < 0
 · rw [if_pos ht]
   have ea:qBm to= -to:=by unfold qBm;rw [if_pos ht]
   rw [ea] at hf hx
   have e4:7*(len - 1)*to= -(7*((len - 1)* -to)):=by grind
   rw [e4,e1]
   generalize (len - 1)* -to=X at*
   generalize bo*(7*lo+rs)=Y at*
   generalize (F+1)*bo=Z at*
   generalize bo*(7*N)=W at*
   generalize bo*(7*(lo+F+1)+rs)=U at*
   exact⟨⟨by omega,by omega⟩,by omega,by omega⟩
 · rw [if_neg ht]
   have ea:qBm to=to:=by unfold qBm;rw [if_neg ht]
   rw [ea] at hf hx
   have e4:7*(len - 1)*to=7*((len - 1)*to):=by grind
   rw [e4,e1]
   generalize (len - 1)*to=X at*
   generalize bo*(7*lo+rs)=Y at*
   generalize (F+1)*bo=Z at*
   generalize bo*(7*N)=W at*
   generalize bo*(7*(lo+F+1)+rs)=U at*
   exact⟨⟨by omega,by omega⟩,by omega,by omega⟩
theorem qM3 {st to bo k N:Int}(b0:1≤bo)(h0:0≤st+7*k*to)(h1:st+7*k*to < N*(7*bo)):InR (Vk (jk st (7*bo)) (jU st (7*bo)) (jk to bo) (jU to bo) k) (jU st (7*bo)*jU to bo) N:=by
 have c1:=xc st (7*bo)
 have c2:=xc to bo
 have q0:=xE (t:=st) (b:=7*bo) (by omega)
 have s0:=xE (t:=to) (b:=bo) (by omega)
 generalize jk st (7*bo)=p at*
 generalize jU st (7*bo)=q at*
 generalize jk to bo=r at*
 generalize jU to bo=s at*
 refine(qN4 (Int.mul_pos q0 s0) (show 0 < 7*bo by omega) ?_).mpr ⟨h0,h1⟩
 unfold Vk
 have e1:(p*s+k*r*q)*(7*bo)=s*(p*(7*bo))+7*k*q*(r*bo):=by grind
 rw [e1,c1,c2]
 grind
theorem CF.lay {A:Int}{m:Im}(h:CF A m){H:Hp}{re:Addr}(hr:RE H re A):LayOk H re m:=by
 obtain⟨hit,_⟩:=h.it hr.2.1 hr.2.2
 obtain⟨nm,N,lo,rs,to,bo,len,hn,n0,n1,t0,t1,b0,b1,l0,l1,r0,r1,rfl⟩:=h
 obtain⟨N',hc⟩:=hit _ _ _ _ _ _ rfl
 obtain⟨i0,i1⟩:=qUu (to:=to) b0 n0 l0 l1 r0 r1
 have hrl:rlE A nm=some N:=by
  unfold rlE
  rcases hn with ⟨rfl,rfl⟩ | ⟨rfl,rfl⟩
  · rw [if_pos rfl]
  · rw [if_neg (by decide+kernel),if_pos rfl]
 have hnm:qDm nm=true∧nm.length≤1000:=by
  rcases hn with ⟨rfl,rfl⟩ | ⟨rfl,rfl⟩ <;> exact⟨by decide+kernel,by decide+kernel⟩
 refine⟨N,hr.at _ _ hrl,⟨hnm.1,hnm.2,hc.bn.mono (m:=700),hc.g1.2.1,hc.g2.2.1,hc.l1,hc.bl⟩,?_,?_⟩
 · exact qM3 b0 (by simpa using i0.1) (by simpa using i0.2)
 · exact qM3 b0 i1.1 i1.2
def LayG (A:Int)(m:Im):Prop:=(∃ b l,m= .nest "low" b l∧0≤b∧b < 5∧1≤l∧l≤8)∨CF A m
theorem LayG.ok {A:Int}{m:Im}(h:LayG A m){H:Hp}{re:Addr}(hr:RE H re A):LayOk H re m∧m.wd≠"mix"∧1≤m.mo∧m.mo≤10:=by
 rcases h with ⟨b,l,rfl,b0,_,l1,l2⟩ | h
 · exact⟨⟨by decide+kernel,by decide+kernel,b0,l1⟩,by show ("nest":Str)≠"mix";decide+kernel,l1,by show l≤10;omega⟩
 · refine⟨h.lay hr,TI.nm (.inr (.inr h)),(h.it hr.2.1 hr.2.2).2.2.1,(h.it hr.2.1 hr.2.2).2.2.2⟩
def DkG (A last:Int):Dk→Prop
 | .opn t l=>0≤t∧t < last+6∧1≤l∧l≤12
 | .cls t u=>0≤t∧t < last+6∧t < u∧u≤t+12
 | .lft t u=>0≤t∧t < last+6∧t < u∧u≤t+12
 | .lin t m=>0≤t∧t < last+6∧LayG A m
 | .lov t m=>0≤t∧t < last+6∧LayG A m
 | _=>False
theorem DkG.ok {A last:Int}{d:Dk}(h:DkG A last d){H:Hp}{re:Addr}{ms:List Im}(hr:RE H re A)(hl:last≤1000000):DOk H re ms d:=by
 have e:(1000100:Int)≤2 ^ 400:=by decide
 unfold DOk
 generalize (2:Int) ^ 400=B at e ⊢
 cases d with
 | cut t=>exact h.elim
 | hel t=>exact h.elim
 | opn t l=>obtain⟨h1,h2,h3,_⟩:=h;exact⟨h1,by omega,h3⟩
 | cls t u=>obtain⟨h1,h2,h3,h4⟩:=h;exact⟨h1,h3,by omega⟩
 | lft t u=>obtain⟨h1,h2,h3,h4⟩:=h;exact⟨h1,h3,by omega⟩
 | lin t m=>obtain⟨h1,h2,h3⟩:=h;exact⟨h1,by omega,(h3.ok hr).1⟩
 | lov t m=>obtain⟨h1,h2,h3⟩:=h;obtain⟨q1,_,q3,q4⟩:=h3.ok hr;exact⟨h1,by omega,q1,by omega,by omega⟩
theorem DkG.lay {A last:Int}{d:Dk}(h:DkG A last d){H:Hp}{re:Addr}(hr:RE H re A):∀ m,d.lay=some m→m.wd≠"mix"∧1≤m.mo:=by
 intro m hm
 cases d with
 | lin t m'=>cases hm;exact⟨(h.2.2.ok hr).2.1,(h.2.2.ok hr).2.2.1⟩
 | lov t m'=>cases hm;exact⟨(h.2.2.ok hr).2.1,(h.2.2.ok hr).2.2.1⟩
 | _=>cases hm
theorem qRx {H:Hp}{rd dz:Addr}{rl:Rls}{ts:List (List Im)}{tie:List Int}{n:Nat}{ms:List Im}{d:Dk}(hm:ts[n]? =some ms)(hD:DAt H dz (n:Int) d)(hO:DOk H rd ms d):
 DdX K H rd dz rl ts tie (if x8 ts (chF tie (n:Int) d.push) d.t d.hi=true then .mixed else .good (qKr ts d (n:Int) (chF tie (n:Int) d.push))):=by
 obtain⟨xs,w,o,hd,hw,a1,hN,h0,hb⟩:∃ xs w o,H dz=some (.tup xs)∧ChW w∧atI xs 1=some (.int (n:Int))∧qT8 H xs w d.t o∧0≤d.t∧qEi w d.t o=true:=by
  cases d with
  | cut t=>exact⟨_,"cut",none,hD,.inl rfl,rfl,⟨rfl,rfl,fun z=>absurd z (by decide+kernel)⟩,hO.1,by unfold qEi;rw [if_neg (by decide+kernel),if_neg (by decide+kernel)]⟩
  | hel t=>exact hO.elim
  | opn t l=>exact⟨_,"open",some l,hD,.inr (.inr (.inl rfl)),rfl,⟨rfl,rfl,fun _=>⟨_,rfl,.int l⟩⟩,hO.1,by unfold qEi;rw [if_pos (.inl rfl)];exact decide_eq_true hO.2.2⟩
  | cls t u=>exact⟨_,"close",some u,hD,.inr (.inr (.inr (.inl rfl))),rfl,⟨rfl,rfl,fun _=>⟨_,rfl,.int u⟩⟩,hO.1,by unfold qEi;rw [if_neg (by decide+kernel),if_pos (.inl rfl)];exact decide_eq_true hO.2.1⟩
  | lft t u=>exact⟨_,"lift",some u,hD,.inr (.inr (.inr (.inr (.inl rfl)))),rfl,⟨rfl,rfl,fun _=>⟨_,rfl,.int u⟩⟩,hO.1,by unfold qEi;rw [if_neg (by decide+kernel),if_pos (.inr rfl)];exact decide_eq_true hO.2.1⟩
  | lin t m=>
   obtain⟨v,hd,hi⟩:=hD
   exact⟨_,"lay_in",none,hd,.inr (.inl rfl),rfl,⟨rfl,rfl,fun z=>absurd z (by decide+kernel)⟩,hO.1,by unfold qEi;rw [if_neg (by decide+kernel),if_neg (by decide+kernel)]⟩
  | lov t m=>
   obtain⟨v,hd,hi⟩:=hD
   exact⟨_,"lay_over",none,hd,.inr (.inr (.inr (.inr (.inr rfl)))),rfl,⟨rfl,rfl,fun z=>absurd z (by decide+kernel)⟩,hO.1,by unfold qEi;rw [if_neg (by decide+kernel),if_neg (by decide+kernel)]⟩
 cases ht:x8 ts (chF tie (n:Int) d.push) d.t d.hi with
 | true=>rw [if_pos rfl];exact .chg0 (c:=1) hd hw a1 hN hm h0 hb (.ok hD hO (by rw [ht];rfl)) (by decide)
 | false=>rw [if_neg (by decide)];exact .chg hd hw a1 hN hm h0 hb hD hO ht
theorem qQs {xs:List V}{i:Int}(h0:0≤i)(h1:i < (xs.length:Int)):∃ v,atI xs i=some v∧v∈xs:=by
 obtain⟨k,rfl⟩:=Int.eq_ofNat_of_zero_le h0
 have hk:k < xs.length:=by omega
 exact⟨xs[k],jJ (List.getElem?_eq_getElem hk),List.getElem_mem hk⟩
theorem TrsAt.sb {z:Addr}{H H':Hp}{us:List V}(e:SB z H H')(hz:H z=some (.lst us)):∀ {ts:List (List Im)} {vs:List V},(∀ b,V.ref b∈vs→b≠z)→TrsAt H ts vs→TrsAt H' ts vs
 | [],[],_,_=>trivial
 | _::_,v::vs,hn,⟨⟨y,h1,⟨ys,h2,h3⟩⟩,r⟩=>by
  subst h1
  exact⟨⟨y,rfl,ys,e _ _ (hn y (by simp)) h2,h3.ts (e.ts hz)⟩,TrsAt.sb e hz (fun b hb=>hn b (by simp [hb])) r⟩
 | [],_::_,_,h=>h.elim
 | _::_,[],_,h=>h.elim
theorem TI.wf {A:Int}{m:Im}(h:TI A m)(hA:60≤A∧A < 360):Wf m:=by
 rcases h with ⟨l,rfl,h1,h2⟩ | ⟨b,l,rfl,_,_,h1,h2⟩ | h
 · exact h1
 · exact h1
 · obtain⟨hit,_⟩:=h.it hA.1 hA.2
   obtain⟨nm,N,lo,rs,to,bo,len,hn,n0,n1,t0,t1,b0,b1,l0,l1,r0,r1,rfl⟩:=h
   obtain⟨N',hc⟩:=hit _ _ _ _ _ _ rfl
   exact⟨hc.g1.1,hc.g2.1,hc.g1.2.1,n0⟩
theorem TM.wf {A:Int}{m:Im}(h:TM A m)(hA:60≤A∧A < 360):Wf m:=by
 rcases h with h | ⟨l,rfl,h1,_⟩
 · exact h.wf hA
 · exact h1
theorem qSh {A:Int}{ms:List Im}(hA:60≤A∧A < 360)(hT:∀ m∈ms,TI A m)(hG:GG ms)(hL:qBu ms):GdT A ms:=
 ⟨qSr ms false (fun l hm=>(hT _ hm).wf hA) hG hL (fun e=>by cases e),qMc (fun m hm=>(hT m hm).nm) none,qR5 none fun m hm=>⟨(hT m hm).wf hA,(hT m hm).nm⟩⟩
inductive qFw (vs:List V)(H:Hp)(Q:VK)(_:XK):Prop
| mk (c:Int) (re:Addr) (A:Int) (_:vs=[.int c,.ref re,.int 3,.int 10]) (_:RE H re A) (_:∀ (t':Addr) (ts:List (List Im)) (tie:List Int) (H':Hp),Same H H'→TabF H' (.ref t') ts tie→TbG A ts tie→Q (.ref t') H')
theorem qGs (T:Tx K mg a):FnOk P w K mg base CX0 12 a.A83 a.B83 ["_law_cell","_law_reels_here","_law_tracks","_law_size"] qFw:=by
 refine T.D83.F.ok xy (fun vs H Q E h=>?_) (fun cdv A outer s H vs Q E hr h=>?_)
 · obtain⟨c,re,A',rfl,_⟩:=h
   rfl
 refine qM fun _ Y=>?_
 obtain⟨c,re,A',rfl,hre,kk⟩:=h
 apply Y
 refine⟨_,(qD (qE3 (i:=4) xy.nd rfl (Or.inr rfl) (qK T.D77 (zf T) hr rfl (qA (pv 0) (qA qG qE))))
  (qD (qX 5 xy.nd (jK q9 (qr (qA (qr qE) (qA (qr (qA qG (qA qG qE))) (qA (qr (qA qG (qA qG qE))) (qA (qr (qA qG (qA qG (qA qG qE)))) (qA (qr (qA qG qE)) qE)))))) (qO qq (qO qg (j6 F.plainAttrs_list F.slot_list_pop F.type_list_pop j8 (pv 4)) qG) qG) (fun _ _=>rfl)))
  (qD (qX 6 xy.nd (qo (qA (zd ["_law_reels_here","_law_size","_law_xs"] [1,3,4] rfl (jg rfl T.b_range (qA (pv 2) qE)) (fun _ _ _ _=>(qK T.D80 (qGe T) hr rfl (qA (pv 3) (qA (pv 1) (qA (pv 2) qE)))))) (qA (kN ["_law_tracks"] [2] rfl (jW (pv 5)) (fun _ _ _ _=>(qH xx (pv 0) (pv 1) (qN _))) (fun _ _ _ _=>(pv 0))) qE))))
  (qD (qd (qH qGr (qO qq (qO qg (j6 F.plainAttrs_list F.slot_list_pop F.type_list_pop j8 (pv 4)) qG) qG) qG (qN _)) (qF (qL (qK T.D82 (qFh T) hr rfl (qA (pv 6) (qA (pv 1) (qA (qO qp (qO qq (pv 0) qG) qG) qE)))))) qP)
  (qF (qL (pv 6))))))),?_⟩
 try dsimp only [jc,qj]
 refine⟨_,rfl,c,200,rfl,by decide,by decide,fun xz xs H1 e1 hxz hxs hxl _=>?_⟩
 refine qM fun _ Y=>?_
 obtain⟨y1,x1,rfl,l1⟩:=xA (n:=199) (by rw [hxl];decide)
 apply Y
 refine⟨sL0,fun a0 h0=>⟨sL2,fun a1 h1=>⟨sL2,fun a2 h2=>⟨sL3,fun a3 h3=>⟨sL1,fun a4 h4=>⟨sL5,fun ld hld=>?_⟩⟩⟩⟩⟩⟩
 have w0:=qC h0 (.lst [])
 have w1:=qC h1 (.lst [.int 0,.int 1])
 have w2:=qC h2 (.lst [.int 1,.int 2])
 have w3:=qC h3 (.lst [.int 0,.int 1,.int 2])
 have w4:=qC h4 (.lst [.int 2])
 have w5:=qC hld (.lst [.ref a0,.ref a1,.ref a2,.ref a3,.ref a4])
 have k0:upd H1 a0 (.lst []) a0=some (.lst []):=qB
 generalize upd H1 a0 (.lst [])=G0 at*
 have k1:upd G0 a1 (.lst [.int 0,.int 1]) a1=some (.lst [.int 0,.int 1]):=qB
 generalize upd G0 a1 (.lst [.int 0,.int 1])=G1 at*
 have k2:upd G1 a2 (.lst [.int 1,.int 2]) a2=some (.lst [.int 1,.int 2]):=qB
 generalize upd G1 a2 (.lst [.int 1,.int 2])=G2 at*
 have k3:upd G2 a3 (.lst [.int 0,.int 1,.int 2]) a3=some (.lst [.int 0,.int 1,.int 2]):=qB
 generalize upd G2 a3 (.lst [.int 0,.int 1,.int 2])=G3 at*
 have k4:upd G3 a4 (.lst [.int 2]) a4=some (.lst [.int 2]):=qB
 generalize upd G3 a4 (.lst [.int 2])=G4 at*
 have k5:upd G4 ld (.lst [.ref a0,.ref a1,.ref a2,.ref a3,.ref a4]) ld=some (.lst [.ref a0,.ref a1,.ref a2,.ref a3,.ref a4]):=qB
 have nld:ld≠xz:=(qU ((w0.trans (w1.trans (w2.trans (w3.trans w4)))) _ _ hxs) hld).symm
 generalize upd G4 ld (.lst [.ref a0,.ref a1,.ref a2,.ref a3,.ref a4])=G5 at*
 have hx5:=((w0.trans (w1.trans (w2.trans (w3.trans w4)))).trans w5) _ _ hxs
 refine⟨_,rfl,.inl ⟨rfl,_,SqL.of hx5⟩,qE6 hx5 fun H2 s2 hz2 _=>?_⟩
 have f1:=fm (x1.fdiv 3) (show (0:Int) < 5 by decide)
 refine qM fun _ Y=>?_
 obtain⟨v,hv,hmem⟩:=qQs (xs:=[V.ref a0,.ref a1,.ref a2,.ref a3,.ref a4]) (i:=(x1.fdiv 3).fmod 5) f1.1 (show _ < ((5:Nat):Int) by omega)
 apply Y
 refine⟨_,_,rfl,rfl,cdB (by decide) (by decide),_,_,rfl,rfl,nz,ld,_,_,v,rfl,rfl,SqL.of (s2 _ _ nld k5),hv,?_⟩
 refine qM fun _ Y=>?_
 obtain⟨li,is,rfl,hli,hil,hin⟩:∃ (li:Addr) (is:List Int),v= .ref li∧G5 li=some (.lst (is.map V.int))∧is.length≤3∧∀ x∈is,∃ k:Nat,x=(k:Int)∧k < 3:=by
  simp only [List.mem_cons,List.not_mem_nil,or_false] at hmem
  rcases hmem with rfl | rfl | rfl | rfl | rfl
  · exact⟨a0,[],rfl,(w1.trans (w2.trans (w3.trans (w4.trans w5)))) _ _ k0,by simp,by simp⟩
  · exact⟨a1,[0,1],rfl,(w2.trans (w3.trans (w4.trans w5))) _ _ k1,by simp,fun x hx=>by
     simp only [List.mem_cons,List.not_mem_nil,or_false] at hx
     rcases hx with rfl | rfl
     · exact⟨0,rfl,by decide⟩
     · exact⟨1,rfl,by decide⟩⟩
  · exact⟨a2,[1,2],rfl,(w3.trans (w4.trans w5)) _ _ k2,by simp,fun x hx=>by
     simp only [List.mem_cons,List.not_mem_nil,or_false] at hx
     rcases hx with rfl | rfl
     · exact⟨1,rfl,by decide⟩
     · exact⟨2,rfl,by decide⟩⟩
  · exact⟨a3,[0,1,2],rfl,(w4.trans w5) _ _ k3,by simp,fun x hx=>by
     simp only [List.mem_cons,List.not_mem_nil,or_false] at hx
     rcases hx with rfl | rfl | rfl
     · exact⟨0,rfl,by decide⟩
     · exact⟨1,rfl,by decide⟩
     · exact⟨2,rfl,by decide⟩⟩
  · exact⟨a4,[2],rfl,w5 _ _ k4,by simp,fun x hx=>by
     simp only [List.mem_cons,List.not_mem_nil,or_false] at hx
     subst hx
     exact⟨2,rfl,by decide⟩⟩
 apply Y
 have w15:Same H1 G5:=(w0.trans (w1.trans (w2.trans (w3.trans w4)))).trans w5
 have sH:SB xz H H2:=(jv (e1.trans w15)).trans s2
 have nli:li≠xz∨li=xz:=by by_cases h:li=xz;exact .inr h;exact .inl h
 have nli:li≠xz:=by
  intro e
  rcases (by simpa using hmem:V.ref li= .ref a0∨V.ref li= .ref a1∨V.ref li= .ref a2∨V.ref li= .ref a3∨V.ref li= .ref a4) with h | h | h | h | h
  · cases h;rw [e,hxs] at h0;cases h0
  · cases h;rw [e,w0 _ _ hxs] at h1;cases h1
  · cases h;rw [e,(w0.trans w1) _ _ hxs] at h2;cases h2
  · cases h;rw [e,(w0.trans (w1.trans w2)) _ _ hxs] at h3;cases h3
  · cases h;rw [e,(w0.trans (w1.trans (w2.trans w3))) _ _ hxs] at h4;cases h4
 have hli2:=s2 _ _ nli hli
 have nre:re≠xz:=by
  rcases hre.1 with q | ⟨o,q⟩
  · exact qU q hxz
  · exact qU q hxz
 clear w0 w1 w2 w3 w4 w5 k0 k1 k2 k3 k4 k5 h0 h1 h2 h3 h4 hld hmem hv
 refine⟨_,rfl,3,rfl,by decide,by decide,zC (n:=3) (fun i acc H3=>∃ (ts:List (List Im)) (xs':List Int),TrsAt H3 ts acc∧ts.length=i∧(∀ ms∈ts,(ms.length≤5∧∀ m∈ms,TI A' m)∧GdT A' ms)∧H3 xz=some (.lst (xs'.map V.int))∧199≤xs'.length+36*i∧(∀ b,V.ref b∈acc→b≠xz)∧SB xz H2 H3) ⟨[],y1,trivial,rfl,by simp,hz2,by omega,by simp,SB.refl _ _⟩ ?_ ?_ ?_⟩
 · rintro i acc H3 hi ⟨ts,xs',hT,hl,_⟩
   exact qY (by rw [hT.len];omega)
 · rintro i acc H3 hi ⟨ts,xs',hT,hl,hI,hz3,hlx,hne,sb⟩
   refine⟨_,rfl,_,rfl,_,rfl,xz,re,xs',A',rfl,hz3,by omega,hre.sb (sH.trans sb) nre,fun y ms xs'' H4 s4 hy hz4 hl4 tT m5 mT mG mL=>?_⟩
   have ny:y≠xz:=fun e=>by rw [e,hz3] at hy;cases hy
   refine Nxt.mk hi ⟨ts++[ms],xs'',qDo (hT.sb s4 hz3 hne) tT,by simp [hl],fun ms' hm'=>?_,hz4,by omega,fun b hb=>?_,sb.trans s4⟩
   · rcases List.mem_append.mp hm' with h | h
     · exact hI ms' h
     · rw [List.mem_singleton] at h;subst h;exact⟨⟨m5,mT⟩,qSh (hre.2) mT mG mL⟩
   · rcases List.mem_append.mp hb with h | h
     · exact hne b h
     · rw [List.mem_singleton] at h;cases h;exact ny
 rintro acc H3 ⟨ts,xs',hT,hl,hI,hz3,hlx,hne,sb⟩ tl htl
 have w3:=qC htl (.lst acc)
 have kl:upd H3 tl (.lst acc) tl=some (.lst acc):=qB
 have ntl:tl≠xz:=(qU hz3 htl).symm
 generalize upd H3 tl (.lst acc)=H4 at w3 kl
 have hli4:=w3 _ _ (sb _ _ nli hli2)
 refine⟨_,rfl,li,rfl,⟨_,SqL.of hli4⟩,qAw (K:=K) (a:=li) (xs:=is.map V.int) (fun j acc H5=>acc=(is.take j).map V.int∧H5=H4) ⟨rfl,rfl⟩ ?_ ?_ ?_⟩
 · rintro j acc H5 hj ⟨rfl,rfl⟩
   refine⟨SqL.of hli4,qY ?_⟩
   rw [List.length_map,List.length_take]
   omega
 · rintro j x acc H5 hj hx ⟨rfl,rfl⟩
   refine qM fun _ Y=>?_
   obtain⟨xi,hxi,rfl⟩:∃ xi:Int,is[j]? =some xi∧x= .int xi:=by
    rw [List.getElem?_map] at hx
    cases hq:is[j]? with
    | none=>rw [hq] at hx;cases hx
    | some k=>rw [hq] at hx;cases hx;exact⟨k,rfl,rfl⟩
   obtain⟨k,rfl,hk⟩:=hin xi (List.mem_of_getElem? hxi)
   apply Y
   refine⟨_,rfl,_,rfl,_,_,rfl,rfl,_,rfl,ju (fun _=>?_) (fun c=>?_)⟩
   · refine⟨_,rfl,Nxt.mk hj ⟨?_,rfl⟩⟩
     rw [List.take_add_one,hxi]
     simp
   · exact absurd (by simp;omega) c
 rintro acc' H5 ⟨rfl,rfl⟩ ti hti
 rw [List.length_map,List.take_length] at*
 have w5:=qC hti (.lst (is.map V.int))
 have ki:upd H5 ti (.lst (is.map V.int)) ti=some (.lst (is.map V.int)):=qB
 have nti:ti≠xz:=(qU (w3 _ _ hz3) hti).symm
 generalize upd H5 ti (.lst (is.map V.int))=H6 at w5 ki
 refine⟨sL2,fun tz htz=>?_⟩
 have w6:=qC htz (.tup [.ref tl,.ref ti])
 have kz:upd H6 tz (.tup [.ref tl,.ref ti]) tz=some (.tup [.ref tl,.ref ti]):=qB
 generalize upd H6 tz (.tup [.ref tl,.ref ti])=H7 at w6 kz
 have w37:=w3.trans (w5.trans w6)
 have hz7:=w37 _ _ hz3
 refine qM fun _ Y=>?_
 obtain⟨y2,x2,rfl,l2⟩:=xA (xs:=xs') (n:=xs'.length - 1) (by omega)
 apply Y
 refine⟨_,rfl,.inl ⟨rfl,_,SqL.of hz7⟩,qE6 hz7 fun H8 s8 hz8 _=>?_⟩
 have sb8:SB xz H H8:=((sH.trans sb).trans (jv w37)).trans s8
 have e8:Same H H8:=fun b u hb=>sb8 b u (qU hb hxz) hb
 have hT8:TrsAt H8 ts acc:=(hT.same w37).sb s8 hz7 hne
 have hF:TabF H8 (.ref tz) ts is:=⟨tz,tl,ti,acc,rfl,s8 _ _ (qJ9 kz hz7 (by intro q;cases q)) kz,s8 _ _ ntl ((w5.trans w6) _ _ kl),hT8,s8 _ _ nti (w6 _ _ ki)⟩
 have hM:TbG A' ts is:=⟨⟨hl,fun ms hm=>⟨by have:=(hI ms hm).1.1;omega,fun m hm'=>.inl ((hI ms hm).1.2 m hm')⟩,hil,fun x hx=>by rw [hl];exact hin x hx⟩,fun ms hm=>(hI ms hm).2⟩
 refine⟨_,_,rfl,rfl,cdB (by decide) (by decide),_,_,rfl,rfl,nz,_,_,rfl,rfl,_,rfl,ju (fun _=>?_) (fun _=>?_)⟩
 · have f0:=fm c (show (0:Int) < 2147483647 by decide)
   refine⟨_,rfl,_,rfl,_,rfl,_,_,rfl,rfl,nz,_,_,rfl,rfl,tz,re,ts,is,A',_,rfl,hF,hM,(fun ms hm=>(hI ms hm).1),hre.same e8,by omega,by omega,fun t' ts' H9 e9 hT9 hM9=>?_⟩
   exact kk t' ts' is H9 (e8.trans e9) hT9 hM9
 · exact⟨_,rfl,kk tz ts is _ e8 hF hM⟩
inductive qEd (vs:List V)(H:Hp)(Q:VK)(_:XK):Prop
| mk (tz:Addr) (ts:List (List Im)) (tie:List Int) (_:vs=[.ref tz]) (_:TabF H (.ref tz) ts tie) (_:ts.length≤8) (_:∀ (t:Addr) (H':Hp),Same H H'→TabF H' (.ref t) ts tie→Q (.ref t) H')
theorem qD1 (T:Tx K mg a):FnOk P w K mg base CX0 1 a.A84 a.B84 ["_law_table_here"] qEd:=by
 refine T.D84.F.ok qEb (fun vs H Q E h=>?_) (fun cdv A outer s H vs Q E hr h=>?_)
 · obtain⟨tz,ts,tie,rfl,_⟩:=h
   rfl
 refine qM fun _ Y=>?_
 obtain⟨tz,ts,tie,rfl,⟨tt,tl,ti,zs,e0,h2,h3,h4,h5⟩,hl,kk⟩:=h
 cases e0
 apply Y
 have hzl:=h4.len
 refine⟨_,(qF (qL (qo (qA (zd [] [] rfl (jW (qJ (pv 0))) (fun _ _ _ _=>(kn (wU (K:=K) rfl) rfl T.b_list rfl (qA (pv 0) qE)))) (qA (kn vQ rfl T.b_list rfl (qA (qJ (pv 0)) qE)) qE))))),?_⟩
 try dsimp only [jc,qj]
 refine(ixO h2 at0 ⟨tl,rfl,⟨_,SqL.of h3⟩,wW (K:=K) (a:=tl) (xs:=zs) (fun j acc H2=>TrsAt H2 (ts.take j) acc∧Same H H2) ⟨trivial,Same.refl _⟩ ?_ ?_ ?_⟩)
 · rintro j acc H2 hj ⟨ht,e2⟩
   exact⟨SqL.of (e2 _ _ h3),qY (by rw [ht.len,List.length_take];omega)⟩
 · rintro j x acc H2 hj hx ⟨ht,e2⟩
   refine qM fun _ Y=>?_
   obtain⟨ms1,z,hms,rfl,us,hz,his⟩:=h4.get hx
   apply Y
   refine⟨_,rfl,z,us,rfl,.inl (SqL.of (e2 _ _ hz)),fun l hl'=>Nxt.mk hj ⟨?_,e2.trans (qC hl' _)⟩⟩
   have w3:=qC hl' (.lst us)
   have etk:ts.take (j+1)=ts.take j++[ms1]:=by rw [List.take_add_one,hms];rfl
   rw [etk]
   exact qDo (ht.same w3) ⟨us,qB,his.ts (qZ (e2.trans w3))⟩
 rintro acc H2 ⟨ht,e2⟩ d hd
 rw [hzl,List.take_length] at ht
 have w3:=qC hd (.lst acc)
 have e3:=e2.trans w3
 refine(ixO (e3 _ _ h2) at1 ⟨ti,_,rfl,.inl (SqL.of (e3 _ _ h5)),fun l hl'=>⟨sL2,fun t ht'=>?_⟩⟩)
 have w5:=qC hl' (.lst (tie.map V.int))
 have w6:=qC ht' (.tup [.ref d,.ref l])
 exact kk t _ ((e3.trans w5).trans w6) ⟨t,d,l,acc,rfl,qB,(w5.trans w6) _ _ qB,ht.same ((w3.trans w5).trans w6),w6 _ _ qB⟩
theorem qSf {neg:Bool}{H:Hp}{x y:Str}{Q:VK}(q:Q (.bl (if neg then !decide (x=y) else decide (x=y))) H):qL8 K neg (.str x) (.str y) H Q:=by
 refine⟨.leaf (.str x),.leaf (.str y),⟨rfl,rfl⟩,⟨rfl,rfl⟩,by unfold dep;omega,?_⟩
 have e:eqD (.leaf (.str x)) (.leaf (.str y))=decide (x=y):=by
  unfold eqD eqV
  by_cases h:x=y
  · rw [decide_eq_true h,h];simp
  · rw [decide_eq_false h];simpa using h
 rw [e]
 exact q
theorem qQi {neg:Bool}{H:Hp}{t:Addr}{ts:List (List Im)}{tie:List Int}{y:Str}{Q:VK}(h:TabF H (.ref t) ts tie)(q:Q (.bl neg) H):qL8 K neg (.ref t) (.str y) H Q:=by
 refine⟨tabD ts tie,.leaf (.str y),h.rep,⟨rfl,rfl⟩,by have:=(qGj ts tie).2;omega,?_⟩
 have e:eqD (tabD ts tie) (.leaf (.str y))=false:=by unfold tabD eqD;rfl
 rw [e]
 cases neg <;> exact q
theorem qPx {neg:Bool}{σ:L2.St}{H:Hp}{x y:Str}{Q:VK}(q:Q (.bl (if neg then !decide (x=y) else decide (x=y))) H):tC (.str y) σ H (fun u H2=>qL8 K neg (.str x) u H2 Q):=qSf q
theorem qOr {neg:Bool}{σ:L2.St}{H:Hp}{t:Addr}{ts:List (List Im)}{tie:List Int}{y:Str}{Q:VK}(h:TabF H (.ref t) ts tie)(q:Q (.bl neg) H):tC (.str y) σ H (fun u H2=>qL8 K neg (.ref t) u H2 Q):=qQi h q
theorem qRl {neg:Bool}{H:Hp}{x y:Addr}{ts:List (List Im)}{tie:List Int}{Q:VK}(h1:TabF H (.ref x) ts tie)(h2:TabF H (.ref y) ts tie)(q:Q (.bl (!neg)) H):qL8 K neg (.ref x) (.ref y) H Q:=by
 refine⟨tabD ts tie,tabD ts tie,h1.rep,h2.rep,by have:=(qGj ts tie).2;omega,?_⟩
 rw [(qGj ts tie).1]
 cases neg <;> exact q
theorem TabF.at {H:Hp}{t:Addr}{ts:List (List Im)}{tie:List Int}{i:Nat}(h:TabF H (.ref t) ts tie)(hi:i < ts.length):∃ (tl ti:Addr) (zs:List V) (z:Addr),H t=some (.tup [.ref tl,.ref ti])∧H tl=some (.lst zs)∧zs[i]? =some (.ref z)∧Tr H z (ts.getD i []):=by
 obtain⟨_,tl,ti,zs,e0,h2,h3,h4,h5⟩:=h
 cases e0
 obtain⟨v,hv⟩:∃ v,zs[i]? =some v:=⟨_,List.getElem?_eq_getElem (by rw [h4.len];exact hi)⟩
 obtain⟨ms,z,hms,rfl,tT⟩:=h4.get hv
 refine⟨tl,ti,zs,z,h2,h3,hv,?_⟩
 rw [List.getD_eq_getElem?_getD,hms]
 exact tT
theorem qUc {x y:Str}(h:decide (V.str x=V.str y)=true):x=y:=V.str.inj (of_decide_eq_true h)
theorem qU3 {x y:Str}(h:¬ decide (V.str x=V.str y)=true):x≠y:=fun e=>h (by rw [e];exact decide_eq_true rfl)
inductive qHc (vs:List V)(H:Hp)(Q:VK)(_:XK):Prop
| mk (zx re:Addr) (n last A:Int) (xs:List Int) (_:vs=[.ref zx,.int n,.ref re,.int last]) (_:H zx=some (.lst (xs.map V.int))) (_:11≤xs.length) (_:RE H re A) (_:0≤last) (_:∀ (dz:Addr) (d:Dk) (H':Hp),SB zx H H'→DAt H' dz n d→DkG A last d→Q (.ref dz) H')
theorem qIn (T:Tx K mg a):FnOk P w K mg base CX0 3 a.A86 a.B86 ["_law_xs","_law_number","_law_reels_here","_law_last"] qHc:=by
 refine T.D86.F.ok j9 (fun vs H Q E h=>?_) (fun cdv A outer s H vs Q E hr h=>?_)
 · obtain⟨zx,re,n,last,A',xs,rfl,_⟩:=h
   rfl
 refine qM fun _ Y=>?_
 obtain⟨zx,re,n,last,A',xs,rfl,hz,hl,hre,l0,kk⟩:=h
 obtain⟨k,hk⟩:∃ k,xs.length=k+11:=⟨xs.length - 11,by omega⟩
 obtain⟨y1,x1,rfl,l1⟩:=xA (n:=k+10) hk
 obtain⟨y2,x2,rfl,l2⟩:=xA (n:=k+9) l1
 obtain⟨y3,x3,rfl,l3⟩:=xA (n:=k+8) l2
 obtain⟨y4,x4,rfl,l4⟩:=xA (n:=k+7) l3
 obtain⟨y5,x5,rfl,l5⟩:=xA (n:=k+6) l4
 apply Y
 have nre:=hre.ne hz
 refine⟨_,(qD (qX 4 j9.nd (jK q9 (qr (qA qS (qA qS (qA qS (qA qS (qA qS qE)))))) (qO qq (qO qg (j6 F.plainAttrs_list F.slot_list_pop F.type_list_pop j8 (pv 0)) qG) qG) (fun _ _=>rfl)))
  (qD (qX 5 j9.nd (qO qq (qO qg (j6 F.plainAttrs_list F.slot_list_pop F.type_list_pop j8 (pv 0)) qG) (qO qp (pv 3) qG)))
  (qD (qX 6 j9.nd (qO qp qG (qO qq (qO qg (j6 F.plainAttrs_list F.slot_list_pop F.type_list_pop j8 (pv 0)) qG) qG)))
  (qD (qd (qH jX (pv 4) qS (qN _)) (qF (qL (qo (qA (pv 4) (qA (pv 1) (qA (pv 5) (qA (pv 6) qE))))))) qP)
  (qD (qd (qBf (PW.pt (j2 (qH jX (pv 4) qS (qN _)) (jV (qH jX (pv 4) qS (qN _)))))) (qF (qL (qo (qA (pv 4) (qA (pv 1) (qA (pv 5) (qA (qO qp (pv 5) (pv 6)) qE))))))) qP)
  (qD (qX 7 j9.nd (qo (qA qS (qA qS (qA (qO qq (qO qg (j6 F.plainAttrs_list F.slot_list_pop F.type_list_pop j8 (pv 0)) qG) qG) (qA (qO qp qG (qO qq (pv 6) qG)) qE))))))
  (qD (kM (qd (qH qGr (qO qq (qO qg (j6 F.plainAttrs_list F.slot_list_pop F.type_list_pop j8 (pv 0)) qG) qG) qG (qN _)) (qF (qX 7 j9.nd (qK T.D79 (vW T) hr rfl (qA (pv 0) (qA (pv 2) (qA qG qE)))))) qP))
  (qF (qL (qo (qA (pv 4) (qA (pv 1) (qA (pv 5) (qA (pv 7) qE)))))))))))))),?_⟩
 try dsimp only [jc,qj]
 refine⟨sL5,fun ld hld=>?_⟩
 have w0:=qC hld (.lst [.str "lay_in",.str "open",.str "close",.str "lift",.str "lay_over"])
 have hz0:=w0 _ _ hz
 have nld:ld≠zx:=(qU hz hld).symm
 refine⟨_,rfl,.inl ⟨rfl,_,SqL.of hz0⟩,qE6 hz0 fun H1 s1 hz1 _=>?_⟩
 have f1:=fm (x1.fdiv 3) (show (0:Int) < 5 by decide)
 refine qM fun _ Y=>?_
 obtain⟨v,hv,hmem⟩:=qQs (xs:=[V.str "lay_in",.str "open",.str "close",.str "lift",.str "lay_over"]) (i:=(x1.fdiv 3).fmod 5) f1.1 (show _ < ((5:Nat):Int) by omega)
 apply Y
 refine⟨_,_,rfl,rfl,cdB (by decide) (by decide),_,_,rfl,rfl,nz,ld,_,_,v,rfl,rfl,SqL.of (s1 _ _ nld qB),hv,?_⟩
 refine qM fun _ Y=>?_
 obtain⟨w,rfl,hw⟩:∃ w:Str,v= .str w∧(w="open"∨w="close"∨w="lift"∨w="lay_in"∨w="lay_over"):=by
  simp only [List.mem_cons,List.not_mem_nil,or_false] at hmem
  rcases hmem with rfl | rfl | rfl | rfl | rfl
  · exact⟨_,rfl,.inr (.inr (.inr (.inl rfl)))⟩
  · exact⟨_,rfl,.inl rfl⟩
  · exact⟨_,rfl,.inr (.inl rfl)⟩
  · exact⟨_,rfl,.inr (.inr (.inl rfl))⟩
  · exact⟨_,rfl,.inr (.inr (.inr (.inr rfl)))⟩
 apply Y
 have sb1:SB zx H H1:=(jv w0).trans s1
 refine⟨_,rfl,.inl ⟨rfl,_,SqL.of hz1⟩,qE6 hz1 fun H2 s2 hz2 _=>?_⟩
 have f2:=fm (x2.fdiv 3) (show (0:Int) < last+6 by omega)
 refine⟨_,_,rfl,rfl,cdB (by decide) (by decide),_,rfl,_,_,rfl,rfl,_,_,rfl,rfl,(by omega),?_⟩
 refine⟨_,rfl,.inl ⟨rfl,_,SqL.of hz2⟩,qE6 hz2 fun H3 s3 hz3 _=>?_⟩
 have f3:=fm (x3.fdiv 3) (show (0:Int) < 12 by decide)
 refine⟨_,_,rfl,rfl,cdB (by decide) (by decide),_,_,rfl,rfl,nz,_,_,rfl,rfl,?_⟩
 dsimp only
 generalize (x2.fdiv 3).fmod (last+6)=t at f2 ⊢
 generalize (x3.fdiv 3).fmod 12=l at f3 ⊢
 have sb3:=(sb1.trans s2).trans s3
 refine⟨_,rfl,rfl,_,rfl,ju (fun c=>?_) (fun c=>?_)⟩
 · have hw':=qUc c
   subst hw'
   refine⟨_,rfl,_,rfl,_,rfl,_,rfl,qS4,fun dz hdz=>?_⟩
   exact kk dz (.opn t (1+l)) _ (sb3.trans (jv (qC hdz _))) qB ⟨f2.1,f2.2,by omega,by omega⟩
 have no:=qU3 c
 refine⟨fun b H'=>H'=H3∧(b=true↔(w="close"∨w="lift")),?_,?_⟩
 · refine⟨_,rfl,rfl,_,rfl,ju (fun c=>?_) (fun c=>?_)⟩
   · exact⟨rfl,fun _=>.inl (qUc c),fun _=>rfl⟩
   · refine⟨_,rfl,rfl,_,rfl,rfl,fun c2=>.inr (qUc c2),fun h=>?_⟩
     rcases h with h | h
     · exact absurd h (qU3 c)
     · rw [h];exact decide_eq_true rfl
 rintro b H' ⟨rfl,hb⟩
 cases b with
 | true=>
  refine jI ⟨_,rfl,_,rfl,_,rfl,_,rfl,_,rfl,_,_,rfl,rfl,qS4,fun dz hdz=>?_⟩
  have sbd:=sb3.trans (jv (qC hdz (.tup [.str w,.int n,.int t,.int (t+(1+l))])))
  rcases hb.mp rfl with h | h
  · subst h
    exact kk dz (.cls t (t+(1+l))) _ sbd qB ⟨f2.1,f2.2,by omega,by omega⟩
  · subst h
    exact kk dz (.lft t (t+(1+l))) _ sbd qB ⟨f2.1,f2.2,by omega,by omega⟩
 | false=>
 have nc:w≠"close"∧w≠"lift":=⟨fun h=>Bool.false_ne_true (hb.mpr (.inl h)),fun h=>Bool.false_ne_true (hb.mpr (.inr h))⟩
 refine qm ⟨_,rfl,.inl ⟨rfl,_,SqL.of hz3⟩,qE6 hz3 fun H4 s4 hz4 _=>?_⟩
 have f4:=fm (x4.fdiv 3) (show (0:Int) < 5 by decide)
 have f5:=fm (1+l) (show (0:Int) < 8 by decide)
 refine⟨_,_,rfl,rfl,cdB (by decide) (by decide),_,_,rfl,rfl,nz,_,rfl,_,_,rfl,rfl,nz,_,_,rfl,rfl,qS4,fun g hg=>?_⟩
 have w4:=qC hg (.tup [.str "nest",.str "low",.int ((x4.fdiv 3).fmod 5),.int (1+(1+l).fmod 8)])
 have kg:upd H4 g (.tup [.str "nest",.str "low",.int ((x4.fdiv 3).fmod 5),.int (1+(1+l).fmod 8)]) g=some (.tup [.str "nest",.str "low",.int ((x4.fdiv 3).fmod 5),.int (1+(1+l).fmod 8)]):=qB
 dsimp only at w4 kg ⊢
 generalize upd H4 g (.tup [.str "nest",.str "low",.int ((x4.fdiv 3).fmod 5),.int (1+(1+l).fmod 8)])=H5 at w4 kg ⊢
 have hz5:=w4 _ _ hz4
 have sb5:=(sb3.trans s4).trans (jv w4)
 refine⟨fun σ' H'=>∃ (v:V) (m:Im),σ'=[some (.ref zx),some (.int n),some (.ref re),some (.int last),some (.str w),some (.int t),some (.int (1+l)),some v]∧SB zx H H'∧IsI H' m v∧LayG A' m,?_,?_⟩
 · refine⟨_,rfl,.inl ⟨rfl,_,SqL.of hz5⟩,qE6 hz5 fun H6 s6 hz6 _=>?_⟩
   refine⟨_,_,rfl,rfl,cdB (by decide) (by decide),_,_,rfl,rfl,nz,_,_,rfl,rfl,_,rfl,ju (fun _=>?_) (fun _=>?_)⟩
   · refine⟨_,rfl,_,rfl,zx,re,y5,A',8,rfl,hz6,by omega,hre.sb (sb5.trans s6) nre,by decide,by decide,fun v m u' H7 s7 hz7 _ hcf hI=>?_⟩
     exact⟨v,m,rfl,(sb5.trans s6).trans s7,hI,.inr hcf⟩
   · exact⟨_,.nest "low" ((x4.fdiv 3).fmod 5) (1+(1+l).fmod 8),rfl,sb5.trans s6,isN (s6 _ _ (qJ9 kg hz5 (by intro q;cases q)) kg),.inl ⟨_,_,rfl,f4.1,f4.2,by omega,by omega⟩⟩
 rintro σ' H' ⟨v,m,rfl,sb',hI,hG⟩
 refine⟨_,rfl,_,rfl,_,rfl,_,rfl,qS4,fun dz hdz=>?_⟩
 have wd:=qC hdz (.tup [.str w,.int n,.int t,v])
 rcases hw with h | h | h | h | h
 · exact absurd h no
 · exact absurd h nc.1
 · exact absurd h nc.2
 · subst h
   exact kk dz (.lin t m) _ (sb'.trans (jv wd)) ⟨v,qB,hI.ts (qZ wd)⟩ ⟨f2.1,f2.2,hG⟩
 · subst h
   exact kk dz (.lov t m) _ (sb'.trans (jv wd)) ⟨v,qB,hI.ts (qZ wd)⟩ ⟨f2.1,f2.2,hG⟩
def IsTLs (K:W.Frag)(H:Hp):List (List Te)→List V→Prop
 | [],[]=>True
 | ts::tss,v::vs=>(∃ y,v= .ref y∧TL K H y ts)∧IsTLs K H tss vs
 | _,_=>False
theorem IsTLs.same {H H':Hp}(e:Same H H'):∀ {tss:List (List Te)} {vs:List V},IsTLs K H tss vs→IsTLs K H' tss vs
 | [],[],_=>trivial
 | _::_,_::_,⟨⟨y,h1,h2⟩,r⟩=>⟨⟨y,h1,h2.same e⟩,r.same e⟩
 | [],_::_,h=>h.elim
 | _::_,[],h=>h.elim
theorem IsTLs.len {H:Hp}:∀ {tss:List (List Te)} {vs:List V},IsTLs K H tss vs→vs.length=tss.length
 | [],[],_=>rfl
 | _::_,_::_,h=>by rw [List.length_cons,List.length_cons,h.2.len]
 | [],_::_,h=>h.elim
 | _::_,[],h=>h.elim
theorem IsTLs.app {H:Hp}:∀ {tss:List (List Te)} {vs:List V} {tss':List (List Te)} {vs':List V},IsTLs K H tss vs→IsTLs K H tss' vs'→IsTLs K H (tss++tss') (vs++vs')
 | [],[],_,_,_,h=>h
 | _::_,_::_,_,_,h,h'=>⟨h.1,h.2.app h'⟩
 | [],_::_,_,_,h,_=>h.elim
 | _::_,[],_,_,h,_=>h.elim
theorem IsTLs.one {H:Hp}{ts:List Te}{y:Addr}(h:TL K H y ts):IsTLs K H [ts] [.ref y]:=⟨⟨y,rfl,h⟩,trivial⟩
theorem IsTLs.take {H:Hp}:∀ {tss:List (List Te)} {vs:List V} {i:Nat},IsTLs K H tss vs→IsTLs K H (tss.take i) (vs.take i)
 | [],[],_,_=>by simp [IsTLs]
 | _::_,_::_,0,_=>trivial
 | _::_,_::_,_+1,h=>⟨h.1,h.2.take⟩
 | [],_::_,_,h=>h.elim
 | _::_,[],_,h=>h.elim
theorem IsTLs.drop {H:Hp}:∀ {tss:List (List Te)} {vs:List V} {i:Nat},IsTLs K H tss vs→IsTLs K H (tss.drop i) (vs.drop i)
 | [],[],_,_=>by simp [IsTLs]
 | _::_,_::_,0,h=>h
 | _::_,_::_,_+1,h=>h.2.drop (i:=_)
 | [],_::_,_,h=>h.elim
 | _::_,[],_,h=>h.elim
theorem IsTLs.get {H:Hp}:∀ {tss:List (List Te)} {vs:List V} {i:Nat} {v:V},IsTLs K H tss vs→vs[i]? =some v→∃ ts y,tss[i]? =some ts∧v= .ref y∧TL K H y ts
 | [],[],_,_,_,h=>by simp at h
 | ts::_,v::_,0,_,⟨⟨y,h1,h2⟩,_⟩,h=>by cases h;exact⟨ts,y,rfl,h1,h2⟩
 | _::_,_::_,i+1,_,h,h'=>h.2.get (i:=i) h'
 | [],_::_,_,_,h,_=>h.elim
 | _::_,[],_,_,h,_=>h.elim
theorem IsTLs.rep {H:Hp}:∀ {tss:List (List Te)} {vs:List V},IsTLs K H tss vs→Reps K H (tss.map fun ts=>.lst (ts.map Te.d)) vs
 | [],[],_=>by unfold Reps;trivial
 | _::_,_::_,⟨⟨y,h1,h2⟩,r⟩=>by
  rw [List.map_cons]
  unfold Reps
  subst h1
  exact⟨h2.rep,r.rep⟩
 | [],_::_,h=>h.elim
 | _::_,[],h=>h.elim
def TLL (K:W.Frag)(H:Hp)(z:Addr)(tss:List (List Te)):Prop:=∃ vs,H z=some (.lst vs)∧IsTLs K H tss vs
theorem TLL.same {H H':Hp}(e:Same H H'){z:Addr}{tss:List (List Te)}(h:TLL K H z tss):TLL K H' z tss:=let ⟨vs,h1,h2⟩:=h;⟨vs,e _ _ h1,h2.same e⟩
theorem TLL.rep {H:Hp}{z:Addr}{tss:List (List Te)}(h:TLL K H z tss):Rep K H (.lst (tss.map fun ts=>.lst (ts.map Te.d))) (.ref z):=by
 obtain⟨vs,h1,h2⟩:=h
 unfold Rep
 exact⟨z,vs,rfl,SqL.of h1,h2.rep⟩
theorem qKu:∀ tss:List (List Te),zN (tss.map fun ts=>.lst (ts.map Te.d)) (tss.map fun ts=>.lst (ts.map Te.d))=true
 | []=>by simp [zN]
 | ts::tss=>by
  rw [List.map_cons]
  unfold zN eqD
  rw [qAk,qKu tss]
  rfl
theorem qKc:∀ ts:List Te,kj (ts.map Te.d)≤2
 | []=>by simp [kj]
 | t::ts=>by
  have:=qKc ts
  rw [List.map_cons]
  unfold kj
  have:dep t.d≤2:=by simp [Te.d,dep,kj]
  omega
theorem qJu:∀ tss:List (List Te),kj (tss.map fun ts=>.lst (ts.map Te.d))≤3
 | []=>by simp [kj]
 | ts::tss=>by
  have:=qJu tss
  have:=qKc ts
  rw [List.map_cons]
  unfold kj dep
  omega
theorem qU4 {neg:Bool}{H:Hp}{x y:Addr}{X:List (List Te)}{Q:VK}(h1:TLL K H x X)(h2:TLL K H y X)(q:Q (.bl (!neg)) H):qL8 K neg (.ref x) (.ref y) H Q:=by
 refine⟨_,_,h1.rep,h2.rep,by unfold dep;have:=qJu X;omega,?_⟩
 have e:eqD (.lst (X.map fun ts=>.lst (ts.map Te.d))) (.lst (X.map fun ts=>.lst (ts.map Te.d)))=true:=by unfold eqD;exact qKu X
 rw [e]
 cases neg <;> exact q
theorem qU7 {neg:Bool}{H:Hp}{x y:Addr}{X:List (List Te)}{Q:VK}(h1:TLL K H x X)(h2:H y=some (.lst []))(q:Q (.bl (if neg then !X.isEmpty else X.isEmpty)) H):qL8 K neg (.ref x) (.ref y) H Q:=by
 refine⟨_,.lst [],h1.rep,by unfold Rep;exact⟨y,[],rfl,SqL.of h2,by unfold Reps;trivial⟩,by unfold dep;have:=qJu X;omega,?_⟩
 have e:eqD (.lst (X.map fun ts=>.lst (ts.map Te.d))) (.lst [])=X.isEmpty:=by
  unfold eqD
  cases X with
  | nil=>simp [zN]
  | cons x X=>simp [zN]
 rw [e]
 exact q
theorem qUo {neg:Bool}{H:Hp}{x y:Addr}{ts:List Te}{Q:VK}(h1:TL K H x ts)(h2:H y=some (.lst []))(q:Q (.bl (if neg then !ts.isEmpty else ts.isEmpty)) H):qL8 K neg (.ref x) (.ref y) H Q:=by
 refine⟨_,.lst [],h1.rep,by unfold Rep;exact⟨y,[],rfl,SqL.of h2,by unfold Reps;trivial⟩,by unfold dep;have:=qKc ts;omega,?_⟩
 have e:eqD (.lst (ts.map Te.d)) (.lst [])=ts.isEmpty:=by
  unfold eqD
  cases ts with
  | nil=>simp [zN]
  | cons x X=>simp [zN]
 rw [e]
 exact q
theorem qEy (T:Tx K mg a):FnOk P w K mg base CX0 10 a.A74 a.B74 ["track","moment","room"] (vh K 1):=(qMo T 1).2
theorem qI5 {t:Int}(h:t≤100000):t+((1:Nat):Int)*2 ^ 61+2 ^ 60 < 2 ^ 400:=by
 have e:(100000:Int)+1*2 ^ 61+2 ^ 60 < 2 ^ 400:=by decide
 generalize (2:Int) ^ 400=B at e ⊢
 omega
inductive qH2 (K:W.Frag)(vs:List V)(H:Hp)(Q:VK)(_:XK):Prop
| mk (z rz:Addr) (ms:List Im) (n:Int) (rm:Rms) (_:vs=[.ref z,.ref rz,.int n]) (_:Tr H z ms) (_:LvT rm 1 ms) (_:RoomAt H rz rm) (_:0≤n) (_:n≤900) (_:∀ (y:Addr) (H':Hp),Same H H'→TLL K H' y (xR (qx rm 1) ms n.toNat)→Q (.ref y) H')
theorem vn (f:Str→Int→List Te)(ms:List Im)(i:Nat):xR f ms (i+1)=xR f ms i++[zI f ms (i:Int)]:=by
 unfold xR
 rw [List.range_succ,List.map_append]
 rfl
theorem jy (f:Str→Int→List Te)(ms:List Im)(n:Nat):(xR f ms n).length=n:=by unfold xR;simp
theorem qBg (T:Tx K mg a):FnOk P w K mg base CX0 11 a.A85 a.B85 ["_law_track_here","_law_room","_law_last"] (qH2 K):=by
 refine T.D85.F.ok qHs (fun vs H Q E h=>?_) (fun cdv A outer s H vs Q E hr h=>?_)
 · obtain⟨z,rz,ms,n,rm,rfl,_⟩:=h
   rfl
 refine qM fun _ Y=>?_
 obtain⟨z,rz,ms,n,rm,rfl,tT,hL,hR,n0,n1,kk⟩:=h
 apply Y
 refine⟨_,(qF (qL (zd ["_law_track_here","_law_room"] [0,1] rfl (jg rfl T.b_range (qA (pv 2) qE)) (fun _ _ _ _=>(qK T.D74 (qEy T) hr rfl (qA (pv 1) (qA (pv 0) (qA (pv 2) qE)))))))),?_⟩
 try dsimp only [jc,qj]
 refine⟨_,rfl,n,rfl,by omega,by omega,zC (n:=n.toNat) (fun i acc H2=>IsTLs K H2 (xR (qx rm 1) ms i) acc∧Same H H2) ⟨trivial,Same.refl _⟩ ?_ ?_ ?_⟩
 · rintro i acc H2 hi ⟨h,_⟩
   exact qY (by rw [h.len,jy];omega)
 · rintro i acc H2 hi ⟨h,e⟩
   refine⟨_,rfl,_,rfl,_,rfl,z,rz,ms,_,rm,rfl,tT.same e,hL,fun _=>hR.same e,by omega,qI5 (by omega),fun y H3 e3 hy tY=>Nxt.mk hi ⟨?_,e.trans e3⟩⟩
   rw [qNa,Int.zero_add] at tY
   rw [vn]
   exact(h.same e3).app (.one tY)
 · rintro acc H2 ⟨h,e⟩ d hd
   have w:=qC hd (.lst acc)
   exact kk d _ (e.trans w) ⟨acc,qB,h.same w⟩
def St5:Dk→Prop
 | .cut _=>False
 | .hel _=>False
 | _=>True
inductive qDx (vs:List V)(H:Hp)(Q:VK)(_:XK):Prop
| mk (dz:Addr) (n:Int) (d:Dk) (_:vs=[.ref dz]) (_:DAt H dz n d) (_:St5 d) (_:(∀ m,d.lay=some m→m.wd≠"mix"∧1≤m.mo)) (_:∀ (p:Addr) (H':Hp),Same H H'→H' p=some (.tup [.int d.t,.int d.hi])→Q (.ref p) H')
theorem vS (T:Tx K mg a):FnOk P w K mg base CX0 1 a.A87 a.B87 ["_law_deed_here"] qDx:=by
 refine T.D87.F.ok qC1 (fun vs H Q E h=>?_) (fun cdv A outer s H vs Q E hr h=>?_)
 · obtain⟨dz,n,d,rfl,_⟩:=h
   rfl
 refine qM fun _ Y=>?_
 obtain⟨dz,n,d,rfl,hD,h5,hl,kk⟩:=h
 apply Y
 refine⟨_,(qD (qd (PW.pt (j2 (qH jX (qJ (pv 0)) qS (qN _)) (jV (qH jX (qJ (pv 0)) qS (qN _))))) (qF (qL (qo (qA (qJ (pv 0)) (qA (qJ (pv 0)) qE))))) qP)
  (qD (qd (qH jX (qJ (pv 0)) qS (qN _)) (qF (qL (qo (qA (qJ (pv 0)) (qA (qO qp (qJ (pv 0)) (jK qBp (qJ (pv 0)) (kh xP qG) (fun _ _=>rfl))) qE))))) qP)
  (qF (qL (qo (qA (qJ (pv 0)) (qA (qJ (pv 0)) qE))))))),?_⟩
 try dsimp only [jc,qj]
 cases d with
 | cut t=>exact h5.elim
 | hel t=>exact h5.elim
 | opn t l=>
  refine(ixO hD rfl ⟨rfl,_,rfl,jS (by decide+kernel) ?_⟩)
  refine(ixO hD rfl ⟨rfl,_,rfl,kI (by decide+kernel) ?_⟩)
  exact(ixO hD rfl (ixO hD rfl ⟨sL2,fun p hp=>kk p _ (qC hp _) qB⟩))
 | lin t m=>
  refine qM fun _ Y=>?_
  obtain⟨v,hd,hi⟩:=hD
  apply Y
  refine(ixO hd rfl ⟨rfl,_,rfl,kI (by decide+kernel) (jI ?_)⟩)
  exact(ixO hd rfl (ixO hd rfl ⟨sL2,fun p hp=>kk p _ (qC hp _) qB⟩))
 | cls t u=>
  refine(ixO hD rfl ⟨rfl,_,rfl,jS (by decide+kernel) ?_⟩)
  refine(ixO hD rfl ⟨rfl,_,rfl,jS (by decide+kernel) ?_⟩)
  refine(ixO hD rfl ⟨rfl,_,rfl,jS (by decide+kernel) ?_⟩)
  exact(ixO hD rfl (ixO hD rfl ⟨sL2,fun p hp=>kk p _ (qC hp _) qB⟩))
 | lft t u=>
  refine(ixO hD rfl ⟨rfl,_,rfl,jS (by decide+kernel) ?_⟩)
  refine(ixO hD rfl ⟨rfl,_,rfl,jS (by decide+kernel) ?_⟩)
  refine(ixO hD rfl ⟨rfl,_,rfl,jS (by decide+kernel) ?_⟩)
  exact(ixO hD rfl (ixO hD rfl ⟨sL2,fun p hp=>kk p _ (qC hp _) qB⟩))
 | lov t m=>
  refine qM fun _ Y=>?_
  obtain⟨v,hd,hi⟩:=hD
  obtain⟨zi,xi,rfl,hzi,_,al⟩:=hi.opn
  apply Y
  refine(ixO hd rfl ⟨rfl,_,rfl,jS (by decide+kernel) ?_⟩)
  refine(ixO hd rfl ⟨rfl,_,rfl,jS (by decide+kernel) ?_⟩)
  refine(ixO hd rfl ⟨rfl,_,rfl,kI (by decide+kernel) ?_⟩)
  refine(ixO hd rfl (ixO hd rfl (ixO hd rfl ⟨_,rfl,zi,_,_,_,rfl,rfl,SqT.of hzi,al,_,_,rfl,rfl,sL2,fun p hp=>kk p _ (qC hp _) ?_⟩)))
  rw [qB]
  show some (HO.tup [.int t,.int (t+m.l)])=some (HO.tup [.int t,.int (t+m.mo)])
  rw [qO1 (hl m rfl).1]
inductive qC4 (vs:List V)(H:Hp)(Q:VK)(_:XK):Prop
| mk (z dz:Addr) (n:Int) (ms:List Im) (d:Dk) (_:vs=[.ref z,.ref dz]) (_:Tr H z ms) (_:(∀ m∈ms,m.wd="mix"→True)) (_:DAt H dz n d) (_:St5 d) (_:(∀ m,d.lay=some m→m.wd≠"mix"∧1≤m.mo)) (_:d.t≤d.hi) (_:∀ H',Same H H'→Q (.bl (xB ms d.t d.hi)) H')
theorem qCs (T:Tx K mg a):FnOk P w K mg base CX0 2 a.A88 a.B88 ["_law_track_here","_law_deed_here"] qC4:=by
 refine T.D88.F.ok jA (fun vs H Q E h=>?_) (fun cdv A outer s H vs Q E hr h=>?_)
 · obtain⟨z,dz,n,ms,d,rfl,_⟩:=h
   rfl
 refine qM fun _ Y=>?_
 obtain⟨z,dz,n,ms,d,rfl,⟨us,hz,his⟩,_,hD,h5,hl,hle,kk⟩:=h
 apply Y
 refine⟨_,(qD (qMu (qK T.D87 (vS T) hr rfl (qA (pv 1) qE)) (qH4 rfl (xV (qz (i:=2) jA.nd rfl (Or.inl rfl)) (xV (qz (i:=3) jA.nd rfl (Or.inl rfl)) qDh))))
  (qD (qX 4 jA.nd qG)
  (qD (xg PassesOwn.never rfl (jW (pv 0)) (qz (i:=5) jA.nd rfl (Or.inl rfl)) (qF (qd (qH jX (qJ (pv 5)) qS (qN _)) (qD (qX 6 jA.nd (qO jM (pv 4) (qO qg (qJ (pv 5)) qG)))
  (qD (qX 7 jA.nd (qO jM (qO qp (pv 4) (qJ (pv 5))) (qO qg (qJ (pv 5)) qG)))
  (qD (qd (qBf (PW.pt (j2 (PW.pt (xH (qH qJ3 (pv 2) (pv 4) (qN _)) (jq (qH qJ3 (pv 4) (pv 3) (qN _))))) (jV (PW.pt (xH (qH xx (pv 6) (pv 3) (qN _)) (xH (qH xx (pv 2) (pv 7) (qN _)) (jq (qH xx (pv 2) (pv 3) (qN _)))))))))) (qF (qL zu)) qP)
  (qF (qd (qBf (PW.pt (xH (qH jX (pv 2) (pv 3) (qN _)) (xH (qH xx (pv 6) (pv 2) (qN _)) (jq (qH xx (pv 2) (pv 7) (qN _))))))) (qF (qL zu)) qP))))) (qF (qX 4 jA.nd (qO qp (pv 4) (jK qBp (pv 5) (kh xP qG) (fun _ _=>rfl))))))))
  (qF (qL zu))))),?_⟩
 try dsimp only [jc,qj]
 refine⟨_,rfl,dz,n,d,rfl,hD,h5,hl,fun p H1 e1 hp=>?_⟩
 generalize d.t=lo at*
 generalize d.hi=hi at*
 refine⟨p,[.int lo,.int hi],rfl,SqT.of hp,rfl,.int lo,[.int hi],rfl,.int hi,[],rfl,rfl,?_⟩
 refine⟨_,rfl,z,rfl,⟨_,SqL.of (e1 _ _ hz)⟩,xI (K:=K) (a:=z) (xs:=us) (fun i σ H'=>H1=H'∧∃ (b:Int) (o1 o2 o3:Option V),σ=[some (.ref z),some (.ref dz),some (.int lo),some (.int hi),some (.int b),o1,o2,o3]∧(ql b (ms.drop i)).any (qMl lo hi)=xB ms lo hi) ⟨rfl,0,none,none,none,rfl,rfl⟩ ?_ ?_ ?_⟩
 · rintro i σ H' hi' ⟨rfl,_⟩
   exact SqL.of (e1 _ _ hz)
 · rintro i x σ H' hx ⟨rfl,b,o1,o2,o3,rfl,hap⟩
   refine qM fun _ Y=>?_
   obtain⟨m,hm,hIx⟩:=his.get hx
   have hI:=hIx.ts (qZ e1)
   obtain⟨zi,xi,rfl,hzi,b0,bl⟩:=hI.opn
   apply Y
   rw [jd hm] at hap
   refine⟨_,rfl,zi,xi,_,_,rfl,rfl,SqT.of hzi,b0,rfl,_,rfl,ju (fun c=>?_) (fun c=>?_)⟩
   · obtain⟨l,rfl⟩:=jD (qUc c)
     refine qM fun _ Y=>?_
     obtain⟨zi',ez,hzi'⟩:=id hI
     cases ez
     apply Y
     rw [ql,List.any_cons] at hap
     refine⟨_,rfl,ixO hzi' at1 ⟨_,_,rfl,rfl,cdB (by decide) (by decide),_,_,rfl,rfl,?_⟩⟩
     refine⟨_,rfl,ixO hzi' at1 ⟨_,_,rfl,rfl,ixO hzi' at1 ⟨_,_,rfl,rfl,cdB (by decide) (by decide),_,_,rfl,rfl,?_⟩⟩⟩
     have et:qMl lo hi (b - l.fdiv 2,b,b+(l - l.fdiv 2))=true↔((b - l.fdiv 2 < hi∧lo < b+(l - l.fdiv 2))∨(lo≤b∧b≤hi)):=by
      unfold qMl
      simp only [Bool.or_eq_true,Bool.and_eq_true,decide_eq_true_eq]
     refine⟨fun bb H'=>H1=H'∧(bb=true↔((lo≤b∧b≤hi)∨(b - l.fdiv 2 < hi∧lo < b+l - l.fdiv 2∧lo < hi))),?_,?_⟩
     · refine⟨_,rfl,_,rfl,_,_,rfl,rfl,_,rfl,ju (fun c1=>⟨_,rfl,_,rfl,_,_,rfl,rfl,_,rfl,ju (fun c2=>⟨rfl,fun _=>.inl ⟨by simpa using c1,by simpa using c2⟩,fun _=>rfl⟩) (fun c2=>?_)⟩) (fun c1=>qm ?_)⟩
       · have n2:¬ b≤hi:=by simpa using c2
         refine⟨_,rfl,_,rfl,_,_,rfl,rfl,_,rfl,ju (fun c3=>⟨_,rfl,_,rfl,_,_,rfl,rfl,_,rfl,ju (fun c4=>⟨_,rfl,_,rfl,_,_,rfl,rfl,_,rfl,rfl,?_⟩) (fun c4=>⟨rfl,?_⟩)⟩) (fun c3=>⟨rfl,?_⟩)⟩
         · have n3:b - l.fdiv 2 < hi:=by simpa using c3
           have n4:lo < b+l - l.fdiv 2:=by simpa using c4
           rw [decide_eq_true_eq];omega
         · have n4:¬ lo < b+l - l.fdiv 2:=by simpa using c4
           exact⟨(fun h=>by cases h),fun h=>by omega⟩
         · have n3:¬ b - l.fdiv 2 < hi:=by simpa using c3
           exact⟨(fun h=>by cases h),fun h=>by omega⟩
       · have n2:¬ lo≤b:=by simpa using c1
         refine⟨_,rfl,_,rfl,_,_,rfl,rfl,_,rfl,ju (fun c3=>⟨_,rfl,_,rfl,_,_,rfl,rfl,_,rfl,ju (fun c4=>⟨_,rfl,_,rfl,_,_,rfl,rfl,_,rfl,rfl,?_⟩) (fun c4=>⟨rfl,?_⟩)⟩) (fun c3=>⟨rfl,?_⟩)⟩
         · have n3:b - l.fdiv 2 < hi:=by simpa using c3
           have n4:lo < b+l - l.fdiv 2:=by simpa using c4
           rw [decide_eq_true_eq];omega
         · have n4:¬ lo < b+l - l.fdiv 2:=by simpa using c4
           exact⟨(fun h=>by cases h),fun h=>by omega⟩
         · have n3:¬ b - l.fdiv 2 < hi:=by simpa using c3
           exact⟨(fun h=>by cases h),fun h=>by omega⟩
     rintro bb H' ⟨rfl,hb⟩
     cases bb with
     | true=>
      have h1:=hb.mp rfl
      have h2:xB ms lo hi=true:=by rw [← hap,et.mpr (by omega)];rfl
      rw [h2] at kk
      exact jI (kk _ e1)
     | false=>
     have hb':¬ ((lo≤b∧b≤hi)∨(b - l.fdiv 2 < hi∧lo < b+l - l.fdiv 2∧lo < hi)):=fun h=>Bool.false_ne_true (hb.mpr h)
     refine qm ⟨fun bb H2=>H1=H2∧(bb=true↔(lo=hi∧b - l.fdiv 2 < lo∧lo < b+l - l.fdiv 2)),?_,?_⟩
     · refine⟨_,rfl,_,rfl,rfl,_,rfl,ju (fun c3=>⟨_,rfl,_,rfl,_,_,rfl,rfl,_,rfl,ju (fun c4=>⟨_,rfl,_,rfl,_,_,rfl,rfl,_,rfl,rfl,?_⟩) (fun c4=>⟨rfl,?_⟩)⟩) (fun c3=>⟨rfl,?_⟩)⟩
       · have n3:lo=hi:=V.int.inj (of_decide_eq_true c3)
         have n4:b - l.fdiv 2 < lo:=by simpa using c4
         rw [decide_eq_true_eq];omega
       · have n4:¬ b - l.fdiv 2 < lo:=by simpa using c4
         exact⟨(fun h=>by cases h),fun h=>by omega⟩
       · have n3:¬ lo=hi:=fun h=>c3 (by rw [h];exact decide_eq_true rfl)
         exact⟨(fun h=>by cases h),fun h=>by omega⟩
     rintro bb H2 ⟨rfl,hb2⟩
     cases bb with
     | true=>
      have h1:=hb2.mp rfl
      have h2:xB ms lo hi=true:=by rw [← hap,et.mpr (by omega)];rfl
      rw [h2] at kk
      exact jI (kk _ e1)
     | false=>
     have hb2':¬ (lo=hi∧b - l.fdiv 2 < lo∧lo < b+l - l.fdiv 2):=fun h=>Bool.false_ne_true (hb2.mpr h)
     refine qm ⟨rfl,b,_,_,_,rfl,?_⟩
     have h2:qMl lo hi (b - l.fdiv 2,b,b+(l - l.fdiv 2))=false:=by
      rw [← Bool.not_eq_true,et]
      omega
     rw [← hap,h2]
     rfl
   · have hw:=qU3 c
     rw [qh hw,qO1 hw] at hap
     exact⟨_,rfl,_,rfl,_,rfl,zi,xi,_,_,rfl,rfl,SqT.of hzi,bl,_,_,rfl,rfl,rfl,b+m.l,_,_,_,rfl,hap⟩
 · rintro σ H' ⟨rfl,b,o1,o2,o3,rfl,hap⟩
   rw [List.drop_of_length_le (by rw [his.len];exact Nat.le_refl _)] at hap
   rw [← hap] at kk
   exact kk _ e1
theorem qOy {H:Hp}{i:Nat}{acc:List V}{y:Addr}(h:IsTLs K H (List.replicate i []) acc)(hy:H y=none):IsTLs K (upd H y (.lst [])) (List.replicate (i+1) []) (acc++[.ref y]):=by
 rw [List.replicate_succ']
 exact(h.same (qC hy _)).app (.one ⟨[],qB,trivial⟩)
def qT9 (X:List (List Te))(lo hi:Int)(P:List (List Te)):List (List Te):=(X++List.replicate lo.toNat []).take lo.toNat++P++X.drop hi.toNat
inductive qKi (K:W.Frag)(vs:List V)(H:Hp)(Q:VK)(_:XK):Prop
| mk (xz dz pz:Addr) (n:Int) (d:Dk) (X Pu:List (List Te)) (_:vs=[.ref xz,.ref dz,.ref pz]) (_:TLL K H xz X) (_:X.length≤200) (_:DAt H dz n d) (_:St5 d) (_:(∀ m,d.lay=some m→m.wd≠"mix"∧1≤m.mo)) (_:0≤d.t) (_:d.t≤300) (_:d.t≤d.hi) (_:TLL K H pz Pu) (_:Pu.length≤100) (_:((∃ t u,d= .cls t u)→Pu=[])) (_:∀ (y:Addr) (H':Hp),Same H H'→TLL K H' y (qT9 X d.t d.hi Pu)→Q (.ref y) H')
theorem qKe (T:Tx K mg a):FnOk P w K mg base CX0 2 a.A89 a.B89 ["_law_told_here","_law_deed_here","_law_put_here"] (qKi K):=by
 refine T.D89.F.ok z9 (fun vs H Q E h=>?_) (fun cdv A outer s H vs Q E hr h=>?_)
 · obtain⟨xz,dz,pz,n,d,X,Pu,rfl,_⟩:=h
   rfl
 refine qM fun _ Y=>?_
 obtain⟨xz,dz,pz,n,d,X,Pu,rfl,hX,hXl,hD,h5,hl,t0,t1,hle,hPu,hPl,hcl,kk⟩:=h
 apply Y
 refine⟨_,(qD (qMu (qK T.D87 (vS T) hr rfl (qA (pv 1) qE)) (qH4 rfl (xV (qz (i:=3) z9.nd rfl (Or.inl rfl)) (xV (qz (i:=4) z9.nd rfl (Or.inl rfl)) qDh))))
  (qD (qX 5 z9.nd (zV vF (qO kf (pv 0) (zd [] [] rfl (jg rfl T.b_range (qA (pv 3) qE)) (fun _ _ _ _=>(qr qE)))) wB (zX (pv 3))))
  (qD (qd (PW.pt (j2 (qH jX (qJ (pv 1)) qS (qN _)) (jV (qH jX (qJ (pv 1)) qS (qN _))))) (qF (qL (qO kf (qO kf (pv 5) (pv 2)) (zV vF (pv 0) (zX (pv 3)) wB)))) qP)
  (qD (qd (qH jX (qJ (pv 1)) qS (qN _)) (qF (qL (qO kf (pv 5) (zV vF (pv 0) (zX (pv 4)) wB)))) qP)
  (qF (qL (qO kf (qO kf (pv 5) (pv 2)) (zV vF (pv 0) (zX (pv 4)) wB)))))))),?_⟩
 try dsimp only [jc,qj]
 refine qM fun _ Y=>?_
 obtain⟨xs,hd,a0,a1,a2⟩:=hD.opn
 apply Y
 refine⟨_,rfl,dz,n,d,rfl,hD,h5,hl,fun p H1 e1 hp=>?_⟩
 generalize hlo:d.t=lo at*
 generalize hhi:d.hi=hi at*
 refine⟨p,[.int lo,.int hi],rfl,SqT.of hp,rfl,.int lo,[.int hi],rfl,.int hi,[],rfl,rfl,?_⟩
 refine qM fun _ Y=>?_
 obtain⟨vX,kX,iX⟩:=hX.same e1
 obtain⟨vP,kP,iP⟩:=hPu.same e1
 apply Y
 have lX:=iX.len
 have lP:=iP.len
 refine⟨_,rfl,_,rfl,lo,rfl,by omega,by omega,zC (n:=lo.toNat) (fun i acc H2=>IsTLs K H2 (List.replicate i []) acc∧Same H1 H2) ⟨trivial,Same.refl _⟩ ?_ ?_ ?_⟩
 · rintro i acc H2 hi' ⟨h,_⟩
   exact qY (by rw [h.len,List.length_replicate];omega)
 · rintro i acc H2 hi' ⟨h,e⟩
   refine⟨sL0,fun y hy=>Nxt.mk hi' ⟨qOy h hy,e.trans (qC hy _)⟩⟩
 rintro acc H2 ⟨hE,e2⟩ y1 hy1
 have w2:=qC hy1 (.lst acc)
 have k1:upd H2 y1 (.lst acc) y1=some (.lst acc):=qB
 have hE':=hE.same w2
 have lE:=hE.len
 rw [List.length_replicate] at lE
 generalize upd H2 y1 (.lst acc)=H3 at w2 k1 hE'
 have e13:=e2.trans w2
 refine⟨xz,y1,_,_,rfl,rfl,e13 _ _ kX,k1,(by have:=qY (n:=vX.length+acc.length) (by omega);omega),fun y2 hy2=>?_⟩
 have w3:=qC hy2 (.lst (vX++acc))
 have k2:upd H3 y2 (.lst (vX++acc)) y2=some (.lst (vX++acc)):=qB
 have i2:IsTLs K (upd H3 y2 (.lst (vX++acc))) (X++List.replicate lo.toNat []) (vX++acc):=((iX.same e13).app hE').same w3
 generalize upd H3 y2 (.lst (vX++acc))=H4 at w3 k2 i2
 refine⟨_,rfl,lo,rfl,y2,_,rfl,SqL.of k2,fun y3 hy3=>?_⟩
 obtain⟨u,hu⟩:∃ u:Nat,lo=(u:Int):=⟨lo.toNat,by omega⟩
 have ec:qIz (vX++acc) none (some lo)=(vX++acc).take lo.toNat:=by rw [hu,qK9,Int.toNat_natCast]
 rw [ec]
 have w4:=qC hy3 (.lst ((vX++acc).take lo.toNat))
 have k3:upd H4 y3 (.lst ((vX++acc).take lo.toNat)) y3=some (.lst ((vX++acc).take lo.toNat)):=qB
 have i3:=(i2.take (i:=lo.toNat)).same w4
 generalize upd H4 y3 (.lst ((vX++acc).take lo.toNat))=H5 at w4 k3 i3
 have e5:Same H1 H5:=e13.trans (w3.trans w4)
 have l3:((vX++acc).take lo.toNat).length≤300:=by rw [List.length_take];omega
 generalize (vX++acc).take lo.toNat=va at*
 have fin3:∀ (H6:Hp) (y4:Addr) (vs4:List V),Same H5 H6→H6 y4=some (.lst vs4)→IsTLs K H6 ((X++List.replicate lo.toNat []).take lo.toNat++Pu) vs4→∀ (y5 y6:Addr),H6 y5=none→upd H6 y5 (.lst (vX.drop hi.toNat)) y6=none→Q (.ref y6) (upd (upd H6 y5 (.lst (vX.drop hi.toNat))) y6 (.lst (vs4++vX.drop hi.toNat))):=fun H6 y4 vs4 e6 k4 i4 y5 y6 h5' h6'=>by
  have w5:=qC h5' (.lst (vX.drop hi.toNat))
  have w6:=qC h6' (.lst (vs4++vX.drop hi.toNat))
  have ew:=w5.trans w6
  refine kk y6 _ ((e1.trans (e5.trans e6)).trans ew) ⟨_,qB,?_⟩
  exact(i4.same ew).app (((iX.same (e5.trans e6)).drop).same ew)
 have cd:qIz vX (some hi) none=vX.drop hi.toNat:=by
  obtain⟨u',hu'⟩:∃ u:Nat,hi=(u:Int):=⟨hi.toNat,by omega⟩
  rw [hu',qLk,Int.toNat_natCast]
 have sz:(va++vP).length≤500:=by rw [List.length_append];omega
 have szd:(vX.drop hi.toNat).length≤300:=by rw [List.length_drop];omega
 have sml:∀ j:Nat,j≤900→j≤sizeLine:=fun j h=>by have:=qY (n:=j) (by omega);omega
 have cdl:lo=hi→qIz vX (some lo) none=vX.drop hi.toNat:=fun e=>by rw [e];exact cd
 have hd5:=(e1.trans e5) _ _ hd
 cases d with
 | cut t=>exact h5.elim
 | hel t=>exact h5.elim
 | opn t l=>
  replace a0:atI xs 0=some (.str "open"):=a0
  have elh:lo=hi:=hlo.symm.trans hhi
  have cdl:=cdl elh
  refine(ixO hd5 a0 ⟨rfl,_,rfl,jS (by decide+kernel) ?_⟩)
  refine(ixO hd5 a0 ⟨rfl,_,rfl,kI (by decide+kernel) ?_⟩)
  refine⟨_,rfl,_,rfl,y3,pz,_,_,rfl,rfl,k3,e5 _ _ kP,sml _ (by rw [List.length_append] at sz;omega),fun q1 h1=>⟨_,rfl,_,rfl,lo,rfl,xz,_,rfl,SqL.of ((e5.trans (qC h1 _)) _ _ kX),fun q2 h2=>?_⟩⟩
  rw [cdl] at*
  refine⟨q1,q2,_,_,rfl,rfl,(qC h2 _) _ _ qB,qB,sml _ (by omega),fun q3 h3=>?_⟩
  exact fin3 (upd H5 q1 (.lst (va++vP))) q1 (va++vP) (qC h1 _) qB ((i3.app (iP.same e5)).same (qC h1 _)) q2 q3 h2 h3
 | lin t m=>
  replace a0:atI xs 0=some (.str "lay_in"):=a0
  have elh:lo=hi:=hlo.symm.trans hhi
  have cdl:=cdl elh
  refine(ixO hd5 a0 ⟨rfl,_,rfl,kI (by decide+kernel) (jI ?_)⟩)
  refine⟨_,rfl,_,rfl,y3,pz,_,_,rfl,rfl,k3,e5 _ _ kP,sml _ (by rw [List.length_append] at sz;omega),fun q1 h1=>⟨_,rfl,_,rfl,lo,rfl,xz,_,rfl,SqL.of ((e5.trans (qC h1 _)) _ _ kX),fun q2 h2=>?_⟩⟩
  rw [cdl] at*
  refine⟨q1,q2,_,_,rfl,rfl,(qC h2 _) _ _ qB,qB,sml _ (by omega),fun q3 h3=>?_⟩
  exact fin3 (upd H5 q1 (.lst (va++vP))) q1 (va++vP) (qC h1 _) qB ((i3.app (iP.same e5)).same (qC h1 _)) q2 q3 h2 h3
 | cls t u=>
  replace a0:atI xs 0=some (.str "close"):=a0
  have ep:Pu=[]:=hcl ⟨t,u,rfl⟩
  subst ep
  refine(ixO hd5 a0 ⟨rfl,_,rfl,jS (by decide+kernel) ?_⟩)
  refine(ixO hd5 a0 ⟨rfl,_,rfl,jS (by decide+kernel) ?_⟩)
  refine(ixO hd5 a0 ⟨rfl,_,rfl,kI (by decide+kernel) ?_⟩)
  refine⟨_,rfl,_,rfl,_,rfl,hi,rfl,xz,_,rfl,SqL.of (e5 _ _ kX),fun q2 h2=>?_⟩
  rw [cd] at*
  refine⟨y3,q2,_,_,rfl,rfl,(qC h2 _) _ _ k3,qB,sml _ (by omega),fun q3 h3=>?_⟩
  exact fin3 H5 y3 va (Same.refl _) k3 (by rw [List.append_nil];exact i3) q2 q3 h2 h3
 | lft t u=>
  replace a0:atI xs 0=some (.str "lift"):=a0
  refine(ixO hd5 a0 ⟨rfl,_,rfl,jS (by decide+kernel) ?_⟩)
  refine(ixO hd5 a0 ⟨rfl,_,rfl,jS (by decide+kernel) ?_⟩)
  refine(ixO hd5 a0 ⟨rfl,_,rfl,jS (by decide+kernel) ?_⟩)
  refine⟨_,rfl,_,rfl,y3,pz,_,_,rfl,rfl,k3,e5 _ _ kP,sml _ (by rw [List.length_append] at sz;omega),fun q1 h1=>⟨_,rfl,_,rfl,hi,rfl,xz,_,rfl,SqL.of ((e5.trans (qC h1 _)) _ _ kX),fun q2 h2=>?_⟩⟩
  rw [cd] at*
  refine⟨q1,q2,_,_,rfl,rfl,(qC h2 _) _ _ qB,qB,sml _ (by omega),fun q3 h3=>?_⟩
  exact fin3 (upd H5 q1 (.lst (va++vP))) q1 (va++vP) (qC h1 _) qB ((i3.app (iP.same e5)).same (qC h1 _)) q2 q3 h2 h3
 | lov t m=>
  replace a0:atI xs 0=some (.str "lay_over"):=a0
  refine(ixO hd5 a0 ⟨rfl,_,rfl,jS (by decide+kernel) ?_⟩)
  refine(ixO hd5 a0 ⟨rfl,_,rfl,jS (by decide+kernel) ?_⟩)
  refine(ixO hd5 a0 ⟨rfl,_,rfl,jS (by decide+kernel) ?_⟩)
  refine⟨_,rfl,_,rfl,y3,pz,_,_,rfl,rfl,k3,e5 _ _ kP,sml _ (by rw [List.length_append] at sz;omega),fun q1 h1=>⟨_,rfl,_,rfl,hi,rfl,xz,_,rfl,SqL.of ((e5.trans (qC h1 _)) _ _ kX),fun q2 h2=>?_⟩⟩
  rw [cd] at*
  refine⟨q1,q2,_,_,rfl,rfl,(qC h2 _) _ _ qB,qB,sml _ (by omega),fun q3 h3=>?_⟩
  exact fin3 (upd H5 q1 (.lst (va++vP))) q1 (va++vP) (qC h1 _) qB ((i3.app (iP.same e5)).same (qC h1 _)) q2 q3 h2 h3
def qIy (f:Str→Int→List Te)(d:Dk):List (List Te):=xR f d.laid (qV d.laid).toNat
theorem qFf (f:Str→Int→List Te)(l:Int):∀ n:Nat,(n:Int)≤l→xR f [.gap l] n=List.replicate n []
 | 0,_=>rfl
 | n+1,h=>by
  rw [vn,qFf f l n (by omega),List.replicate_succ']
  congr 2
  unfold zI
  have e1:zp none 0 [Im.gap l] (n:Int)=none:=by
   have hm:(Im.gap l).wd≠"mix":=by show ("gap":Str)≠"mix";decide+kernel
   rw [qk hm]
   simp [zp]
  rw [e1]
  show zO f 0 [.gap l] (n:Int)=[]
  rw [zO]
  split
  · rfl
  · rfl
inductive qI7 (K:W.Frag)(vs:List V)(H:Hp)(Q:VK)(_:XK):Prop
| mk (dz rz:Addr) (n:Int) (d:Dk) (rm:Rms) (_:vs=[.ref dz,.ref rz]) (_:DAt H dz n d) (_:St5 d) (_:RoomAt H rz rm) (_:(∀ m,d.lay=some m→m.wd≠"mix"∧1≤m.mo∧m.mo≤90∧LvT rm 1 [m])) (_:(∀ t l,d= .opn t l→0≤l∧l≤90)) (_:(∀ t u,d= .lft t u→t≤u∧u - t≤90)) (_:∀ (y:Addr) (H':Hp),Same H H'→TLL K H' y (qIy (qx rm 1) d)→Q (.ref y) H')
theorem qJx (T:Tx K mg a):FnOk P w K mg base CX0 11 a.A90 a.B90 ["_law_deed_here","_law_room"] (qI7 K):=by
 refine T.D90.F.ok qJ0 (fun vs H Q E h=>?_) (fun cdv A outer s H vs Q E hr h=>?_)
 · obtain⟨dz,rz,n,d,rm,rfl,_⟩:=h
   rfl
 refine qM fun _ Y=>?_
 obtain⟨dz,rz,n,d,rm,rfl,hD,h5,hR,hl,ho,hlf,kk⟩:=h
 apply Y
 refine⟨_,(qD (qd (qH jX (qJ (pv 0)) qS (qN _)) (qF (qL (zd [] [] rfl (jg rfl T.b_range (qA (qJ (pv 0)) qE)) (fun _ _ _ _=>(qr qE))))) qP)
  (qD (qd (qH jX (qJ (pv 0)) qS (qN _)) (qF (qL (zd [] [] rfl (jg rfl T.b_range (qA (qO jM (qJ (pv 0)) (qJ (pv 0))) qE)) (fun _ _ _ _=>(qr qE))))) qP)
  (qD (qd (qH jX (qJ (pv 0)) qS (qN _)) (qF (qL (qr qE))) qP)
  (qF (qL (zd ["_law_deed_here","_law_room"] [0,1] rfl (jg rfl T.b_range (qA (jK qBp (qJ (pv 0)) (kh xP qG) (fun _ _=>rfl)) qE)) (fun _ _ _ _=>(qK T.D74 (qEy T) hr rfl (qA (qr (qA (jK (xr (K:=K) rfl) (pv 1) qG (fun _ _=>rfl)) qE)) (qA (pv 0) (qA (pv 2) qE))))))))))),?_⟩
 try dsimp only [jc,qj]
 have emp:∀ {Q':VK} {js:List Nat} {σ:L2.St} {te:TE} (m:Int),0≤m→m≤90→(∀ σ H Q,(∀ y,H y=none→Q (.ref y) (upd H y (.lst [])))→te σ H Q)→(∀ (y:Addr) (H':Hp),Same H H'→TLL K H' y (List.replicate m.toNat [])→Q' (.ref y) H')→CompEnd js te σ Q' (Itr 0 m.toNat) H:=fun {Q' js σ te} m m0 m1 hte k=>by
  refine zC (n:=m.toNat) (fun i acc H2=>IsTLs K H2 (List.replicate i []) acc∧Same H H2) ⟨trivial,Same.refl _⟩ ?_ ?_ ?_
  · rintro i acc H2 hi' ⟨h,_⟩
    exact qY (by rw [h.len,List.length_replicate];omega)
  · rintro i acc H2 hi' ⟨h,e⟩
    exact hte _ _ _ fun y hy=>Nxt.mk hi' ⟨qOy h hy,e.trans (qC hy _)⟩
  · rintro acc H2 ⟨h,e⟩ y hy
    have w:=qC hy (.lst acc)
    exact k y _ (e.trans w) ⟨acc,qB,h.same w⟩
 cases d with
 | cut t=>exact h5.elim
 | hel t=>exact h5.elim
 | opn t l=>
  obtain⟨l0,l1⟩:=ho t l rfl
  refine(ixO hD rfl ⟨rfl,_,rfl,kI (by decide+kernel) ?_⟩)
  refine(ixO hD rfl ⟨l,rfl,by omega,by omega,emp l l0 l1 (fun σ H Q h=>⟨sL0,h⟩) fun y H' e h=>kk y H' e ?_⟩)
  have e1:qIy (qx rm 1) (.opn t l)=List.replicate l.toNat []:=by
   unfold qIy
   show xR _ [.gap l] (qV [.gap l]).toNat=_
   rw [show qV [Im.gap l]=l by rw [qR,qf];show l+0=l;omega,qFf _ _ _ (by omega)]
  rw [e1];exact h
 | cls t u=>
  refine(ixO hD rfl ⟨rfl,_,rfl,jS (by decide+kernel) ?_⟩)
  refine(ixO hD rfl ⟨rfl,_,rfl,jS (by decide+kernel) ?_⟩)
  refine(ixO hD rfl ⟨rfl,_,rfl,kI (by decide+kernel) ?_⟩)
  exact⟨sL0,fun y hy=>kk y _ (qC hy _) ⟨[],qB,trivial⟩⟩
 | lft t u=>
  obtain⟨l0,l1⟩:=hlf t u rfl
  refine(ixO hD rfl ⟨rfl,_,rfl,jS (by decide+kernel) ?_⟩)
  refine(ixO hD rfl ⟨rfl,_,rfl,kI (by decide+kernel) ?_⟩)
  refine(ixO hD rfl (ixO hD rfl ⟨_,_,rfl,rfl,u - t,rfl,by omega,by omega,emp (u - t) (by omega) (by omega) (fun σ H Q h=>⟨sL0,h⟩) fun y H' e h=>kk y H' e ?_⟩))
  have e1:qIy (qx rm 1) (.lft t u)=List.replicate (u - t).toNat []:=by
   unfold qIy
   show xR _ [.gap (u - t)] (qV [.gap (u - t)]).toNat=_
   rw [show qV [Im.gap (u - t)]=u - t by rw [qR,qf];show u - t+0=u - t;omega,qFf _ _ _ (by omega)]
  rw [e1];exact h
 | lin t m=>
  refine qM fun _ Y=>?_
  obtain⟨v,hd,hi⟩:=hD
  obtain⟨hm,m1,m2,hL⟩:=hl m rfl
  obtain⟨zi,xi,rfl,hzi,_,al⟩:=hi.opn
  apply Y
  have a0:atI [V.str "lay_in",.int n,.int t,.ref zi] 0=some (.str "lay_in"):=rfl
  have a3:atI [V.str "lay_in",.int n,.int t,.ref zi] 3=some (.ref zi):=rfl
  refine(ixO hd a0 ⟨rfl,_,rfl,jS (by decide+kernel) ?_⟩)
  refine(ixO hd a0 ⟨rfl,_,rfl,jS (by decide+kernel) ?_⟩)
  refine(ixO hd a0 ⟨rfl,_,rfl,jS (by decide+kernel) ?_⟩)
  rw [← qO1 hm] at al
  have e1:qIy (qx rm 1) (.lin t m)=xR (qx rm 1) [m] m.mo.toNat:=by
   unfold qIy
   show xR _ [m] (qV [m]).toNat=_
   rw [show qV [m]=m.mo by rw [qR,qf];omega]
  rw [e1] at kk
  refine(ixO hd a3 ⟨_,rfl,zi,_,_,_,rfl,rfl,SqT.of hzi,al,m.mo,rfl,by omega,by omega,zC (n:=m.mo.toNat) (fun i acc H2=>IsTLs K H2 (xR (qx rm 1) [m] i) acc∧Same H H2) ⟨trivial,Same.refl _⟩ ?_ ?_ ?_⟩)
  · rintro i acc H2 hi' ⟨h,_⟩
    exact qY (by rw [h.len,jy];omega)
  · rintro i acc H2 hi' ⟨h,e⟩
    refine(ixO (e _ _ hd) a3 ⟨sL1,fun y hy=>?_⟩)
    have w:=qC hy (.lst [.ref zi])
    refine⟨_,rfl,_,rfl,y,rz,[m],_,rm,rfl,⟨_,qB,.one (hi.ts (qZ (e.trans w)))⟩,hL,fun _=>hR.same (e.trans w),by omega,qI5 (by omega),fun y' H3 e3 hy' tY=>Nxt.mk hi' ⟨?_,(e.trans w).trans e3⟩⟩
    rw [qNa,Int.zero_add] at tY
    rw [vn]
    exact(h.same (w.trans e3)).app (.one tY)
  · rintro acc H2 ⟨h,e⟩ y hy
    have w:=qC hy (.lst acc)
    exact kk y _ (e.trans w) ⟨acc,qB,h.same w⟩
 | lov t m=>
  refine qM fun _ Y=>?_
  obtain⟨v,hd,hi⟩:=hD
  obtain⟨hm,m1,m2,hL⟩:=hl m rfl
  obtain⟨zi,xi,rfl,hzi,_,al⟩:=hi.opn
  apply Y
  have a0:atI [V.str "lay_over",.int n,.int t,.ref zi] 0=some (.str "lay_over"):=rfl
  have a3:atI [V.str "lay_over",.int n,.int t,.ref zi] 3=some (.ref zi):=rfl
  refine(ixO hd a0 ⟨rfl,_,rfl,jS (by decide+kernel) ?_⟩)
  refine(ixO hd a0 ⟨rfl,_,rfl,jS (by decide+kernel) ?_⟩)
  refine(ixO hd a0 ⟨rfl,_,rfl,jS (by decide+kernel) ?_⟩)
  rw [← qO1 hm] at al
  have e1:qIy (qx rm 1) (.lov t m)=xR (qx rm 1) [m] m.mo.toNat:=by
   unfold qIy
   show xR _ [m] (qV [m]).toNat=_
   rw [show qV [m]=m.mo by rw [qR,qf];omega]
  rw [e1] at kk
  refine(ixO hd a3 ⟨_,rfl,zi,_,_,_,rfl,rfl,SqT.of hzi,al,m.mo,rfl,by omega,by omega,zC (n:=m.mo.toNat) (fun i acc H2=>IsTLs K H2 (xR (qx rm 1) [m] i) acc∧Same H H2) ⟨trivial,Same.refl _⟩ ?_ ?_ ?_⟩)
  · rintro i acc H2 hi' ⟨h,_⟩
    exact qY (by rw [h.len,jy];omega)
  · rintro i acc H2 hi' ⟨h,e⟩
    refine(ixO (e _ _ hd) a3 ⟨sL1,fun y hy=>?_⟩)
    have w:=qC hy (.lst [.ref zi])
    refine⟨_,rfl,_,rfl,y,rz,[m],_,rm,rfl,⟨_,qB,.one (hi.ts (qZ (e.trans w)))⟩,hL,fun _=>hR.same (e.trans w),by omega,qI5 (by omega),fun y' H3 e3 hy' tY=>Nxt.mk hi' ⟨?_,(e.trans w).trans e3⟩⟩
    rw [qNa,Int.zero_add] at tY
    rw [vn]
    exact(h.same (w.trans e3)).app (.one tY)
  · rintro acc H2 ⟨h,e⟩ y hy
    have w:=qC hy (.lst acc)
    exact kk y _ (e.trans w) ⟨acc,qB,h.same w⟩
theorem qKh (X:List (List Te)):j7 (X++[[]])=j7 X:=qAg fun k=>by
 rw [List.getD_eq_getElem?_getD,List.getD_eq_getElem?_getD]
 by_cases h:k < X.length
 · rw [List.getElem?_append_left h]
 · rw [List.getElem?_append_right (by omega),List.getElem?_eq_none (l:=X) (by omega)]
   cases k - X.length with
   | zero=>rfl
   | succ j=>rfl
theorem qDn:∀ (X:List (List Te)) (x:List Te),x≠[]→j7 (X++[x])=X++[x]
 | [],x,h=>by
  rw [List.nil_append,j7,if_neg (fun c=>h c.2)]
  rfl
 | y::X,x,h=>by
  rw [List.cons_append,j7,qDn X x h,if_neg (fun c=>by simp at c)]
inductive wT (K:W.Frag)(vs:List V)(H:Hp)(Q:VK)(_:XK):Prop
| mk (z:Addr) (X:List (List Te)) (_:vs=[.ref z]) (_:TLL K H z X) (_:X.length≤900) (_:∀ (y:Addr) (H':Hp),Same H H'→TLL K H' y (j7 X)→Q (.ref y) H')
theorem zH (T:Tx K mg a):FnOk P w K mg base CX0 1 a.A92 a.B92 ["_law_told_here"] (wT K):=by
 refine T.D92.F.ok zG (fun vs H Q E h=>?_) (fun cdv A outer s H vs Q E hr h=>?_)
 · obtain⟨z,X,rfl,_⟩:=h
   rfl
 refine qM fun _ Y=>?_
 obtain⟨z,X,rfl,hX,hl,kk⟩:=h
 apply Y
 have hu:=hr.units
 refine⟨_,(qD (qF7 PassesOwn.never (PW.pt (xH (qH (qHt hu) (pv 0) (qr qE) (qN _)) (jq (qH (qKm hu) (jK q9 (pv 0) (kh xP qG) (fun _ _=>rfl)) (qr qE) (qN _))))) (qF (qX 0 zG.nd (zV vF (pv 0) wB (zX (kh xP qG))))))
  (qF (qL (pv 0)))),?_⟩
 try dsimp only [jc,qj]
 refine⟨fun m σ H'=>∃ (z':Addr) (Y:List (List Te)),σ=[some (.ref z')]∧TLL K H' z' Y∧Y.length=m∧m≤900∧j7 Y=j7 X∧Same H H',⟨X.length,z,X,rfl,hX,rfl,hl,rfl,Same.refl _⟩,?_⟩
 rintro m σ H' ⟨z',Y,rfl,hY,hm,hm9,hd,e⟩
 refine⟨_,rfl,sL0,fun en hen=>qU7 (neg:=true) (hY.same (qC hen _)) qB ⟨_,rfl,?_⟩⟩
 have w1:=qC hen (.lst [])
 generalize upd H' en (.lst [])=H1 at w1 ⊢
 rcases List.eq_nil_or_concat Y with hn | ⟨Y',y,hn⟩
 · subst hn
   refine qm (qm ⟨_,rfl,kk z' _ (e.trans w1) ?_⟩)
   rw [← hd]
   exact hY.same w1
 rw [List.concat_eq_append] at hn
 subst hn
 have he:(Y'++[y]).isEmpty=false:=by cases Y' <;> rfl
 rw [he]
 refine qM fun _ Y=>?_
 obtain⟨vs,kv,iv⟩:=hY.same w1
 have lv:=iv.len
 rw [List.length_append,List.length_singleton] at lv
 obtain⟨v,hv⟩:∃ v,vs[vs.length - 1]? =some v:=⟨_,List.getElem?_eq_getElem (by omega)⟩
 obtain⟨ts,yy,hts,rfl,hTL⟩:=iv.get hv
 have ety:ts=y:=by
  rw [lv,Nat.add_sub_cancel,List.getElem?_append_right (by omega),Nat.sub_self] at hts
  exact(Option.some.inj hts).symm
 subst ety
 apply Y
 refine jI ⟨_,rfl,1,rfl,z',_,_,_,rfl,rfl,SqL.of kv,qE7 hv,sL0,fun en2 hen2=>qUo (neg:=false) (hTL.same (qC hen2 _)) qB ⟨_,rfl,?_⟩⟩
 have w2:=qC hen2 (.lst [])
 generalize upd H1 en2 (.lst [])=H2 at w2 ⊢
 by_cases hy:ts=[]
 · subst hy
   refine jI ⟨fun σ H3=>∃ z3,σ=[some (.ref z3)]∧TLL K H3 z3 Y'∧Same H H3,?_,?_⟩
   · rintro σ H3 ⟨z3,rfl,h3,e3⟩
     rw [List.length_append,List.length_singleton] at hm
     exact⟨Y'.length,by omega,z3,Y',rfl,h3,rfl,by omega,by rw [← hd,qKh],e3⟩
   · refine⟨_,rfl,1,rfl,_,rfl,z',_,rfl,SqL.of (w2 _ _ kv),fun y3 hy3=>?_⟩
     have ec:qIz vs none (some (-1))=vs.take Y'.length:=by
      unfold qIz
      rw [HT.sIx_none,List.drop_zero,Nat.sub_zero]
      show List.take (if (-1:Int) < 0 then ((-1:Int)+(vs.length:Int)).toNat else min (-1:Int).toNat vs.length) vs=_
      rw [if_pos (by decide),lv]
      congr 1
      omega
     rw [ec]
     refine⟨y3,rfl,⟨_,qB,?_⟩,(e.trans (w1.trans w2)).trans (qC hy3 _)⟩
     have:=(iv.take (i:=Y'.length)).same (w2.trans (qC hy3 (.lst (vs.take Y'.length))))
     rwa [List.take_left] at this
 · have hye:ts.isEmpty=false:=by
    cases ts with
    | nil=>exact absurd rfl hy
    | cons=>rfl
   rw [hye]
   refine qm ⟨_,rfl,kk z' _ (e.trans (w1.trans w2)) ?_⟩
   rw [← hd,qDn Y' ts hy]
   exact(hY.same w1).same w2
def qQ3 (last:Int):Dk→Int
 | .opn t l=>last+l*(if t < last then 1 else 0)
 | .lin t m=>xU last t+m.mo
 | .lov t m=>xU last (t+m.mo)
 | _=>0
def Lg (d:Dk):Prop:=(∃ t l,d= .opn t l)∨(∃ t m,d= .lin t m)∨∃ t m,d= .lov t m
inductive qH0 (vs:List V)(H:Hp)(Q:VK)(_:XK):Prop
| mk (dz:Addr) (n last:Int) (d:Dk) (_:vs=[.ref dz,.int last]) (_:DAt H dz n d) (_:Lg d) (_:(∀ m,d.lay=some m→m.wd≠"mix"∧1≤m.mo)) (_:Q (.int (qQ3 last d)) H)
theorem qHb (T:Tx K mg a):FnOk P w K mg base CX0 1 a.A91 a.B91 ["_law_deed_here","_law_last"] qH0:=by
 refine T.D91.F.ok qIl (fun vs H Q E h=>?_) (fun cdv A outer s H vs Q E hr h=>?_)
 · obtain⟨dz,n,last,d,rfl,_⟩:=h
   rfl
 refine qM fun _ Y=>?_
 obtain⟨dz,n,last,d,rfl,hD,hg,hl,kk⟩:=h
 apply Y
 refine⟨_,(qD (qd (qH jX (qJ (pv 0)) qS (qN _)) (qF (qL (qO qp (pv 1) (qO jC (qJ (pv 0)) (kn qMp rfl T.b_int rfl (qA (xD xx (qJ (pv 0)) (pv 1) (qN _)) qE)))))) qP)
  (qD (qd (qH jX (qJ (pv 0)) qS (qN _)) (qF (qL (qO qp (qc (zr rfl) rfl T.b_max rfl (qA (pv 1) (qA (qJ (pv 0)) qE))) (jK qBp (qJ (pv 0)) (kh xP qG) (fun _ _=>rfl))))) qP)
  (qF (qL (qc (zr rfl) rfl T.b_max rfl (qA (pv 1) (qA (qO qp (qJ (pv 0)) (jK qBp (qJ (pv 0)) (kh xP qG) (fun _ _=>rfl))) qE))))))),?_⟩
 try dsimp only [jc,qj]
 rcases hg with ⟨t,l,rfl⟩ | ⟨t,m,rfl⟩ | ⟨t,m,rfl⟩
 · refine(ixO hD rfl ⟨rfl,_,rfl,kI (by decide+kernel) ?_⟩)
   refine⟨_,rfl,ixO hD rfl (ixO hD rfl ⟨_,rfl,_,_,rfl,rfl,.inr ⟨_,rfl,_,_,rfl,rfl,cmR (by split <;> decide) (by split <;> decide),_,_,rfl,rfl,?_⟩⟩)⟩
   have e:qQ3 last (.opn t l)=last+l*(if decide (t < last)=true then 1 else 0):=by
    show last+l*(if t < last then 1 else 0)=_
    by_cases h:t < last
    · rw [if_pos h,if_pos (decide_eq_true h)]
    · rw [if_neg h,if_neg (by simpa using h)]
   rw [e] at kk
   exact kk
 · obtain⟨v,hd,hi⟩:=hD
   refine qM fun _ Y=>?_
   obtain⟨zi,xi,rfl,hzi,_,al⟩:=hi.opn
   apply Y
   rw [← qO1 (hl m rfl).1] at al
   refine(ixO hd rfl ⟨rfl,_,rfl,jS (by decide+kernel) ?_⟩)
   refine(ixO hd rfl ⟨rfl,_,rfl,kI (by decide+kernel) ?_⟩)
   exact⟨_,rfl,ixO hd rfl ⟨_,_,rfl,ixO hd rfl ⟨1,rfl,zi,_,_,_,rfl,rfl,SqT.of hzi,al,_,_,rfl,rfl,kk⟩⟩⟩
 · obtain⟨v,hd,hi⟩:=hD
   refine qM fun _ Y=>?_
   obtain⟨zi,xi,rfl,hzi,_,al⟩:=hi.opn
   apply Y
   rw [← qO1 (hl m rfl).1] at al
   refine(ixO hd rfl ⟨rfl,_,rfl,jS (by decide+kernel) ?_⟩)
   refine(ixO hd rfl ⟨rfl,_,rfl,jS (by decide+kernel) ?_⟩)
   exact⟨_,rfl,ixO hd rfl (ixO hd rfl ⟨1,rfl,zi,_,_,_,rfl,rfl,SqT.of hzi,al,_,_,rfl,rfl,_,_,rfl,kk⟩)⟩
theorem qO9:∀ (zs:List Im),(∀ z∈zs,z.mo≤10)→(zs.map Im.mo).sum≤10*(zs.length:Int):=fun zs=>by
 induction zs with
 | nil=>intro _;simp
 | cons z zs ih=>intro h;have:=ih fun y hy=>h y (by simp [hy]);have:=h z (by simp);rw [List.map_cons,List.sum_cons,List.length_cons];omega
def rmL (m:Im):Rms:=fun nm=>if nm="low" then some [[m]] else none
theorem MO.ok {ms:List Im}(h:MO none ms):qPt ms:=by
 intro i l hi
 have hlt:=(glt hi)
 have e:ms=ms.take i++ .mix l::ms.drop (i+1):=by rw [← jd hi,List.take_append_drop]
 rw [e] at h
 obtain⟨⟨h1,h2⟩,_⟩:=qIa h
 have h1':1≤i∧qO8 ms[i - 1]?:=by
  cases i with
  | zero=>obtain⟨_,_,_,_,_,_,e⟩:=h1;cases e
  | succ i=>
   have e:(ms.take (i+1)).getLast?=ms[i]?:=by
    rw [List.getLast?_eq_getElem?,List.length_take,Nat.min_eq_left (by omega)]
    exact List.getElem?_take_of_lt (by omega)
   rw [e,Option.or_none] at h1
   exact⟨by omega,h1⟩
 rw [List.head?_drop] at h2
 exact⟨h1'.1,h1'.2,h2⟩
def GI (m:Im):Prop:=m.g∧∀ nm b l,m= .nest nm b l→nm="low"
theorem GI.gap {w:Int}(h:0 < w):GI (.gap w):=⟨by show 1≤w;omega,fun _ _ _ e=>by cases e⟩
theorem qSo {i:Int}(h:i.natAbs < 2 ^ 110):i.natAbs < 2 ^ 400:=Nat.lt_of_lt_of_le h (Nat.pow_le_pow_right (by decide) (by decide))
theorem qWu {p q r s k:Int}(g1:qOq 110 p q)(g2:qOq 110 r s)(hk:k.natAbs≤1000):(plP p q r s k).natAbs < 2 ^ 400∧(plQ p q r s k).natAbs < 2 ^ 400:=by
 obtain⟨q0,_,bp,bq⟩:=g1
 obtain⟨s0,_,br,bs⟩:=g2
 have h1:=qOw (p:=p) (r:=r) (k:=k) q0 s0
 have h2:=qNy (p:=p) (r:=r) (k:=k) q0 s0
 have m1:(p*s).natAbs≤2 ^ 110*2 ^ 110:=by rw [Int.natAbs_mul];exact Nat.mul_le_mul (Nat.le_of_lt bp) (Nat.le_of_lt bs)
 have m2:(k*r*q).natAbs≤1000*2 ^ 110*2 ^ 110:=by rw [Int.natAbs_mul,Int.natAbs_mul];exact Nat.mul_le_mul (Nat.mul_le_mul hk (Nat.le_of_lt br)) (Nat.le_of_lt bq)
 have m3:(q*s).natAbs≤2 ^ 110*2 ^ 110:=by rw [Int.natAbs_mul];exact Nat.mul_le_mul (Nat.le_of_lt bq) (Nat.le_of_lt bs)
 have t:=Int.natAbs_add_le (p*s) (k*r*q)
 have e1:2 ^ 110*2 ^ 110+1000*2 ^ 110*2 ^ 110 < 2 ^ 400:=by decide
 have e2:2 ^ 110*2 ^ 110 < 2 ^ 400:=by decide
 exact⟨Nat.lt_of_le_of_lt (Nat.le_trans h1 (Nat.le_trans t (Nat.add_le_add m1 m2))) e1,Nat.lt_of_le_of_lt (Nat.le_trans h2 m3) e2⟩
theorem qV2 {l:Int}(h:l≤1000000):l < 2 ^ 400:=by
 have e:(1000000:Int) < 2 ^ 400:=by decide
 generalize (2:Int) ^ 400=B at e ⊢
 omega
theorem CF.gi {A:Int}{m:Im}(h:CF A m)(hA:60≤A∧A < 360):GI m∧∀ x y,0≤x→x < y→y≤m.mo→GI (jT m x y):=by
 obtain⟨hit,_⟩:=h.it hA.1 hA.2
 obtain⟨nm,N,lo,rs,to,bo,len,hn,n0,n1,t0,t1,b0,b1,l0,l1,r0,r1,rfl⟩:=h
 obtain⟨N',hc⟩:=hit _ _ _ _ _ _ rfl
 refine⟨⟨⟨hc.g1.1,hc.g2.1,qSo hc.g1.2.2.1,qSo hc.g1.2.2.2,qSo hc.g2.2.2.1,qSo hc.g2.2.2.2,n0,qV2 (by omega)⟩,fun _ _ _ e=>by cases e⟩,fun x y hx hxy hy=>?_⟩
 have hy:y≤len:=hy
 obtain⟨z1,z2⟩:=qWu hc.g1 hc.g2 (k:=x) (by omega)
 exact⟨⟨qHd hc.g1.1 hc.g2.1,hc.g2.1,z1,z2,qSo hc.g2.2.2.1,qSo hc.g2.2.2.2,by omega,qV2 (by omega)⟩,fun _ _ _ e=>by cases e⟩
theorem TM.gi {A:Int}{m:Im}(h:TM A m)(hA:60≤A∧A < 360):GI m∧(m.wd≠"mix"→∀ x y,0≤x→x < y→y≤m.mo→GI (jT m x y)):=by
 rcases h with (⟨l,rfl,h1,h2⟩ | ⟨b,l,rfl,b0,b1,h1,h2⟩ | h) | ⟨l,rfl,h1,h2⟩
 · exact⟨⟨h1,fun _ _ _ e=>by cases e⟩,fun _ x y _ hxy _=>⟨by show 1≤y - x;omega,fun _ _ _ e=>by cases e⟩⟩
 · refine⟨⟨⟨b0,by omega,h1⟩,fun _ _ _ e=>by cases e;rfl⟩,fun _ x y hx hxy hy=>⟨⟨by omega,?_,by omega⟩,fun _ _ _ e=>by cases e;rfl⟩⟩
   have hy:y≤l:=hy
   omega
 · exact⟨(h.gi hA).1,fun _=>(h.gi hA).2⟩
 · exact⟨⟨⟨h1,by omega⟩,fun _ _ _ e=>by cases e⟩,fun c=>absurd rfl c⟩
theorem LayG.gi {A:Int}{m:Im}(h:LayG A m)(hA:60≤A∧A < 360):GI m∧Wf m∧m.wd≠"gap":=by
 rcases h with ⟨b,l,rfl,b0,b1,l1,l2⟩ | h
 · exact⟨⟨⟨b0,by omega,l1⟩,fun _ _ _ e=>by cases e;rfl⟩,l1,by show ("nest":Str)≠"gap";decide+kernel⟩
 · refine⟨(h.gi hA).1,TI.wf (.inr (.inr h)) hA,?_⟩
   obtain⟨nm,N,lo,rs,to,bo,len,hn,n0,n1,t0,t1,b0,b1,l0,l1,r0,r1,rfl⟩:=h
   show ("clip":Str)≠"gap";decide+kernel
theorem qTu {A:Int}{m:Im}(h:CF A m)(hA:60≤A∧A < 360):Lv (rmL m) 1 "low":=by
 refine⟨[[m]],by unfold rmL;rw [if_pos rfl],(by show 1≤300;decide),fun ms hms=>?_⟩
 rw [List.mem_singleton] at hms
 subst hms
 refine⟨(by show 1≤300;decide),MO.ok (qMc (fun x hx=>?_) none),fun x hx=>?_⟩
 · rw [List.mem_singleton] at hx;subst hx;exact TI.nm (.inr (.inr h))
 · rw [List.mem_singleton] at hx;subst hx
   refine⟨(h.gi hA).1.1,fun nm b l e=>?_⟩
   obtain⟨_,_,_,_,_,_,_,_,_,_,_,_,_,_,_,_,_,_,e2⟩:=h
   rw [e] at e2;cases e2
theorem lvT {A:Int}{m:Im}(h:CF A m)(hA:60≤A∧A < 360){ms:List Im}(hl:ms.length≤300)(hM:MO none ms)(hg:∀ x∈ms,GI x):LvT (rmL m) 1 ms:=by
 refine⟨hl,hM.ok,fun x hx=>⟨(hg x hx).1,fun nm b l e=>?_⟩⟩
 rw [(hg x hx).2 nm b l e]
 exact qTu h hA
theorem DkG.st {A last:Int}{d:Dk}(h:DkG A last d):St5 d∧0≤d.t∧d.t < last+6:=by
 cases d with
 | cut=>exact h.elim
 | hel=>exact h.elim
 | _=>exact⟨trivial,h.1,h.2.1⟩
theorem DkG.rel {A last:Int}{d:Dk}(h:DkG A last d)(hA:60≤A∧A < 360){H:Hp}{re:Addr}(hr:RE H re A){ms:List Im}(hT:∀ m∈ms,TM A m)(hM:MO none ms)(hn:xB ms d.t d.hi=false):Rel ms d.t d.hi d.laid∧(∀ m∈d.laid,GI m)∧d.laid.length≤1:=by
 have t0:=h.st.2.1
 refine⟨⟨fun m hm=>(hT m hm).wf hA,hM,t0,?_,hn,fun m hm=>?_,fun m hm=>?_⟩,fun m hm=>?_,d.laid_len⟩
 · cases d with
   | cut=>exact h.elim
   | hel=>exact h.elim
   | opn t l=>exact Int.le_refl _
   | lin t m=>exact Int.le_refl _
   | cls t u=>have:=h.2.2.1;show t≤u;omega
   | lft t u=>have:=h.2.2.1;show t≤u;omega
   | lov t m=>have:=(h.2.2.ok hr).2.2.1;show t≤t+m.mo;omega
 · cases d with
   | cut=>exact h.elim
   | hel=>exact h.elim
   | opn t l=>rw [show (Dk.opn t l).laid=[.gap l] from rfl,List.mem_singleton] at hm;subst hm;exact h.2.2.1
   | lin t m=>rw [show (Dk.lin t m).laid=[m] from rfl,List.mem_singleton] at hm;subst hm;exact(h.2.2.gi hA).2.1
   | cls t u=>cases hm
   | lft t u=>rw [show (Dk.lft t u).laid=[.gap (u - t)] from rfl,List.mem_singleton] at hm;subst hm;have:=h.2.2.1;show 1≤u - t;omega
   | lov t m=>rw [show (Dk.lov t m).laid=[m] from rfl,List.mem_singleton] at hm;subst hm;exact(h.2.2.gi hA).2.1
 · cases d with
   | cut=>exact h.elim
   | hel=>exact h.elim
   | opn t l=>rw [show (Dk.opn t l).laid=[.gap l] from rfl,List.mem_singleton] at hm;subst hm;show ("gap":Str)≠"mix";decide+kernel
   | lin t m=>rw [show (Dk.lin t m).laid=[m] from rfl,List.mem_singleton] at hm;subst hm;exact(h.2.2.ok hr).2.1
   | cls t u=>cases hm
   | lft t u=>rw [show (Dk.lft t u).laid=[.gap (u - t)] from rfl,List.mem_singleton] at hm;subst hm;show ("gap":Str)≠"mix";decide+kernel
   | lov t m=>rw [show (Dk.lov t m).laid=[m] from rfl,List.mem_singleton] at hm;subst hm;exact(h.2.2.ok hr).2.1
 · cases d with
   | cut=>exact h.elim
   | hel=>exact h.elim
   | opn t l=>rw [show (Dk.opn t l).laid=[.gap l] from rfl,List.mem_singleton] at hm;subst hm;have h1:=h.2.2.1;exact .gap (by omega)
   | lin t m=>rw [show (Dk.lin t m).laid=[m] from rfl,List.mem_singleton] at hm;subst hm;exact(h.2.2.gi hA).1
   | cls t u=>cases hm
   | lft t u=>rw [show (Dk.lft t u).laid=[.gap (u - t)] from rfl,List.mem_singleton] at hm;subst hm;have:=h.2.2.1;exact .gap (by omega)
   | lov t m=>rw [show (Dk.lov t m).laid=[m] from rfl,List.mem_singleton] at hm;subst hm;exact(h.2.2.gi hA).1
theorem qPn {A last:Int}{d:Dk}(h:DkG A last d)(hA:60≤A∧A < 360){ms:List Im}(hR:Rel ms d.t d.hi d.laid)(hO:OS false ms)(hg:Lg d):qV (qBl ms d.t d.hi d.laid)=qQ3 (qV ms) d:=by
 obtain⟨r1,r2,r3⟩:=qRy hR hO
 rcases hg with ⟨t,l,rfl⟩ | ⟨t,m,rfl⟩ | ⟨t,m,rfl⟩
 · have e:qV [Im.gap l]=l:=by rw [qR,qf];show l+0=l;omega
   show _=qV ms+l*(if t < qV ms then 1 else 0)
   by_cases hc:t < qV ms
   · rw [if_pos hc,r1 hc]
     show t+qV [Im.gap l]+(qV ms - t)=_
     rw [e];omega
   · rw [if_neg hc,r3 (by show qV ms≤t;omega) (fun a ha=>by rw [show (Dk.opn t l).laid=[.gap l] from rfl,List.mem_singleton] at ha;subst ha;rfl)]
     omega
 · have e:qV [m]=m.mo:=by rw [qR,qf];omega
   have hm:=(h.2.2.gi hA).2.2
   show _=xU (qV ms) t+m.mo
   unfold xU
   by_cases hc:t < qV ms
   · rw [r1 hc,if_neg (by omega)]
     show t+qV [m]+(qV ms - t)=_
     rw [e];omega
   · rw [r2 (by show qV ms≤t;omega) m rfl hm]
     show t+m.mo=_
     split <;> omega
 · have e:qV [m]=m.mo:=by rw [qR,qf];omega
   have hm:=(h.2.2.gi hA).2.2
   show _=xU (qV ms) (t+m.mo)
   unfold xU
   by_cases hc:t+m.mo < qV ms
   · rw [r1 hc,if_neg (by omega)]
     show t+qV [m]+(qV ms - (t+m.mo))=_
     rw [e];omega
   · rw [r2 (by show qV ms≤t+m.mo;omega) m rfl hm]
     show t+m.mo=_
     split <;> omega
theorem qTr {neg:Bool}{H:Hp}{x y:Addr}{ms:List Im}{Q:VK}(h1:Tr H x ms)(h2:Tr H y ms)(q:Q (.bl (!neg)) H):qL8 K neg (.ref x) (.ref y) H Q:=by
 refine⟨.lst (ms.map Im.d),.lst (ms.map Im.d),h1.rep,h2.rep,by unfold dep;have:=qEp ms;omega,?_⟩
 have e:eqD (.lst (ms.map Im.d)) (.lst (ms.map Im.d))=true:=by unfold eqD;exact wj ms
 rw [e]
 cases neg <;> exact q
theorem qPq {neg:Bool}{H:Hp}{x y:Addr}{ns:List Int}{Q:VK}(h1:H x=some (.lst (ns.map V.int)))(h2:H y=some (.lst (ns.map V.int)))(q:Q (.bl (!neg)) H):qL8 K neg (.ref x) (.ref y) H Q:=by
 refine⟨_,_,qF9 h1,qF9 h2,by unfold dep;rw [qCv];omega,?_⟩
 have e:eqD (.lst ((ns.map V.int).map D.leaf)) (.lst ((ns.map V.int).map D.leaf))=true:=by unfold eqD;exact qGh ns
 rw [e]
 cases neg <;> exact q
theorem qQ0 {neg:Bool}{H:Hp}{x y:Addr}{ts:List (List Im)}{us vs:List V}{Q:VK}(h1:H x=some (.lst us))(t1:TrsAt H ts us)(h2:H y=some (.lst vs))(t2:TrsAt H ts vs)(q:Q (.bl (!neg)) H):qL8 K neg (.ref x) (.ref y) H Q:=by
 refine⟨.lst (ts.map fun ms=>.lst (ms.map Im.d)),.lst (ts.map fun ms=>.lst (ms.map Im.d)),?_,?_,by unfold dep;have:=qJ5 ts;omega,?_⟩
 · unfold Rep;exact⟨x,us,rfl,SqL.of h1,t1.rep⟩
 · unfold Rep;exact⟨y,vs,rfl,SqL.of h2,t2.rep⟩
 have e:eqD (.lst (ts.map fun ms=>.lst (ms.map Im.d))) (.lst (ts.map fun ms=>.lst (ms.map Im.d)))=true:=by unfold eqD;exact qFl ts
 rw [e]
 cases neg <;> exact q
def qMm (ts:List (List Im))(n:Nat):Nat→List (List Im)
 | 0=>[]
 | i+1=>if i=n then qMm ts n i else qMm ts n i++[ts.getD i []]
theorem qN1 (ts:List (List Im))(n:Nat):∀ i,(qMm ts n i).length≤i
 | 0=>Nat.le_refl _
 | i+1=>by
  have:=qN1 ts n i
  rw [qMm]
  split
  · omega
  · rw [List.length_append,List.length_singleton];omega
theorem qOn {ts:List (List Im)}{n:Nat}{X:List Im}:∀ i,i≤ts.length→qMm (ts.set n X) n i=qMm ts n i
 | 0,_=>rfl
 | i+1,h=>by
  rw [qMm,qMm,qOn i (by omega)]
  by_cases e:i=n
  · rw [if_pos e,if_pos e]
  · rw [if_neg e,if_neg e]
    congr 2
    rw [List.getD_eq_getElem?_getD,List.getD_eq_getElem?_getD,List.getElem?_set,if_neg (fun z=>e z.symm)]
theorem qR4 {ts:List (List Im)}{d:Dk}{n:Nat}{ms:List Im}{push:Bool}(hm:ts[n]? =some ms):qKr ts d (n:Int) (chF [] (n:Int) push)=ts.set n (qBl ms d.t d.hi d.laid):=by
 have e:chF [] (n:Int) push=[(n:Int)]:=by unfold chF;rw [if_neg (by simp)]
 rw [e]
 show ts.set ((n:Int)).toNat (qBl (ts.getD ((n:Int)).toNat []) d.t d.hi (qEh d (n:Int) (n:Int)))=_
 rw [Int.toNat_natCast,List.getD_eq_getElem?_getD,hm]
 unfold qEh
 rw [if_pos rfl]
 rfl
theorem qNz {ts:List (List Im)}{n:Nat}{ms:List Im}{push:Bool}{lo hi:Int}(hm:ts[n]? =some ms):x8 ts (chF [] (n:Int) push) lo hi=xB ms lo hi:=by
 have e:chF [] (n:Int) push=[(n:Int)]:=by unfold chF;rw [if_neg (by simp)]
 rw [e]
 unfold x8
 simp only [List.any_cons,List.any_nil,Bool.or_false]
 rw [Int.toNat_natCast,List.getD_eq_getElem?_getD,hm]
 rfl
theorem qN9 {H:Hp}{z:Addr}{us:List V}{ms:List Im}{js0:List Nat}{σ:L2.St}{tc:TT}{te:TE}{Q:VK}(hz:H z=some (.lst us))(his:IsIs H ms us)(hl:ms.length≤300)
 (htc:∀ (x:V) (zi:Addr) (xi:List V) (m:Im) (Q:Bool→Hp→Prop),x= .ref zi→H zi=some (.tup xi)→atI xi 0=some (.str m.wd)→Q (!decide (V.str m.wd=V.str "mix")) H→tc (some x::vo js0 σ) H Q)
 (hte:∀ (x:V) (zi:Addr) (xi:List V) (m:Im) (Q:VK),x= .ref zi→H zi=some (.tup xi)→atI xi (-1)=some (.int m.l)→Q (.int m.l) H→te (some x::vo js0 σ) H Q)
 (k:∀ (D:Addr) (js:List Int),H D=none→js.sum=qV ms→Q (.ref D) (upd H D (.lst (js.map V.int)))):CompEndF js0 tc te σ Q (Itl K z) H:=by
 have hul:=his.len
 refine qAw (K:=K) (a:=z) (xs:=us) (fun j acc H7=>H=H7∧∃ js:List Int,acc=js.map V.int∧js.length≤j∧js.sum=((ms.take j).map Im.mo).sum) ⟨rfl,[],rfl,by simp,rfl⟩ ?_ ?_ ?_
 · rintro j acc H7 hj ⟨rfl,js,rfl,hjl,_⟩
   exact⟨SqL.of hz,qY (by rw [List.length_map];omega)⟩
 · rintro j x acc H7 hj hx ⟨rfl,js,rfl,hjl,hjs⟩
   obtain⟨m,hm,hI⟩:=his.get hx
   obtain⟨zi,xi,rfl,hzi,b0,bl⟩:=hI.opn
   have etk:((ms.take (j+1)).map Im.mo).sum=((ms.take j).map Im.mo).sum+m.mo:=by rw [List.take_add_one,hm];simp
   refine htc _ zi xi m _ rfl hzi b0 ?_
   by_cases hw:m.wd="mix"
   · obtain⟨l,rfl⟩:=jD hw
     have e:(!decide (V.str (Im.mix l).wd=V.str "mix"))=false:=by rw [decide_eq_true (by rw [hw])];rfl
     rw [e]
     exact qm (Nxt.mk hj ⟨rfl,js,rfl,by omega,by rw [etk,hjs];simp [Im.mo]⟩)
   · have e:(!decide (V.str m.wd=V.str "mix"))=true:=by rw [decide_eq_false (fun h=>hw (V.str.inj h))];rfl
     rw [e]
     refine jI (hte _ zi xi m _ rfl hzi bl (Nxt.mk hj ⟨rfl,js++[m.l],by simp,by simp;omega,?_⟩))
     rw [etk,qO1 hw,List.sum_append,hjs]
     simp
 · rintro acc H7 ⟨rfl,js,rfl,_,hjs⟩ D hD
   rw [hul,List.take_length] at hjs
   exact k D js hD hjs
theorem qLm {H:Hp}{js0:List Nat}{σ:L2.St}{tc:TT}{te:TE}{Q:VK}{tl:Addr}{zs:List V}{ts:List (List Im)}(n:Nat)(hl:H tl=some (.lst zs))(hT:TrsAt H ts zs)(h3:ts.length=3)
 (htc:∀ (i:Nat) (Q:Bool→Hp→Prop),Q (!decide (V.int (0+(i:Int))=V.int (n:Int))) H→tc (some (.int (0+(i:Int)))::vo js0 σ) H Q)
 (hte:∀ (i:Nat) (v:V) (Q:VK),zs[i]? =some v→Q v H→te (some (.int (0+(i:Int)))::vo js0 σ) H Q)
 (k:∀ (D:Addr) (acc:List V),H D=none→TrsAt H (qMm ts n 3) acc→Q (.ref D) (upd H D (.lst acc))):CompEndF js0 tc te σ Q (Itr 0 3) H:=by
 have hzl:=hT.len
 refine qKf (n:=3) (fun i acc H7=>H=H7∧TrsAt H (qMm ts n i) acc) ⟨rfl,trivial⟩ ?_ ?_ ?_
 · rintro i acc H7 hi ⟨rfl,h⟩
   have:=qN1 ts n i
   exact qY (by rw [h.len];omega)
 · rintro i acc H7 hi ⟨rfl,h⟩
   refine htc i _ ?_
   by_cases e:i=n
   · have d:(!decide (V.int (0+(i:Int))=V.int (n:Int)))=false:=by rw [decide_eq_true (by rw [e,Int.zero_add])];rfl
     rw [d]
     refine qm (Nxt.mk hi ⟨rfl,?_⟩)
     rw [qMm,if_pos e];exact h
   · have d:(!decide (V.int (0+(i:Int))=V.int (n:Int)))=true:=by rw [decide_eq_false (fun z=>e (by have:=V.int.inj z;omega))];rfl
     rw [d]
     obtain⟨v,hv⟩:∃ v,zs[i]? =some v:=⟨_,List.getElem?_eq_getElem (by omega)⟩
     obtain⟨ms,z,hms,rfl,tT⟩:=hT.get hv
     refine jI (hte i _ _ hv (Nxt.mk hi ⟨rfl,?_⟩))
     rw [qMm,if_neg e,List.getD_eq_getElem?_getD,hms]
     exact qDo h tT
 · rintro acc H7 ⟨rfl,h⟩ D hD
   exact k D acc hD h
inductive qI6 (K:W.Frag)(vs:List V)(H:Hp)(Q:VK)(_:XK):Prop
| mk (tz dz re rz:Addr) (A:Int) (ts:List (List Im)) (n:Nat) (ms:List Im) (d:Dk) (cm:Im) (_:vs=[.ref tz,.ref dz,.ref re,.ref rz]) (_:TabF H (.ref tz) ts []) (_:TbG A ts []) (_:RE H re A) (_:ts[n]? =some ms) (_:DAt H dz (n:Int) d) (_:DkG A (qV ms) d) (_:CF A cm) (_:RoomAt H rz (rmL cm)) (_:∀ H',Same H H'→Q (.bl true) H')
set_option maxHeartbeats 8000000 in
theorem qI4 (T:Tx K mg a):FnOk P w K mg base CX0 13 a.A93 a.B93 ["_law_table_here","_law_deed_here","_law_reels_here","_law_room"] (qI6 K):=by
 refine T.D93.F.ok jL (fun vs H Q E h=>?_) (fun cdv A outer s H vs Q E hr h=>?_)
 · obtain⟨tz,dz,re,rz,A',ts,n,ms,d,cm,rfl,_⟩:=h
   rfl
 refine qM fun _ Y=>?_
 obtain⟨tz,dz,re,rz,A',ts,n,ms,d,cm,rfl,hT,hM,hre,hm,hD,hG,hcm,hR,kk⟩:=h
 apply Y
 have hu:=hr.units
 refine⟨_,(qD (qE3 (i:=4) jL.nd rfl (Or.inr rfl) qEw)
  (qD (kM (qOa .none jL.nd rfl T.c_Mixed (fun _ _=>(qF (qE3 (i:=4) jL.nd rfl (Or.inr rfl) (qKn T.D73 (vC T) hr rfl (qA (pv 0) (qA (pv 1) (qA (pv 2) qE))))))) (fun _ _=>(qF (qE3 (i:=4) jL.nd rfl (Or.inr rfl) qS)))))
  (qD (qE3 (i:=5) jL.nd rfl (Or.inr rfl) (qJ (pv 1)))
  (qD (qX 6 jL.nd (jK q9 (qJ (pv 0)) (pv 5) (fun _ _=>rfl)))
  (qD (qd (jO (qK T.D88 (qCs T) hr rfl (qA (pv 6) (qA (pv 1) qE)))) (qF (qL (xD (qKm hu) (pv 4) qS (qN _)))) qP)
  (qD (qd (PW.pt (j2 (qH (qKm hu) (pv 4) qS (qN _)) (j2 (ji (jO (qc jQ rfl T.b_isinstance rfl (qA (pv 4) (qA (qD2 rfl T.b_tuple rfl) qE))))) (jV (qH (qHt hu) (qJ (pv 4)) (qJ (pv 0)) (qN _)))))) (qF (qL zu)) qP)
  (qD (qX 7 jL.nd (jK q9 (qJ (pv 4)) (pv 5) (fun _ _=>rfl)))
  (qD (qX 8 jL.nd (qc (wV rfl) rfl T.b_sum rfl (qA (kN [] [] rfl (jW (pv 6)) (fun _ _ _ _=>(qH zP (jK (xr (K:=K) rfl) (pv 0) qG (fun _ _=>rfl)) qS (qN _))) (fun _ _ _ _=>(jK (xr (K:=K) rfl) (pv 0) (kh xP qG) (fun _ _=>rfl)))) qE)))
  (qD (qX 9 jL.nd (qc (wV rfl) rfl T.b_sum rfl (qA (kN [] [] rfl (jW (pv 7)) (fun _ _ _ _=>(qH zP (jK (xr (K:=K) rfl) (pv 0) qG (fun _ _=>rfl)) qS (qN _))) (fun _ _ _ _=>(jK (xr (K:=K) rfl) (pv 0) (kh xP qG) (fun _ _=>rfl)))) qE)))
  (qD (qX 10 jL.nd (qK T.D92 (zH T) hr rfl (qA (qK T.D89 (qKe T) hr rfl (qA (qK T.D85 (qBg T) hr rfl (qA (pv 6) (qA (pv 3) (qA (pv 8) qE)))) (qA (pv 1) (qA (qK T.D90 (qJx T) hr rfl (qA (pv 1) (qA (pv 3) qE))) qE)))) qE)))
  (qD (qd (PW.pt (j2 (ji (jO (qc jQ rfl T.b_isinstance rfl (qA (pv 7) (qA (qD2 rfl T.b_list rfl) qE))))) (j2 (qH (qHt hu) (qK T.D24 (qCz T) hr rfl (qA (pv 7) qE)) (pv 7) (qN _)) (jV (qH xx (pv 9) (qc jY rfl T.b_len rfl (qA (pv 10) qE)) (qN _)))))) (qF (qL zu)) qP)
  (qD (qd (qBf (PW.pt (xH (qH xj (qJ (pv 1)) (qo (qA qS (qA qS (qA qS qE)))) rfl) (jq (qH zP (pv 9) (qK T.D91 (qHb T) hr rfl (qA (pv 1) (qA (pv 8) qE))) (qN _)))))) (qF (qL zu)) qP)
  (qD (qd (qH (qHt hu) (qK T.D92 (zH T) hr rfl (qA (qK T.D85 (qBg T) hr rfl (qA (pv 7) (qA (pv 3) (qA (pv 9) qE)))) qE)) (pv 10) (qN _)) (qF (qL zu)) qP)
  (qF (qL (xD (qKm hu) (kN ["_law_found","_law_number"] [4,5] rfl (jg rfl T.b_range (qA qG qE)) (fun _ _ _ _=>(qH zP (pv 0) (pv 2) (qN _))) (fun _ _ _ _=>(jK (qFx (K:=K) rfl) (jK (xr (K:=K) rfl) (pv 1) qG (fun _ _=>rfl)) (pv 0) (fun _ _=>rfl)))) (kN ["_law_table_here","_law_number"] [0,5] rfl (jg rfl T.b_range (qA qG qE)) (fun _ _ _ _=>(qH zP (pv 0) (pv 2) (qN _))) (fun _ _ _ _=>(jK (qFx (K:=K) rfl) (jK (xr (K:=K) rfl) (pv 1) qG (fun _ _=>rfl)) (pv 0) (fun _ _=>rfl)))) (qN _))))))))))))))))),?_⟩
 try dsimp only [jc,qj]
 have hA:=hre.2
 have l3:=hM.tb.l3
 refine qM fun _ Y=>?_
 obtain⟨_,tl,ti,zs,e0,g2,g3,g4,g5⟩:=id hT
 cases e0
 have hzl:=g4.len
 have hnl:=(glt hm)
 obtain⟨m17,mTM⟩:=hM.tb.ms ms (List.mem_of_getElem? hm)
 have hGd:=hM.gd ms (List.mem_of_getElem? hm)
 have j0:0≤qV ms:=qFn ms fun m hm=>((mTM m hm).it hA.1 hA.2).2.2.1
 have j1:qV ms≤170:=by
  have:=qO9 ms fun m hm=>((mTM m hm).it hA.1 hA.2).2.2.2
  unfold qV
  omega
 have hO:=hG.ok (ms:=ms) hre (by omega)
 have hlay:=hG.lay hre
 obtain⟨h5,t0,t1⟩:=hG.st
 have hTD:=hM.tb.tabD hT hre
 have hx:=qRx (K:=K) (rl:=rlE A') (tie:=[]) hm hD hO
 rw [qNz hm,qR4 hm] at hx
 obtain⟨X,hX⟩:∃ X,qBl ms d.t d.hi d.laid=X:=⟨_,rfl⟩
 rw [hX] at hx
 have hle:d.t≤d.hi:=by
  cases d with
  | cut=>exact hG.elim
  | hel=>exact hG.elim
  | opn t l=>exact Int.le_refl _
  | lin t m=>exact Int.le_refl _
  | cls t u=>have:=hG.2.2.1;show t≤u;omega
  | lft t u=>have:=hG.2.2.1;show t≤u;omega
  | lov t m=>have:=(hlay m rfl).2;show t≤t+m.mo;omega
 obtain⟨xs,hd,a0,a1,a2⟩:=hD.opn
 obtain⟨v0,hv⟩:∃ v,zs[n]? =some v:=⟨_,List.getElem?_eq_getElem (by omega)⟩
 obtain⟨ms',z,hms',rfl,tT⟩:=g4.get hv
 rw [hm] at hms'
 cases hms'
 apply Y
 refine⟨fun σ' H'=>∃ v:V,σ'=[some (.ref tz),some (.ref dz),some (.ref re),some (.ref rz),some v,none,none,none,none,none,none]∧Same H H'∧(xB ms d.t d.hi=true→v= .str "mixed")∧(xB ms d.t d.hi=false→∃ t',v= .ref t'∧NewTab H H' t' (ts.set n X) []),?_,?_⟩
 · refine⟨fun B od σ' H'=>B= .ref a.k_Mixed∧xB ms d.t d.hi=true∧Same H H'∧σ'=[some (.ref tz),some (.ref dz),some (.ref re),some (.ref rz),some .non,none,none,none,none,none,none],?_,?_⟩
   · cases ht:xB ms d.t d.hi with
     | true=>
      rw [ht,if_pos rfl] at hx
      exact⟨_,rfl,_,rfl,_,rfl,tz,dz,re,rlE A',ts,[],_,rfl,hTD,hx,(fun h=>by cases h),(fun _ H' e=>⟨rfl,rfl,e,rfl⟩),(fun h=>by cases h),(fun m h=>by cases h),fun ts' h=>by cases h⟩
     | false=>
      rw [ht,if_neg (by decide)] at hx
      exact⟨_,rfl,_,rfl,_,rfl,tz,dz,re,rlE A',ts,[],_,rfl,hTD,hx,(fun h=>by cases h),(fun h=>by cases h),(fun h=>by cases h),(fun m h=>by cases h),fun ts' h t' H' e hN=>by cases h;exact⟨_,rfl,e,(fun h=>by cases h),fun _=>⟨t',rfl,hN⟩⟩⟩
   · rintro ea ⟨B1,B2⟩ σ' H' ⟨hB,ht,sH,rfl⟩ hn hl'
     dsimp only at hB
     subst hB
     exact⟨T.yMM,.str "mixed",rfl,sH.trans (qC hn _),fun _=>rfl,fun h=>absurd (ht.symm.trans h) (by decide)⟩
 rintro σ' H1 ⟨v,rfl,e1,hmx,hgd⟩
 refine(ixO (e1 _ _ hd) a1 ?_)
 refine(ixO (e1 _ _ g2) at0 ⟨_,rfl,tl,_,_,_,rfl,rfl,SqL.of (e1 _ _ g3),jJ hv,?_⟩)
 refine⟨_,rfl,_,rfl,z,dz,(n:Int),ms,d,rfl,tT.same e1,(fun _ _ _=>trivial),hD.same e1,h5,hlay,hle,fun H2 e2=>?_⟩
 have e12:=e1.trans e2
 cases ht:xB ms d.t d.hi with
 | true=>
  have:=hmx ht
  subst this
  refine⟨true,rfl,jI ⟨_,rfl,qPx (neg:=false) ?_⟩⟩
  have:=kk H2 e12
  simpa using this
 | false=>
 refine⟨false,rfl,qm ?_⟩
 refine qM fun _ Y=>?_
 obtain⟨t',rfl,hN⟩:=hgd ht
 obtain⟨tl',ti',zs',q1,q2,q3,q4,_⟩:=hN.ex
 obtain⟨v1,hv'⟩:∃ v,zs'[n]? =some v:=⟨_,List.getElem?_eq_getElem (by rw [q3.len,List.length_set];omega)⟩
 obtain⟨X',z',hX',rfl,tT'⟩:=q3.get hv'
 rw [List.getElem?_set,if_pos rfl,if_pos hnl] at hX'
 cases hX'
 apply Y
 refine⟨_,rfl,qOr (neg:=false) (hN.tab.same e2) ⟨false,rfl,qm ?_⟩⟩
 refine⟨_,rfl,_,_,_,true,rfl,.tup (e2 _ _ q1),⟨_,.inl ⟨rfl,by kernel_rfl⟩⟩,true,rfl,qm ?_⟩
 refine(ixO (e2 _ _ q1) at1 (ixO (e12 _ _ g2) at1 (qPq (neg:=true) (ns:=[]) (e2 _ _ q4) (e12 _ _ g5) ⟨false,rfl,qm ?_⟩)))
 refine(ixO (e2 _ _ q1) at0 ⟨_,rfl,tl',_,_,_,rfl,rfl,SqL.of (e2 _ _ q2),jJ hv',?_⟩)
 refine qM fun _ Y=>?_
 obtain⟨hRel,hlg,hl1⟩:=hG.rel hA hre mTM hGd.mo ht
 obtain⟨xM,xF,xO,_,_⟩:=hRel.good (qWj (rlE A')) hGd.fs
 have xW:=qSs hRel
 have xG:=qOx (Pm:=GI) (fun w hw=>.gap hw) hRel (fun m hm=>((mTM m hm).gi hA).1) (fun m hm=>((mTM m hm).gi hA).2) hlg
 have xl:=qMe (ms:=ms) (lo:=d.t) (hi:=d.hi) hl1
 have dget:=fun k=>qR8 (qx (rmL cm) 1) (lo:=d.t.toNat) (hi:=d.hi.toNat) (ls:=d.laid) (by rw [show ((d.t.toNat:Nat):Int)=d.t by omega,show ((d.hi.toNat:Nat):Int)=d.hi by omega];exact hRel) hGd.fs (qIy (qx (rmL cm) 1) d) (by unfold qIy;rw [jy];have:=Nn.len fun x hx=>(hRel.lw x hx).mo;omega) (fun k hk=>by unfold qIy at hk ⊢;rw [jy] at hk;rw [qLe,if_pos hk]) k
 rw [show ((d.t.toNat:Nat):Int)=d.t by omega,show ((d.hi.toNat:Nat):Int)=d.hi by omega] at dget
 rw [hX] at xM xF xO xW xG xl dget
 have tX:=fun k=>qKy (qx (rmL cm) 1) xF xM xW k
 have xlen0:0≤qV X:=Nn.len fun x hx=>(xW x hx).mo
 have ed:j7 (qT9 (xR (qx (rmL cm) 1) ms (qV ms).toNat) d.t d.hi (qIy (qx (rmL cm) 1) d))=j7 (xR (qx (rmL cm) 1) X (qV X).toNat):=qAg fun k=>by
  rw [tX k]
  exact dget k
 have xlen1:qV X≤400:=by
  have:=qNg hRel
  rw [hX] at this
  have ll:qV d.laid≤20:=by
   cases d with
   | cut=>exact hG.elim
   | hel=>exact hG.elim
   | opn t l=>show qV [Im.gap l]≤20;rw [qR,qf];have:=hG.2.2.2;show l+0≤20;omega
   | lin t m=>show qV [m]≤20;rw [qR,qf];have:=(hG.2.2.ok hre).2.2.2;omega
   | cls t u=>show qV []≤20;rw [qf];omega
   | lft t u=>show qV [Im.gap (u - t)]≤20;rw [qR,qf];have:=hG.2.2.2;show u - t+0≤20;omega
   | lov t m=>show qV [m]≤20;rw [qR,qf];have:=(hG.2.2.ok hre).2.2.2;omega
  omega
 have hPl:(qIy (qx (rmL cm) 1) d).length≤100:=by
  unfold qIy
  rw [jy]
  cases d with
  | cut=>exact hG.elim
  | hel=>exact hG.elim
  | opn t l=>show (qV [Im.gap l]).toNat≤100;rw [qR,qf];have:=hG.2.2.2;show (l+0).toNat≤100;omega
  | lin t m=>show (qV [m]).toNat≤100;rw [qR,qf];have:=(hG.2.2.ok hre).2.2.2;omega
  | cls t u=>show (qV []).toNat≤100;rw [qf];decide
  | lft t u=>show (qV [Im.gap (u - t)]).toNat≤100;rw [qR,qf];have:=hG.2.2.2;show (u - t+0).toNat≤100;omega
  | lov t m=>show (qV [m]).toNat≤100;rw [qR,qf];have:=(hG.2.2.ok hre).2.2.2;omega
 have lvM:=lvT hcm hA (by omega) hGd.mo (fun x hx=>((mTM x hx).gi hA).1)
 have lvX:=lvT hcm hA (by omega) xM xG
 obtain⟨us,kz,iz⟩:=tT.same e12
 obtain⟨us',kz',iz'⟩:=tT'.same e2
 apply Y
 refine⟨_,rfl,z,rfl,⟨_,SqL.of kz⟩,qN9 kz iz (by omega) (fun x zi xi m Q ex hzi b0 q=>by subst ex;exact⟨_,rfl,zi,xi,_,_,rfl,rfl,SqT.of hzi,b0,rfl,_,rfl,q⟩) (fun x zi xi m Q ex hzi bl q=>by subst ex;exact⟨_,rfl,1,rfl,zi,xi,_,_,rfl,rfl,SqT.of hzi,bl,q⟩) fun D js hD' hjs=>?_⟩
 refine⟨D,js,rfl,SqL.of qB,?_⟩
 have w3:=qC hD' (.lst (js.map V.int))
 generalize upd H2 D (.lst (js.map V.int))=H3 at w3 ⊢
 rw [hjs]
 refine⟨_,rfl,z',rfl,⟨_,SqL.of (w3 _ _ kz')⟩,qN9 (w3 _ _ kz') (iz'.ts (qZ w3)) (by omega) (fun x zi xi m Q ex hzi b0 q=>by subst ex;exact⟨_,rfl,zi,xi,_,_,rfl,rfl,SqT.of hzi,b0,rfl,_,rfl,q⟩) (fun x zi xi m Q ex hzi bl q=>by subst ex;exact⟨_,rfl,1,rfl,zi,xi,_,_,rfl,rfl,SqT.of hzi,bl,q⟩) fun D2 js2 hD2 hjs2=>?_⟩
 refine⟨D2,js2,rfl,SqL.of qB,?_⟩
 have w4:=qC hD2 (.lst (js2.map V.int))
 generalize upd H3 D2 (.lst (js2.map V.int))=H4 at w4 ⊢
 rw [hjs2]
 have E4:Same H H4:=e12.trans (w3.trans w4)
 have F4:Same H1 H4:=e2.trans (w3.trans w4)
 refine⟨_,rfl,_,rfl,_,rfl,z,rz,ms,qV ms,rmL cm,rfl,tT.same E4,lvM,hR.same E4,j0,by omega,fun y1 H5 e5 hy1=>?_⟩
 have E5:=E4.trans e5
 refine⟨_,rfl,_,rfl,_,rfl,dz,rz,(n:Int),d,rmL cm,rfl,hD.same E5,h5,hR.same E5,fun m hm'=>?_,fun t l e=>?_,fun t u e=>?_,fun y2 H6 e6 hy2=>?_⟩
 · have hml:m∈d.laid:=by
    cases d with
    | lin t m'=>cases hm';exact List.mem_singleton.mpr rfl
    | lov t m'=>cases hm';exact List.mem_singleton.mpr rfl
    | _=>cases hm'
   obtain⟨q5,q6⟩:=hlay m hm'
   have q7:m.mo≤10:=by
    cases d with
    | lin t m'=>cases hm';exact(hG.2.2.ok hre).2.2.2
    | lov t m'=>cases hm';exact(hG.2.2.ok hre).2.2.2
    | _=>cases hm'
   refine⟨q5,q6,by omega,lvT hcm hA (by show 1≤300;decide) (qMc (fun x hx=>by rw [List.mem_singleton] at hx;subst hx;exact q5) none) (fun x hx=>by rw [List.mem_singleton] at hx;subst hx;exact hlg _ hml)⟩
 · subst e;have:=hG.2.2;omega
 · subst e;have:=hG.2.2;omega
 have E6:=E5.trans e6
 refine⟨y1,dz,y2,(n:Int),d,_,_,rfl,hy1.same e6,by rw [jy];omega,hD.same E6,h5,hlay,t0,by omega,hle,hy2,hPl,(fun⟨t,u,e⟩=>by subst e;rfl),fun y3 H7 e7 hy3=>?_⟩
 have dl:(qT9 (xR (qx (rmL cm) 1) ms (qV ms).toNat) d.t d.hi (qIy (qx (rmL cm) 1) d)).length≤900:=by
  unfold qT9
  rw [List.length_append,List.length_append,List.length_take,List.length_drop,jy]
  exact Nat.le_trans (Nat.add_le_add_right (Nat.add_le_add_right (Nat.min_le_left _ _) _) _) (by omega)
 refine⟨y3,_,rfl,hy3,dl,fun y4 H8 e8 hy4=>?_⟩
 rw [ed] at hy4
 have E8:=E6.trans (e7.trans e8)
 have F8:=F4.trans (e5.trans (e6.trans (e7.trans e8)))
 refine qM fun _ Y=>?_
 obtain⟨us9,k9,_⟩:=id tT'
 apply Y
 refine⟨_,rfl,_,_,_,true,rfl,.lst (F8 _ _ k9),⟨_,.inl ⟨rfl,by kernel_rfl⟩⟩,true,rfl,qm ?_⟩
 refine⟨_,rfl,z',X,rfl,tT'.same F8,by omega,fun y5 H9 e9 hy5 tY=>?_⟩
 rw [OS.one.1 xO] at tY
 have F9:=F8.trans e9
 have E9:=E8.trans e9
 refine⟨_,rfl,qTr (neg:=true) tY (tT'.same F9) ⟨false,rfl,qm ?_⟩⟩
 refine qM fun _ Y=>?_
 obtain⟨v4,k4,i4⟩:=hy4.same e9
 apply Y
 have hl4:=i4.len
 have hl5:=qE1 (xR (qx (rmL cm) 1) X (qV X).toNat)
 rw [jy] at hl5
 refine⟨_,rfl,_,rfl,y4,_,rfl,.inl (SqL.of k4),_,_,rfl,rfl,_,rfl,?_⟩
 rw [decide_eq_false (show ¬ qV X < ((v4.length:Nat):Int) by omega)]
 refine qm ?_
 refine⟨fun b H'=>b=false∧Same H9 H',?_,?_⟩
 · refine(ixO (E9 _ _ hd) a0 ⟨sL3,fun q hq=>?_⟩)
   have w:=qC hq (.tup [.str "lay_in",.str "open",.str "lay_over"])
   have kq:upd H9 q (.tup [.str "lay_in",.str "open",.str "lay_over"]) q=some (.tup [.str "lay_in",.str "open",.str "lay_over"]):=qB
   generalize upd H9 q (.tup [.str "lay_in",.str "open",.str "lay_over"])=H10 at w kq ⊢
   have fin:Lg d→d.wd="open"∨d.wd="lay_in"∨d.wd="lay_over":=fun h=>by
    rcases h with ⟨t,l,rfl⟩ | ⟨t,m,rfl⟩ | ⟨t,m,rfl⟩
    · exact .inl rfl
    · exact .inr (.inl rfl)
    · exact .inr (.inr rfl)
   by_cases hLg:Lg d
   · have hin:inV (.str d.wd) [.str "lay_in",.str "open",.str "lay_over"]=true:=by
      rcases fin hLg with h | h | h <;> rw [h] <;> decide+kernel
     refine⟨q,_,rfl,.inr (SqT.of kq),rfl,rfl,true,zW hin,jI ?_⟩
     refine⟨_,rfl,_,rfl,_,rfl,dz,(n:Int),qV ms,d,rfl,(hD.same E9).same w,hLg,hlay,rfl,_,rfl,?_,w⟩
     have:=qPn hG hA hRel hGd.os hLg
     rw [hX] at this
     rw [this]
     simp
   · have hin:inV (.str d.wd) [.str "lay_in",.str "open",.str "lay_over"]=false:=by
      cases d with
      | cut=>exact hG.elim
      | hel=>exact hG.elim
      | opn t l=>exact absurd (.inl ⟨t,l,rfl⟩) hLg
      | lin t m=>exact absurd (.inr (.inl ⟨t,m,rfl⟩)) hLg
      | lov t m=>exact absurd (.inr (.inr ⟨t,m,rfl⟩)) hLg
      | cls t u=>show inV (.str "close") _=false;decide+kernel
      | lft t u=>show inV (.str "lift") _=false;decide+kernel
     exact⟨q,_,rfl,.inr (SqT.of kq),rfl,rfl,false,zW hin,qm ⟨rfl,w⟩⟩
 rintro b H10 ⟨rfl,w10⟩
 refine qm ?_
 have F10:=F9.trans w10
 have E10:=E9.trans w10
 refine⟨_,rfl,_,rfl,_,rfl,z',rz,X,qV X,rmL cm,rfl,tT'.same F10,lvX,hR.same E10,xlen0,by omega,fun y6 H11 e11 hy6=>?_⟩
 refine⟨y6,_,rfl,hy6,by rw [jy];omega,fun y7 H12 e12' hy7=>?_⟩
 have e812:Same H8 H12:=e9.trans (w10.trans (e11.trans e12'))
 refine⟨_,rfl,qU4 (neg:=true) hy7 (hy4.same e812) ⟨false,rfl,qm ?_⟩⟩
 have F12:=F8.trans e812
 have E12:=E8.trans e812
 refine⟨3,rfl,by decide,by decide,qLm n (F12 _ _ q2) (q3.same F12) (by rw [List.length_set];exact l3) (fun i Q q=>⟨_,rfl,_,rfl,rfl,_,rfl,q⟩) (fun i v Q hvi q=>(ixO (F12 _ _ q1) at0 ⟨_,rfl,tl',_,_,_,rfl,rfl,SqL.of (F12 _ _ q2),(by rw [Int.zero_add];exact jJ hvi),q⟩)) fun D3 acc hD3 hS=>?_⟩
 have w13:=qC hD3 (.lst acc)
 have k13:upd H12 D3 (.lst acc) D3=some (.lst acc):=qB
 generalize upd H12 D3 (.lst acc)=H13 at w13 k13 ⊢
 have E13:=E12.trans w13
 refine⟨3,rfl,by decide,by decide,qLm n (E13 _ _ g3) (g4.same E13) l3 (fun i Q q=>⟨_,rfl,_,rfl,rfl,_,rfl,q⟩) (fun i v Q hvi q=>(ixO (E13 _ _ g2) at0 ⟨_,rfl,tl,_,_,_,rfl,rfl,SqL.of (E13 _ _ g3),(by rw [Int.zero_add];exact jJ hvi),q⟩)) fun D4 acc2 hD4 hS2=>?_⟩
 have w14:=qC hD4 (.lst acc2)
 rw [qOn 3 (by omega)] at hS
 exact qQ0 (neg:=false) (w14 _ _ k13) (hS.same (w13.trans w14)) qB (hS2.same w14) (kk _ (E13.trans w14))
theorem qRt {H:Hp}{l:Addr}{kvs:List (Key × V)}{o:HO}(h:H l=some (.dK kvs)):TS H (upd H l o):=fun b ys hb=>by
 rw [qW (qJ9 hb h (by intro q;cases q))];exact hb
set_option maxHeartbeats 8000000 in
theorem qT2 (T:Tx K mg a):FnOk P w K mg base CX0 14 a.A94 a.B94 ["_law_script"] (qPc K):=by
 refine T.D94.F.ok vw (fun vs H Q E h=>?_) (fun cdv A outer s H vs Q E hr h=>?_)
 · obtain⟨a,ns,rfl,_⟩:=h
   rfl
 refine qM fun _ Y=>?_
 obtain⟨zs,ns,rfl,hS,hlen,kk⟩:=h
 apply Y
 have hu:=hr.units
 refine⟨_,(qD (qX 1 vw.nd (qK T.D81 (qFo T) hr rfl (qA (qK T.D76 (zM T) hr rfl (qA (pv 0) (qA qG qE))) qE)))
  (qD (qX 2 vw.nd (qo (qA (qJ (qK T.D83 (qGs T) hr rfl (qA (qK T.D76 (zM T) hr rfl (qA (pv 0) (qA qG qE))) (qA (pv 1) (qA qG (qA qG qE)))))) (qA (qr qE) qE))))
  (qD (qX 3 vw.nd (qo (qA (pv 1) (qA (qNb (qFt qS (qo (qA (qr (qA (qr (qA (qK T.D79 (vW T) hr rfl (qA (qK T.D77 (zf T) hr rfl (qA (qK T.D76 (zM T) hr rfl (qA (pv 0) (qA qG qE))) (qA qG qE))) (qA (pv 1) (qA qG qE)))) qE)) qE)) (qA (qr qE) qE))) qOm) rfl rfl (by simp) (by decide)) qE))))
  (qD (qX 4 vw.nd (qK T.D84 (qD1 T) hr rfl (qA (pv 2) qE)))
  (qD (xg PassesOwn.never rfl (jW (zV vF (pv 0) (zX qG) (zX qG))) (qz (i:=5) vw.nd rfl (Or.inl rfl)) (qD (qX 6 vw.nd (qK T.D77 (zf T) hr rfl (qA (pv 5) (qA qG qE))))
  (qD (qX 7 vw.nd (qO qq (qO qg (j6 F.plainAttrs_list F.slot_list_pop F.type_list_pop j8 (pv 6)) qG) qG))
  (qD (qX 8 vw.nd (qc (wV rfl) rfl T.b_sum rfl (qA (kN [] [] rfl (jW (jK q9 (qJ (pv 2)) (pv 7) (fun _ _=>rfl))) (fun _ _ _ _=>(qH zP (jK (xr (K:=K) rfl) (pv 0) qG (fun _ _=>rfl)) qS (qN _))) (fun _ _ _ _=>(jK (xr (K:=K) rfl) (pv 0) (kh xP qG) (fun _ _=>rfl)))) qE)))
  (qD (qX 9 vw.nd (qK T.D86 (qIn T) hr rfl (qA (pv 6) (qA (pv 7) (qA (pv 1) (qA (pv 8) qE))))))
  (qF (qd (PW.pt (j2 (ji (jO (qK T.D93 (qI4 T) hr rfl (qA (pv 2) (qA (pv 9) (qA (pv 1) (qA (pv 3) qE))))))) (jV (qH (qHt hu) (pv 2) (pv 4) (qN _))))) (qF (qL zu)) qP)))))))
  (qF (qL zu))))))),?_⟩
 try dsimp only [jc,qj]
 refine⟨_,rfl,zs,ns,1,rfl,hS,hlen,by decide,fun c1=>?_⟩
 refine⟨c1,rfl,fun re A' H1 e1 _ hre1 A0 A1=>?_⟩
 have hre:RE H1 re A':=⟨.inl hre1,A0,A1⟩
 refine⟨_,rfl,zs,ns,0,rfl,e1.seq hS,hlen,by decide,fun c0=>⟨_,rfl,c0,re,A',rfl,hre,fun tz0 ts tie H2 e2 hT hM=>?_⟩⟩
 have l3:=hM.tb.l3
 refine qM fun _ Y=>?_
 obtain⟨_,tl,ti0,zt,e0,g2,g3,g4,g5⟩:=id hT
 cases e0
 apply Y
 refine(ixT (SqT.of g2) at0 ⟨sL0,fun ti hti=>⟨sL2,fun tz htz=>?_⟩⟩)
 have w1:=qC hti (.lst [])
 have k1:upd H2 ti (.lst []) ti=some (.lst []):=qB
 generalize upd H2 ti (.lst [])=G1 at w1 k1 htz ⊢
 have w2:=qC htz (.tup [.ref tl,.ref ti])
 have k2:upd G1 tz (.tup [.ref tl,.ref ti]) tz=some (.tup [.ref tl,.ref ti]):=qB
 generalize upd G1 tz (.tup [.ref tl,.ref ti])=H3 at w2 k2 ⊢
 have e23:=w1.trans w2
 have hT3:TabF H3 (.ref tz) ts []:=⟨tz,tl,ti,zt,rfl,k2,e23 _ _ g3,g4.same e23,w2 _ _ k1⟩
 have hM3:TbG A' ts []:=⟨⟨l3,hM.tb.ms,by simp,by simp⟩,hM.gd⟩
 have hre3:=hre.same (e2.trans e23)
 have hS3:=(e1.trans (e2.trans e23)).seq hS
 clear hT hM g2 g3 g4 g5 k1 k2 w1 w2 e23
 refine⟨_,rfl,fun td htd=>?_⟩
 have w3:=qC htd (.dK [])
 have k3:upd H3 td (.dK []) td=some (.dK []):=qB
 generalize upd H3 td (.dK [])=H4 at w3 k3 ⊢
 refine⟨_,rfl,zs,ns,2,rfl,w3.seq hS3,hlen,by decide,fun c2=>⟨c2,9,rfl,by decide,by decide,fun xz xs H5 e5 hxz hxs hxl _=>?_⟩⟩
 have nre:re≠xz:=by
  rcases (hre3.same w3).1 with q | ⟨o,q⟩
  · exact qU q hxz
  · exact qU q hxz
 refine⟨_,rfl,xz,re,xs,A',9,rfl,hxs,by rw [hxl];decide,(hre3.same w3).same e5,by decide,by decide,fun v cm xs' H6 s6 hz6 _ hcf hI=>?_⟩
 have e46:Same H4 H6:=fun b u hb=>s6 b u (qU hb hxz) (e5 b u hb)
 refine⟨sL1,fun l1 h1=>⟨sL1,fun l2 h2=>⟨sL0,fun l0 h0=>⟨sL2,fun t4 h4=>?_⟩⟩⟩⟩
 have v1:=qC h1 (.lst [v])
 have m1:upd H6 l1 (.lst [v]) l1=some (.lst [v]):=qB
 generalize upd H6 l1 (.lst [v])=I1 at v1 m1 h2 h0 h4 ⊢
 have v2:=qC h2 (.lst [.ref l1])
 have m2:upd I1 l2 (.lst [.ref l1]) l2=some (.lst [.ref l1]):=qB
 generalize upd I1 l2 (.lst [.ref l1])=I2 at v2 m2 h0 h4 ⊢
 have v3:=qC h0 (.lst [])
 have m3:upd I2 l0 (.lst []) l0=some (.lst []):=qB
 generalize upd I2 l0 (.lst [])=I3 at v3 m3 h4 ⊢
 have v4:=qC h4 (.tup [.ref l2,.ref l0])
 have m4:upd I3 t4 (.tup [.ref l2,.ref l0]) t4=some (.tup [.ref l2,.ref l0]):=qB
 generalize upd I3 t4 (.tup [.ref l2,.ref l0])=I4 at v4 m4 ⊢
 have v64:=v1.trans (v2.trans (v3.trans v4))
 have k4:=(e46.trans v64) _ _ k3
 refine⟨k4,[(Sum.inr "low",.ref t4)],rfl,(by show 1≤15;decide),?_⟩
 have em:∀ x:V,qCr [] [((Sum.inr ("low":Str):Key),x)]=[(Sum.inr ("low":Str),x)]:=fun x=>by rfl
 rw [em]
 have n1:l1≠td:=(qU (e46 _ _ k3) h1).symm
 have n2:l2≠td:=(qU ((e46.trans v1) _ _ k3) h2).symm
 have n4:t4≠td:=(qU ((e46.trans (v1.trans (v2.trans v3))) _ _ k3) h4).symm
 have S5:Same H3 (upd I4 td (.dK [(Sum.inr "low",.ref t4)])):=xf (w3.trans (e46.trans v64)) htd
 have kd:upd I4 td (.dK [(Sum.inr "low",.ref t4)]) td=some (.dK [(Sum.inr "low",.ref t4)]):=qB
 have tA:TabAt (upd I4 td (.dK [(Sum.inr "low",.ref t4)])) (.ref t4) [[cm]]:=by
  refine⟨t4,l2,l0,[.ref l1],rfl,by rw [qW n4];exact m4,by rw [qW n2];exact(v3.trans v4) _ _ m2,⟨⟨l1,rfl,[v],by rw [qW n1];exact(v2.trans (v3.trans v4)) _ _ m1,.one ((hI.ts (qZ v64)).ts (qRt k4))⟩,trivial⟩⟩
 generalize upd I4 td (.dK [(Sum.inr "low",.ref t4)])=H7 at S5 kd tA ⊢
 refine⟨sL2,fun rz hrz=>?_⟩
 have w8:=qC hrz (.tup [.ref re,.ref td])
 have k8:upd H7 rz (.tup [.ref re,.ref td]) rz=some (.tup [.ref re,.ref td]):=qB
 generalize upd H7 rz (.tup [.ref re,.ref td])=H8 at w8 k8 ⊢
 have hR:RoomAt H8 rz (rmL cm):=by
  refine⟨re,td,_,k8,.inl (w8 _ _ kd),fun nm ts' h=>?_⟩
  unfold rmL at h
  split at h
  · rename_i e
    cases h
    subst e
    exact⟨.ref t4,rfl,tA.same w8⟩
  · cases h
 have S8:=S5.trans w8
 refine⟨_,rfl,tz,ts,[],rfl,hT3.same S8,by omega,fun cz H9 e9 hC=>?_⟩
 have S9:=S8.trans e9
 refine qM fun _ Y=>?_
 obtain⟨cs,hcut,hcl⟩:=qQg ns (some 3) (some 7)
 apply Y
 refine⟨_,rfl,3,rfl,7,rfl,zs,_,rfl,S9.seq hS3,fun zc hzc=>?_⟩
 rw [hcut]
 have w10:=qC hzc (.lst (cs.map V.int))
 have kc:upd H9 zc (.lst (cs.map V.int)) zc=some (.lst (cs.map V.int)):=qB
 generalize upd H9 zc (.lst (cs.map V.int))=H10 at w10 kc ⊢
 have S10:=S9.trans w10
 have hT10:=hT3.same S10
 have hC10:=hC.same w10
 have hre10:=hre3.same S10
 have hR10:=hR.same (e9.trans w10)
 clear hT3 hC hre hre3 hR tA kd S5 S8 S9 S10 hS3 v1 v2 v3 v4 m1 m2 m3 m4 v64 h1 h2 h0 h4 hI s6 hz6 e46 k4 w3 k3 e5 hxs hxz
 refine⟨zc,rfl,⟨_,SqL.of kc⟩,xI (K:=K) (a:=zc) (xs:=cs.map V.int) (fun i σ H'=>∃ (o1 o2 o3 o4 o5:Option V),σ=[some (.ref zs),some (.ref re),some (.ref tz),some (.ref rz),some (.ref cz),o1,o2,o3,o4,o5]∧Same H10 H') ⟨none,none,none,none,none,rfl,Same.refl _⟩ ?_ ?_ ?_⟩
 · rintro i σ H' hi' ⟨o1,o2,o3,o4,o5,rfl,e⟩
   exact SqL.of (e _ _ kc)
 · rintro i x σ H' hx ⟨o1,o2,o3,o4,o5,rfl,e⟩
   obtain⟨c,rfl⟩:∃ c:Int,x= .int c:=by
    rw [List.getElem?_map] at hx
    cases hq:cs[i]? with
    | none=>rw [hq] at hx;cases hx
    | some k=>rw [hq] at hx;cases hx;exact⟨k,rfl⟩
   refine⟨_,rfl,c,30,rfl,by decide,by decide,fun xz xs H5 e5 hxz hxs hxl _=>?_⟩
   refine qM fun _ Y=>?_
   obtain⟨y1,x1,rfl,l1⟩:=xA (n:=29) (by rw [hxl];decide)
   apply Y
   refine⟨_,rfl,.inl ⟨rfl,_,SqL.of hxs⟩,qE6 hxs fun H6 s6 hz6 _=>?_⟩
   have f1:=fm (x1.fdiv 3) (show (0:Int) < 3 by decide)
   refine⟨_,_,rfl,rfl,cdB (by decide) (by decide),_,_,rfl,rfl,nz,?_⟩
   dsimp only
   refine qM fun _ Y=>?_
   obtain⟨n,hn,hn3⟩:∃ n:Nat,(x1.fdiv 3).fmod 3=(n:Int)∧n < 3:=⟨((x1.fdiv 3).fmod 3).toNat,by omega,by omega⟩
   apply Y
   rw [hn]
   have e6:Same H' H6:=fun b u hb=>s6 b u (qU hb hxz) (e5 b u hb)
   have E6:Same H10 H6:=e.trans e6
   refine qM fun _ Y=>?_
   obtain⟨tl',ti',zs',z,q1,q2,q3,q5⟩:=(hT10.same E6).at (i:=n) (by omega)
   obtain⟨ms,hms⟩:∃ ms,ts[n]? =some ms:=⟨_,List.getElem?_eq_getElem (by omega)⟩
   have em:ts.getD n []=ms:=by rw [List.getD_eq_getElem?_getD,hms];rfl
   rw [em] at q5
   obtain⟨us,hz,his⟩:=id q5
   obtain⟨m17,mTM⟩:=hM3.tb.ms ms (List.mem_of_getElem? hms)
   apply Y
   refine(ixO q1 at0 ⟨_,rfl,tl',_,_,_,rfl,rfl,SqL.of q2,jJ q3,z,rfl,⟨_,SqL.of hz⟩,qN9 hz his (by omega) (fun x zi xi m Q ex hzi b0 q=>by subst ex;exact(ixO hzi b0 ⟨rfl,_,rfl,q⟩)) (fun x zi xi m Q ex hzi bl q=>by subst ex;exact⟨_,rfl,1,rfl,zi,xi,_,_,rfl,rfl,SqT.of hzi,bl,q⟩) fun D js hD hjs=>?_⟩)
   refine⟨D,js,rfl,SqL.of qB,?_⟩
   have w8:=qC hD (.lst (js.map V.int))
   generalize upd H6 D (.lst (js.map V.int))=H8' at w8 ⊢
   rw [hjs]
   have j0:0≤qV ms:=qFn ms fun m hm=>((mTM m hm).it A0 A1).2.2.1
   have E8:=E6.trans w8
   refine⟨_,rfl,_,rfl,_,rfl,_,rfl,xz,re,(n:Int),qV ms,A',y1,rfl,w8 _ _ hz6,by omega,hre10.same E8,j0,fun dz d H9' s9 hD' hG=>?_⟩
   have e9':Same H' H9':=fun b u hb=>s9 b u (qU hb hxz) ((e6.trans w8) b u hb)
   have E9:Same H10 H9':=e.trans e9'
   refine⟨_,rfl,_,rfl,_,rfl,_,rfl,tz,dz,re,rz,A',ts,n,ms,d,cm,rfl,hT10.same E9,hM3,hre10.same E9,hms,hD',hG,hcf,hR10.same E9,fun H11 e11=>?_⟩
   refine⟨true,rfl,qm ?_⟩
   have E11:=E9.trans e11
   refine⟨_,rfl,_,rfl,qRl (neg:=true) (hT10.same E11) (hC10.same E11) ⟨false,rfl,qm ?_⟩⟩
   exact⟨_,_,_,_,_,rfl,E11⟩
 rintro σ H' ⟨o1,o2,o3,o4,o5,rfl,e⟩
 exact kk _
end
structure DF (K:W.Frag)(x:Str)(st:Stmt)(f:Addr)(fd:FuncData):Prop where
 n:W.nsIn K mainGlobals x=some (some (.ref f))
 F:Fun K x x st f fd
theorem df_mk {K:W.Frag}{x:Str}{st:Stmt}{f:Addr}{oc:Value}{od an:Option Addr}{osl:Array (Option Value)}{kV doc pm cdv ct:Value}(n:W.nsIn K mainGlobals x=some (some (.ref f)))(l:K.lookup f=some ⟨oc,od,.func (W.fnOf x x (vE st) (zg st) (qI st) .none kV doc pm an cdv ct),osl⟩)(c:W.codeIn K cdv x=true)(k:W.keepIn K (.ref f)=true):DF K x st f (W.fnOf x x (vE st) (zg st) (qI st) .none kV doc pm an cdv ct):=⟨n,qQj l c k⟩
def GL (K:W.Frag)(x:Str)(v:Option Value):Prop:=W.nsIn K mainGlobals x=some v
theorem gl_mk {K:W.Frag}{x:Str}{v:Option Value}(h:W.nsIn K mainGlobals x=some v):GL K x v:=h
theorem dG {K:W.Frag}{x:Str}{st:Stmt}{f:Addr}{fd:FuncData}{h:Heap}{mg:Str→Option Value}{ps:List Str}(X:K.In h)(G:h.Ns mainGlobals mg)(d:DF K x st f fd)
 (b:∀ (kV doc pm:Value) (an:Option Addr) (cdv ct:Value) (us:List Value),us.length=ps.length→bindArgs (W.fnOf x x (vE st) (zg st) (qI st) .none kV doc pm an cdv ct) ⟨us,[]⟩=pure (ps.zip us):=by
   first | exact(fun _ _ _ _ _ _ us hl=>match us,hl with | [_],_=>rfl) | exact(fun _ _ _ _ _ _ us hl=>match us,hl with | [_,_],_=>rfl) | exact(fun _ _ _ _ _ _ us hl=>match us,hl with | [_,_,_],_=>rfl) | exact(fun _ _ _ _ _ _ us hl=>match us,hl with | [_,_,_,_],_=>rfl) | exact(fun _ _ _ _ _ _ us hl=>match us,hl with | [_,_,_,_,_],_=>rfl)):L3.Def K mg x st ps f fd:=⟨d.F,d.F.binds b,W.mg_of X G d.n⟩
theorem all_mk {l:W.OpenLaw}{w:World}{K:W.Frag}{h:Heap}{mg:Str→Option Value}{fa f0 f1 f2 f3 f4 f5 f6 f7 f8 f9 f10 f11 f12 f13 f14 f15 f16 f17 f18 f19 f20 f21 f22 f23 f24 f25 f26 f27 f28 f29 f30 f31 f32 f33 f34 f35 f36 f37 f38 f39 f40 f41 f42 f43 f44 f45 f46 f47 f48 f49 f50 f51 f52 f53 f54 f55 f56 f57 f58 f59 f60 f61 f62 f63 f64 f65 f66 f67 f68 f69 f70 f71 f72 f73 f74 f75 f76 f77 f78 f79 f80 f81 f82 f83 f84 f85 f86 f87 f88 f89 f90 f91 f92 f93 f94 C0 C1 C2 C3 C4 C5 nNOUGHT nROLLS nLAYS nPUSHES nCHANGES nWHOLE_SHARE fmShort:Addr}{g0 g1 g2 g3 g4 g5 g6 g7 g8 g9 g10 g11 g12 g13 g14 g15 g16 g17 g18 g19 g20 g21 g22 g23 g24 g25 g26 g27 g28 g29 g30 g31 g32 g33 g34 g35 g36 g37 g38 g39 g40 g41 g42 g43 g44 g45 g46 g47 g48 g49 g50 g51 g52 g53 g54 g55 g56 g57 g58 g59 g60 g61 g62 g63 g64 g65 g66 g67 g68 g69 g70 g71 g72 g73 g74 g75 g76 g77 g78 g79 g80 g81 g82 g83 g84 g85 g86 g87 g88 g89 g90 g91 g92 g93 g94:FuncData}(X:K.In h)(G:h.Ns mainGlobals mg)(hfa:mg "law"=some (.ref fa))
 {odNOUGHT odROLLS odLAYS odPUSHES odCHANGES odWHOLE_SHARE odmShort anmShort:Option Addr} {slNOUGHT slROLLS slLAYS slPUSHES slCHANGES slWHOLE_SHARE slmShort:Array (Option Value)} {ocmShort kVmShort dcmShort pmmShort cdmShort ctmShort:Value} {tLETTERS tLONGEST_NAME tMOST_ROOM tNOUGHT_0 tNOUGHT_1 tMOST_BY tROLLS_0 tROLLS_1 tROLLS_2 tLAYS_0 tLAYS_1 tPUSHES_0 tPUSHES_1 tPUSHES_2 tCHANGES_0 tCHANGES_1 tCHANGES_2 tCHANGES_3 tCHANGES_4 tCHANGES_5 tWHOLE_SHARE_0 tWHOLE_SHARE_1:Tok} {nnNOUGHT nnROLLS nnLAYS nnPUSHES nnCHANGES nnWHOLE_SHARE:Nat}
 (h0:DF K "is_whole" qAp f0 g0)
 (h1:DF K "common_divisor" xt f1 g1)
 (h2:DF K "is_fraction" kK f2 g2)
 (h3:DF K "fraction" qA9 f3 g3)
 (h4:DF K "sum_of" qFi f4 g4)
 (h5:DF K "less_by" qCo f5 g5)
 (h6:DF K "times_of" qAz f6 g6)
 (h7:DF K "quotient" qAt f7 g7)
 (h8:DF K "is_before" wI f8 g8)
 (h9:DF K "floor_of" qAj f9 g9)
 (h10:DF K "is_name" qDu f10 g10)
 (h11:DF K "has_clip_form" zD f11 g11)
 (h12:DF K "place_at" qAy f12 g12)
 (h13:DF K "picture_at" vA f13 g13)
 (h14:DF K "is_there" qA3 f14 g14)
 (h15:DF K "check_clip" ku f15 g15)
 (h16:DF K "clip_part" wG f16 g16)
 (h17:DF K "goes_on" qGw f17 g17)
 (h18:DF K "moments_there" zK f18 g18)
 (h19:DF K "head_room" wE f19 g19)
 (h20:DF K "tail_room" wF f20 g20)
 (h21:DF K "is_length" wK f21 g21)
 (h22:DF K "has_nest_form" zE f22 g22)
 (h23:DF K "moments_of" kr f23 g23)
 (h24:DF K "one_form" qBb f24 g24)
 (h25:DF K "length_of" wS f25 g25)
 (h26:DF K "borders_of" vH f26 g26)
 (h27:DF K "item_at" qDz f27 g27)
 (h28:DF K "kind_at" qCn f28 g28)
 (h29:DF K "place_ahead" kO f29 g29)
 (h30:DF K "place_behind" vt f30 g30)
 (h31:DF K "neighbours_at" zF f31 g31)
 (h32:DF K "clips_at_border" xS f32 g32)
 (h33:DF K "lies_within" kW f33 g33)
 (h34:DF K "item_part" wQ f34 g34)
 (h35:DF K "part_of_track" zL f35 g35)
 (h36:DF K "part_ahead" vT f36 g36)
 (h37:DF K "part_behind" kE f37 g37)
 (h38:DF K "mix_spans" wM f38 g38)
 (h39:DF K "mix_shares" vJ f39 g39)
 (h40:DF K "mix_at" qF1 f40 g40)
 (h41:DF K "told_in_mix" kH f41 g41)
 (h42:DF K "taken_at_begin" xu f42 g42)
 (h43:DF K "taken_at_end" ze f43 g43)
 (h44:DF K "most_mix" qA2 f44 g44)
 (h45:DF K "check_place" kL f45 g45)
 (h46:DF K "check_by" qE0 f46 g46)
 (h47:DF K "clip_there" qBr f47 g47)
 (h48:DF K "clip_and_sides" kZ f48 g48)
 (h49:DF K "places_named" vy f49 g49)
 (h50:DF K "has_mix" qH1 f50 g50)
 (h51:DF K "check_short" wc f51 g51)
 (h52:DF K "most_slip" qC2 f52 g52)
 (h53:DF K "most_roll" qDa f53 g53)
 (h54:DF K "slipped" qHe f54 g54)
 (h55:DF K "with_rolled_ends" zU f55 g55)
 (h56:DF K "table_with" vM f56 g56)
 (h57:DF K "rolled" qLd f57 g57)
 (h58:DF K "stretch_of" km f58 g58)
 (h59:DF K "laid_by" qC9 f59 g59)
 (h60:DF K "laid_on_tied" zn f60 g60)
 (h61:DF K "tracks_changed" xo f61 g61)
 (h62:DF K "check_numbers" zJ f62 g62)
 (h63:DF K "touches_mix" kU f63 g63)
 (h64:DF K "check_mixes" kC f64 g64)
 (h65:DF K "check_change" zY f65 g65)
 (h66:DF K "nest_goes_on" vq f66 g66)
 (h67:DF K "can_heal" qEr f67 g67)
 (h68:DF K "healed" qLb f68 g68)
 (h69:DF K "mixed" qJ2 f69 g69)
 (h70:DF K "unmixed" qIs f70 g70)
 (h71:DF K "relaid" qGg f71 g71)
 (h72:DF K "changed" qDf f72 g72)
 (h73:DF K "deed_done" wN f73 g73)
 (h74:DF K "told_on" qD0 f74 g74)
 (h75:DF K "told_at" ww f75 g75)
 (h76:DF K "_law_cell_at" zo f76 g76)
 (h77:DF K "_law_stream" kR f77 g77)
 (h78:DF K "_law_lowest" kG f78 g78)
 (h79:DF K "_law_clip" kF f79 g79)
 (h80:DF K "_law_track" kx f80 g80)
 (h81:DF K "_law_reels" vB f81 g81)
 (h82:DF K "_law_mixed" vL f82 g82)
 (h83:DF K "_law_table" vD f83 g83)
 (h84:DF K "_law_copied" kJ f84 g84)
 (h85:DF K "_law_told" wR f85 g85)
 (h86:DF K "_law_deed" wL f86 g86)
 (h87:DF K "_law_stretch" zj f87 g87)
 (h88:DF K "_law_touched" zh f88 g88)
 (h89:DF K "_law_due" qA5 f89 g89)
 (h90:DF K "_law_put" qAe f90 g90)
 (h91:DF K "_law_long" wO f91 g91)
 (h92:DF K "_law_without_end" xL f92 g92)
 (h93:DF K "_law_one" qAr f93 g93)
 (h94:DF K "law" qRj f94 g94)
 (xg0:GL K "CutError" (some (.ref C0)))
 (xg1:GL K "NoNumber" (some (.ref C1)))
 (xg2:GL K "NoClip" (some (.ref C2)))
 (xg3:GL K "NoPlace" (some (.ref C3)))
 (xg4:GL K "Mixed" (some (.ref C4)))
 (xg5:GL K "Short" (some (.ref C5)))
 (x_NoClip:L3.OwnX K C2)
 (x_NoPlace:L3.OwnX K C3)
 (x_Mixed:L3.OwnX K C4)
 (yPP:W.exmOne K (.ref C3) (.ref C3)=some true)
 (yMM:W.exmOne K (.ref C4) (.ref C4)=some true)
 (xz0:GL K "isinstance" none)
 (xz1:GL K "int" none)
 (xz2:GL K "bool" none)
 (xz3:GL K "abs" none)
 (xz4:GL K "tuple" none)
 (xz5:GL K "len" none)
 (xz6:GL K "all" none)
 (xz7:GL K "str" none)
 (xz8:GL K "min" none)
 (xz9:GL K "sum" none)
 (xz10:GL K "enumerate" none)
 (xz11:GL K "max" none)
 (xz12:GL K "zip" none)
 (xz13:GL K "list" none)
 (xz14:GL K "any" none)
 (xz15:GL K "range" none)
 (xcLETTERS:GL K "LETTERS" (some (.str "abcdefghijklmnopqrstuvwxyz" tLETTERS)))
 (xcLONGEST_NAME:GL K "LONGEST_NAME" (some (.int 8 tLONGEST_NAME)))
 (xcMOST_ROOM:GL K "MOST_ROOM" (some (.int 1000000 tMOST_ROOM)))
 (xcNOUGHT:GL K "NOUGHT" (some (.ref nNOUGHT))) (xlNOUGHT:K.lookup nNOUGHT=some ⟨.type "tuple",odNOUGHT,.seq #[.int 0 tNOUGHT_0,.int 1 tNOUGHT_1] nnNOUGHT,slNOUGHT⟩)
 (xcMOST_BY:GL K "MOST_BY" (some (.int 1000000 tMOST_BY)))
 (xcROLLS:GL K "ROLLS" (some (.ref nROLLS))) (xlROLLS:K.lookup nROLLS=some ⟨.type "tuple",odROLLS,.seq #[.str "roll" tROLLS_0,.str "slip" tROLLS_1,.str "slide" tROLLS_2] nnROLLS,slROLLS⟩)
 (xcLAYS:GL K "LAYS" (some (.ref nLAYS))) (xlLAYS:K.lookup nLAYS=some ⟨.type "tuple",odLAYS,.seq #[.str "lay_in" tLAYS_0,.str "lay_over" tLAYS_1] nnLAYS,slLAYS⟩)
 (xcPUSHES:GL K "PUSHES" (some (.ref nPUSHES))) (xlPUSHES:K.lookup nPUSHES=some ⟨.type "tuple",odPUSHES,.seq #[.str "lay_in" tPUSHES_0,.str "open" tPUSHES_1,.str "close" tPUSHES_2] nnPUSHES,slPUSHES⟩)
 (xcCHANGES:GL K "CHANGES" (some (.ref nCHANGES))) (xlCHANGES:K.lookup nCHANGES=some ⟨.type "tuple",odCHANGES,.seq #[.str "cut" tCHANGES_0,.str "lay_in" tCHANGES_1,.str "open" tCHANGES_2,.str "close" tCHANGES_3,.str "lift" tCHANGES_4,.str "lay_over" tCHANGES_5] nnCHANGES,slCHANGES⟩)
 (xcWHOLE_SHARE:GL K "WHOLE_SHARE" (some (.ref nWHOLE_SHARE))) (xlWHOLE_SHARE:K.lookup nWHOLE_SHARE=some ⟨.type "tuple",odWHOLE_SHARE,.seq #[.int 1 tWHOLE_SHARE_0,.int 1 tWHOLE_SHARE_1] nnWHOLE_SHARE,slWHOLE_SHARE⟩)
 (iaShort:W.findIn K (.ref C5) "__init__"=some (some (.ref fmShort))) (ilShort:K.lookup fmShort=some ⟨ocmShort,odmShort,.func (W.fnOf "__init__" "Short.__init__" (vE vY) (zg vY) (qI vY) .none kVmShort dcmShort pmmShort anmShort cdmShort ctmShort),slmShort⟩) (icShort:W.codeIn K cdmShort "Short.__init__"=true) (ikShort:W.keepIn K (.ref fmShort)=true) (ifShort:W.isFn K (.ref fmShort)=true)
 (ivShort:L3.exOver K C5 C0=true) (ihShort:W.hasDictIn K C5=true) (isShort:W.findIn K (.ref C5) "__setattr__"=some (some (.builtin "object.__setattr__"))) (ixShort:L3.excInitIn K C5 fmShort=true) (itShort:W.takerIn K C5 "most"=some none)
 :∃ fd:FuncData,(∀ (s:Shared) (v:Value),BindsTo s fd ⟨[v],[]⟩ [("_law_script",v)])∧∀ base:Heap,K.In base→base.Ns mainGlobals mg→FnOk l.prog w K mg base CX0 14 fa fd ["_law_script"] (qPc K):=by
 have e:=hfa.symm.trans (W.mg_of X G h94.n)
 obtain rfl:f94=fa:=by cases e;rfl
 obtain⟨_,_,_,_,_,_,_,_,_,rfl,_,_⟩:=h94.F.ex
 have FmShort:=qQj (st:=vY) ilShort icShort ikShort
 have bmShort:=FmShort.binds (ps:=["self","most"]) fun _ _ _ _ _ _ us hl=>match us,hl with | [_,_],_=>rfl
 have T:Tx K mg ⟨f0,_,f1,_,f2,_,f3,_,f4,_,f5,_,f6,_,f7,_,f8,_,f9,_,f10,_,f11,_,f12,_,f13,_,f14,_,f15,_,f16,_,f17,_,f18,_,f19,_,f20,_,f21,_,f22,_,f23,_,f24,_,f25,_,f26,_,f27,_,f28,_,f29,_,f30,_,f31,_,f32,_,f33,_,f34,_,f35,_,f36,_,f37,_,f38,_,f39,_,f40,_,f41,_,f42,_,f43,_,f44,_,f45,_,f46,_,f47,_,f48,_,f49,_,f50,_,f51,_,f52,_,f53,_,f54,_,f55,_,f56,_,f57,_,f58,_,f59,_,f60,_,f61,_,f62,_,f63,_,f64,_,f65,_,f66,_,f67,_,f68,_,f69,_,f70,_,f71,_,f72,_,f73,_,f74,_,f75,_,f76,_,f77,_,f78,_,f79,_,f80,_,f81,_,f82,_,f83,_,f84,_,f85,_,f86,_,f87,_,f88,_,f89,_,f90,_,f91,_,f92,_,f93,_,f94,_,C0,C1,C2,C3,C4,C5,tLETTERS,tLONGEST_NAME,tMOST_ROOM,nNOUGHT,tMOST_BY,nROLLS,nLAYS,nPUSHES,nCHANGES,nWHOLE_SHARE,fmShort,_⟩:=⟨dG X G h0,dG X G h1,dG X G h2,dG X G h3,dG X G h4,dG X G h5,dG X G h6,dG X G h7,dG X G h8,dG X G h9,dG X G h10,dG X G h11,dG X G h12,dG X G h13,dG X G h14,dG X G h15,dG X G h16,dG X G h17,dG X G h18,dG X G h19,dG X G h20,dG X G h21,dG X G h22,dG X G h23,dG X G h24,dG X G h25,dG X G h26,dG X G h27,dG X G h28,dG X G h29,dG X G h30,dG X G h31,dG X G h32,dG X G h33,dG X G h34,dG X G h35,dG X G h36,dG X G h37,dG X G h38,dG X G h39,dG X G h40,dG X G h41,dG X G h42,dG X G h43,dG X G h44,dG X G h45,dG X G h46,dG X G h47,dG X G h48,dG X G h49,dG X G h50,dG X G h51,dG X G h52,dG X G h53,dG X G h54,dG X G h55,dG X G h56,dG X G h57,dG X G h58,dG X G h59,dG X G h60,dG X G h61,dG X G h62,dG X G h63,dG X G h64,dG X G h65,dG X G h66,dG X G h67,dG X G h68,dG X G h69,dG X G h70,dG X G h71,dG X G h72,dG X G h73,dG X G h74,dG X G h75,dG X G h76,dG X G h77,dG X G h78,dG X G h79,dG X G h80,dG X G h81,dG X G h82,dG X G h83,dG X G h84,dG X G h85,dG X G h86,dG X G h87,dG X G h88,dG X G h89,dG X G h90,dG X G h91,dG X G h92,dG X G h93,dG X G h94,W.mg_of X G xg0,W.mg_of X G xg1,W.mg_of X G xg2,W.mg_of X G xg3,W.mg_of X G xg4,W.mg_of X G xg5,W.mg_none_of X G xz0,W.mg_none_of X G xz1,W.mg_none_of X G xz2,W.mg_none_of X G xz3,W.mg_none_of X G xz4,W.mg_none_of X G xz5,W.mg_none_of X G xz6,W.mg_none_of X G xz7,W.mg_none_of X G xz8,W.mg_none_of X G xz9,W.mg_none_of X G xz10,W.mg_none_of X G xz11,W.mg_none_of X G xz12,W.mg_none_of X G xz13,W.mg_none_of X G xz14,W.mg_none_of X G xz15,W.mg_of X G xcLETTERS,W.mg_of X G xcLONGEST_NAME,W.mg_of X G xcMOST_ROOM,W.mg_of X G xcNOUGHT,fun H=>.inr ⟨_,_,_,xlNOUGHT,rfl,rfl,by show 2≤sizeLine;decide,.cons ⟨_,rfl⟩ (.cons ⟨_,rfl⟩ (.nil))⟩,W.mg_of X G xcMOST_BY,W.mg_of X G xcROLLS,fun H=>.inr ⟨_,_,_,xlROLLS,rfl,rfl,by show 3≤sizeLine;decide,.cons ⟨_,rfl⟩ (.cons ⟨_,rfl⟩ (.cons ⟨_,rfl⟩ (.nil)))⟩,W.mg_of X G xcLAYS,fun H=>.inr ⟨_,_,_,xlLAYS,rfl,rfl,by show 2≤sizeLine;decide,.cons ⟨_,rfl⟩ (.cons ⟨_,rfl⟩ (.nil))⟩,W.mg_of X G xcPUSHES,fun H=>.inr ⟨_,_,_,xlPUSHES,rfl,rfl,by show 3≤sizeLine;decide,.cons ⟨_,rfl⟩ (.cons ⟨_,rfl⟩ (.cons ⟨_,rfl⟩ (.nil)))⟩,W.mg_of X G xcCHANGES,fun H=>.inr ⟨_,_,_,xlCHANGES,rfl,rfl,by show 6≤sizeLine;decide,.cons ⟨_,rfl⟩ (.cons ⟨_,rfl⟩ (.cons ⟨_,rfl⟩ (.cons ⟨_,rfl⟩ (.cons ⟨_,rfl⟩ (.cons ⟨_,rfl⟩ (.nil))))))⟩,W.mg_of X G xcWHOLE_SHARE,fun H=>.inr ⟨_,_,_,xlWHOLE_SHARE,rfl,rfl,by show 2≤sizeLine;decide,.cons ⟨_,rfl⟩ (.cons ⟨_,rfl⟩ (.nil))⟩,x_NoClip,x_NoPlace,x_Mixed,yPP,yMM,FmShort,bmShort,⟨ivShort,ihShort,isShort,ixShort,ifShort⟩,itShort⟩
 exact⟨_,fun s v=>.of_eq rfl,fun base _ _=>qT2 T⟩
theorem walk {l:W.OpenLaw}{q:Program}{loose:List Str}{XP:(Str→Option Value)→Heap→Prop}{YP:World→Heap→Prop}{d:DefRec}{K:Params→W.Frag}(hn:l.most=some 63)(hdf:d.params.defaults=[])
 (hY:∀ (w:World) (h:Heap),YP w h→(K w.params).In h)
 (F:∀ (w:World) (mg:Str→Option Value) (fa:Addr) (h:Heap),(K w.params).In h→h.Ns mainGlobals mg→mg d.name=some (.ref fa)→
   ∃ fd:FuncData,(∀ (s:Shared) (u:Value),BindsTo s fd ⟨[u],[]⟩ [("_law_script",u)])∧∀ base:Heap,(K w.params).In base→base.Ns mainGlobals mg→FnOk l.prog w (K w.params) mg base CX0 14 fa fd ["_law_script"] (qPc (K w.params))):
 W.WalkO q loose XP YP l.row.toRowW d [] (fun f vs=>PySem.call f vs):=
 L2.walk_of (n:=63) (k:=14) (x:="_law_script") (CX:=fun _=>CX0) (sp:=fun w=>qPc (K w.params)) hn (by decide) hdf ⟨rfl,by decide,by decide⟩ hY F (fun _ _ a ns hl _ hS=>⟨a,ns,rfl,hS,hl,fun _=>rfl⟩) fun _ _ _ _ _ z=>z
end Lw
namespace PySem.W.Fast
def tw2153163143881127392 := ()
def tw7014047675751056833 := ()
def tw1402544730060525763 := ()
def tw5985169137813925059 := ()
def tw5931004059401675395 := ()
def tw15746259401940229412 := ()
def tw6902421310438720197 := ()
def tw17849182677978903846 := ()
def tw12109794438336621511 := ()
def tw12049193131152557033 := ()
def tw18330457651838222698 := ()
def tw12184752289495664079 := ()
def tw4092135881168724591 := ()
def tw17352574359036313231 := ()
def tw6512529085633164047 := ()
def tw9840024979406400335 := ()
def tw14382486188995603088 := ()
def tw16213174447214202736 := ()
def tw3175207806288494642 := ()
def tw2874197741449376882 := ()
def tw652786851371565811 := ()
def tw4821730080827930710 := ()
def tw10170831658413226358 := ()
def tw13607978609001621688 := ()
def tw9270351050694510393 := ()
def tw9534715531788800410 := ()
def tw13879166926566474395 := ()
def tw8753129448486075452 := ()
def tw3010286479350840316 := ()
def tw3992833807822040637 := ()
def tw3444707287495478238 := ()
def tw6470831432093082175 := ()
def tw2768085724628624063 := ()
def tw9280330426293175439 := ()
def tw9695168925365221808 := ()
def tw5746377487946692421 := ()
def tw11767416769273098958 := ()
def tw1204644051107850689 := ()
def tw4608221302015281262 := ()
def tw5819763594451029538 := ()
def tw14878649017363565117 := ()
def tw131184591751089377 := ()
def tw1851778680101560829 := ()
def tw14941244617568257500 := ()
def tw12942540880043450396 := ()
def tw8353430047200196090 := ()
def tw9999152697350581294 := ()
def tw8518039095631774671 := ()
def tw16278719449618948252 := ()
def tw6267404254661753028 := ()
def tw3040465630766664886 := ()
def tw2934920544227985270 := ()
def tw5843470430895608571 := ()
def tw16401782695220871121 := ()
def tw2346625497802030664 := ()
def tw3670296848649454502 := ()
def tw9074490807069178338 := ()
def tw11390161577569628697 := ()
def tw15248719504086407588 := ()
def tw10497751108488832900 := ()
def tw931541870382828617 := ()
def tw10827489479236431953 := ()
def tw4868216669219945240 := ()
def tw1064012369925284059 := ()
def tw17528358317099094064 := ()
def tw13764445070430148970 := ()
def tw6386094626264532010 := ()
def tw11575323455056130857 := ()
def tw16457216420779228417 := ()
def tw2797506124655053326 := ()
def tw5992704746386143637 := ()
def tw18312932831012495595 := ()
def tw14307434429346669583 := ()
def tw10317866188194347776 := ()
def tw4961898893194674850 := ()
def tw10946377395420578673 := ()
def tw15376226499333215036 := ()
def tw6654564403853340890 := ()
def tw3640999547162440150 := ()
def tw17207365460454848064 := ()
def tw3087784633012261484 := ()
def tw13939750204120275875 := ()
def tw15369976489068196622 := ()
def tw8657340193809006296 := ()
def tw12060794993841270831 := ()
def tw1648874407548622427 := ()
def tw9573602139402866458 := ()
def tw2350737045189401748 := ()
def tw4216170765474693662 := ()
def tw15641041904764207167 := ()
def tw1288120964079840093 := ()
def tw16514267331158125173 := ()
def tw3075266155221217970 := ()
def tw6073474545459011471 := ()
def tw14129587318780865323 := ()
def tw10770760637513498954 := ()
def tw3545502772062325822 := ()
def tw16678521968176672469 := ()
def tw14649649459743197894 := ()
def tw9413361311206582674 := ()
def tw4428910595918089047 := ()
def tw10944902960271846496 := ()
def tw5763132304686205747 := ()
def tw1146681705975925223 := ()
def tw7995067964164621927 := ()
def tw9346803036310972171 := ()
def tw108481612481248001 := ()
def tw1944658055626722505 := ()
def tw11167808072095471 := ()
def tw10619395170757874324 := ()
def tw17873358545850729146 := ()
def tw2637080657514425657 := ()
def tw2383687367101917478 := ()
def tw14875237743287040283 := ()
def tw1005767811716554179 := ()
def tw17303079413851399172 := ()
def tw8225635012627115767 := ()
def tw997400888905863935 := ()
def tw967401930847288049 := ()
def tw1656925154683096120 := ()
def tw10579789095566415058 := ()
def tw9878692758654205587 := ()
def tw12311794942339471901 := ()
def tw8463991928795207241 := ()
def tw14369087007297088698 := ()
def tw6426658597588448555 := ()
def tw3457063157809619079 := ()
def tw1382146650997320613 := ()
def tw3067374117922256435 := ()
def tw15639676677206178923 := ()
def tw12526935997849624705 := ()
def tw18153147528271104949 := ()
def tw9669234278138031690 := ()
def tw7091315213749921234 := ()
def tw1796073752462967594 := ()
def tw17102771972991138454 := ()
def tw2600462027429744996 := ()
def tw14541154120820203044 := ()
def tw14151869596683757626 := ()
def tw6189722183561065407 := ()
def tw12813725299893005745 := ()
def tw2333053777319936687 := ()
def tw14178685352286416545 := ()
def tw7670419584604893099 := ()
def tw5032551958883816293 := ()
def tw3982745003697843709 := ()
def tw18273910333237132572 := ()
def tw6720688384898612568 := ()
def tw12344406709118682149 := ()
def tw6838544667630541528 := ()
def tw4873135166272372712 := ()
def tw300334771938016168 := ()
def tw2519904564540577460 := ()
def tw9015064897896919722 := ()
def tw14211949099222452135 := ()
def tw15613577778202906317 := ()
def tw4921265639430725183 := ()
def tw17554841552868791186 := ()
def tw878921039748648507 := ()
def tw18424952445881292398 := ()
def tw9008852678995890082 := ()
def tw5913828289193979673 := ()
def tw14462891237594523512 := ()
def tw9357464548385960858 := ()
def tw7212203337293815030 := ()
def tw4188143894853748146 := ()
def tw6707572267565741107 := ()
def tw10265364191474663774 := ()
def tw7062881839204162523 := ()
def tw2112717998010351792 := ()
def tw9952261828073594566 := ()
def tw10573376412595597273 := ()
def tw4071180095159561879 := ()
def tw2571387925751320711 := ()
def tw12342642689004808583 := ()
def tw721619329105903583 := ()
def tw13514893692330252081 := ()
def tw2738837529718416625 := ()
def tw7005992161925862176 := ()
def tw9535294234829199382 := ()
def tw9868684043865473569 := ()
def tw5263828733333499855 := ()
def tw7641513974510681792 := ()
def tw4337587178595775659 := ()
def tw16284526038209756463 := ()
def tw15175740969790231147 := ()
def tw570711263463682069 := ()
def tw15673603311095717658 := ()
def tw17507113750152135449 := ()
def tw15286637580729683820 := ()
def tw17842357393373125952 := ()
def tw9942231031991544234 := ()
def tw7776836385455432022 := ()
def tw7232760471610074505 := ()
def tw15443470923155692526 := ()
def tw16584904460393016354 := ()
def tw17166136847535816829 := ()
def tw17529946325131184805 := ()
def tw11351376468051113157 := ()
def tw6527212261356769961 := ()
def tw2169221521196829094 := ()
def tw17795692185911254816 := ()
def tw5409775891342535802 := ()
def tw16754210985871540236 := ()
def tw16831072611792291481 := ()
def tw17327480069940808990 := ()
def tw4600787511916587487 := ()
def tw2640881298778663704 := ()
def tw10589293655049278374 := ()
def tw4801722982881743359 := ()
def tw10139740085658709449 := ()
def tw2166346419130397151 := ()
def tw9135227438587233503 := ()
def tw14068065856671164335 := ()
def tw4479333371961763112 := ()
def tw4615341921683382793 := ()
def tw10420389048704690099 := ()
def tw262474433604942589 := ()
def tw9334689362897783215 := ()
def tw10266285985232585957 := ()
def tw1575901437612727369 := ()
def tw315425271111945693 := ()
def tw7151090973928631926 := ()
def tw12283030887790156474 := ()
def tw15903031320577110519 := ()
def tw13341897687204913821 := ()
def tw3613164092912924362 := ()
def tw7458154452678754167 := ()
def tw17147029844106531670 := ()
def tw16576915099755667972 := ()
def tw16233282844810822999 := ()
def tw9904951615608121991 := ()
def tw3267220264347207235 := ()
def tw4633952746986508230 := ()
def tw11720754344665571371 := ()
def tw2094679168197367388 := ()
def tw4532033073376948017 := ()
def tw6581515007794286460 := ()
def tw1430345541842884053 := ()
def tw9118993642119259565 := ()
def tw7896441763765702941 := ()
def tw12790031076260124817 := ()
def tw14355608913159175915 := ()
def tw649424467635288709 := ()
def tw7734790015374888541 := ()
def tw5918577731486813743 := ()
def tw12849664538672528824 := ()
def tw13198459202044853428 := ()
def tw9156222138106560762 := ()
def tw788179092492423550 := ()
def tw13373106666158626042 := ()
def tw13555927325684152936 := ()
def tw9930603943417580483 := ()
def tw12160242085046112415 := ()
def tw13974003043636924337 := ()
def tw5956178917798223910 := ()
def tw8763041686593138993 := ()
def tw14792769303025860444 := ()
def tw13764376186778631881 := ()
def tw298800276342388250 := ()
def tw10130122272110456315 := ()
def tw6220602008476111200 := ()
def tw12401754375596718058 := ()
def tw16922202342169427021 := ()
def tw5218028812168458631 := ()
def tw14031851864393880942 := ()
def tw14912848405679825867 := ()
def tw13393901750343421185 := ()
def tw15178988351370914005 := ()
def tw6604642923303905624 := ()
def tw13384152626663631398 := ()
def tw10519973851644921613 := ()
def tw8184252208528488623 := ()
def tw16539264228575622464 := ()
def tw16678380493985066518 := ()
def tw12389087259501231337 := ()
def tw5303659689625862524 := ()
def tw11174495457346551148 := ()
def tw127994891603568905 := ()
def tw6997336840751342009 := ()
def tw8334039407951337623 := ()
def tw16871264432997904131 := ()
def tw14526245191340315325 := ()
def tw5461892609072914768 := ()
def tw868746624235986242 := ()
def tw15847631521998187015 := ()
def tw4600379082013792669 := ()
def tw10326126820666368458 := ()
def tw6755884317649527470 := ()
def tw9786856444140156174 := ()
def tw4135201126566707104 := ()
def tw3668742708397366223 := ()
def tw14575913939494128997 := ()
def tw17243552858240629560 := ()
def tw4136185337702113172 := ()
def tw16495857570886788627 := ()
def tw9235668003490368263 := ()
def tw603467133730431544 := ()
def tw18368739346346968578 := ()
def tw10983665781295472148 := ()
def tw14360956777411397239 := ()
def tw11097963288376621825 := ()
def tw6348150213508090657 := ()
def tw11371214892818406090 := ()
def tw8410625006151630423 := ()
def tw4580479721313833801 := ()
def tw11353933329940378823 := ()
def tw5418435194345706090 := ()
def tw2743594649918182483 := ()
def tw519898373455756436 := ()
def tw2499792517454510058 := ()
def tw5949741357807424776 := ()
def tw12547949514694455951 := ()
def tw10886080974717799100 := ()
def tw198967336777900190 := ()
def tw5634165499250647268 := ()
def tw16725744384584159742 := ()
def tw16847535061534420375 := ()
def tw3577554504243812276 := ()
def tw305460168298343549 := ()
end PySem.W.Fast
open PySem PySem.W PyProof.Rows
set_option maxRecDepth 100000 in
set_option maxHeartbeats 0 in
theorem PySem.Challenge.cw_reelcut_k46_stretches_told_holds : PySem.Challenge.rw_reelcut_k46_stretches_told.Holds := by
 w_on;o_law;k_head;(case hw=>w_witness2)
 k_fill
 refine Lw.walk (l:=PySem.Challenge.rw_reelcut_k46_stretches_told) rfl rfl (fun w h Y=>PySem.W.kIn_of Y) ?F
 case F=>
  intro w mg fa h KX G hmg
  refine' Lw.all_mk KX G hmg (Lw.df_mk ?a0 ?l0 ?c0 ?k0) (Lw.df_mk ?a1 ?l1 ?c1 ?k1) (Lw.df_mk ?a2 ?l2 ?c2 ?k2) (Lw.df_mk ?a3 ?l3 ?c3 ?k3) (Lw.df_mk ?a4 ?l4 ?c4 ?k4) (Lw.df_mk ?a5 ?l5 ?c5 ?k5) (Lw.df_mk ?a6 ?l6 ?c6 ?k6) (Lw.df_mk ?a7 ?l7 ?c7 ?k7) (Lw.df_mk ?a8 ?l8 ?c8 ?k8) (Lw.df_mk ?a9 ?l9 ?c9 ?k9) (Lw.df_mk ?a10 ?l10 ?c10 ?k10) (Lw.df_mk ?a11 ?l11 ?c11 ?k11) (Lw.df_mk ?a12 ?l12 ?c12 ?k12) (Lw.df_mk ?a13 ?l13 ?c13 ?k13) (Lw.df_mk ?a14 ?l14 ?c14 ?k14) (Lw.df_mk ?a15 ?l15 ?c15 ?k15) (Lw.df_mk ?a16 ?l16 ?c16 ?k16) (Lw.df_mk ?a17 ?l17 ?c17 ?k17) (Lw.df_mk ?a18 ?l18 ?c18 ?k18) (Lw.df_mk ?a19 ?l19 ?c19 ?k19) (Lw.df_mk ?a20 ?l20 ?c20 ?k20) (Lw.df_mk ?a21 ?l21 ?c21 ?k21) (Lw.df_mk ?a22 ?l22 ?c22 ?k22) (Lw.df_mk ?a23 ?l23 ?c23 ?k23) (Lw.df_mk ?a24 ?l24 ?c24 ?k24) (Lw.df_mk ?a25 ?l25 ?c25 ?k25) (Lw.df_mk ?a26 ?l26 ?c26 ?k26) (Lw.df_mk ?a27 ?l27 ?c27 ?k27) (Lw.df_mk ?a28 ?l28 ?c28 ?k28) (Lw.df_mk ?a29 ?l29 ?c29 ?k29) (Lw.df_mk ?a30 ?l30 ?c30 ?k30) (Lw.df_mk ?a31 ?l31 ?c31 ?k31) (Lw.df_mk ?a32 ?l32 ?c32 ?k32) (Lw.df_mk ?a33 ?l33 ?c33 ?k33) (Lw.df_mk ?a34 ?l34 ?c34 ?k34) (Lw.df_mk ?a35 ?l35 ?c35 ?k35) (Lw.df_mk ?a36 ?l36 ?c36 ?k36) (Lw.df_mk ?a37 ?l37 ?c37 ?k37) (Lw.df_mk ?a38 ?l38 ?c38 ?k38) (Lw.df_mk ?a39 ?l39 ?c39 ?k39) (Lw.df_mk ?a40 ?l40 ?c40 ?k40) (Lw.df_mk ?a41 ?l41 ?c41 ?k41) (Lw.df_mk ?a42 ?l42 ?c42 ?k42) (Lw.df_mk ?a43 ?l43 ?c43 ?k43) (Lw.df_mk ?a44 ?l44 ?c44 ?k44) (Lw.df_mk ?a45 ?l45 ?c45 ?k45) (Lw.df_mk ?a46 ?l46 ?c46 ?k46) (Lw.df_mk ?a47 ?l47 ?c47 ?k47) (Lw.df_mk ?a48 ?l48 ?c48 ?k48) (Lw.df_mk ?a49 ?l49 ?c49 ?k49) (Lw.df_mk ?a50 ?l50 ?c50 ?k50) (Lw.df_mk ?a51 ?l51 ?c51 ?k51) (Lw.df_mk ?a52 ?l52 ?c52 ?k52) (Lw.df_mk ?a53 ?l53 ?c53 ?k53) (Lw.df_mk ?a54 ?l54 ?c54 ?k54) (Lw.df_mk ?a55 ?l55 ?c55 ?k55) (Lw.df_mk ?a56 ?l56 ?c56 ?k56) (Lw.df_mk ?a57 ?l57 ?c57 ?k57) (Lw.df_mk ?a58 ?l58 ?c58 ?k58) (Lw.df_mk ?a59 ?l59 ?c59 ?k59) (Lw.df_mk ?a60 ?l60 ?c60 ?k60) (Lw.df_mk ?a61 ?l61 ?c61 ?k61) (Lw.df_mk ?a62 ?l62 ?c62 ?k62) (Lw.df_mk ?a63 ?l63 ?c63 ?k63) (Lw.df_mk ?a64 ?l64 ?c64 ?k64) (Lw.df_mk ?a65 ?l65 ?c65 ?k65) (Lw.df_mk ?a66 ?l66 ?c66 ?k66) (Lw.df_mk ?a67 ?l67 ?c67 ?k67) (Lw.df_mk ?a68 ?l68 ?c68 ?k68) (Lw.df_mk ?a69 ?l69 ?c69 ?k69) (Lw.df_mk ?a70 ?l70 ?c70 ?k70) (Lw.df_mk ?a71 ?l71 ?c71 ?k71) (Lw.df_mk ?a72 ?l72 ?c72 ?k72) (Lw.df_mk ?a73 ?l73 ?c73 ?k73) (Lw.df_mk ?a74 ?l74 ?c74 ?k74) (Lw.df_mk ?a75 ?l75 ?c75 ?k75) (Lw.df_mk ?a76 ?l76 ?c76 ?k76) (Lw.df_mk ?a77 ?l77 ?c77 ?k77) (Lw.df_mk ?a78 ?l78 ?c78 ?k78) (Lw.df_mk ?a79 ?l79 ?c79 ?k79) (Lw.df_mk ?a80 ?l80 ?c80 ?k80) (Lw.df_mk ?a81 ?l81 ?c81 ?k81) (Lw.df_mk ?a82 ?l82 ?c82 ?k82) (Lw.df_mk ?a83 ?l83 ?c83 ?k83) (Lw.df_mk ?a84 ?l84 ?c84 ?k84) (Lw.df_mk ?a85 ?l85 ?c85 ?k85) (Lw.df_mk ?a86 ?l86 ?c86 ?k86) (Lw.df_mk ?a87 ?l87 ?c87 ?k87) (Lw.df_mk ?a88 ?l88 ?c88 ?k88) (Lw.df_mk ?a89 ?l89 ?c89 ?k89) (Lw.df_mk ?a90 ?l90 ?c90 ?k90) (Lw.df_mk ?a91 ?l91 ?c91 ?k91) (Lw.df_mk ?a92 ?l92 ?c92 ?k92) (Lw.df_mk ?a93 ?l93 ?c93 ?k93) (Lw.df_mk ?a94 ?l94 ?c94 ?k94) (Lw.gl_mk ?xg0) (Lw.gl_mk ?xg1) (Lw.gl_mk ?xg2) (Lw.gl_mk ?xg3) (Lw.gl_mk ?xg4) (Lw.gl_mk ?xg5) ?x_NoClip ?x_NoPlace ?x_Mixed ?yPP ?yMM (Lw.gl_mk ?xz0) (Lw.gl_mk ?xz1) (Lw.gl_mk ?xz2) (Lw.gl_mk ?xz3) (Lw.gl_mk ?xz4) (Lw.gl_mk ?xz5) (Lw.gl_mk ?xz6) (Lw.gl_mk ?xz7) (Lw.gl_mk ?xz8) (Lw.gl_mk ?xz9) (Lw.gl_mk ?xz10) (Lw.gl_mk ?xz11) (Lw.gl_mk ?xz12) (Lw.gl_mk ?xz13) (Lw.gl_mk ?xz14) (Lw.gl_mk ?xz15) (Lw.gl_mk ?xcLETTERS) (Lw.gl_mk ?xcLONGEST_NAME) (Lw.gl_mk ?xcMOST_ROOM) (Lw.gl_mk ?xcNOUGHT) ?xlNOUGHT (Lw.gl_mk ?xcMOST_BY) (Lw.gl_mk ?xcROLLS) ?xlROLLS (Lw.gl_mk ?xcLAYS) ?xlLAYS (Lw.gl_mk ?xcPUSHES) ?xlPUSHES (Lw.gl_mk ?xcCHANGES) ?xlCHANGES (Lw.gl_mk ?xcWHOLE_SHARE) ?xlWHOLE_SHARE ?iaShort ?ilShort ?icShort ?ikShort ?ifShort ?ivShort ?ihShort ?isShort ?ixShort ?itShort
  (case a0 | l0 | c0 | k0 | a1 | l1 | c1 | k1 | a2 | l2 | c2 | k2 | a3 | l3 | c3 | k3 | a4 | l4 | c4 | k4 | a5 | l5 | c5 | k5 | a6 | l6 | c6 | k6 | a7 | l7 | c7 | k7 | a8 | l8 | c8 | k8 | a9 | l9 | c9 | k9 | a10 | l10 | c10 | k10 | a11 | l11 | c11 | k11 | a12 | l12 | c12 | k12 | a13 | l13 | c13 | k13 | a14 | l14 | c14 | k14 | a15 | l15 | c15 | k15 | a16 | l16 | c16 | k16 | a17 | l17 | c17 | k17 | a18 | l18 | c18 | k18 | a19 | l19 | c19 | k19 | a20 | l20 | c20 | k20 | a21 | l21 | c21 | k21 | a22 | l22 | c22 | k22 | a23 | l23 | c23 | k23 | a24 | l24 | c24 | k24 | a25 | l25 | c25 | k25 | a26 | l26 | c26 | k26 | a27 | l27 | c27 | k27 | a28 | l28 | c28 | k28 | a29 | l29 | c29 | k29 | a30 | l30 | c30 | k30 | a31 | l31 | c31 | k31 | a32 | l32 | c32 | k32 | a33 | l33 | c33 | k33 | a34 | l34 | c34 | k34 | a35 | l35 | c35 | k35 | a36 | l36 | c36 | k36 | a37 | l37 | c37 | k37 | a38 | l38 | c38 | k38 | a39 | l39 | c39 | k39 | a40 | l40 | c40 | k40 | a41 | l41 | c41 | k41 | a42 | l42 | c42 | k42 | a43 | l43 | c43 | k43 | a44 | l44 | c44 | k44 | a45 | l45 | c45 | k45 | a46 | l46 | c46 | k46 | a47 | l47 | c47 | k47 | a48 | l48 | c48 | k48 | a49 | l49 | c49 | k49 | a50 | l50 | c50 | k50 | a51 | l51 | c51 | k51 | a52 | l52 | c52 | k52 | a53 | l53 | c53 | k53 | a54 | l54 | c54 | k54 | a55 | l55 | c55 | k55 | a56 | l56 | c56 | k56 | a57 | l57 | c57 | k57 | a58 | l58 | c58 | k58 | a59 | l59 | c59 | k59 | a60 | l60 | c60 | k60 | a61 | l61 | c61 | k61 | a62 | l62 | c62 | k62 | a63 | l63 | c63 | k63 | a64 | l64 | c64 | k64 | a65 | l65 | c65 | k65 | a66 | l66 | c66 | k66 | a67 | l67 | c67 | k67 | a68 | l68 | c68 | k68 | a69 | l69 | c69 | k69 | a70 | l70 | c70 | k70 | a71 | l71 | c71 | k71 | a72 | l72 | c72 | k72 | a73 | l73 | c73 | k73 | a74 | l74 | c74 | k74 | a75 | l75 | c75 | k75 | a76 | l76 | c76 | k76 | a77 | l77 | c77 | k77 | a78 | l78 | c78 | k78 | a79 | l79 | c79 | k79 | a80 | l80 | c80 | k80 | a81 | l81 | c81 | k81 | a82 | l82 | c82 | k82 | a83 | l83 | c83 | k83 | a84 | l84 | c84 | k84 | a85 | l85 | c85 | k85 | a86 | l86 | c86 | k86 | a87 | l87 | c87 | k87 | a88 | l88 | c88 | k88 | a89 | l89 | c89 | k89 | a90 | l90 | c90 | k90 | a91 | l91 | c91 | k91 | a92 | l92 | c92 | k92 | a93 | l93 | c93 | k93 | a94 | l94 | c94 | k94 | xg0 | xg1 | xg2 | xg3 | xg4 | xg5=>k_is)
  (case x_NoClip=>(unfold L3.OwnX;kernel_rfl))
  (case x_NoPlace=>(unfold L3.OwnX;kernel_rfl))
  (case x_Mixed=>(unfold L3.OwnX;kernel_rfl))
  (case yPP=>kernel_rfl)
  (case yMM=>kernel_rfl)
  (case xz0 | xz1 | xz2 | xz3 | xz4 | xz5 | xz6 | xz7 | xz8 | xz9 | xz10 | xz11 | xz12 | xz13 | xz14 | xz15 | xcLETTERS | xcLONGEST_NAME | xcMOST_ROOM | xcNOUGHT | xlNOUGHT | xcMOST_BY | xcROLLS | xlROLLS | xcLAYS | xlLAYS | xcPUSHES | xlPUSHES | xcCHANGES | xlCHANGES | xcWHOLE_SHARE | xlWHOLE_SHARE | iaShort | ilShort | icShort | ikShort | ifShort=>k_is)
  (case ivShort=>(unfold L3.exOver;kernel_rfl))
  (case ihShort | isShort=>k_is)
  (case ixShort=>(unfold L3.excInitIn;kernel_rfl))
  (case itShort=>k_is)

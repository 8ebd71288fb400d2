import PyProof.Rows.All
import Wide.All
import OpenK.AllK
import Wide.FinOn
import Lean
import PyProof.EqAt
import PyProof.EqKinds
import PyProof.TupleCall
import PyProof.StrLawsTight
import KE.KIntText
import KE.KxPart
import PySem.Challenge.RW_reelcut_k33_most_of_a_mix
set_option maxHeartbeats 4000000
set_option Elab.async false
set_option linter.all false
set_option maxRecDepth 100000
namespace L2
open PySem PySem.Spec PyProof.Rows
abbrev Key:=Sum Int Str
def qFc:Key→Value→Bool
 | .inl k,v=>Value.isInt k v
 | .inr x,v=>Value.isStrOf x v
def qQc (w:World):Key→Int
 | .inl k=>hashInt k
 | .inr x=>hashStr w x
theorem jC:∀ {k:Key} {v:Value},qFc k v=true→(∃ i t,k=Sum.inl i∧v=Value.int i t)∨(∃ x t,k=Sum.inr x∧v=Value.str x t)
 | .inl i,v,h=>by
  obtain⟨t,e⟩:=Value.isInt_shape (k:=i) (v:=v) h
  exact .inl ⟨i,t,rfl,e⟩
 | .inr x,v,h=>by
  obtain⟨t,e⟩:=Value.isStrOf_shape (x:=x) (v:=v) h
  exact .inr ⟨x,t,rfl,e⟩
theorem qJa (i:Int)(t:Tok):qFc (.inl i) (.int i t)=true:=by simp [qFc,Value.isInt]
theorem qIy (x:Str)(t:Tok):qFc (.inr x) (.str x t)=true:=by simp [qFc,Value.isStrOf]
theorem qM7 (a b:Int):decide ((Sum.inl a:Key)=Sum.inl b)=(a == b):=by
 by_cases e:a=b
 · subst e;simp
 · have h:¬ (Sum.inl a:Key)=Sum.inl b:=fun q=>e (Sum.inl.inj q)
   rw [decide_eq_false h]
   exact(beq_eq_false_iff_ne.mpr e).symm
theorem qNz (a b:Str):decide ((Sum.inr a:Key)=Sum.inr b)=decide (a=b):=by
 by_cases e:a=b
 · subst e;simp
 · have h:¬ (Sum.inr a:Key)=Sum.inr b:=fun q=>e (Sum.inr.inj q)
   rw [decide_eq_false h,decide_eq_false e]
theorem qNs (a:Int)(b:Str):decide ((Sum.inl a:Key)=Sum.inr b)=false:=decide_eq_false (fun q=>nomatch q)
theorem qMz (a:Str)(b:Int):decide ((Sum.inr a:Key)=Sum.inl b)=false:=decide_eq_false (fun q=>nomatch q)
def qy (prog:Program)(w:World):PySem.KeyKind prog w Key where
 is:=qFc
 hash:=qQc w
 inj:=fun v a b ha hb=>by
  rcases jC ha with ⟨i,t,rfl,rfl⟩ | ⟨x,t,rfl,rfl⟩
  · rcases jC hb with ⟨j,u,rfl,e⟩ | ⟨y,u,rfl,e⟩
    · injection e with e1 _;rw [e1]
    · exact nomatch e
  · rcases jC hb with ⟨j,u,rfl,e⟩ | ⟨y,u,rfl,e⟩
    · exact nomatch e
    · injection e with e1 _;rw [e1]
 byValue:=fun k v h=>by
  rcases jC h with ⟨i,t,rfl,rfl⟩ | ⟨x,t,rfl,rfl⟩ <;> rfl
 pyHash:=fun hv h=>by
  rcases jC hv with ⟨i,t,rfl,rfl⟩ | ⟨x,t,rfl,rfl⟩
  · exact wpAny_pyHash_int h
  · exact wpAny_pyHash_str h
 eqBool:=fun hu hv h=>by
  rcases jC hu with ⟨i,t,rfl,rfl⟩ | ⟨x,t,rfl,rfl⟩
  · rcases jC hv with ⟨j,u,rfl,rfl⟩ | ⟨y,u,rfl,rfl⟩
    · rw [qM7] at h;exact wpAny_eqBool_int h
    · rw [qNs] at h;exact SeqAt.EqAt.int_str i t y u _ _ _ _ h
  · rcases jC hv with ⟨j,u,rfl,rfl⟩ | ⟨y,u,rfl,rfl⟩
    · rw [qMz] at h;exact SeqAt.EqAt.str_int x t j u _ _ _ _ h
    · rw [qNz] at h;exact wpAny_eqBool_str h
 «strs»:=fun k x t v h=>by
  rcases jC h with ⟨i,u,rfl,e⟩ | ⟨y,u,rfl,e⟩
  · exact nomatch e
  · injection e with e1 _
    subst e1
    cases v <;> rfl
theorem qFh (prog:Program)(w:World)(i:Int)(t:Tok):(qy prog w).is (.inl i) (.int i t)=true:=qJa i t
theorem qFu (prog:Program)(w:World)(x:Str)(t:Tok):(qy prog w).is (.inr x) (.str x t)=true:=qIy x t
end L2
namespace L2
open PySem PySem.Spec PyProof.Rows
inductive V where
 | non | bl (b:Bool) | int (i:Int) | str (x:Str) | byt (b:Array UInt8) | flt (b:UInt64) | ref (a:Addr) | ty (n:String)
 deriving DecidableEq
def RelV:V→Value→Prop
 | .non,u=>u=Value.none
 | .bl b,u=>u=Value.bool b
 | .int i,u=>∃ t,u=Value.int i t
 | .str x,u=>∃ t,u=Value.str x t
 | .byt b,u=>∃ t,u=Value.bytes b t
 | .flt b,u=>∃ t,u=Value.float b t
 | .ref a,u=>u=Value.ref a
 | .ty n,u=>u=Value.type n
abbrev Vals:List V→List Value→Prop:=Paired RelV
theorem Vals.length {xs:List V}{us:List Value}(r:Vals xs us):xs.length=us.length:=Paired.length r
theorem Vals.get:∀ {xs:List V} {us:List Value} {i:Nat} {x:V},Vals xs us→xs[i]? =some x→∃ u,us[i]? =some u∧RelV x u
 | _,_,_,_,.nil,e=>by simp at e
 | _,_,0,_,.cons r _,e=>by simp at e;subst e;exact⟨_,rfl,r⟩
 | _,_,i+1,x,.cons _ t,e=>by
  obtain⟨u,h1,h2⟩:=Vals.get (i:=i) (x:=x) t (by simpa using e)
  exact⟨u,by simpa using h1,h2⟩
theorem Vals.set {x:V}{u:Value}(r:RelV x u):∀ {xs:List V} {us:List Value} (i:Nat),Vals xs us→Vals (xs.set i x) (us.set i u)
 | _,_,_,.nil=>.nil
 | _,_,0,.cons _ t=>.cons r t
 | _,_,i+1,.cons q t=>.cons q (Vals.set r i t)
theorem Vals.append:∀ {xs ys:List V} {us ws:List Value},Vals xs us→Vals ys ws→Vals (xs++ys) (us++ws)
 | _,_,_,_,.nil,s=>s
 | _,_,_,_,.cons r t,s=>.cons r (Vals.append t s)
theorem Vals.take:∀ {xs:List V} {us:List Value} (n:Nat),Vals xs us→Vals (xs.take n) (us.take n)
 | _,_,0,_=>.nil
 | _,_,_+1,.nil=>.nil
 | _,_,n+1,.cons r t=>.cons r (Vals.take n t)
theorem Vals.drop:∀ {xs:List V} {us:List Value} (n:Nat),Vals xs us→Vals (xs.drop n) (us.drop n)
 | _,_,0,r=>r
 | _,_,_+1,.nil=>.nil
 | _,_,n+1,.cons _ t=>Vals.drop n t
def RelO:Option V→Option Value→Prop
 | some v,some u=>RelV v u
 | none,none=>True
 | _,_=>False
def KV {κ:Type}:List (κ × V)→List (κ × Value)→Prop:=Paired fun(p:κ × V) (q:κ × Value)=>p.1=q.1∧RelV p.2 q.2
def kV:Key→V
 | .inl i=>.int i
 | .inr x=>.str x
inductive HO where
 | lst (xs:List V)
 | tup (xs:List V)
 | dK (kvs:List (Key × V)) | dT (kvs:List (List Key × V))
 | set (S:Int→Bool) (n:Nat)
 | ins (C dx:Addr) (fs:List (Str × V))
 | own (x:Addr)
 | xd (fs:List (Str × V))
 | met (f x:Addr)
 | rng (lo hi:Int)
 | frz (o:Obj) (u:HO)
 | tbl (ps:Array Value)
 | ext (φ:Heap→Prop)
abbrev Hp:=Addr→Option HO
def upd (H:Hp)(a:Addr)(o:HO):Hp:=fun b=>if b=a then some o else H b
theorem qF {H:Hp}{a:Addr}{o:HO}:upd H a o a=some o:=by unfold upd;rw [if_pos rfl]
theorem qU {H:Hp}{a b:Addr}{o:HO}(h:b≠a):upd H a o b=H b:=by unfold upd;rw [if_neg h]
theorem qF1 {H:Hp}{a:Addr}{o u:HO}:upd (upd H a o) a u=upd H a u:=by
 funext b;unfold upd;split <;> rfl
theorem qHx {H:Hp}{a b:Addr}{o u:HO}(h:H a=some o)(h':H b=some u)(d:o≠u):a≠b:=by
 intro e;subst e;rw [h] at h';exact d (Option.some.inj h')
theorem qS {H:Hp}{a b:Addr}{o:HO}(h:H a=some o)(h':H b=none):a≠b:=by
 intro e;subst e;rw [h] at h';cases h'
section
variable (P : Program) (w : World)
def ObjOk (H:Hp)(h:Heap)(a:Addr):HO→Prop
 | .lst xs=>xs.length≤sizeLine∧∃ (its:List Value) (n:Nat),Vals xs its∧h.get? a=some {cls:=.type "list",data:=.seq its.toArray n}
 | .tup xs=>xs.length≤sizeLine∧∃ its:List Value,Vals xs its∧IsTup h a its.toArray
 | .dK kvs=>kvs.length≤sizeLine∧(a == sysModules)=false∧∃ vs,KV kvs vs∧h.DictOf (qy P w) a vs
 | .dT kvs=>kvs.length≤sizeLine∧(a == sysModules)=false∧∃ xs:List (List Key × Addr × Value),
  Paired (fun(p:List Key × V) (q:List Key × Addr × Value)=>p.1=q.1∧H q.2.1=some (.tup (p.1.map kV))∧RelV p.2 q.2.2) kvs xs∧
  ∃ o es ep,h.get? a=some o∧o.ExactDict∧o.data= .dict es ep∧es.toList=xs.map (entryOfKey (tupleKind (qy P w)))∧(xs.map (·.1)).Nodup
 | .set S n=>h.SetOf (intKind P w) a S n
 | .ins C dx fs=>H dx=some (.own a)∧fs.length≤1000∧dx≠a∧h.get? a=some (PySem.W.instObj C dx)∧
  ∃ mA,h.Ns1 dx mA∧(∀ f,RelO (fs.lookup f) (mA f))∧PySem.Within mA (fs.map (·.1))
 | .own _=>∃ o,h.get? a=some o
 | .xd fs=>∃ mA,h.Ns1 a mA∧∀ f,RelO (fs.lookup f) (mA f)
 | .rng lo hi=>∃ t u v,h.get? a=some {cls:=.type "range",data:=.fields #[.int lo t,.int hi u,.int 1 v]}
 | .frz o u=>h.get? a=some o∧ObjOk H h a u
 | .tbl ps=>h.get? a=some {cls:=.none,data:=.fields ps}
 | .met f x=>h.get? a=some (PySem.W.methodObj (.ref f) (.ref x))
 | .ext φ=>φ h∧(∃ o,h.get? a=some o)∧∀ h1 h2:Heap,φ h1→(∀ o,h1.get? a=some o→h2.get? a=some o)→φ h2
def HOk (H:Hp)(h:Heap):Prop:=∀ a o,H a=some o→ObjOk P w H h a o
end
section
variable {P : Program} {w : World} {H H' : Hp} {h h' : Heap} {a : Addr} {o : HO}
theorem ObjOk.lt (x:ObjOk P w H h a o):a < h.objs.size:=by
 cases o with
 | lst xs=>obtain⟨_,_,_,_,e⟩:=x;exact Heap.lt_size e
 | tup xs=>obtain⟨_,_,_,p⟩:=x;exact p.lt
 | dK kvs=>obtain⟨_,_,_,_,o,_,_,e,_⟩:=x;exact Heap.lt_size e
 | dT kvs=>obtain⟨_,_,_,_,o,_,_,e,_⟩:=x;exact Heap.lt_size e
 | set S n=>obtain⟨o,_,_,_,e,_⟩:=x;exact Heap.lt_size e
 | ins C dx fs=>obtain⟨_,_,_,e,_⟩:=x;exact Heap.lt_size e
 | own y=>obtain⟨_,e⟩:=x;exact Heap.lt_size e
 | xd fs=>obtain⟨_,⟨_,_,_,e,_⟩,_⟩:=x;exact Heap.lt_size e
 | rng lo hi=>obtain⟨_,_,_,e⟩:=x;exact Heap.lt_size e
 | frz ob u=>obtain⟨e,_⟩:=x;exact Heap.lt_size e
 | tbl ps=>exact Heap.lt_size (show h.get? a=some _ from x)
 | met f y=>exact Heap.lt_size (show h.get? a=some _ from x)
 | ext φ=>obtain⟨_,⟨_,e⟩,_⟩:=x;exact Heap.lt_size e
theorem Paired.mapP {α β:Type}{F G:α→β→Prop}:∀ {l₁:List α} {l₂:List β},Paired F l₁ l₂→(∀ a b,F a b→G a b)→Paired G l₁ l₂
 | _,_,.nil,_=>.nil
 | _,_,.cons r t,f=>.cons (f _ _ r) (Paired.mapP t f)
theorem ObjOk.stay (x:ObjOk P w H h a o)(k:∀ b u,(b=a∨H b=some (.own a))→h.get? b=some u→h'.get? b=some u)
 (ho:∀ b,H b=some (.own a)→H' b=some (.own a)) (ht:∀ b xs,H b=some (.tup xs)→H' b=some (.tup xs)):ObjOk P w H' h' a o:=by
 induction o with
 | lst xs=>obtain⟨z,its,n,r,e⟩:=x;exact⟨z,its,n,r,k _ _ (.inl rfl) e⟩
 | tup xs=>obtain⟨z,its,r,ob,e,c⟩:=x;exact⟨z,its,r,ob,k _ _ (.inl rfl) e,c⟩
 | dK kvs=>obtain⟨z,y,vs,r,ob,es,ep,e,c⟩:=x;exact⟨z,y,vs,r,ob,es,ep,k _ _ (.inl rfl) e,c⟩
 | dT kvs=>
  obtain⟨z,y,xs,r,ob,es,ep,e,c⟩:=x
  exact⟨z,y,xs,Paired.mapP r fun p q z=>⟨z.1,ht _ _ z.2.1,z.2.2⟩,ob,es,ep,k _ _ (.inl rfl) e,c⟩
 | set S n=>obtain⟨ob,es,ep,t,e,c⟩:=x;exact⟨ob,es,ep,t,k _ _ (.inl rfl) e,c⟩
 | ins C dx fs=>
  obtain⟨d,z,ne,e,mA,⟨od,es,ep,e2,c⟩,r⟩:=x
  exact⟨ho _ d,z,ne,k _ _ (.inl rfl) e,mA,⟨od,es,ep,k _ _ (.inr d) e2,c⟩,r⟩
 | own y=>obtain⟨ob,e⟩:=x;exact⟨ob,k _ _ (.inl rfl) e⟩
 | xd fs=>obtain⟨mA,⟨od,es,ep,e,c⟩,r⟩:=x;exact⟨mA,⟨od,es,ep,k _ _ (.inl rfl) e,c⟩,r⟩
 | rng lo hi=>obtain⟨t,u,v,e⟩:=x;exact⟨t,u,v,k _ _ (.inl rfl) e⟩
 | frz ob u ih=>obtain⟨e,q⟩:=x;exact⟨k _ _ (.inl rfl) e,ih q⟩
 | tbl ps=>
  have e:h.get? a=some {cls:=.none,data:=.fields ps}:=x
  show h'.get? a=some {cls:=.none,data:=.fields ps}
  exact k a _ (.inl rfl) e
 | met f y=>
  have e:h.get? a=some (PySem.W.methodObj (.ref f) (.ref y)):=x
  show h'.get? a=some (PySem.W.methodObj (.ref f) (.ref y))
  exact k a _ (.inl rfl) e
 | ext φ=>obtain⟨p,⟨o,e⟩,st⟩:=x;exact⟨st _ _ p fun o q=>k _ _ (.inl rfl) q,⟨o,k _ _ (.inl rfl) e⟩,st⟩
theorem HOk.lt (x:HOk P w H h)(e:H a=some o):a < h.objs.size:=(x a o e).lt
theorem HOk.fresh (x:HOk P w H h)(e:h.objs.size≤a):H a=none:=by
 cases q:H a with
 | none=>rfl
 | some u=>exact absurd (Nat.lt_of_lt_of_le (x.lt q) e) (Nat.lt_irrefl _)
theorem HOk.kept (x:HOk P w H h)(k:∀ b u,h.get? b=some u→h'.get? b=some u):HOk P w H h':=fun a o e=>
 (x a o e).stay (fun b u _ q=>k b u q) (fun _ q=>q) fun _ _ q=>q
theorem HOk.laid (x:HOk P w H h)(k:∀ b u,h.get? b=some u→h'.get? b=some u)(hp:h.objs.size≤a)(new:ObjOk P w (upd H a o) h' a o):HOk P w (upd H a o) h':=fun b u e=>by
 have hn:=x.fresh hp
 by_cases hb:b=a
 · subst hb;rw [qF] at e;cases e;exact new
 · rw [qU hb] at e
   exact(x b u e).stay (fun c v _ q=>k c v q) (fun c q=>by rw [qU (qS q hn)];exact q) fun c xs q=>by rw [qU (qS q hn)];exact q
end
def Rd (H:Hp)(a:Addr)(u:HO):Prop:=H a=some u∨∃ o,H a=some (.frz o u)
theorem Rd.ok {P:Program}{w:World}{H:Hp}{h:Heap}{a:Addr}{u:HO}(r:Rd H a u)(x:HOk P w H h):ObjOk P w H h a u:=by
 rcases r with r | ⟨o,r⟩
 · exact x a u r
 · obtain⟨_,q⟩:=x a _ r
   exact q
def Mut:Option HO→Prop
 | some (.lst _)=>True
 | some (.dK _)=>True
 | some (.dT _)=>True
 | some (.set _ _)=>True
 | some (.ins _ _ _)=>True
 | some (.ext _)=>True
 | _=>False
section
variable {P : Program} {w : World} {H : Hp} {h h' : Heap} {x e : Addr} {o' : HO}
theorem HOk.write (ok:HOk P w H h)(mu:Mut (H x))(he:e=x∨H e=some (.own x))(k:∀ b u,b≠e→h.get? b=some u→h'.get? b=some u)(heo:∃ u,h'.get? e=some u)
 (new:ObjOk P w (upd H x o') h' x o'):HOk P w (upd H x o') h':=fun b u q=>by
 have nown:∀ c y,H c=some (.own y)→c≠x:=fun c y r z=>by subst z;rw [r] at mu;exact mu
 have ntup:∀ c xs,H c=some (.tup xs)→c≠x:=fun c xs r z=>by subst z;rw [r] at mu;exact mu
 by_cases hb:b=x
 · subst hb;rw [qF] at q;cases q;exact new
 · rw [qU hb] at q
   by_cases hbe:b=e
   · have q':H b=some (.own x):=by
      rcases he with z | z
      · exact absurd (hbe.trans z) hb
      · rw [hbe];exact z
     rw [q] at q';cases q'
     obtain⟨v,hv⟩:=heo
     exact⟨v,by rw [hbe];exact hv⟩
   · refine(ok b u q).stay (fun c v hc r=>k c v ?_ r) (fun c r=>by rw [qU (nown c b r)];exact r) fun c xs r=>by rw [qU (ntup c xs r)];exact r
     rcases hc with rfl | hc
     · exact hbe
     · rintro rfl
       rcases he with z | z
       · exact nown c b hc z
       · rw [hc] at z;cases z;exact hb rfl
end
structure Un (fs ex:List Addr)(H H':Hp)(h h':Heap):Prop where
 keep:∀ b o,h.get? b=some o→H b=none→b ∉ fs→b ∉ ex→h'.get? b=some o
 slot:∀ b o,h.get? b=some o→H b=none→b∈fs→b ∉ ex→∃ sl,h'.get? b=some {o with slots:=sl}
 free:∀ b o,h.get? b=some o→H b=none→b ∉ ex→H' b=none
 there:∀ b o,h.get? b=some o→b ∉ ex→∃ o',h'.get? b=some o'
 tups:∀ b xs,H b=some (.tup xs)→H' b=some (.tup xs)
 frzs:∀ b o u,H b=some (.frz o u)→H' b=some (.frz o u)
 tbls:∀ b ps,H b=some (.tbl ps)→∃ more,H' b=some (.tbl (ps++more))
section
variable {fs fs' ex ex' : List Addr} {H H1 H2 : Hp} {h h1 h2 h' : Heap} {a x e : Addr} {o : HO}
theorem Un.any (u:Un fs ex H H1 h h1){b:Addr}{ob:Obj}(q:h.get? b=some ob)(n:H b=none)(hx:b ∉ ex):∃ sl,h1.get? b=some {ob with slots:=sl}:=by
 by_cases hb:b∈fs
 · exact u.slot b ob q n hb hx
 · exact⟨ob.slots,u.keep b ob q n hb hx⟩
theorem Un.trans (a:Un fs ex H H1 h h1)(b:Un fs ex H1 H2 h1 h2):Un fs ex H H2 h h2 where
 keep:=fun c ob q n hc hx=>b.keep c ob (a.keep c ob q n hc hx) (a.free c ob q n hx) hc hx
 slot:=fun c ob q n hc hx=>by
  obtain⟨sl,e1⟩:=a.slot c ob q n hc hx
  obtain⟨sl',e2⟩:=b.slot c _ e1 (a.free c ob q n hx) hc hx
  exact⟨sl',e2⟩
 free:=fun c ob q n hx=>by
  obtain⟨o',e1⟩:=a.there c ob q hx
  exact b.free c o' e1 (a.free c ob q n hx) hx
 there:=fun c ob q hx=>by
  obtain⟨o',e1⟩:=a.there c ob q hx
  exact b.there c o' e1 hx
 tups:=fun c xs q=>b.tups c xs (a.tups c xs q)
 frzs:=fun c ob xs q=>b.frzs c ob xs (a.frzs c ob xs q)
 tbls:=fun c ps q=>by
  obtain⟨m1,e1⟩:=a.tbls c ps q
  obtain⟨m2,e2⟩:=b.tbls c _ e1
  exact⟨m1++m2,by rw [e2,Array.append_assoc]⟩
theorem Un.kept (k:∀ b u,h.get? b=some u→h'.get? b=some u):Un fs ex H H h h':=
 ⟨fun b ob q _ _ _=>k b ob q,fun b ob q _ _ _=>⟨ob.slots,k b ob q⟩,fun _ _ _ n _=>n,fun b ob q _=>⟨ob,k b ob q⟩,fun _ _ q=>q,fun _ _ _ q=>q,fun _ ps q=>⟨#[],by rw [q];simp⟩⟩
theorem Un.refl:Un fs ex H H h h:=Un.kept fun _ _ q=>q
theorem Un.laid (k:∀ b u,h.get? b=some u→h'.get? b=some u)(hp:h.objs.size≤a)(hn:H a=none):Un fs ex H (upd H a o) h h' where
 keep:=fun b u q _ _ _=>k b u q
 slot:=fun b u q _ _ _=>⟨u.slots,k b u q⟩
 free:=fun b u q n _=>by rw [qU (Nat.ne_of_lt (Nat.lt_of_lt_of_le (Heap.lt_size q) hp))];exact n
 there:=fun b u q _=>⟨u,k b u q⟩
 tups:=fun b xs q=>by rw [qU (qS q hn)];exact q
 frzs:=fun b u xs q=>by rw [qU (qS q hn)];exact q
 tbls:=fun b ps q=>⟨#[],by rw [qU (qS q hn),q];simp⟩
theorem Un.write (mu:Mut (H x))(he:e=x∨H e=some (.own x))(k:∀ b u,b≠e→h.get? b=some u→h'.get? b=some u)(heo:∃ u,h'.get? e=some u):Un fs ex H (upd H x o) h h':=by
 have hx:∀ b,H b=none→b≠x:=fun b n z=>by subst z;rw [n] at mu;exact mu
 have hb:∀ b,H b=none→b≠e:=fun b n z=>by
  subst z
  rcases he with r | r
  · exact hx b n r
  · rw [n] at r;cases r
 have hm:∀ b u,H b=some u→¬ Mut (some u)→b≠x:=fun b u q nm z=>by subst z;rw [q] at mu;exact nm mu
 refine⟨fun b u q n _ _=>k b u (hb b n) q,fun b u q n _ _=>⟨u.slots,k b u (hb b n) q⟩,fun b u q n _=>by rw [qU (hx b n)];exact n,fun b u q _=>?_,
  fun b xs q=>by rw [qU (hm b _ q fun z=>z)];exact q,fun b u xs q=>by rw [qU (hm b _ q fun z=>z)];exact q,fun b ps q=>⟨#[],by rw [qU (hm b _ q fun z=>z),q];simp⟩⟩
 by_cases hbe:b=e
 · subst hbe;exact heo
 · exact⟨u,k b u hbe q⟩
end
def trk (h:Heap)(H:Hp):List Addr:=(List.range h.objs.size).filter fun a=>(H a).isSome
def qKq (h:Heap)(H:Hp):Heap:=PySem.W.hideAll h (trk h H)
theorem qJp (h:Heap)(H:Hp):(qKq h H).objs.size=h.objs.size:=PySem.W.hideAll_size _ _
theorem qKv {h:Heap}{H:Hp}{b:Addr}{o:Obj}(e:h.get? b=some o)(n:H b=none):(qKq h H).get? b=some o:=
 PySem.W.hideAll_get _ e fun hm=>by
  have q:(H b).isSome=true:=(List.mem_filter.mp hm).2
  rw [n] at q;simp at q
theorem qMb {h:Heap}{H:Hp}{b:Addr}{o:Obj}(e:(qKq h H).get? b=some o):h.get? b=some o∧H b=none:=by
 have e':h.get? b=some o:=PySem.W.of_hideAll (trk h H) e
 refine⟨e',?_⟩
 cases q:H b with
 | none=>rfl
 | some x=>
  have hm:b∈trk h H:=List.mem_filter.mpr ⟨List.mem_range.mpr (Heap.lt_size e'),by simp [q]⟩
  have z:(qKq h H).get? b=none:=PySem.W.hideAll_none (trk h H) hm
  rw [z] at e;cases e
def qMg (g h:Heap)(L:Addr):List (Addr × Obj):=(List.range h.objs.size).filterMap fun a=>if a=L∨(g.get? a).isSome=true then none else (h.get? a).map fun o=>(a,o)
def rest (g h:Heap)(L d:Addr):List (Addr × Obj):=(qMg g h L).filter fun p=>decide (p.1≠d)
end L2
namespace L2
open PySem PySem.Spec PyProof.Rows
structure Mod (K:PySem.W.Frag)(mg:Str→Option Value)(base:Heap):Prop where
 kin:K.In base
 glob:base.Ns mainGlobals mg
 blt:∃ mb,base.Ns builtinsNs mb∧∀ x:Str,x≠"__name__"→mb x=bootBuiltins x
 nolimit:base.NoLimit
structure Cx where
 prog:Program
 w:World
 K:PySem.W.Frag
 mg:Str→Option Value
 base:Heap
 A:Around
 N:List Str
 s₀:Shared
 H₀:Hp
 env:Env
 outer:List Env
 stack:List Env
 ex:List Addr
 fn:Str→Bool
 calm:Bool
 pn:List (Addr × Obj)
 xe:Value→Shared→Prop
def frs (l:List Env):List Addr:=l.filterMap (·.frame)
abbrev Cx.fs (X:Cx):List Addr:=frs X.outer
def Vis (sc:Scope)(x:Str):Prop:=sc.names.lookup x=some .local∨sc.names.lookup x=some .cell∨sc.names.lookup x=some .free
def Loc (sc:Scope)(x:Str):Prop:=sc.names.lookup x=some .local∨sc.names.lookup x=some .cell
def qP6 (env:Env)(h:Heap)(m:Str→Option Value)(x:Str)(u:Value):Prop:=
 (env.kindOf x=some .local∧m x=some u)∨((env.kindOf x=some .cell∨env.kindOf x=some .free)∧∃ c,env.cells.lookup x=some c∧h.IsCell c (some u))
structure Cx.Ok (X:Cx):Prop where
 mod:Mod X.K X.mg X.base
 kind:X.env.scope.kind= .function
 glob:X.env.globals=mainGlobals
 blt:X.env.builtins=builtinsNs
 above:X.s₀.heap.objs.size≤X.env.locals
 inj:∀ x y c,X.env.cells.lookup x=some c→X.env.cells.lookup y=some c→x=y
 has:∀ x,(X.env.kindOf x=some .cell∨X.env.kindOf x=some .free)→∃ c,X.env.cells.lookup x=some c
 cab:∀ x c,X.fn x=true→X.env.cells.lookup x=some c→X.s₀.heap.objs.size≤c
 hd:X.calm=true→X.A.handled=none
 frames:X.A.frames=some X.stack
 stk:X.stack=X.outer∨(X.stack=X.env::X.outer∧X.env.frame=some X.env.locals)
 exf:∀ b∈X.ex,b≠X.env.locals∧∀ x c,X.env.cells.lookup x=some c→c≠b
 bs:∀ b o,X.base.get? b=some o→X.s₀.heap.get? b=some o∧X.H₀ b=none
 bsz:X.base.objs.size≤X.s₀.heap.objs.size
 noex:∀ b o,X.base.get? b=some o→b ∉ X.ex
 exfs:∀ b∈X.ex,b ∉ X.fs
 funs:X.s₀.heap.FunFrames X.base X.outer
 frf:∀ b∈X.fs,X.H₀ b=none
structure Inv (X:Cx)(pins:List (Addr × Obj))(σ:List (Option V))(H:Hp)(s:Shared):Prop where
 ok:X.Ok
 os:s.os=X.s₀.os
 bare:AllBare s.gens
 base:Un X.fs X.ex X.H₀ H X.s₀.heap s.heap
 loc:∃ m,s.heap.Ns X.env.locals m∧∀ (i:Nat) (x:Str) (v:V),X.N[i]? =some x→σ[i]? =some (some v)→Vis X.env.scope x→∃ u,RelV v u∧qP6 X.env s.heap m x u
 cell:∀ x c,X.env.cells.lookup x=some c→∃ v,s.heap.IsCell c v
 free:H X.env.locals=none
 freeC:∀ x c,X.env.cells.lookup x=some c→H c=none
 pin:∀ p∈X.pn++pins,s.heap.get? p.1=some p.2∧H p.1=none∧p.1≠X.env.locals∧p.1 ∉ X.fs∧∀ v,p.2.data≠ .cell v
 hok:HOk X.prog X.w H s.heap
 len:σ.length=X.N.length
section
variable {X : Cx} {pins : List (Addr × Obj)} {σ : List (Option V)} {H H' : Hp} {s : Shared} {h' : Heap}
theorem Cx.Ok.nofr (ok:X.Ok){b:Addr}{o:Obj}(e:X.base.get? b=some o):b ∉ X.fs:=fun hb=>by
 have:=(ok.funs.mem hb).1
 rw [e] at this;cases this
theorem Inv.bs (I:Inv X pins σ H s):∀ b o,X.base.get? b=some o→s.heap.get? b=some o∧H b=none:=fun b o e=>
 ⟨I.base.keep b o (I.ok.bs b o e).1 (I.ok.bs b o e).2 (I.ok.nofr e) (I.ok.noex b o e),I.base.free b o (I.ok.bs b o e).1 (I.ok.bs b o e).2 (I.ok.noex b o e)⟩
theorem Inv.bk (I:Inv X pins σ H s):∀ b o,X.base.get? b=some o→s.heap.get? b=some o:=fun b o e=>(I.bs b o e).1
theorem Inv.mod (I:Inv X pins σ H s):Mod X.K X.mg X.base:=I.ok.mod
theorem Inv.kIn (I:Inv X pins σ H s):X.K.In s.heap:=I.ok.mod.kin.keeps I.bk
theorem Inv.nolimit (I:Inv X pins σ H s):s.heap.NoLimit:=I.ok.mod.nolimit.keeps I.bk
theorem Inv.fr (I:Inv X pins σ H s):∃ m,Fr X.base X.env.locals s.heap m:=
 let ⟨m,hn,_⟩:=I.loc
 ⟨m,hn,I.bk,Nat.le_trans I.ok.bsz I.ok.above⟩
theorem Inv.lt (I:Inv X pins σ H s):X.env.locals < s.heap.objs.size:=let ⟨_,hn,_⟩:=I.loc;hn.lt
theorem Inv.sz (I:Inv X pins σ H s):X.s₀.heap.objs.size≤s.heap.objs.size:=Nat.le_trans I.ok.above (Nat.le_of_lt I.lt)
theorem Inv.nofs (I:Inv X pins σ H s){a:Addr}(h:s.heap.objs.size≤a):a ∉ X.fs:=fun hb=>by
 obtain⟨_,o,ho,_⟩:=I.ok.funs.mem hb
 exact absurd (Nat.lt_of_lt_of_le (Heap.lt_size ho) (Nat.le_trans I.sz h)) (Nat.lt_irrefl _)
theorem Inv.cne (I:Inv X pins σ H s):∀ x c,X.env.cells.lookup x=some c→c≠X.env.locals:=fun x c e z=>by
 obtain⟨v,o,ho,hd⟩:=I.cell x c e
 obtain⟨m,⟨o',es,ep,ho',hd',_⟩,_⟩:=I.loc
 rw [z,ho'] at ho;cases ho;rw [hd'] at hd;cases hd
theorem Inv.funs (I:Inv X pins σ H s):s.heap.FunFrames X.base X.outer:=by
 have all:∀ (l:List Env),(∀ b∈frs l,b∈X.fs)→X.s₀.heap.FunFrames X.base l→s.heap.FunFrames X.base l:=by
  intro l
  induction l with
  | nil=>intro _ _;trivial
  | cons env r ih=>
   intro hs hl
   obtain⟨hk,⟨L,o,hf,hn,ho,hd⟩,hr⟩:=hl
   have hL:L∈X.fs:=hs L (by unfold frs;rw [List.filterMap_cons,hf];exact List.mem_cons_self)
   obtain⟨sl,e⟩:=I.base.slot L o ho (I.ok.frf L hL) hL fun z=>I.ok.exfs L z hL
   exact⟨hk,⟨L,_,hf,hn,e,hd⟩,ih (fun b hb=>hs b (by unfold frs;rw [List.filterMap_cons,hf];exact List.mem_cons_of_mem _ hb)) hr⟩
 exact all X.outer (fun _ hb=>hb) I.ok.funs
theorem Inv.stack (I:Inv X pins σ H s):s.heap.FunFrames X.base X.stack:=by
 rcases I.ok.stk with e | ⟨e,hf⟩
 · rw [e];exact I.funs
 · rw [e]
   obtain⟨m,hn,_⟩:=I.loc
   refine .cons (by rw [I.ok.kind];decide) hf hn ?_ I.funs
   exact Heap.get?_none_of_le (Nat.le_trans I.ok.bsz I.ok.above)
theorem Inv.stkSub (I:Inv X pins σ H s):∀ b∈frs X.stack,b∈X.env.locals::X.fs:=fun b hb=>by
 rcases I.ok.stk with e | ⟨e,hf⟩
 · rw [e] at hb;exact List.mem_cons_of_mem _ hb
 · rw [e] at hb
   unfold frs at hb
   rw [List.filterMap_cons,hf] at hb
   exact hb
theorem Inv.stkFree (I:Inv X pins σ H s):∀ b∈frs X.stack,H b=none:=fun b hb=>by
 rcases List.mem_cons.mp (I.stkSub b hb) with e | hb
 · rw [e];exact I.free
 · obtain⟨_,o,ho,_⟩:=I.ok.funs.mem hb
   exact I.base.free b o ho (I.ok.frf b hb) fun z=>I.ok.exfs b z hb
theorem Inv.step {g':Array GenState}{t':Nat}{d':Drawn}{ch:List Addr}(I:Inv X pins σ H s)
 (hch:∀ b∈ch,(b∈X.ex∨X.s₀.heap.objs.size≤b)∧b≠X.env.locals∧(∀ x c,X.env.cells.lookup x=some c→c≠b)∧∀ p∈X.pn++pins,p.1≠b)
 (keep:∀ b o,b≠X.env.locals→b ∉ X.fs→b ∉ ch→s.heap.get? b=some o→H b=none→h'.get? b=some o)
 (slot:∀ b o,b≠X.env.locals→b∈X.fs→b ∉ ch→s.heap.get? b=some o→H b=none→∃ sl,h'.get? b=some {o with slots:=sl}) (free:∀ b o,b ∉ ch→s.heap.get? b=some o→H b=none→H' b=none)
 (there:∀ b o,b ∉ ch→s.heap.get? b=some o→∃ o',h'.get? b=some o')
 (tups:∀ b xs,H b=some (.tup xs)→H' b=some (.tup xs)) (frzs:∀ b o u,H b=some (.frz o u)→H' b=some (.frz o u)) (tbls:∀ b ps,H b=some (.tbl ps)→∃ more,H' b=some (.tbl (ps++more)))
 (ns:∀ m,s.heap.Ns X.env.locals m→h'.Ns X.env.locals m) (hok:HOk X.prog X.w H' h') (hg:AllBare g'):
 Inv X pins σ H' {s with heap:=h',gens:=g',drawn:=d',toks:=t'}:=by
 have neL:∀ b o,X.s₀.heap.get? b=some o→b≠X.env.locals:=fun b o e=>Nat.ne_of_lt (Nat.lt_of_lt_of_le (Heap.lt_size e) I.ok.above)
 have neC:∀ b o,X.s₀.heap.get? b=some o→b ∉ X.ex→b ∉ ch:=fun b o e hx hb=>by
  rcases (hch b hb).1 with z | z
  · exact hx z
  · exact absurd (Nat.lt_of_lt_of_le (Heap.lt_size e) z) (Nat.lt_irrefl _)
 have cellK:∀ x c,X.env.cells.lookup x=some c→∀ v,s.heap.IsCell c v→h'.IsCell c v:=fun x c e v ⟨o,ho,hd⟩=>by
  have nch:c ∉ ch:=fun z=>(hch c z).2.2.1 x c e rfl
  by_cases hc:c∈X.fs
  · obtain⟨sl,q⟩:=slot c o (I.cne x c e) hc nch ho (I.freeC x c e)
    exact⟨_,q,hd⟩
  · exact⟨o,keep c o (I.cne x c e) hc nch ho (I.freeC x c e),hd⟩
 refine⟨I.ok,I.os,hg,⟨fun b o e n hb hx=>?_,fun b o e n hb hx=>?_,fun b o e n hx=>?_,fun b o e hx=>?_,fun b xs e=>tups b xs (I.base.tups b xs e),fun b o xs e=>frzs b o xs (I.base.frzs b o xs e),fun b ps e=>?_⟩,?_,fun x c e=>?_,?_,fun x c e=>?_,fun p hp=>?_,hok,I.len⟩
 · exact keep b o (neL b o e) hb (neC b o e hx) (I.base.keep b o e n hb hx) (I.base.free b o e n hx)
 · obtain⟨sl,e1⟩:=I.base.slot b o e n hb hx
   obtain⟨sl',e2⟩:=slot b _ (neL b o e) hb (neC b o e hx) e1 (I.base.free b o e n hx)
   exact⟨sl',e2⟩
 · obtain⟨o',e1⟩:=I.base.there b o e hx
   exact free b o' (neC b o e hx) e1 (I.base.free b o e n hx)
 · obtain⟨o',e1⟩:=I.base.there b o e hx
   exact there b o' (neC b o e hx) e1
 · obtain⟨m1,e1⟩:=I.base.tbls b ps e
   obtain⟨m2,e2⟩:=tbls b _ e1
   exact⟨m1++m2,by rw [e2,Array.append_assoc]⟩
 · obtain⟨m,hn,hl⟩:=I.loc
   refine⟨m,ns m hn,fun i x v e1 e2 e3=>?_⟩
   obtain⟨u,r,l⟩:=hl i x v e1 e2 e3
   refine⟨u,r,?_⟩
   rcases l with l | ⟨k,c,e,z⟩
   · exact .inl l
   · exact .inr ⟨k,c,e,cellK x c e _ z⟩
 · obtain⟨v,z⟩:=I.cell x c e
   exact⟨v,cellK x c e v z⟩
 · obtain⟨m,⟨o,_,_,ho,_⟩,_⟩:=I.loc
   exact free _ o (fun z=>(hch _ z).2.1 rfl) ho I.free
 · obtain⟨v,o,ho,hd⟩:=I.cell x c e
   exact free c o (fun z=>(hch c z).2.2.1 x c e rfl) ho (I.freeC x c e)
 · obtain⟨e,n,ne,nf,d⟩:=I.pin p hp
   have nch:p.1 ∉ ch:=fun z=>(hch p.1 z).2.2.2 p hp rfl
   exact⟨keep p.1 p.2 ne nf nch e n,free p.1 p.2 nch e n,ne,nf,d⟩
theorem Inv.un {t':Nat}(I:Inv X pins σ H s)(u:Un X.fs [] H H' s.heap h')(hok:HOk X.prog X.w H' h'):Inv X pins σ H' {s with heap:=h',toks:=t'}:=by
 obtain⟨m,⟨o,es,ep,ho,r⟩,_⟩:=id I.loc
 obtain⟨sl,hL⟩:=u.any ho I.free (by simp)
 exact I.step (g':=s.gens) (d':=s.drawn) (ch:=[]) (fun _ z=>nomatch z) (fun b o _ hb _ e n=>u.keep b o e n hb (by simp)) (fun b o _ hb _ e n=>u.slot b o e n hb (by simp)) (fun b o _ e n=>u.free b o e n (by simp)) (fun b o _ e=>u.there b o e (by simp)) u.tups u.frzs u.tbls (fun m' hm=>by
  obtain⟨o',es',ep',ho',r'⟩:=hm
  rw [ho] at ho';cases ho'
  exact⟨_,es',ep',hL,r'⟩) hok I.bare
theorem Inv.call {g':Array GenState}{t':Nat}{d':Drawn}{ch:List Addr}(I:Inv X pins σ H s)(u:Un (frs X.stack) ch H H' s.heap h')(hok:HOk X.prog X.w H' h')(hg:AllBare g')
 (hch:∀ b∈ch,(b∈X.ex∨X.s₀.heap.objs.size≤b)∧b≠X.env.locals∧(∀ x c,X.env.cells.lookup x=some c→c≠b)∧∀ p∈X.pn++pins,p.1≠b):
 Inv X pins σ H' {s with heap:=h',gens:=g',drawn:=d',toks:=t'}:=by
 obtain⟨m,⟨o,es,ep,ho,r⟩,_⟩:=id I.loc
 obtain⟨sl,hL⟩:=u.any ho I.free fun z=>(hch _ z).2.1 rfl
 exact I.step (ch:=ch) hch (fun b o hL hb hc e n=>u.keep b o e n (fun z=>(List.mem_cons.mp (I.stkSub b z)).elim hL hb) hc) (fun b o _ _ hc e n=>u.any e n hc) (fun b o hc e n=>u.free b o e n hc) (fun b o hc e=>u.there b o e hc) u.tups u.frzs u.tbls (fun m' hm=>by
  obtain⟨o',es',ep',ho',r'⟩:=hm
  rw [ho] at ho';cases ho'
  exact⟨_,es',ep',hL,r'⟩) hok hg
theorem Inv.turned {t':Nat}{it:Addr}(I:Inv X pins σ H s)(k:∀ b o,b≠it→s.heap.get? b=some o→h'.get? b=some o)(hn:H it=none)(hL:it≠X.env.locals)
 (h1:it∈X.ex∨X.s₀.heap.objs.size≤it) (h2:∀ x c,X.env.cells.lookup x=some c→c≠it) (h3:∀ p∈X.pn++pins,p.1≠it):Inv X pins σ H {s with heap:=h',toks:=t'}:=by
 have nit:∀ b u,H b=some u→b≠it:=fun b u e z=>by rw [z,hn] at e;cases e
 refine I.step (g':=s.gens) (d':=s.drawn) (ch:=[it]) (fun b hb=>?_) (fun b o _ _ hc e _=>k b o (fun z=>hc (by simp [z])) e) (fun b o _ _ hc e _=>⟨o.slots,k b o (fun z=>hc (by simp [z])) e⟩) (fun _ _ _ _ n=>n)
  (fun b o hc e=>⟨o,k b o (fun z=>hc (by simp [z])) e⟩) (fun _ _ e=>e) (fun _ _ _ e=>e) (fun b ps e=>⟨#[],by rw [e];simp⟩) (fun m hm=>?_) (fun b u e=>?_) I.bare
 · have e:b=it:=by simpa using hb
   subst e
   exact⟨h1,hL,h2,h3⟩
 · obtain⟨o,es,ep,ho,r⟩:=hm
   exact⟨o,es,ep,k _ o (Ne.symm hL) ho,r⟩
 · refine(I.hok b u e).stay (fun c v hc q=>k c v ?_ q) (fun _ q=>q) fun _ _ q=>q
   rcases hc with z | z
   · rw [z];exact nit b u e
   · exact nit c _ z
theorem Inv.tok (I:Inv X pins σ H s)(t:Nat):Inv X pins σ H {s with toks:=t}:=I.un (h':=s.heap) (t':=t) Un.refl I.hok
theorem Inv.kept {t':Nat}(I:Inv X pins σ H s)(k:∀ b u,s.heap.get? b=some u→h'.get? b=some u):Inv X pins σ H {s with heap:=h',toks:=t'}:=I.un (Un.kept k) (I.hok.kept k)
theorem Inv.laid {a:Addr}{o:HO}{t':Nat}(I:Inv X pins σ H s)(k:∀ b u,s.heap.get? b=some u→h'.get? b=some u)(hp:s.heap.objs.size≤a)(new:ObjOk X.prog X.w (upd H a o) h' a o):
 Inv X pins σ (upd H a o) {s with heap:=h',toks:=t'}:=I.un (Un.laid k hp (I.hok.fresh hp)) (I.hok.laid k hp new)
theorem Inv.write {x e:Addr}{o:HO}{t':Nat}(I:Inv X pins σ H s)(mu:Mut (H x))(he:e=x∨H e=some (.own x))(k:∀ b u,b≠e→s.heap.get? b=some u→h'.get? b=some u)(heo:∃ u,h'.get? e=some u)
 (new:ObjOk X.prog X.w (upd H x o) h' x o):Inv X pins σ (upd H x o) {s with heap:=h',toks:=t'}:=I.un (Un.write mu he k heo) (I.hok.write mu he k heo new)
theorem Inv.weak {σ':List (Option V)}(I:Inv X pins σ H s)(hl:σ'.length=σ.length)(w:∀ (i:Nat) v,σ'[i]? =some (some v)→σ[i]? =some (some v)):Inv X pins σ' H s:=
 ⟨I.ok,I.os,I.bare,I.base,let ⟨m,hn,hl'⟩:=I.loc;⟨m,hn,fun i x v e1 e2 e3=>hl' i x v e1 (w i v e2) e3⟩,I.cell,I.free,I.freeC,I.pin,I.hok,hl.trans I.len⟩
theorem Inv.pins_of {pins':List (Addr × Obj)}(I:Inv X pins σ H s)(h:∀ p∈pins',s.heap.get? p.1=some p.2∧H p.1=none∧p.1≠X.env.locals∧p.1 ∉ X.fs∧∀ v,p.2.data≠ .cell v):Inv X pins' σ H s:=
 ⟨I.ok,I.os,I.bare,I.base,I.loc,I.cell,I.free,I.freeC,fun p hp=>(List.mem_append.mp hp).elim (fun z=>I.pin p (List.mem_append_left _ z)) (h p),I.hok,I.len⟩
theorem qCb {N:List Str}(hN:N.Nodup){i j:Nat}{x:Str}(a:N[i]? =some x)(b:N[j]? =some x):i=j:=by
 obtain⟨h1,e1⟩:=List.getElem?_eq_some_iff.mp a
 obtain⟨h2,e2⟩:=List.getElem?_eq_some_iff.mp b
 exact(List.getElem_inj hN).mp (e1.trans e2.symm)
theorem qEo {M:Model}{A:Around}{E:Value→Shared→Prop}{i:Nat}{x:Str}{v:V}{u:Value}{Q:Unit→Shared→Prop}(I:Inv X pins σ H s)(hN:X.N.Nodup)(hi:X.N[i]? =some x)(hx:Loc X.env.scope x)(r:RelV v u)
 (h:∀ s',Inv X pins (σ.set i (some v)) H s'→(∃ a,Heap.SameBut a s.heap s'.heap∧(a=X.env.locals∨X.env.cells.lookup x=some a))→Q () s') (hf:X.fn x=true∨X.env.scope.names.lookup x=some .local:=by first | exact .inl rfl | exact .inr rfl | assumption):wpAny M A (storeName X.env x u) Q E s:=by
 obtain⟨m,hn,hl⟩:=id I.loc
 have hcls:(X.env.scope.kind == .class || (X.env.scope.kind == .module && X.env.locals != X.env.globals))=false:=by rw [I.ok.kind];rfl
 have hiσ:i < σ.length:=by rw [I.len];exact(List.getElem?_eq_some_iff.mp hi).1
 have cne:=I.cne
 have tracked:∀ {a:Addr} {h':Heap},(∃ o,s.heap.get? a=some o∧H a=none)→Heap.SameBut a s.heap h'→HOk X.prog X.w H h':=fun {a h'} ha hs b ob e=>by
  obtain⟨_,_,hfree⟩:=ha
  refine(I.hok b ob e).stay (fun c w' hc q=>(hs.2 c ?_).trans q) (fun _ q=>q) fun _ _ q=>q
  rintro rfl
  rcases hc with rfl | hc
  · rw [hfree] at e;cases e
  · rw [hfree] at hc;cases hc
 rcases hx with hk | hk
 · refine wpAny_storeName_local hk hn (fun h' hn' hs=>?_) hcls
   obtain⟨oL,_,_,hoL,_⟩:=id hn
   refine h _ ⟨I.ok,I.os,I.bare,⟨fun b o e n hb hx=>?_,fun b o e n hb hx=>?_,I.base.free,fun b o e hx=>?_,I.base.tups,I.base.frzs,I.base.tbls⟩,⟨_,hn',fun j y v' e1 e2 e3=>?_⟩,fun y c e=>?_,I.free,I.freeC,fun p hp=>?_,tracked ⟨oL,hoL,I.free⟩ hs,by simpa using I.len⟩ ⟨_,hs,.inl rfl⟩
   · exact(hs.2 b (Nat.ne_of_lt (Nat.lt_of_lt_of_le (Heap.lt_size e) I.ok.above))).trans (I.base.keep b o e n hb hx)
   · obtain⟨sl,e1⟩:=I.base.slot b o e n hb hx
     exact⟨sl,(hs.2 b (Nat.ne_of_lt (Nat.lt_of_lt_of_le (Heap.lt_size e) I.ok.above))).trans e1⟩
   · obtain⟨o',e1⟩:=I.base.there b o e hx
     exact⟨o',(hs.2 b (Nat.ne_of_lt (Nat.lt_of_lt_of_le (Heap.lt_size e) I.ok.above))).trans e1⟩
   · by_cases hj:j=i
     · subst hj
       rw [hi] at e1;cases e1
       rw [List.getElem?_set_self hiσ] at e2
       cases e2
       exact⟨u,r,.inl ⟨hk,by simp⟩⟩
     · rw [List.getElem?_set_ne (Ne.symm hj)] at e2
       obtain⟨u',r',q⟩:=hl j y v' e1 e2 e3
       refine⟨u',r',?_⟩
       rcases q with ⟨k,e⟩ | ⟨k,c,e,z⟩
       · refine .inl ⟨k,?_⟩
         have:y≠x:=fun e=>hj (qCb hN e1 (e ▸ hi))
         simp [this,e]
       · exact .inr ⟨k,c,e,z.sameBut hs (cne y c e)⟩
   · obtain⟨w',z⟩:=I.cell y c e
     exact⟨w',z.sameBut hs (cne y c e)⟩
   · obtain⟨e,n,ne,nf,d⟩:=I.pin p hp
     exact⟨(hs.2 p.1 ne).trans e,n,ne,nf,d⟩
 · have hfn:X.fn x=true:=by
    rcases hf with z | z
    · exact z
    · rw [z] at hk;cases hk
   obtain⟨c,hc⟩:=I.ok.has x (.inl hk)
   obtain⟨w',z⟩:=I.cell x c hc
   refine wpAny_storeName_cell I.ok.kind hk hc z (fun h' hc' hs=>?_)
   obtain⟨oc,hoc,hocd⟩:=id z
   refine h {s with heap:=h'} ⟨I.ok,I.os,I.bare,⟨fun b o e n hb hx=>?_,fun b o e n hb hx=>?_,I.base.free,fun b o e hx=>?_,I.base.tups,I.base.frzs,I.base.tbls⟩,⟨m,hn.sameBut hs (Ne.symm (cne x c hc)),fun j y v' e1 e2 e3=>?_⟩,fun y c' e=>?_,I.free,I.freeC,fun p hp=>?_,tracked ⟨oc,hoc,I.freeC x c hc⟩ hs,by simpa using I.len⟩ ⟨c,hs,.inr hc⟩
   · exact(hs.2 b (Nat.ne_of_lt (Nat.lt_of_lt_of_le (Heap.lt_size e) (I.ok.cab x c hfn hc)))).trans (I.base.keep b o e n hb hx)
   · obtain⟨sl,e1⟩:=I.base.slot b o e n hb hx
     exact⟨sl,(hs.2 b (Nat.ne_of_lt (Nat.lt_of_lt_of_le (Heap.lt_size e) (I.ok.cab x c hfn hc)))).trans e1⟩
   · obtain⟨o',e1⟩:=I.base.there b o e hx
     exact⟨o',(hs.2 b (Nat.ne_of_lt (Nat.lt_of_lt_of_le (Heap.lt_size e) (I.ok.cab x c hfn hc)))).trans e1⟩
   · by_cases hj:j=i
     · subst hj
       rw [hi] at e1;cases e1
       rw [List.getElem?_set_self hiσ] at e2
       cases e2
       exact⟨u,r,.inr ⟨.inl hk,c,hc,hc'⟩⟩
     · rw [List.getElem?_set_ne (Ne.symm hj)] at e2
       obtain⟨u',r',q⟩:=hl j y v' e1 e2 e3
       refine⟨u',r',?_⟩
       rcases q with q | ⟨k,c',e,z'⟩
       · exact .inl q
       · refine .inr ⟨k,c',e,z'.sameBut hs ?_⟩
         rintro rfl
         exact hj (qCb hN e1 (I.ok.inj _ _ _ e hc ▸ hi))
   · by_cases hcc:c'=c
     · subst hcc;exact⟨_,hc'⟩
     · obtain⟨w2,z2⟩:=I.cell y c' e
       exact⟨w2,z2.sameBut hs hcc⟩
   · obtain⟨e,n,ne,nf,d⟩:=I.pin p hp
     refine⟨(hs.2 p.1 ?_).trans e,n,ne,nf,d⟩
     intro q
     rw [q,hoc] at e
     have q':oc=p.2:=Option.some.inj e
     exact d w' (by rw [← q'];exact hocd)
theorem z9 {M:Model}{A:Around}{E:Value→Shared→Prop}{i:Nat}{x:Str}{v:V}{u:Value}{Q:Unit→Shared→Prop}(I:Inv X pins σ H s)(hN:X.N.Nodup)(hi:X.N[i]? =some x)(hx:Loc X.env.scope x)(r:RelV v u)
 (h:∀ s',Inv X pins (σ.set i (some v)) H s'→Q () s') (hf:X.fn x=true∨X.env.scope.names.lookup x=some .local:=by first | exact .inl rfl | exact .inr rfl | assumption):wpAny M A (storeName X.env x u) Q E s:=
 qEo I hN hi hx r (fun s' I' _=>h s' I') hf
theorem Inv.call' {s':Shared}{ch:List Addr}(I:Inv X pins σ H s)(ho:s'.os=s.os)(u:Un (frs X.stack) ch H H' s.heap s'.heap)(hok:HOk X.prog X.w H' s'.heap)(hg:AllBare s'.gens)
 (hch:∀ b∈ch,(b∈X.ex∨X.s₀.heap.objs.size≤b)∧b≠X.env.locals∧(∀ x c,X.env.cells.lookup x=some c→c≠b)∧∀ p∈X.pn++pins,p.1≠b):Inv X pins σ H' s':=by
 obtain⟨h',g',d',t',o'⟩:=s'
 have e:o'=s.os:=ho
 subst e
 exact I.call (g':=g') (t':=t') (d':=d') u hok hg hch
end
abbrev XK:=Value→Option Addr→Hp→Prop
abbrev St:=List (Option V)
abbrev VK:=V→Hp→Prop
abbrev TE:=St→Hp→VK→Prop
abbrev TT:=St→Hp→(Bool→Hp→Prop)→Prop
abbrev TA:=St→Hp→(List V→Hp→Prop)→Prop
structure qHr where
 nx:St→Hp→Prop
 rt:VK
 bk:St→Hp→Prop:=fun _ _=>False
 ct:St→Hp→Prop:=fun _ _=>False
abbrev TS:=qHr→St→Hp→Prop
def EP (X:Cx)(pins:List (Addr × Obj))(σ:St)(Q:VK)(u:Value)(s':Shared):Prop:=∃ v H',Inv X pins σ H' s'∧RelV v u∧Q v H'
def TP (X:Cx)(pins:List (Addr × Obj))(σ:St)(Q:Bool→Hp→Prop)(b:Bool)(s':Shared):Prop:=∃ H',Inv X pins σ H' s'∧Q b H'
def AP (X:Cx)(pins:List (Addr × Obj))(σ:St)(Q:List V→Hp→Prop)(us:List Value)(s':Shared):Prop:=∃ vs H',Inv X pins σ H' s'∧Vals vs us∧Q vs H'
def SP (X:Cx)(pins:List (Addr × Obj))(D:qHr)(f:Flow)(s':Shared):Prop:=
 match f with
 | .next=>∃ σ' H',Inv X pins σ' H' s'∧D.nx σ' H'
 | .brk=>∃ σ' H',Inv X pins σ' H' s'∧D.bk σ' H'
 | .cont=>∃ σ' H',Inv X pins σ' H' s'∧D.ct σ' H'
 | .ret u=>∃ v σ' H',Inv X pins σ' H' s'∧RelV v u∧D.rt v H'
def PE (X:Cx)(e:Expr)(t:TE):Prop:=
 ∀ (pins:List (Addr × Obj)) (s:Shared) (σ:St) (H:Hp) (Q:VK),Inv X pins σ H s→t σ H Q→wpAny (model X.prog X.w) X.A (eval e X.env) (EP X pins σ Q) X.xe s
def PT (X:Cx)(e:Expr)(t:TT):Prop:=
 ∀ (pins:List (Addr × Obj)) (s:Shared) (σ:St) (H:Hp) (Q:Bool→Hp→Prop),Inv X pins σ H s→t σ H Q→wpAny (model X.prog X.w) X.A (isTrue e X.env (eval e X.env)) (TP X pins σ Q) X.xe s
def PW (X:Cx)(e:Expr)(t:TT):Prop:=
 ∀ (whole:Sem Value) (pins:List (Addr × Obj)) (s:Shared) (σ:St) (H:Hp) (Q:Bool→Hp→Prop),Inv X pins σ H s→t σ H Q→wpAny (model X.prog X.w) X.A (isTrue e X.env whole) (TP X pins σ Q) X.xe s
theorem PW.pt {X:Cx}{e:Expr}{t:TT}(h:PW X e t):PT X e t:=h _
def PA (X:Cx)(es:List Expr)(t:TA):Prop:=
 ∀ (pos:Pos) (pins:List (Addr × Obj)) (s:Shared) (σ:St) (H:Hp) (Q:List V→Hp→Prop),Inv X pins σ H s→t σ H Q→wpAny (model X.prog X.w) X.A (spliced (backTo pos (starEach es X.env))) (AP X pins σ Q) X.xe s
def PS (X:Cx)(st:Stmt)(t:TS):Prop:=
 ∀ (pins:List (Addr × Obj)) (s:Shared) (σ:St) (H:Hp) (D:qHr),Inv X pins σ H s→t D σ H→wpAny (model X.prog X.w) X.A (exec st X.env) (SP X pins D) X.xe s
def PSs (X:Cx)(st:List Stmt)(t:TS):Prop:=
 ∀ (pins:List (Addr × Obj)) (s:Shared) (σ:St) (H:Hp) (D:qHr),Inv X pins σ H s→t D σ H→wpAny (model X.prog X.w) X.A (execs st X.env) (SP X pins D) X.xe s
theorem thn {α:Type}{t:Sem α}{Q Q':α→Shared→Prop}{M:Model}{A:Around}{E:Value→Shared→Prop}{s:Shared}(h:wpAny M A t Q E s)(hQ:∀ a s,Q a s→Q' a s):wpAny M A t Q' E s:=wpAny_mono h hQ fun _ _ x=>x
end L2
namespace L2
open PySem PySem.Spec PyProof.Rows
section
variable {X : Cx}
theorem bin {a b:Expr}{ta tb:TE}(ha:PE X a ta)(hb:PE X b tb){pins:List (Addr × Obj)}{s:Shared}{σ:St}{H:Hp}{R:V→V→Hp→Prop}(I:Inv X pins σ H s)(h:ta σ H fun x H1=>tb σ H1 fun y H2=>R x y H2)
 {α:Type} {Q:α→Shared→Prop} {f:Value→Value→Sem α}
 (hf:∀ v u s2 x y H2,Inv X pins σ H2 s2→RelV x v→RelV y u→R x y H2→wpAny (model X.prog X.w) X.A (f v u) Q X.xe s2):
 wpAny (model X.prog X.w) X.A (eval a X.env) (fun v s₁=>wpAny (model X.prog X.w) X.A (eval b X.env) (fun u s₂=>wpAny (model X.prog X.w) X.A (f v u) Q X.xe s₂) X.xe s₁) X.xe s:=by
 refine thn (ha pins s σ H _ I h) fun v s1 ⟨x,H1,I1,r1,q1⟩=>?_
 refine thn (hb pins s1 σ H1 _ I1 q1) fun u s2 ⟨y,H2,I2,r2,q2⟩=>?_
 exact hf v u s2 x y H2 I2 r1 r2 q2
inductive qN6 (i:Nat)(σ:L2.St)(H:Hp)(Q:VK):Prop
| mk v (_:σ[i]? =some (some v)) (_:Q v H)
def tC (v:V):TE:=fun _ H Q=>Q v H
theorem qN1 {i:Nat}{x:Str}{pos:Pos}(hN:X.N[i]? =some x)(hv:Vis X.env.scope x)(hd:(x == ("__debug__":Str))=false:=by decide)(hcd:(x == ("__classdict__":Str))=false:=by decide):PE X (.Name x pos) (qN6 i):=by
 intro pins s σ H Q I h
 obtain⟨v,e,h⟩:=h
 obtain⟨m,hn,hl⟩:=I.loc
 obtain⟨u,r,l⟩:=hl i x v hN e hv
 have fin:EP X pins σ Q u s:=⟨v,H,I,r,h⟩
 rcases l with ⟨hk,hm⟩ | ⟨hk,c,hc,hcell⟩
 · exact wpAny_Name (wpAny_loadName_local I.ok.kind hk hn hm fin) hd
 · rcases hk with hk | hk
   · exact wpAny_Name (wpAny_loadName_cell I.ok.kind hk hc hcell fin) hd
   · exact wpAny_Name (wpAny_loadName_free I.ok.kind hk hc hcell fin hcd) hd
theorem qE {i j pos}:PE X (.Constant (.int i) j pos) (tC (.int i)):=fun _ _ _ H _ I h=>wpAny_Constant_int ⟨.int i,H,I.tok _,⟨_,rfl⟩,h⟩
theorem jn {b j pos}:PE X (.Constant (.bool b) j pos) (tC (.bl b)):=fun _ _ _ H _ I h=>Constant_bool ⟨.bl b,H,I,rfl,h⟩
theorem qE4 {j pos}:PE X (.Constant .none j pos) (tC .non):=fun _ _ _ H _ I h=>Constant_none ⟨.non,H,I,rfl,h⟩
theorem qV {x j pos}:PE X (.Constant (.str x) j pos) (tC (.str x)):=fun _ _ _ H _ I h=>Calls.Constant_str ⟨.str x,H,I.tok _,⟨_,rfl⟩,h⟩
def Gl (X:Cx)(x:Str):Prop:=X.env.kindOf x=some .globalImplicit
theorem qAq {E:Value→Shared→Prop}{pins:List (Addr × Obj)}{s:Shared}{σ:St}{H:Hp}{x:Str}{u:Value}{pos:Pos}{Q:Value→Shared→Prop}(I:Inv X pins σ H s)(hg:Gl X x)(hm:X.mg x=some u)(h:Q u s)
 (hd:(x == ("__debug__":Str))=false:=by decide):wpAny (model X.prog X.w) X.A (eval (.Name x pos) X.env) Q E s:=
 Calls.Name_function_global I.ok.kind hg (Calls.loadGlobal_global (by rw [I.ok.glob];exact I.mod.glob.keeps I.bk) hm h) hd
theorem qE3 {E:Value→Shared→Prop}{pins:List (Addr × Obj)}{s:Shared}{σ:St}{H:Hp}{x:Str}{u:Value}{pos:Pos}{Q:Value→Shared→Prop}(I:Inv X pins σ H s)(hg:Gl X x)(hm:X.mg x=none)(hv:bootBuiltins x=some u)(h:Q u s)
 (hn:x≠"__name__":=by decide) (hd:(x == ("__debug__":Str))=false:=by decide):wpAny (model X.prog X.w) X.A (eval (.Name x pos) X.env) Q E s:=by
 obtain⟨mb,h1,h2⟩:=I.mod.blt
 exact Calls.Name_function_global I.ok.kind hg (Calls.loadGlobal_builtin (by rw [I.ok.glob];exact I.mod.glob.keeps I.bk) hm (by rw [I.ok.blt];exact h1.keeps I.bk) ((h2 x hn).trans hv) h) hd
theorem ju {x:Str}{v:V}{u:Value}{pos:Pos}(hg:Gl X x)(hm:X.mg x=some u)(r:RelV v u)(hd:(x == ("__debug__":Str))=false:=by decide):PE X (.Name x pos) (tC v):=
 fun _ _ _ H _ I h=>qAq I hg hm ⟨v,H,I,r,h⟩ hd
theorem qLx {x:Str}{v:V}{u:Value}{pos:Pos}(hg:Gl X x)(hm:X.mg x=none)(hv:bootBuiltins x=some u)(r:RelV v u)(hn:x≠"__name__":=by decide)(hd:(x == ("__debug__":Str))=false:=by decide):PE X (.Name x pos) (tC v):=
 fun _ _ _ H _ I h=>qE3 I hg hm hv ⟨v,H,I,r,h⟩ hn hd
variable {a b : Expr} {ta tb : TE} {pos : Pos}
def PC (X:Cx)(op:CmpOp)(a b:Expr)(t:TE):Prop:=
 ∀ (pins:List (Addr × Obj)) (s:Shared) (σ:St) (H:Hp) (Q:VK),Inv X pins σ H s→t σ H Q→
  wpAny (model X.prog X.w) X.A (eval a X.env) (fun v s₁=>wpAny (model X.prog X.w) X.A (eval b X.env) (fun u s₂=>wpAny (model X.prog X.w) X.A (compareOp op v u) (EP X pins σ Q) X.xe s₂) X.xe s₁) X.xe s
theorem qG1 (b:Expr){op:CmpOp}(h:op≠ .In)(h2:op≠ .NotIn):behindInMarks op b=false:=by
 have e1:(op == CmpOp.In)=false:=by cases op <;> first | rfl | exact absurd rfl h
 have e2:(op == CmpOp.NotIn)=false:=by cases op <;> first | rfl | exact absurd rfl h2
 cases b <;> simp [behindInMarks,e1,e2]
def qQf (ta:TE):TE:=fun σ H Q=>ta σ H fun x H1=>Q (.bl (decide (x= .non))) H1
def qOo (ta:TE):TE:=fun σ H Q=>ta σ H fun x H1=>Q (.bl (!decide (x= .non))) H1
theorem RelV.none_iff {x:V}{v:Value}(r:RelV x v):(v == Value.none)=decide (x= .non):=by
 cases x with
 | non=>cases r;rfl
 | bl _=>cases r;rfl
 | int _=>obtain⟨t,rfl⟩:=r;rfl
 | str _=>obtain⟨t,rfl⟩:=r;rfl
 | byt _=>obtain⟨t,rfl⟩:=r;rfl
 | flt _=>obtain⟨t,rfl⟩:=r;rfl
 | ref _=>cases r;rfl
 | ty _=>cases r;rfl
theorem qA4 {j pos'}(ha:PE X a ta):PC X .Is a (.Constant .none j pos') (qQf ta):=by
 intro pins s σ H Q I h
 refine thn (ha pins s σ H _ I h) fun v s1 ⟨x,H1,I1,r1,q1⟩=>?_
 exact Constant_none (is_none_gen ⟨.bl _,H1,I1,by rw [r1.none_iff];rfl,q1⟩)
theorem qMq {j pos'}(ha:PE X a ta):PC X .IsNot a (.Constant .none j pos') (qOo ta):=by
 intro pins s σ H Q I h
 refine thn (ha pins s σ H _ I h) fun v s1 ⟨x,H1,I1,r1,q1⟩=>?_
 exact Constant_none (isnot_none_gen ⟨.bl _,H1,I1,by rw [r1.none_iff];rfl,q1⟩)
inductive tBI (Q:Bool→Hp→Prop)(x:V)(H1:Hp):Prop
| mk c (_:x= .bl c) (_:Q c H1)
def tB (t:TE):TT:=fun σ H Q=>t σ H fun x H1=>tBI Q x H1
theorem qI0 {op:CmpOp}{t:TE}(h:PC X op a b t)(h1:behindInMarks op b=false:=by first | exact qG1 _ (by decide) (by decide) | rfl):PE X (.Compare a [op] [b] pos) t:=fun pins s σ H Q I hw=>wpAny_Compare1 (h pins s σ H Q I hw) h1
theorem wD {op:CmpOp}{t:TE}(h:PC X op a b t)(h1:behindInMarks op b=false:=by first | exact qG1 _ (by decide) (by decide) | rfl):PT X (.Compare a [op] [b] pos) (tB t):=by
 intro pins s σ H Q I hw
 refine wpAny_isTrue_Compare1 (thn (h pins s σ H _ I hw) fun v s1 h1=>thn h1 fun u s2 h2=>thn h2 fun c s3 ⟨x,H1,I1,r1,q1⟩=>?_) h1
 obtain⟨d,rfl,q⟩:=q1
 cases r1
 exact wpAny_truthy_bool ⟨H1,I1,q⟩
theorem qc {e:Expr}{t:TE}(h:PE X e t)(he:∀ whole,isTrue e X.env whole=(do let v ← whole;standAt e.pos;holding [v] (truthy v)):=by intro _;rfl):PT X e (tB t):=by
 intro pins s σ H Q I hw
 refine isTrue_plain (thn (h pins s σ H _ I hw) fun v s1 ⟨x,H1,I1,r1,q1⟩=>?_) (he _)
 obtain⟨d,rfl,q⟩:=q1
 cases r1
 exact wpAny_truthy_bool ⟨H1,I1,q⟩
variable {tA tB' : TT} {rest : List Expr}
def qPv (t u:TT):TT:=fun σ H Q=>t σ H fun c H1=>if c=true then u σ H1 Q else Q false H1
def tOr (t u:TT):TT:=fun σ H Q=>t σ H fun c H1=>if c=true then Q true H1 else u σ H1 Q
def qQb (t:TT):TT:=fun σ H Q=>t σ H fun c H1=>Q (!c) H1
theorem ji (ha:PT X a tA):PW X (.BoolOp .And [a] pos) tA:=by
 intro wh pins s σ H Q I h
 refine isTrue_and (thn (ha pins s σ H Q I h) fun c s1 e=>?_)
 cases c with
 | true=>exact isTrue_and_nil e
 | false=>exact e
theorem jH (ha:PT X a tA):PW X (.BoolOp .Or [a] pos) tA:=by
 intro wh pins s σ H Q I h
 refine isTrue_or (thn (ha pins s σ H Q I h) fun c s1 e=>?_)
 cases c with
 | false=>exact isTrue_or_nil e
 | true=>exact e
theorem xJ (ha:PT X a tA)(hb:PW X (.BoolOp .And (b::rest) pos) tB'):PW X (.BoolOp .And (a::b::rest) pos) (qPv tA tB'):=by
 intro wh pins s σ H Q I h
 refine isTrue_and (thn (ha pins s σ H _ I h) fun c s1 ⟨H1,I1,q1⟩=>?_)
 cases c with
 | true=>exact hb wh pins s1 σ H1 Q I1 q1
 | false=>exact⟨H1,I1,q1⟩
theorem jW (ha:PT X a tA)(hb:PW X (.BoolOp .Or (b::rest) pos) tB'):PW X (.BoolOp .Or (a::b::rest) pos) (tOr tA tB'):=by
 intro wh pins s σ H Q I h
 refine isTrue_or (thn (ha pins s σ H _ I h) fun c s1 ⟨H1,I1,q1⟩=>?_)
 cases c with
 | true=>exact⟨H1,I1,q1⟩
 | false=>exact hb wh pins s1 σ H1 Q I1 q1
theorem qi (ha:PT X a tA):PT X (.UnaryOp .Not a pos) (qQb tA):=by
 intro pins s σ H Q I h
 exact isTrue_not (ha pins s σ H (fun c H1=>Q (!c) H1) I h)
inductive qM8 (tb:TE)(σ:L2.St)(Q:VK)(x:V)(H1:Hp):Prop
| mk c (_:x= .bl c) (_:if c=true then tb σ H1 Q else Q (.bl false) H1)
def qPa (ta tb:TE):TE:=fun σ H Q=>ta σ H fun x H1=>qM8 tb σ Q x H1
inductive qNd (Q:VK)(x:V)(H1:Hp):Prop
| mk c (_:x= .bl c) (_:Q (.bl (!c)) H1)
def qN7 (ta:TE):TE:=fun σ H Q=>ta σ H fun x H1=>qNd Q x H1
theorem zL {op}{t:TE}(h:PE X a t):PE X (.BoolOp op [a] pos) t:=fun pins s σ H Q I hw=>BoolOp_one (h pins s σ H Q I hw)
theorem xL (ha:PE X a ta)(hb:PE X (.BoolOp .And (b::rest) pos) tb):PE X (.BoolOp .And (a::b::rest) pos) (qPa ta tb):=by
 intro pins s σ H Q I h
 refine BoolOp_and (thn (ha pins s σ H _ I h) fun v s1 ⟨x,H1,I1,r1,q1⟩=>?_)
 obtain⟨c,rfl,q1⟩:=q1
 cases r1
 refine wpAny_truthy_bool ?_
 cases c with
 | true=>exact hb pins s1 σ H1 Q I1 q1
 | false=>exact⟨.bl false,H1,I1,rfl,q1⟩
theorem qK9 (ha:PE X a ta):PE X (.UnaryOp .Not a pos) (qN7 ta):=by
 intro pins s σ H Q I h
 refine UnaryOp_ (thn (ha pins s σ H _ I h) fun v s1 ⟨x,H1,I1,r1,q1⟩=>?_)
 obtain⟨c,rfl,q1⟩:=q1
 cases r1
 exact not_of (wpAny_truthy_bool ⟨.bl (!c),H1,I1,rfl,q1⟩)
def tIf (t:TT)(ta tb:TE):TE:=fun σ H Q=>t σ H fun c H1=>if c=true then ta σ H1 Q else tb σ H1 Q
theorem qC5 {c:Expr}(hc:PT X c tA)(ha:PE X a ta)(hb:PE X b tb):PE X (.IfExp c a b pos) (tIf tA ta tb):=by
 intro pins s σ H Q I h
 refine wpAny_IfExp (thn (hc pins s σ H _ I h) fun d s1 ⟨H1,I1,q1⟩=>?_)
 cases d with
 | true=>exact ha pins s1 σ H1 Q I1 q1
 | false=>exact hb pins s1 σ H1 Q I1 q1
end
end L2
namespace L2
open PySem PySem.Spec PyProof.Rows
def SqL (K:PySem.W.Frag)(H:Hp)(a:Addr)(xs:List V):Prop:=
 Rd H a (.lst xs)∨
  ∃ (o:Obj) (its:Array Value) (n:Nat),K.lookup a=some o∧o.cls= .type "list"∧o.dict=none∧o.data= .seq its n∧its.size≤sizeLine∧Vals xs its.toList
def SqT (K:PySem.W.Frag)(H:Hp)(a:Addr)(xs:List V):Prop:=
 Rd H a (.tup xs)∨
  ∃ (o:Obj) (its:Array Value) (n:Nat),K.lookup a=some o∧o.cls= .type "tuple"∧o.data= .seq its n∧its.size≤sizeLine∧Vals xs its.toList
def qQh:Value→Option V
 | .none=>some .non
 | .bool b=>some (.bl b)
 | .int i _=>some (.int i)
 | .str x _=>some (.str x)
 | .bytes b _=>some (.byt b)
 | .float b _=>some (.flt b)
 | .ref a=>some (.ref a)
 | .type n=>some (.ty n)
 | _=>none
theorem RelV.abs {x:V}{u:Value}(r:RelV x u):qQh u=some x:=by
 cases x with
 | non=>cases r;rfl
 | bl _=>cases r;rfl
 | int _=>obtain⟨t,rfl⟩:=r;rfl
 | str _=>obtain⟨t,rfl⟩:=r;rfl
 | byt _=>obtain⟨t,rfl⟩:=r;rfl
 | flt _=>obtain⟨t,rfl⟩:=r;rfl
 | ref _=>cases r;rfl
 | ty _=>cases r;rfl
theorem RelV.inj {x y:V}{u:Value}(r:RelV x u)(q:RelV y u):x=y:=Option.some.inj (r.abs.symm.trans q.abs)
theorem Vals.inj:∀ {xs ys:List V} {us:List Value},Vals xs us→Vals ys us→xs=ys
 | _,_,_,.nil,.nil=>rfl
 | _,_,_,.cons r t,.cons r' t'=>by rw [r.inj r',Vals.inj t t']
section
variable {X : Cx} {pins : List (Addr × Obj)} {σ : St} {H : Hp} {s : Shared} {a : Addr} {xs ys : List V}
theorem SqL.of {K:PySem.W.Frag}(h:H a=some (.lst xs)):SqL K H a xs:=.inl (.inl h)
theorem SqT.of {K:PySem.W.Frag}(h:H a=some (.tup xs)):SqT K H a xs:=.inl (.inl h)
theorem Inv.list (I:Inv X pins σ H s)(h:SqL X.K H a xs):∃ its:List Value,Vals xs its∧PlainL s.heap a its.toArray∧xs.length≤sizeLine:=by
 rcases h with h | ⟨o,its,n,hk,hc,hd,hs,hz,r⟩
 · obtain⟨z,its,n,r,e⟩:=h.ok I.hok
   exact⟨its,r,⟨_,n,e,rfl,rfl,rfl⟩,z⟩
 · refine⟨its.toList,r,⟨o,n,I.kIn a o hk,hc,hd,by simpa using hs⟩,?_⟩
   have e:=r.length
   simp only [Array.length_toList] at e
   omega
theorem Inv.tuple (I:Inv X pins σ H s)(h:SqT X.K H a xs):∃ its:List Value,Vals xs its∧IsTup s.heap a its.toArray∧xs.length≤sizeLine:=by
 rcases h with h | ⟨o,its,n,hk,hc,hs,hz,r⟩
 · obtain⟨z,its,r,p⟩:=h.ok I.hok
   exact⟨its,r,p,z⟩
 · refine⟨its.toList,r,⟨o,I.kIn a o hk,hc,n,by simpa using hs⟩,?_⟩
   have e:=r.length
   simp only [Array.length_toList] at e
   omega
theorem Inv.list_inj (I:Inv X pins σ H s)(h:SqL X.K H a xs)(h':SqL X.K H a ys):xs=ys:=by
 obtain⟨its,r,⟨o,n,e,_,_,d⟩,_⟩:=I.list h
 obtain⟨its',r',⟨o',n',e',_,_,d'⟩,_⟩:=I.list h'
 rw [e] at e';cases e'
 rw [d] at d'
 injection d' with d1 _
 have:its=its':=by simpa using congrArg Array.toList d1
 subst this
 exact r.inj r'
theorem Inv.tuple_inj (I:Inv X pins σ H s)(h:SqT X.K H a xs)(h':SqT X.K H a ys):xs=ys:=by
 obtain⟨its,r,⟨o,e,_,n,d⟩,_⟩:=I.tuple h
 obtain⟨its',r',⟨o',e',_,n',d'⟩,_⟩:=I.tuple h'
 rw [e] at e';cases e'
 rw [d] at d'
 injection d' with d1 _
 have:its=its':=by simpa using congrArg Array.toList d1
 subst this
 exact r.inj r'
end
abbrev Cx.wish (X:Cx)(E:Value→Shared→Prop):Cx:={X with xe:=E}
abbrev Cx.nox (X:Cx):Cx:=X.wish fun _ _=>False
theorem Cx.Ok.wish {X:Cx}(ok:X.Ok)(E:Value→Shared→Prop):(X.wish E).Ok:=
 ⟨ok.mod,ok.kind,ok.glob,ok.blt,ok.above,ok.inj,ok.has,ok.cab,ok.hd,ok.frames,ok.stk,ok.exf,ok.bs,ok.bsz,ok.noex,ok.exfs,ok.funs,ok.frf⟩
theorem Cx.Ok.unwish {X:Cx}{E:Value→Shared→Prop}(ok:(X.wish E).Ok):X.Ok:=
 ⟨ok.mod,ok.kind,ok.glob,ok.blt,ok.above,ok.inj,ok.has,ok.cab,ok.hd,ok.frames,ok.stk,ok.exf,ok.bs,ok.bsz,ok.noex,ok.exfs,ok.funs,ok.frf⟩
section
variable {X : Cx} {pins : List (Addr × Obj)} {σ : St} {H : Hp} {s : Shared} {E : Value → Shared → Prop}
theorem Inv.wish (I:Inv X pins σ H s)(E:Value→Shared→Prop):Inv (X.wish E) pins σ H s:=⟨I.ok.wish E,I.os,I.bare,I.base,I.loc,I.cell,I.free,I.freeC,I.pin,I.hok,I.len⟩
theorem Inv.unwish (I:Inv (X.wish E) pins σ H s):Inv X pins σ H s:=⟨I.ok.unwish,I.os,I.bare,I.base,I.loc,I.cell,I.free,I.freeC,I.pin,I.hok,I.len⟩
theorem SP.unwish {D:qHr}{f:Flow}{s':Shared}(h:SP (X.wish E) pins D f s'):SP X pins D f s':=by
 cases f with
 | next=>obtain⟨σ',H',I,q⟩:=h;exact⟨σ',H',I.unwish,q⟩
 | brk=>obtain⟨σ',H',I,q⟩:=h;exact⟨σ',H',I.unwish,q⟩
 | cont=>obtain⟨σ',H',I,q⟩:=h;exact⟨σ',H',I.unwish,q⟩
 | ret u=>obtain⟨v,σ',H',I,r,q⟩:=h;exact⟨v,σ',H',I.unwish,r,q⟩
theorem PSs.nox {st:List Stmt}{t:TS}(h:PSs X.nox st t):PSs X st t:=fun pins s σ H D I hw=>
 wpAny_mono (h pins s σ H D (I.wish _) hw) (fun _ _ q=>q.unwish) fun _ _ z=>False.elim z
end
section
variable {X : Cx} {st : Stmt} {rest : List Stmt} {t u : TS} {e : Expr} {te : TE} {pos : Pos}
def qOb:TS:=fun D σ H=>D.nx σ H
def qPn (t u:TS):TS:=fun D σ H=>t {D with nx:=u D} σ H
theorem qL:PSs X [] qOb:=fun _ _ σ H _ I h=>wpAny_execs_nil ⟨σ,H,I,h⟩
theorem qC (h1:PS X st t)(h2:PSs X rest u):PSs X (st::rest) (qPn t u):=by
 intro pins s σ H D I h
 refine wpAny_execs_cons (thn (h1 pins s σ H {D with nx:=u D} I h) fun f s1 q=>?_)
 cases f with
 | next=>
  obtain⟨σ',H',I',q⟩:=q
  exact h2 pins s1 σ' H' D I' q
 | ret v=>exact q
 | brk=>exact q
 | cont=>exact q
theorem qD (h1:PS X st t):PSs X [st] t:=by
 intro pins s σ H D I h
 refine wpAny_execs_cons (thn (h1 pins s σ H D I h) fun f s1 q=>?_)
 cases f with
 | next=>exact wpAny_execs_nil q
 | ret v=>exact q
 | brk=>exact q
 | cont=>exact q
theorem Inv.quiet {pins:List (Addr × Obj)}{σ:St}{H:Hp}{s:Shared}(I:Inv X pins σ H s):interactive X.env=false:=by simp [interactive,I.ok.kind]
def qPh (te:TE):TS:=fun D σ H=>te σ H fun _ H1=>D.nx σ H1
theorem jL (he:PE X e te)(hs:swapsWith e none pos.line X.env=pure false:=by rfl):PS X (.Expr e pos) (qPh te):=by
 intro pins s σ H D I h
 exact wpAny_Expr_any (thn (he pins s σ H _ I h) fun v s1 ⟨x,H1,I1,r1,q1⟩=>⟨σ,H1,I1,q1⟩) I.quiet hs
def qPl (te:TE):TS:=fun D σ H=>te σ H D.rt
theorem qN (he:PE X e te):PS X (.Return (some e) pos) (qPl te):=by
 intro pins s σ H D I h
 exact wpAny_Return_some (thn (he pins s σ H _ I h) fun v s1 ⟨x,H1,I1,r1,q1⟩=>⟨x,σ,H1,I1,r1,q1⟩)
def qQd (c:TT)(t u:TS):TS:=fun D σ H=>c σ H fun b H1=>if b=true then t D σ H1 else u D σ H1
theorem qW {c:Expr}{a b:List Stmt}{tc:TT}(hc:PT X c tc)(ha:PSs X a t)(hb:PSs X b u):PS X (.If c a b pos) (qQd tc t u):=by
 intro pins s σ H D I h
 refine wpAny_If (thn (hc pins s σ H _ I h) fun d s1 ⟨H1,I1,q1⟩=>?_)
 cases d with
 | true=>exact ha pins s1 σ H1 D I1 q1
 | false=>exact hb pins s1 σ H1 D I1 q1
def qM3:TS:=fun _ _ _=>False
theorem jX {sts:List Stmt}:PSs X sts qM3:=fun _ _ _ _ _ _ h=>h.elim
end
abbrev TG:=V→St→Hp→(St→Hp→Prop)→Prop
abbrev TGs:=List V→St→Hp→(St→Hp→Prop)→Prop
def PG (X:Cx)(target:Expr)(t:TG):Prop:=
 ∀ (pins:List (Addr × Obj)) (s:Shared) (σ:St) (H:Hp) (v:V) (u:Value) (Q:St→Hp→Prop),Inv X pins σ H s→RelV v u→t v σ H Q→
  wpAny (model X.prog X.w) X.A (assign target X.env u) (fun _ s'=>∃ σ' H',Inv X pins σ' H' s'∧Q σ' H') X.xe s
def PGs (X:Cx)(ts:List Expr)(t:TGs):Prop:=
 ∀ (pins:List (Addr × Obj)) (s:Shared) (σ:St) (H:Hp) (vs:List V) (us:List Value) (Q:St→Hp→Prop),Inv X pins σ H s→Vals vs us→t vs σ H Q→
  wpAny (model X.prog X.w) X.A (assignInOrder ((assignEach ts X.env).map (·.2)) us) (fun _ s'=>∃ σ' H',Inv X pins σ' H' s'∧Q σ' H') X.xe s
abbrev qO6:=V→V→V→Hp→(Hp→Prop)→Prop
def qPk (X:Cx)(t:qO6):Prop:=
 ∀ (pins:List (Addr × Obj)) (s:Shared) (σ:St) (H:Hp) (o i v:V) (ov iv u:Value) (Q:Hp→Prop),Inv X pins σ H s→RelV o ov→RelV i iv→RelV v u→t o i v H Q→
  wpAny (model X.prog X.w) X.A (setItem ov iv u) (fun _ s'=>∃ H',Inv X pins σ H' s'∧Q H') X.xe s
section
variable {X : Cx} {pos : Pos}
def vm (i:Nat):TG:=fun v σ H Q=>Q (σ.set i (some v)) H
theorem qq {i:Nat}{x:Str}(hN:X.N.Nodup)(hi:X.N[i]? =some x)(hx:Loc X.env.scope x)(hf:X.fn x=true∨X.env.scope.names.lookup x=some .local:=by first | exact .inl rfl | exact .inr rfl | assumption):PG X (.Name x pos) (vm i):=by
 intro pins s σ H v u Q I r h
 exact wpAny_assign_Name (z9 I hN hi hx r (fun s' I'=>⟨_,H,I',h⟩) hf)
def qO2:TGs:=fun vs σ H Q=>vs=[]∧Q σ H
inductive qIl (t:TG)(u:TGs)(vs:List V)(σ:L2.St)(H:Hp)(Q:L2.St→Hp→Prop):Prop
| mk v r (_:vs=v::r) (_:t v σ H fun σ' H'=>u r σ' H' Q)
theorem qCq:PGs X [] qO2:=by
 intro pins s σ H vs us Q I r h
 obtain⟨e,h⟩:=h
 subst e
 cases r
 exact assignInOrder_nil ⟨σ,H,I,h⟩
theorem xO {e:Expr}{es:List Expr}{t:TG}{u:TGs}(h1:PG X e t)(h2:PGs X es u)
 (hs:(assignEach (e::es) X.env).map (·.2)=assign e X.env::(assignEach es X.env).map (·.2):=by rfl):PGs X (e::es) (qIl t u):=by
 intro pins s σ H vs us Q I r h
 obtain⟨v,vr,e1,h⟩:=h
 subst e1
 cases r with
 | cons r rr=>
  rw [hs]
  refine assignInOrder_cons (thn (h1 pins s σ H _ _ _ I r h) fun _ s1 ⟨σ1,H1,I1,q1⟩=>?_)
  exact h2 pins s1 σ1 H1 _ _ Q I1 rr q1
inductive qOa (K:PySem.W.Frag)(n:Nat)(t:TGs)(v:V)(σ:L2.St)(H:Hp)(Q:L2.St→Hp→Prop):Prop
| mk a xs (_:v= .ref a) (_:SqT K H a xs) (_:xs.length=n) (_:t xs σ H Q)
theorem qG2 {es:List Expr}{k:Nat}{t:TGs}{n:Nat}(hc:X.calm=true)(h:PGs X es t)
 (hn:(assignEach es X.env).length=n:=by rfl) (hst:(assignEach es X.env).findIdx? (·.1)=none:=by rfl):PG X (.Tuple es k pos) (qOa X.K n t):=by
 intro pins s σ H v u Q I r hw
 obtain⟨a,xs,e1,hq,hl,hw⟩:=hw
 subst e1
 cases r
 obtain⟨its,rv,ht,hz⟩:=I.tuple hq
 refine assign_Tuple_tuple (I.ok.hd hc) ht (by simp [hn,← hl,rv.length]) hst fun h' hx=>?_
 have I1:Inv X pins σ H {s with heap:=h'}:=I.kept (t':=s.toks) fun b o e=>hx b o (Nat.ne_of_lt (Heap.lt_size e)) e
 exact h pins _ σ H xs _ Q I1 (by simpa using rv) hw
def qP1 (to ti:TE)(t:qO6):TG:=fun v σ H Q=>to σ H fun o H1=>ti σ H1 fun i H2=>t o i v H2 fun H3=>Q σ H3
theorem qMy {o i:Expr}{to ti:TE}{t:qO6}(ho:PE X o to)(hi:PE X i ti)(hs:qPk X t)
 (ha:∀ v,assign (.Subscript o i pos) X.env v=(do
   let ov ← holding [v] (eval o X.env)
   let iv ← holding [v,ov] (eval i X.env)
   standAt pos
   holding [v,ov,iv] (setItem ov iv v)
   release [v,ov,iv] []):=by intro _;rfl):PG X (.Subscript o i pos) (qP1 to ti t):=by
 intro pins s σ H v u Q I r h
 rw [ha]
 refine wpAny_bind (wpAny_holding (thn (ho pins s σ H _ I h) fun ov s1 ⟨x,H1,I1,r1,q1⟩=>?_))
 refine wpAny_bind (wpAny_holding (thn (hi pins s1 σ H1 _ I1 q1) fun iv s2 ⟨y,H2,I2,r2,q2⟩=>?_))
 refine wpAny_bind (wpAny_standAt (wpAny_bind (wpAny_holding (thn (hs pins s2 σ H2 x y v ov iv u _ I2 r1 r2 r q2) fun _ s3 ⟨H3,I3,q3⟩=>?_))))
 exact wpAny_release ⟨σ,H3,I3,q3⟩
def qLz (te:TE)(g:TG):TS:=fun D σ H=>te σ H fun x H1=>g x σ H1 D.nx
theorem qNq {tg e:Expr}{te:TE}{g:TG}(he:PE X e te)(hg:PG X tg g)(hs:swapsWithSole [tg] e pos.line X.env=pure false:=by rfl)(hw:swappedStores [tg] e X.env=pure none:=by rfl)
 (h1:(assignEach [tg] X.env).map (·.2)=[assign tg X.env]:=by rfl):PS X (.Assign [tg] e pos) (qLz te g):=by
 intro pins s σ H D I h
 refine wpAny_Assign_stores (thn (he pins s σ H _ I h) fun v s1 ⟨x,H1,I1,r1,q1⟩=>?_) hs hw
 rw [h1]
 exact thn (hg pins s1 σ H1 x v _ I1 r1 q1) fun _ s2 q=>q
theorem qEd {i:Nat}{x:Str}{e:Expr}{te:TE}{pos':Pos}(hN:X.N.Nodup)(hi:X.N[i]? =some x)(hx:Loc X.env.scope x)(he:PE X e te)(hs:swapsWith e (some (.Name x pos')) pos.line X.env=pure false:=by rfl)(hf:X.fn x=true∨X.env.scope.names.lookup x=some .local:=by first | exact .inl rfl | exact .inr rfl | assumption):
 PS X (.Assign [.Name x pos'] e pos) (qLz te (vm i)):=by
 intro pins s σ H D I h
 refine wpAny_Assign_Name (thn (he pins s σ H _ I h) fun v s1 ⟨y,H1,I1,r1,q1⟩=>?_) hs
 exact z9 I1 hN hi hx r1 (fun s2 I2=>⟨_,H1,I2,q1⟩) hf
inductive qOc (i:Nat)(j:Nat)(D:qHr)(σ:L2.St)(vs:List V)(H1:Hp):Prop
| mk v w (_:vs=[v,w]) (_:D.nx ((σ.set i (some v)).set j (some w)) H1)
def qPx (i j:Nat)(ta:TA):TS:=fun D σ H=>ta σ H fun vs H1=>qOc i j D σ vs H1
theorem qM0 {i j:Nat}{x y:Str}{a b:Expr}{ta:TA}{px py pt:Pos}{kt k2 pt2}(hc:X.calm=true)(hN:X.N.Nodup)(hi:X.N[i]? =some x)(hj:X.N[j]? =some y)(hij:i≠j)
 (hx:X.env.scope.names.lookup x=some .local) (hy:X.env.scope.names.lookup y=some .local) (ha:PA X [a,b] ta)
 (hw:swappedStores [.Tuple [.Name x px,.Name y py] kt pt] (.Tuple [a,b] k2 pt2) X.env=pure (some [x,y]))
 (hs:swapsWithSole [.Tuple [.Name x px,.Name y py] kt pt] (.Tuple [a,b] k2 pt2) pos.line X.env=pure false:=by rfl):
 PS X (.Assign [.Tuple [.Name x px,.Name y py] kt pt] (.Tuple [a,b] k2 pt2) pos) (qPx i j ta):=by
 intro pins s σ H D I h
 rw [exec_Assign_arm]
 refine wpAny_bind (wpAny_standAt ?_)
 rw [hs]
 refine wpAny_bind (wpAny_pure ?_)
 rw [if_neg (by decide)]
 refine wpAny_bind (Tuple_ (thn (ha _ pins s σ H _ I h) fun us s1 ⟨vs,H1,I1,r1,q1⟩=>?_))
 obtain⟨v,w,e1,q1⟩:=q1
 subst e1
 obtain⟨u1,u2,rfl,rv,rw'⟩:∃ u1 u2,us=[u1,u2]∧RelV v u1∧RelV w u2:=by
  cases r1 with
  | cons p q=>
   cases q with
   | cons p' q'=>
    cases q'
    exact⟨_,_,rfl,p,p'⟩
 refine wpAny_newObj_type ?_ (by show 2≤sizeLine;decide)
 have I2:Inv X pins σ H1 {s1 with heap:=s1.heap.push {cls:=.type "tuple",data:=.seq [u1,u2].toArray}}:=I1.kept (t':=s1.toks) fun b o e=>Heap.get?_push_of_some _ e
 rw [hw]
 refine wpAny_bind (wpAny_pure ?_)
 show wpAny (model X.prog X.w) X.A (do rule "assign.swapped-stores";let items ← unpackItems (.ref s1.heap.objs.size) 2 none;assignInOrder [fun v=>bindName X.env y v,fun v=>bindName X.env x v] items.reverse;pure Flow.next) _ _ _
 refine wpAny_bind (wpAny_rule (wpAny_bind (unpackItems_tuple (items:=#[u1,u2]) (I.ok.hd hc) (IsTup.new s1.heap _) fun h' hx'=>?_)))
 have I3:=I2.kept (h':=h') (t':=s1.toks) fun b o e=>hx' b o (Nat.ne_of_lt (Heap.lt_size e)) e
 show wpAny _ _ (assignInOrder [fun v=>bindName X.env y v,fun v=>bindName X.env x v] [u2,u1] >>=fun _=>pure Flow.next) _ _ _
 refine wpAny_bind (assignInOrder_cons (wpAny_bindName (z9 I3 hN hj (.inl hy) rw' (fun s2 I4=>?_) (.inr hy))))
 refine assignInOrder_cons (wpAny_bindName (z9 I4 hN hi (.inl hx) rv (fun s3 I5=>assignInOrder_nil (wpAny_pure ?_)) (.inr hx)))
 rw [List.set_comm _ _ (Ne.symm hij)] at I5
 exact⟨_,H1,I5,q1⟩
end
section
variable {X : Cx} {pos : Pos}
def qK5 (c:TT)(tb:TS):TS:=fun D σ H=>∃ W:Nat→St→Hp→Prop,(∃ m,W m σ H)∧∀ m σ H,W m σ H→
 c σ H fun b H1=>if b=true then ∃ N:St→Hp→Prop,(∀ σ' H',N σ' H'→∃ m',m' < m∧W m' σ' H')∧tb {D with nx:=N,ct:=N,bk:=D.nx} σ H1 else D.nx σ H1
theorem qCn {c:Expr}{body:List Stmt}{tc:TT}{tb:TS}(hp:PassesOwn (model X.prog X.w) X.A X.env X.xe)(hc:PT X c tc)(hb:PSs X body tb):PS X (.While c body [] pos) (qK5 tc tb):=by
 intro pins s σ H D I h
 obtain⟨W,⟨m0,w0⟩,turn⟩:=h
 refine wpAny_While (codeAny_whileLoop (fun n s'=>∃ σ' H',Inv X pins σ' H' s'∧W n σ' H') ?_ m0 ⟨σ,H,I,w0⟩)
 rintro n s1 ⟨σ1,H1,I1,w1⟩
 refine wpAny_passesOwn hp (thn (hc pins s1 σ1 H1 _ I1 (turn n σ1 H1 w1)) fun b s2 ⟨H2,I2,q2⟩=>?_)
 cases b with
 | true=>
  obtain⟨N,hN,q2⟩:=q2
  rw [if_pos rfl]
  refine wpAny_passesOwn hp (thn (hb pins s2 σ1 H2 _ I2 q2) fun f s3 q3=>?_)
  cases f with
  | next=>
   obtain⟨σ3,H3,I3,n3⟩:=q3
   obtain⟨m',hm,w3⟩:=hN σ3 H3 n3
   exact⟨m',hm,σ3,H3,I3,w3⟩
  | cont=>
   obtain⟨σ3,H3,I3,n3⟩:=q3
   obtain⟨m',hm,w3⟩:=hN σ3 H3 n3
   exact⟨m',hm,σ3,H3,I3,w3⟩
  | brk=>exact q3
  | ret v=>exact q3
 | false=>
  rw [if_neg Bool.false_ne_true]
  exact wpAny_execs_nil ⟨σ1,H2,I2,q2⟩
end
structure It where
 go:Nat→Hp→Prop
 yld:Nat→Hp→V→Hp→Prop
 stop:Nat→Hp→Prop
def qKd (X:Cx)(pins:List (Addr × Obj))(H:Hp)(b:Addr):Prop:=
 H b=none∧b≠X.env.locals∧b ∉ X.fs∧(b∈X.ex∨X.s₀.heap.objs.size≤b)∧(∀ x c,X.env.cells.lookup x=some c→c≠b)∧∀ p∈X.pn++pins,p.1≠b
theorem Inv.fpOk {X:Cx}{pins:List (Addr × Obj)}{σ:St}{H H':Hp}{s:Shared}{b:Addr}(I:Inv X pins σ H s)(hb:s.heap.objs.size≤b)(hn:H' b=none):qKd X pins H' b:=by
 refine⟨hn,Nat.ne_of_gt (Nat.lt_of_lt_of_le I.lt hb),I.nofs hb,.inr (Nat.le_trans I.sz hb),fun x c e z=>?_,fun p hp z=>?_⟩
 · obtain⟨v,q⟩:=I.cell x c e
   exact absurd (Nat.lt_of_lt_of_le q.lt (by rw [z];exact hb)) (Nat.lt_irrefl _)
 · exact absurd (Nat.lt_of_lt_of_le (Heap.lt_size (I.pin p hp).1) (by rw [z];exact hb)) (Nat.lt_irrefl _)
structure qLm (P:Program)(w:World)(K:PySem.W.Frag)(tg:Expr)(J:It)(fp:List Addr)(it:Addr)(tn:Nat→Heap→Prop):Prop where
 mem:it∈fp
 obj:∀ i h,tn i h→∀ b∈fp,∃ o,h.get? b=some o∧∀ v,o.data≠ .cell v
 keep:∀ i h h',tn i h→(∀ b∈fp,∀ o,h.get? b=some o→h'.get? b=some o)→tn i h'
 item:∀ (X:Cx),X.prog=P→X.w=w→X.K=K→X.calm=true→∀ (i:Nat) (pins:List (Addr × Obj)) (s:Shared) (σ:St) (H:Hp) (E:Value→Shared→Prop),Inv X pins σ H s→(∀ b∈fp,qKd X pins H b)→tn i s.heap→J.go i H→
  wpAny (model P w) X.A (pyNext (.ref it)) (fun r s1=>∃ u,r=some u∧
   wpAny (model P w) X.A (letOwnedTupleGo tg (.ref it) u) (fun _ s2=>∃ x H',Inv X pins σ H' s2∧RelV x u∧J.yld i H x H'∧tn (i+1) s2.heap∧∀ b∈fp,H' b=none) E s1) E s
 done:∀ (X:Cx),X.prog=P→X.w=w→X.K=K→X.calm=true→∀ (i:Nat) (pins:List (Addr × Obj)) (s:Shared) (σ:St) (H:Hp) (E:Value→Shared→Prop),Inv X pins σ H s→(∀ b∈fp,qKd X pins H b)→tn i s.heap→J.stop i H→
  wpAny (model P w) X.A (pyNext (.ref it)) (fun r s1=>r=none∧Inv X pins σ H s1) E s
 self:∀ (A:Around) (i:Nat) (s:Shared) (Q:Value→Shared→Prop) (E:Value→Shared→Prop),tn i s.heap→Q (.ref it) s→wpAny (model P w) A (pyIter (.ref it)) Q E s
abbrev TI:=St→Hp→(It→Hp→Prop)→Prop
def PIE (X:Cx)(pins:List (Addr × Obj))(σ:St)(tg:Expr)(R:It→Hp→Prop)(itv:Value)(s2:Shared):Prop:=
 ∃ (it:Addr) (fp:List Addr) (tn:Nat→Heap→Prop) (J:It) (H':Hp),itv= .ref it∧Inv X pins σ H' s2∧qLm X.prog X.w X.K tg J fp it tn∧tn 0 s2.heap∧(∀ b∈fp,qKd X pins H' b)∧R J H'
def PI (X:Cx)(tg iter:Expr)(wi:TI):Prop:=
 ∀ (pins:List (Addr × Obj)) (s:Shared) (σ:St) (H:Hp) (R:It→Hp→Prop),Inv X pins σ H s→wi σ H R→
  wpAny (model X.prog X.w) X.A (eval iter X.env) (fun v s1=>wpAny (model X.prog X.w) X.A (pyIter v) (PIE X pins σ tg R) X.xe s1) X.xe s
theorem qJ4 {M:Model}{A:Around}{E:Value→Shared→Prop}{s:Shared}{tg:Expr}{it:Addr}{u:Value}{o:Obj}{n:String}{vs:Array Value}{Q:Unit→Shared→Prop}(ho:s.heap.get? it=some o)(hc:o.cls= .type n)(hd:o.data= .fields vs)
 (hn:["enumerate","zip","dict_itemiterator","dict_reverseitemiterator","odict_iterator","itertools.zip_longest","itertools.pairwise"].contains n=false) (hQ:Q () s):wpAny M A (letOwnedTupleGo tg (.ref it) u) Q E s:=by
 unfold letOwnedTupleGo
 cases tg <;> first
  | exact wpAny_pure hQ
  | (cases u <;> first
      | exact wpAny_pure hQ
      | (refine wpAny_bind (wpAny_load ho ?_)
         rw [hc,hd]
         show wpAny M A (if (["enumerate","zip","dict_itemiterator","dict_reverseitemiterator","odict_iterator","itertools.zip_longest","itertools.pairwise"].contains n && vs[0]? == some (rawInt _))=true then _ else _) Q E s
         rw [if_neg (by intro h;rw [hn,Bool.false_and] at h;cases h)]
         exact wpAny_pure hQ))
def Itl (K:PySem.W.Frag)(a:Addr):It:=
 ⟨fun i H=>∃ xs x,SqL K H a xs∧xs[i]? =some x,fun i H x H'=>H'=H∧∀ xs,SqL K H a xs→xs[i]? =some x,fun i H=>∃ xs,SqL K H a xs∧xs.length≤i⟩
def Itr (lo:Int)(n:Nat):It:=⟨fun i _=>i < n,fun i H x H'=>H'=H∧x= .int (lo+i),fun i _=>n≤i⟩
theorem qIc {P:Program}{w:World}{K:PySem.W.Frag}{tg:Expr}(a it:Addr):qLm P w K tg (Itl K a) [it] it (fun i h=>h.IsListIter it a i) where
 mem:=by simp
 obj:=fun i h st b hb=>by
  have e:b=it:=by simpa using hb
  subst e
  obtain⟨o,e,c,d⟩:=st
  exact⟨o,e,fun v z=>by rw [d] at z;cases z⟩
 keep:=fun i h h' st k=>st.at fun o e=>k it (by simp) o e
 item:=by
  intro X hP hw hK hc i pins s σ H E I hf st hg
  subst hP hw hK
  obtain⟨xs,x,hq,hx⟩:=hg
  obtain⟨its,rv,p,hz⟩:=I.list hq
  obtain⟨u,hu,ru⟩:=rv.get hx
  obtain⟨f0,f1,f2,f3,f4,f5⟩:=hf it (by simp)
  refine wpAny_pyNext_list_item st p.isList (x:=u) (by simpa using hu) fun h' st' sb=>?_
  have I1:Inv X pins σ H {s with heap:=h'}:=I.turned (t':=s.toks) (fun b o hb e=>(sb.2 b hb).trans e) f0 f1 f3 f4 f5
  obtain⟨o,e,c,d⟩:=id st'
  exact⟨u,rfl,qJ4 (s:={s with heap:=h'}) e c d (by decide) ⟨x,H,I1,ru,⟨rfl,fun ys hy=>by rw [I.list_inj hy hq];exact hx⟩,st',fun b hb=>(hf b hb).1⟩⟩
 done:=by
  intro X hP hw hK hc i pins s σ H E I hf st hg
  subst hP hw hK
  obtain⟨xs,hq,hx⟩:=hg
  obtain⟨its,rv,p,hz⟩:=I.list hq
  obtain⟨f0,f1,f2,f3,f4,f5⟩:=hf it (by simp)
  have hl:=rv.length
  exact wpAny_pyNext_list_end (I.ok.hd hc) st p.isList (by simp;omega) fun h' eb=>⟨rfl,I.turned (t':=s.toks) (fun b o hb e=>eb b o hb e) f0 f1 f3 f4 f5⟩
 self:=fun _ _ _ _ _ st h=>wpAny_pyIter_listiter st h
theorem qHb {P:Program}{w:World}{K:PySem.W.Frag}{tg:Expr}(it:Addr)(lo:Int)(n:Nat):qLm P w K tg (Itr lo n) [it] it (fun i h=>IsRangeIter h it (lo+(i:Nat)*1) ((n:Int) - (i:Nat)) 1) where
 mem:=by simp
 obj:=fun i h st b hb=>by
  have e:b=it:=by simpa using hb
  subst e
  exact⟨_,st,fun v z=>by
   have z':Data.fields _=Data.cell v:=z
   cases z'⟩
 keep:=fun i h h' st k=>k it (by simp) _ st
 item:=by
  intro X hP hw hK hc i pins s σ H E I hf st hg
  subst hP hw hK
  obtain⟨f0,f1,f2,f3,f4,f5⟩:=hf it (by simp)
  have W:=Walks.range (prog:=X.prog) (w:=X.w) (I.ok.hd hc) it lo 1 n
  refine W.item i s _ _ hg st fun v h' tk hv st' kk=>?_
  obtain⟨t,rfl⟩:=hv
  have I1:Inv X pins σ H {s with heap:=h',toks:=tk}:=I.turned (fun b o hb e=>kk b o (by simpa using hb) e) f0 f1 f3 f4 f5
  refine⟨_,rfl,qJ4 (s:={s with heap:=h',toks:=tk}) (n:="range_iterator") st' rfl rfl (by decide) ⟨.int (lo+i),H,I1,⟨t,?_⟩,⟨rfl,rfl⟩,st',fun b hb=>(hf b hb).1⟩⟩
  rw [Int.mul_one]
 done:=by
  intro X hP hw hK hc i pins s σ H E I hf st hg
  subst hP hw hK
  obtain⟨f0,f1,f2,f3,f4,f5⟩:=hf it (by simp)
  exact wpAny_pyNext_range_end (I.ok.hd hc) st (by have:n≤i:=hg;omega) fun h' eb=>⟨rfl,I.turned (t':=s.toks) (fun b o hb e=>eb b o hb e) f0 f1 f3 f4 f5⟩
 self:=fun _ _ _ _ _ st h=>wpAny_pyIter_rangeiter st h
end L2
namespace L2
open PySem PySem.Spec PyProof.Rows
section
variable {X : Cx} {tg : Expr}
inductive qM5 (K:PySem.W.Frag)(R:It→Hp→Prop)(x:V)(H1:Hp):Prop
| mk a (_:x= .ref a) (_:(∃ xs,SqL K H1 a xs)) (_:R (Itl K a) H1)
def qPb (K:PySem.W.Frag)(tl:TE):TI:=fun σ H R=>tl σ H fun x H1=>qM5 K R x H1
theorem je {l:Expr}{tl:TE}(hl:PE X l tl):PI X tg l (qPb X.K tl):=by
 intro pins s σ H R I h
 refine thn (hl pins s σ H _ I h) fun v s1 ⟨x,H1,I1,r1,q1⟩=>?_
 obtain⟨a,e,⟨xs,hq⟩,q⟩:=q1
 subst e
 cases r1
 obtain⟨its,rv,p,hz⟩:=I1.list hq
 refine wpAny_pyIter_list p.isList ?_
 refine⟨s1.heap.objs.size,[s1.heap.objs.size],_,_,H1,rfl,I1.kept (t':=s1.toks) fun b o e=>Heap.get?_push_of_some _ e,qIc a _,⟨_,Heap.get?_push_size _ rfl,rfl,rfl⟩,fun b hb=>?_,q⟩
 have e:b=s1.heap.objs.size:=by simpa using hb
 subst e
 exact I1.fpOk (Nat.le_refl _) (I1.hok.fresh (Nat.le_refl _))
theorem qKo {pins:List (Addr × Obj)}{σ:St}{H:Hp}{s:Shared}{R:It→Hp→Prop}{E:Value→Shared→Prop}{lo hi:Int}{t u v:Tok}{tk:Nat}(I:Inv X pins σ H s)(h1:-(2 ^ 62)≤lo)(h2:lo < 2 ^ 62)(h3:-(2 ^ 62)≤hi)(h4:hi < 2 ^ 62)
 (q:R (Itr lo (hi - lo).toNat) H):wpAny (model X.prog X.w) X.A (pyIter (.ref s.heap.objs.size)) (PIE X pins σ tg R) E {s with heap:=s.heap.push {cls:=.type "range",data:=.fields #[.int lo t,.int hi u,.int 1 v]},toks:=tk}:=by
 refine wpAny_pyIter_range (IsRange.new ..) (small_one h1 h2 h3 h4) ?_
 have I1:Inv X pins σ H {s with heap:=s.heap.push {cls:=.type "range",data:=.fields #[.int lo t,.int hi u,.int 1 v]},toks:=tk}:=I.kept fun b o e=>Heap.get?_push_of_some _ e
 refine⟨(s.heap.push {cls:=.type "range",data:=.fields #[.int lo t,.int hi u,.int 1 v]}).objs.size,[(s.heap.push {cls:=.type "range",data:=.fields #[.int lo t,.int hi u,.int 1 v]}).objs.size],_,_,H,rfl,
  I1.kept (t':=tk) fun b o e=>Heap.get?_push_of_some _ e,qHb _ lo (hi - lo).toNat,?_,fun b hb=>?_,q⟩
 · have e1:lo+((0:Nat):Int)*1=lo:=by simp
   have e2:(((hi - lo).toNat:Nat):Int) - ((0:Nat):Int)=Builtin.Range.rangeSize lo hi 1:=by rw [rangeSize_one];split <;> omega
   show IsRangeIter _ _ (lo+((0:Nat):Int)*1) ((((hi - lo).toNat:Nat):Int) - ((0:Nat):Int)) 1
   rw [e1,e2]
   exact Heap.get?_push_size _ rfl
 · have e:b=(s.heap.push {cls:=.type "range",data:=.fields #[.int lo t,.int hi u,.int 1 v]}).objs.size:=by simpa using hb
   subst e
   exact I1.fpOk (Nat.le_refl _) (I1.hok.fresh (Nat.le_refl _))
def qOs (ta:TA):TI:=fun σ H R=>ta σ H fun vs H1=>∃ j:Int,vs=[.int j]∧-(2 ^ 62)≤j∧j < 2 ^ 62∧R (Itr 0 j.toNat) H1
theorem xc {a:Expr}{ta:TA}{p pos:Pos}(hg:Gl X "range")(hm:X.mg "range"=none)(ha:PA X [a] ta)(hs:starEach [a] X.env=[(false,eval a X.env)]:=by rfl):PI X tg (.Call (.Name "range" p) [a] [] pos) (qOs ta):=by
 intro pins s σ H R I h
 refine Call_ (qE3 I hg hm boot_range (PyProof.Rows.callWith_type1 (thn (ha pos pins s σ H _ I h) fun us s1 ⟨vs,H1,I1,r1,q1⟩=>?_) hs rfl))
 obtain⟨j,e,q1,q2,q⟩:=q1
 subst e
 cases r1 with
 | cons r rr=>
  cases rr
  obtain⟨t,rfl⟩:=r
  exact call_range_1 (qKo I1 (by omega) (by omega) q1 q2 (by simpa using q))
def qP2 (wi:TI)(g:TG)(tb:TS):TS:=fun D σ H=>wi σ H fun J H1=>∃ W:Nat→Nat→St→Hp→Prop,(∃ m,W 0 m σ H1)∧∀ i m σ H,W i m σ H→
 (J.stop i H∧D.nx σ H)∨(J.go i H∧∃ N:St→Hp→Prop,(∀ σ' H',N σ' H'→∃ m',m' < m∧W (i+1) m' σ' H')∧∀ x H',J.yld i H x H'→g x σ H' fun σ2 H2=>tb {D with nx:=N,ct:=N,bk:=D.nx} σ2 H2)
def qDg (fp:List Addr)(h:Heap):List (Addr × Obj):=fp.filterMap fun b=>(h.get? b).map fun o=>(b,o)
theorem vy {fp:List Addr}{h:Heap}{b:Addr}{o:Obj}(hb:b∈fp)(e:h.get? b=some o):(b,o)∈qDg fp h:=List.mem_filterMap.mpr ⟨b,hb,by rw [e];rfl⟩
theorem qI7 {fp:List Addr}{h:Heap}{p:Addr × Obj}(hp:p∈qDg fp h):p.1∈fp∧h.get? p.1=some p.2:=by
 obtain⟨b,hb,e⟩:=List.mem_filterMap.mp hp
 cases q:h.get? b with
 | none=>rw [q] at e;cases e
 | some o=>
  rw [q] at e
  have e':(b,o)=p:=Option.some.inj e
  subst e'
  exact⟨hb,q⟩
theorem Inv.pinned {pins:List (Addr × Obj)}{σ:St}{H:Hp}{s:Shared}{fp:List Addr}(I:Inv X pins σ H s)(hf:∀ b∈fp,qKd X pins H b)(ho:∀ b∈fp,∃ o,s.heap.get? b=some o∧∀ v,o.data≠ .cell v):Inv X (pins++qDg fp s.heap) σ H s:=
 I.pins_of fun p hp=>(List.mem_append.mp hp).elim (fun z=>I.pin p (List.mem_append_right _ z)) fun z=>by
  obtain⟨hb,e⟩:=qI7 z
  obtain⟨f0,f1,f2,_⟩:=hf p.1 hb
  obtain⟨o,e',d⟩:=ho p.1 hb
  rw [e] at e';cases e'
  exact⟨e,f0,f1,f2,d⟩
theorem Inv.unpinned {pins pl:List (Addr × Obj)}{σ:St}{H:Hp}{s:Shared}(I:Inv X (pins++pl) σ H s):Inv X pins σ H s:=I.pins_of fun p hp=>I.pin p (List.mem_append_right _ (List.mem_append_left _ hp))
theorem xD {iter:Expr}{body:List Stmt}{wi:TI}{g:TG}{tb:TS}{pos:Pos}(hp:PassesOwn (model X.prog X.w) X.A X.env X.xe)(hc:X.calm=true)(hi:PI X tg iter wi)(hg:PG X tg g)(hb:PSs X body tb)
 (hs:∀ x,foldedSetIterable iter X.env x=pure x:=by intro _;rfl):PS X (.For tg iter body [] pos) (qP2 wi g tb):=by
 intro pins s σ H D I h
 refine wpAny_For (thn (hi pins s σ H _ I h) fun v s1 h1=>thn h1 fun itv s2 h2=>?_) hs
 obtain⟨it,fp,tn,J,H2,e,I2,T,st2,f2,W,⟨m0,w0⟩,turn⟩:=h2
 subst e
 have stat:∀ {H':Hp},(∀ b∈fp,H' b=none)→∀ b∈fp,qKd X pins H' b:=fun hn b hb=>⟨hn b hb,(f2 b hb).2⟩
 refine codeAny_forLoop_any (fun n s'=>∃ i σ' H',Inv X pins σ' H' s'∧tn i s'.heap∧(∀ b∈fp,H' b=none)∧W i n σ' H') ?_ m0 ⟨0,σ,H2,I2,st2,fun b hb=>(f2 b hb).1,w0⟩
 rintro n s3 ⟨i,σ3,H3,I3,st3,fr3,w3⟩
 rcases turn i n σ3 H3 w3 with ⟨stop,qn⟩ | ⟨go,N,hN,step⟩
 · refine wpAny_passesOwn hp (thn (T.done X rfl rfl rfl hc i pins s3 σ3 H3 X.xe I3 (stat fr3) st3 stop) fun r s4 ⟨hr,I4⟩=>?_)
   subst hr
   exact wpAny_execs_nil ⟨σ3,H3,I4,qn⟩
 · refine wpAny_passesOwn hp (thn (T.item X rfl rfl rfl hc i pins s3 σ3 H3 X.xe I3 (stat fr3) st3 go) fun r s4 ⟨u,hr,h4⟩=>?_)
   subst hr
   refine wpAny_passesOwn hp (thn h4 fun _ s5 ⟨x,H5,I5,r5,y5,st5,fr5⟩=>?_)
   have I5':=I5.pinned (stat fr5) (T.obj _ _ st5)
   refine wpAny_passesOwn hp (thn (hg _ s5 σ3 H5 x u _ I5' r5 (step x H5 y5)) fun _ s6 ⟨σ6,H6,I6,q6⟩=>?_)
   refine wpAny_passesOwn hp (thn (hb _ s6 σ6 H6 _ I6 q6) fun f s7 q7=>?_)
   have again:∀ {σ7:St} {H7:Hp},Inv X (pins++qDg fp s5.heap) σ7 H7 s7→N σ7 H7→∃ m,m < n∧∃ i σ' H',Inv X pins σ' H' s7∧tn i s7.heap∧(∀ b∈fp,H' b=none)∧W i m σ' H':=fun {σ7 H7} I7 n7=>by
    obtain⟨m',hm,w7⟩:=hN σ7 H7 n7
    refine⟨m',hm,i+1,σ7,H7,I7.unpinned,T.keep _ _ _ st5 fun b hb o e=>(I7.pin (b,o) (List.mem_append_right _ (List.mem_append_right _ (vy hb e)))).1,fun b hb=>?_,w7⟩
    obtain⟨o,e,d⟩:=T.obj _ _ st5 b hb
    exact(I7.pin (b,o) (List.mem_append_right _ (List.mem_append_right _ (vy hb e)))).2.1
   cases f with
   | next=>obtain⟨σ7,H7,I7,n7⟩:=q7;exact again I7 n7
   | cont=>obtain⟨σ7,H7,I7,n7⟩:=q7;exact again I7 n7
   | brk=>obtain⟨σ7,H7,I7,q7⟩:=q7;exact⟨σ7,H7,I7.unpinned,q7⟩
   | ret v=>obtain⟨x7,σ7,H7,I7,r7,q7⟩:=q7;exact⟨x7,σ7,H7,I7.unpinned,r7,q7⟩
end
theorem xK {K:PySem.W.Frag}{a:Addr}{xs:List V}{g:TG}{tb:TS}{D:qHr}{σ:St}{H:Hp}(Pv:Nat→St→Hp→Prop)(h0:Pv 0 σ H)(hl:∀ i σ H,i≤xs.length→Pv i σ H→SqL K H a xs)
 (hs:∀ i x σ H,xs[i]? =some x→Pv i σ H→g x σ H fun σ2 H2=>tb {D with nx:=Pv (i+1),ct:=Pv (i+1),bk:=D.nx} σ2 H2) (hd:∀ σ H,Pv xs.length σ H→D.nx σ H):
 ∃ W:Nat→Nat→St→Hp→Prop,(∃ m,W 0 m σ H)∧∀ i m σ H,W i m σ H→
  ((Itl K a).stop i H∧D.nx σ H)∨((Itl K a).go i H∧∃ N:St→Hp→Prop,(∀ σ' H',N σ' H'→∃ m',m' < m∧W (i+1) m' σ' H')∧∀ x H',(Itl K a).yld i H x H'→g x σ H' fun σ2 H2=>tb {D with nx:=N,ct:=N,bk:=D.nx} σ2 H2):=by
 refine⟨fun i m σ H=>m=xs.length - i∧i≤xs.length∧Pv i σ H,⟨xs.length,by simp,Nat.zero_le _,h0⟩,?_⟩
 rintro i m σ H ⟨rfl,hi,p⟩
 have q:=hl i σ H hi p
 by_cases hlt:i < xs.length
 · refine .inr ⟨⟨xs,xs[i],q,by simp [hlt]⟩,Pv (i+1),fun σ' H' p'=>⟨xs.length - (i+1),by omega,rfl,hlt,p'⟩,fun x H' y=>?_⟩
   obtain⟨e,y⟩:=y
   subst e
   exact hs i x σ _ (y xs q) p
 · have e:i=xs.length:=by omega
   subst e
   exact .inl ⟨⟨xs,q,Nat.le_refl _⟩,hd σ H p⟩
theorem vE {lo:Int}{n:Nat}{g:TG}{tb:TS}{D:qHr}{σ:St}{H:Hp}(Pv:Nat→St→Hp→Prop)(h0:Pv 0 σ H)
 (hs:∀ i σ H,i < n→Pv i σ H→g (.int (lo+i)) σ H fun σ2 H2=>tb {D with nx:=Pv (i+1),ct:=Pv (i+1),bk:=D.nx} σ2 H2) (hd:∀ σ H,Pv n σ H→D.nx σ H):
 ∃ W:Nat→Nat→St→Hp→Prop,(∃ m,W 0 m σ H)∧∀ i m σ H,W i m σ H→
  ((Itr lo n).stop i H∧D.nx σ H)∨((Itr lo n).go i H∧∃ N:St→Hp→Prop,(∀ σ' H',N σ' H'→∃ m',m' < m∧W (i+1) m' σ' H')∧∀ x H',(Itr lo n).yld i H x H'→g x σ H' fun σ2 H2=>tb {D with nx:=N,ct:=N,bk:=D.nx} σ2 H2):=by
 refine⟨fun i m σ H=>m=n - i∧i≤n∧Pv i σ H,⟨n,by simp,Nat.zero_le _,h0⟩,?_⟩
 rintro i m σ H ⟨rfl,hi,p⟩
 by_cases hlt:i < n
 · refine .inr ⟨hlt,Pv (i+1),fun σ' H' p'=>⟨n - (i+1),by omega,rfl,hlt,p'⟩,fun x H' y=>?_⟩
   obtain⟨e,y⟩:=y
   subst e y
   exact hs i σ _ hlt p
 · have e:i=n:=by omega
   subst e
   exact .inl ⟨Nat.le_refl _,hd σ H p⟩
theorem qB4 {c:TT}{tb:TS}{D:qHr}{σ:St}{H:Hp}(Pv:St→Hp→Prop)(μ:St→Hp→Nat)(h0:Pv σ H)
 (hs:∀ σ H,Pv σ H→c σ H fun b H1=>if b=true then tb {D with nx:=fun σ' H'=>Pv σ' H'∧μ σ' H' < μ σ H,ct:=fun σ' H'=>Pv σ' H'∧μ σ' H' < μ σ H,bk:=D.nx} σ H1 else D.nx σ H1)
 (mono:∀ σ H Q Q',(∀ b H1,Q b H1→Q' b H1)→c σ H Q→c σ H Q'):qK5 c tb D σ H:=by
 refine⟨fun m σ H=>m=μ σ H∧Pv σ H,⟨_,rfl,h0⟩,?_⟩
 rintro m σ H ⟨rfl,p⟩
 refine mono σ H _ _ (fun b H1 q=>?_) (hs σ H p)
 cases b with
 | true=>exact⟨_,fun σ' H' ⟨p',l⟩=>⟨_,l,rfl,p'⟩,q⟩
 | false=>exact q
end L2
namespace L2
open PySem PySem.Spec PyProof.Rows
abbrev R2:=V→V→Hp→VK→Prop
def OpR (X:Cx)(f:Value→Value→Sem Value)(r:R2):Prop:=
 ∀ (pins:List (Addr × Obj)) (s:Shared) (σ:St) (H:Hp) (x y:V) (v u:Value) (Q:VK),Inv X pins σ H s→RelV x v→RelV y u→r x y H Q→
  wpAny (model X.prog X.w) X.A (f v u) (EP X pins σ Q) X.xe s
def UnR (X:Cx)(f:Value→Sem Value)(r:V→Hp→VK→Prop):Prop:=
 ∀ (pins:List (Addr × Obj)) (s:Shared) (σ:St) (H:Hp) (x:V) (v:Value) (Q:VK),Inv X pins σ H s→RelV x v→r x H Q→
  wpAny (model X.prog X.w) X.A (f v) (EP X pins σ Q) X.xe s
def vf (X:Cx)(f:Value)(r:List V→Hp→VK→Prop):Prop:=
 ∀ (pins:List (Addr × Obj)) (s:Shared) (σ:St) (H:Hp) (xs:List V) (us:List Value) (Q:VK),Inv X pins σ H s→Vals xs us→r xs H Q→
  wpAny (model X.prog X.w) X.A (call f us) (EP X pins σ Q) X.xe s
def tOp (r:R2)(ta tb:TE):TE:=fun σ H Q=>ta σ H fun x H1=>tb σ H1 fun y H2=>r x y H2 Q
def tUn (r:V→Hp→VK→Prop)(ta:TE):TE:=fun σ H Q=>ta σ H fun x H1=>r x H1 Q
inductive rI (C:Int→Int→Prop)(g:Int→Int→V)(x:V)(y:V)(H:Hp)(Q:VK):Prop
| mk i j (_:x= .int i) (_:y= .int j) (_:C i j) (_:Q (g i j) H)
inductive rI0 (g:Int→Int→V)(x:V)(y:V)(H:Hp)(Q:VK):Prop
| mk i j (_:x= .int i) (_:y= .int j) (_:Q (g i j) H)
inductive rU (g:Int→V)(x:V)(H:Hp)(Q:VK):Prop
| mk i (_:x= .int i) (_:Q (g i) H)
section
variable {X : Cx} {a b c : Expr} {ta tb tc : TE} {pos : Pos}
theorem qOz (ha:PE X a ta)(hb:PE X b tb){pins:List (Addr × Obj)}{s:Shared}{σ:St}{H:Hp}{R:V→V→Hp→Prop}(I:Inv X pins σ H s)
 (h:ta σ H fun x H1=>tb σ H1 fun y H2=>R x y H2) {Q:Value→Shared→Prop} {f:Value→Value→Sem Value}
 (hf:∀ v u s2 x y H2,Inv X pins σ H2 s2→RelV x v→RelV y u→R x y H2→wpAny (model X.prog X.w) X.A (f v u) Q X.xe s2):
 wpAny (model X.prog X.w) X.A (eval a X.env) (fun v s₁=>wpAny (model X.prog X.w) X.A (eval b X.env) (fun u s₂=>wpAny (model X.prog X.w) X.A (f v u) Q X.xe s₂) X.xe s₁) X.xe s:=by
 refine thn (ha pins s σ H _ I h) fun v s1 ⟨x,H1,I1,r1,q1⟩=>?_
 refine thn (hb pins s1 σ H1 _ I1 q1) fun u s2 ⟨y,H2,I2,r2,q2⟩=>?_
 exact hf v u s2 x y H2 I2 r1 r2 q2
theorem qK {op:Operator}{r:R2}(ho:OpR X (binaryOp op) r)(ha:PE X a ta)(hb:PE X b tb):PE X (.BinOp a op b pos) (tOp r ta tb):=by
 intro pins s σ H Q I h
 exact wpAny_BinOp (qOz ha hb I h fun v u s2 x y H2 I2 rx ry q=>ho pins s2 σ H2 x y v u Q I2 rx ry q)
theorem we {op:UnaryOp}{r:V→Hp→VK→Prop}(ho:UnR X (unaryOp op) r)(ha:PE X a ta):PE X (.UnaryOp op a pos) (tUn r ta):=by
 intro pins s σ H Q I h
 exact UnaryOp_ (thn (ha pins s σ H _ I h) fun v s1 ⟨x,H1,I1,r1,q1⟩=>ho pins s1 σ H1 x v Q I1 r1 q1)
theorem opI {f:Value→Value→Sem Value}{C:Int→Int→Prop}{g:Int→Int→Int}
 (rule:∀ (i j:Int) (t u:Tok) (s:Shared) (Q:Value→Shared→Prop) (E:Value→Shared→Prop),C i j→Q (.int (g i j) s.toks) {s with toks:=s.toks+1}→wpAny (model X.prog X.w) X.A (f (.int i t) (.int j u)) Q E s):
 OpR X f (rI C fun i j=>.int (g i j)):=by
 intro pins s σ H x y v u Q I rx ry h
 obtain⟨i,j,rfl,rfl,hc,q⟩:=h
 obtain⟨t,rfl⟩:=rx
 obtain⟨t',rfl⟩:=ry
 exact rule i j t t' s _ _ hc ⟨.int (g i j),H,I.tok _,⟨_,rfl⟩,q⟩
theorem qPm {f:Value→Value→Sem Value}{g:Int→Int→Int}
 (rule:∀ (i j:Int) (t u:Tok) (s:Shared) (Q:Value→Shared→Prop) (E:Value→Shared→Prop),Q (.int (g i j) s.toks) {s with toks:=s.toks+1}→wpAny (model X.prog X.w) X.A (f (.int i t) (.int j u)) Q E s):
 OpR X f (rI0 fun i j=>.int (g i j)):=by
 intro pins s σ H x y v u Q I rx ry h
 obtain⟨i,j,rfl,rfl,q⟩:=h
 obtain⟨t,rfl⟩:=rx
 obtain⟨t',rfl⟩:=ry
 exact rule i j t t' s _ _ ⟨.int (g i j),H,I.tok _,⟨_,rfl⟩,q⟩
theorem qN5 {f:Value→Value→Sem Value}{g:Int→Int→Bool}
 (rule:∀ (i j:Int) (t u:Tok) (s:Shared) (Q:Value→Shared→Prop) (E:Value→Shared→Prop),Q (.bool (g i j)) s→wpAny (model X.prog X.w) X.A (f (.int i t) (.int j u)) Q E s):
 OpR X f (rI0 fun i j=>.bl (g i j)):=by
 intro pins s σ H x y v u Q I rx ry h
 obtain⟨i,j,rfl,rfl,q⟩:=h
 obtain⟨t,rfl⟩:=rx
 obtain⟨t',rfl⟩:=ry
 exact rule i j t t' s _ _ ⟨.bl (g i j),H,I,rfl,q⟩
def qPo (i j:Int):Prop:=0≤j∧j≤1000000∧i.natAbs < 2 ^ 64
def CMul (i j:Int):Prop:=(-(2 ^ 64) < i∧i < 2 ^ 64)∨(-(2 ^ 64) < j∧j < 2 ^ 64)
theorem CMul.ok {i j:Int}(h:CMul i j):IntMulOk i j:=by
 rcases h with ⟨h1,h2⟩ | ⟨h1,h2⟩
 · exact .of_left (intBits_le_64 h1 h2)
 · exact .of_right (intBits_le_64 h1 h2)
theorem qh:OpR X (binaryOp .Add) (rI0 fun i j=>.int (i+j)):=qPm fun _ _ _ _ _ _ _ q=>add_int q
theorem jA:OpR X (binaryOp .Sub) (rI0 fun i j=>.int (i - j)):=qPm fun _ _ _ _ _ _ _ q=>sub_int q
theorem jG:OpR X (binaryOp .Mod) (rI (fun _ j=>j≠0) fun i j=>.int (i.fmod j)):=opI fun _ _ _ _ _ _ _ hc q=>mod_int' hc q
theorem qDt:OpR X (binaryOp .Pow) (rI qPo fun i j=>.int (i ^ j.toNat)):=opI fun _ _ _ _ _ _ _ hc q=>pow_int_small hc.1 hc.2.1 hc.2.2 q
theorem unI {f:Value→Sem Value}{g:Int→Int}
 (rule:∀ (i:Int) (t:Tok) (s:Shared) (Q:Value→Shared→Prop) (E:Value→Shared→Prop),Q (.int (g i) s.toks) {s with toks:=s.toks+1}→wpAny (model X.prog X.w) X.A (f (.int i t)) Q E s):
 UnR X f (rU fun i=>.int (g i)):=by
 intro pins s σ H x v Q I rx h
 obtain⟨i,rfl,q⟩:=h
 obtain⟨t,rfl⟩:=rx
 exact rule i t s _ _ ⟨.int (g i),H,I.tok _,⟨_,rfl⟩,q⟩
theorem zp:UnR X (unaryOp .USub) (rU fun i=>.int (-i)):=unI fun _ _ _ _ _ q=>neg_int q
end
def qOg:V→V→Bool
 | .non,.non=>true | .non,.int _=>true | .int _,.non=>true | .non,.bl _=>true | .bl _,.non=>true | .non,.str _=>true | .str _,.non=>true
 | .int _,.int _=>true | .bl _,.bl _=>true | .str _,.str _=>true | .byt _,.byt _=>true
 | .int _,.str _=>true | .str _,.int _=>true | .bl _,.str _=>true | .str _,.bl _=>true
 | _,_=>false
inductive rEq (x:V)(y:V)(H:Hp)(Q:VK):Prop
| mk (_:qOg x y=true) (_:Q (.bl (decide (x=y))) H)
inductive rNe (x:V)(y:V)(H:Hp)(Q:VK):Prop
| mk (_:qOg x y=true) (_:Q (.bl (!decide (x=y))) H)
theorem qJt {i j:Int}:decide (V.int i=V.int j)=(i == j):=by
 rw [Bool.eq_iff_iff]
 simp
theorem qLh {i j:Bool}:decide (V.bl i=V.bl j)=(i == j):=by
 rw [Bool.eq_iff_iff]
 simp
theorem qJg {i j:Str}:decide (V.str i=V.str j)=(i == j):=by
 rw [Bool.eq_iff_iff]
 simp
theorem qJq {i j:Array UInt8}:decide (V.byt i=V.byt j)=(i.toList == j.toList):=by
 rw [Bool.eq_iff_iff]
 cases i
 cases j
 simp
section
variable {X : Cx} {a b c : Expr} {ta tb tc : TE} {pos : Pos}
theorem jB {pins:List (Addr × Obj)}{σ:St}{H:Hp}{s:Shared}{Q:VK}{k k':Bool}(I:Inv X pins σ H s)(q:Q (.bl k) H)(e:k=k'):EP X pins σ Q (.bool k') s:=by
 subst e
 exact⟨.bl k,H,I,rfl,q⟩
theorem xY:OpR X (compareOp .Eq) rEq:=by
 intro pins s σ H x y v u Q I rx ry h
 obtain⟨hs,q⟩:=h
 cases x with
 | non=>
  cases rx
  cases y with
  | non=>cases ry;exact PySem.EqNone.eq_none_none (jB I q (by simp))
  | bl j=>cases ry;exact PySem.EqNone.eq_none_bool (jB I q (by simp))
  | int j=>obtain⟨t',rfl⟩:=ry;exact PySem.EqNone.eq_none_int (jB I q (by simp))
  | str j=>obtain⟨t',rfl⟩:=ry;exact PySem.EqNone.eq_none_str (jB I q (by simp))
  | _=>exact absurd (show false=true from hs) Bool.false_ne_true
 | bl i=>
  cases rx
  cases y with
  | non=>cases ry;exact PySem.EqNone.eq_bool_none (jB I q (by simp))
  | bl j=>cases ry;exact eq_bool (jB I q qLh)
  | str j=>obtain⟨t',rfl⟩:=ry;exact PySem.EqMixed.eq_bool_str (jB I q (by simp))
  | _=>exact absurd (show false=true from hs) Bool.false_ne_true
 | int i=>
  obtain⟨t,rfl⟩:=rx
  cases y with
  | non=>cases ry;exact PySem.EqNone.eq_int_none (jB I q (by simp))
  | int j=>obtain⟨t',rfl⟩:=ry;exact eq_int (jB I q qJt)
  | str j=>obtain⟨t',rfl⟩:=ry;exact PySem.EqMixed.eq_int_str (jB I q (by simp))
  | _=>exact absurd (show false=true from hs) Bool.false_ne_true
 | str i=>
  obtain⟨t,rfl⟩:=rx
  cases y with
  | non=>cases ry;exact PySem.EqNone.eq_str_none (jB I q (by simp))
  | bl j=>cases ry;exact PySem.EqMixed.eq_str_bool (jB I q (by simp))
  | int j=>obtain⟨t',rfl⟩:=ry;exact PySem.EqMixed.eq_str_int (jB I q (by simp))
  | str j=>obtain⟨t',rfl⟩:=ry;exact eq_str (jB I q qJg)
  | _=>exact absurd (show false=true from hs) Bool.false_ne_true
 | byt i=>
  obtain⟨t,rfl⟩:=rx
  cases y with
  | byt j=>obtain⟨t',rfl⟩:=ry;exact PySem.W.eq_bytes (jB I q qJq)
  | _=>exact absurd (show false=true from hs) Bool.false_ne_true
 | _=>cases y <;> exact absurd (show false=true from hs) Bool.false_ne_true
theorem xn:OpR X (compareOp .NotEq) rNe:=by
 intro pins s σ H x y v u Q I rx ry h
 obtain⟨hs,q⟩:=h
 cases x with
 | non=>
  cases rx
  cases y with
  | non=>cases ry;exact PySem.EqNone.ne_none_none (jB I q (by simp))
  | bl j=>cases ry;exact PySem.EqNone.ne_none_bool (jB I q (by simp))
  | int j=>obtain⟨t',rfl⟩:=ry;exact PySem.EqNone.ne_none_int (jB I q (by simp))
  | str j=>obtain⟨t',rfl⟩:=ry;exact PySem.EqNone.ne_none_str (jB I q (by simp))
  | _=>exact absurd (show false=true from hs) Bool.false_ne_true
 | bl i=>
  cases rx
  cases y with
  | non=>cases ry;exact PySem.EqNone.ne_bool_none (jB I q (by simp))
  | bl j=>cases ry;exact ne_bool (jB I q (congrArg not qLh))
  | str j=>obtain⟨t',rfl⟩:=ry;exact PySem.EqMixed.ne_bool_str (jB I q (by simp))
  | _=>exact absurd (show false=true from hs) Bool.false_ne_true
 | int i=>
  obtain⟨t,rfl⟩:=rx
  cases y with
  | non=>cases ry;exact PySem.EqNone.ne_int_none (jB I q (by simp))
  | int j=>obtain⟨t',rfl⟩:=ry;exact ne_int (jB I q (congrArg not qJt))
  | str j=>obtain⟨t',rfl⟩:=ry;exact PySem.EqMixed.ne_int_str (jB I q (by simp))
  | _=>exact absurd (show false=true from hs) Bool.false_ne_true
 | str i=>
  obtain⟨t,rfl⟩:=rx
  cases y with
  | non=>cases ry;exact PySem.EqNone.ne_str_none (jB I q (by simp))
  | bl j=>cases ry;exact PySem.EqMixed.ne_str_bool (jB I q (by simp))
  | int j=>obtain⟨t',rfl⟩:=ry;exact PySem.EqMixed.ne_str_int (jB I q (by simp))
  | str j=>obtain⟨t',rfl⟩:=ry;exact ne_str (jB I q (congrArg not qJg))
  | _=>exact absurd (show false=true from hs) Bool.false_ne_true
 | byt i=>
  obtain⟨t,rfl⟩:=rx
  cases y with
  | byt j=>obtain⟨t',rfl⟩:=ry;exact PySem.W.ne_bytes (jB I q (congrArg not qJq))
  | _=>exact absurd (show false=true from hs) Bool.false_ne_true
 | _=>cases y <;> exact absurd (show false=true from hs) Bool.false_ne_true
theorem kD:OpR X (compareOp .Lt) (rI0 fun i j=>.bl (decide (i < j))):=qN5 fun _ _ _ _ _ _ _ q=>lt_int q
theorem qEs:OpR X (compareOp .LtE) (rI0 fun i j=>.bl (decide (i≤j))):=qN5 fun _ _ _ _ _ _ _ q=>le_int q
theorem kU:OpR X (compareOp .Gt) (rI0 fun i j=>.bl (decide (j < i))):=qN5 fun _ _ _ _ _ _ _ q=>gt_int q
theorem qA6:OpR X (compareOp .GtE) (rI0 fun i j=>.bl (decide (j≤i))):=qN5 fun _ _ _ _ _ _ _ q=>ge_int q
theorem OpR.or {f:Value→Value→Sem Value}{r r':R2}(h:OpR X f r)(h':OpR X f r'):OpR X f (fun x y H Q=>r x y H Q∨r' x y H Q):=by
 intro pins s σ H x y v u Q I rx ry q
 rcases q with q | q
 · exact h pins s σ H x y v u Q I rx ry q
 · exact h' pins s σ H x y v u Q I rx ry q
theorem qO (b:Expr){op:CmpOp}(h:op≠ .In:=by decide)(h2:op≠ .NotIn:=by decide):behindInMarks op b=false:=by
 have e1:(op == CmpOp.In)=false:=by cases op <;> first | rfl | exact absurd rfl h
 have e2:(op == CmpOp.NotIn)=false:=by cases op <;> first | rfl | exact absurd rfl h2
 cases b <;> simp [behindInMarks,e1,e2]
theorem jK {op:CmpOp}{r:R2}(ho:OpR X (compareOp op) r)(ha:PE X a ta)(hb:PE X b tb)(hm:behindInMarks op b=false):PE X (.Compare a [op] [b] pos) (tOp r ta tb):=by
 intro pins s σ H Q I h
 exact wpAny_Compare1 (qOz ha hb I h fun v u s2 x y H2 I2 rx ry q=>ho pins s2 σ H2 x y v u Q I2 rx ry q) hm
inductive qNl (Q:Bool→Hp→Prop)(x:V)(H':Hp):Prop
| mk k (_:x= .bl k) (_:Q k H')
def qOh (t:TE):TT:=fun σ H Q=>t σ H fun x H'=>qNl Q x H'
theorem qJ {op:CmpOp}{r:R2}(ho:OpR X (compareOp op) r)(ha:PE X a ta)(hb:PE X b tb)(hm:behindInMarks op b=false):PT X (.Compare a [op] [b] pos) (qOh (tOp r ta tb)):=by
 intro pins s σ H Q I h
 refine wpAny_isTrue_Compare1 (thn (ha pins s σ H _ I h) fun v s1 ⟨x,H1,I1,r1,q1⟩=>thn (hb pins s1 σ H1 _ I1 q1) fun u s2 ⟨y,H2,I2,r2,q2⟩=>
  thn (ho pins s2 σ H2 x y v u _ I2 r1 r2 q2) fun c s3 ⟨z,H3,I3,r3,k,e,q3⟩=>?_) hm
 subst e
 cases r3
 exact wpAny_truthy_bool ⟨H3,I3,q3⟩
theorem qDr:(sizeLine:Nat) < 2 ^ 63:=by rw [sizeLine_eq];decide
theorem qHa {x:V}{us:List Value}(r:Vals [x] us):∃ u,us=[u]∧RelV x u:=by
 cases r with
 | cons r1 r2=>cases r2;exact⟨_,rfl,r1⟩
theorem qJy {x y:V}{us:List Value}(r:Vals [x,y] us):∃ u w',us=[u,w']∧RelV x u∧RelV y w':=by
 cases r with
 | cons r1 r2=>
  cases r2 with
  | cons r3 r4=>cases r4;exact⟨_,_,rfl,r1,r3⟩
theorem qCu:vf X (.builtin "abs") (fun xs H Q=>∃ i,xs=[.int i]∧Q (.int (if i < 0 then -i else i)) H):=by
 intro pins s σ H xs us Q I r h
 obtain⟨i,rfl,q⟩:=h
 obtain⟨u,rfl,t,rfl⟩:=qHa r
 exact call_abs_int fun u tk=>⟨.int (if i < 0 then -i else i),H,I.tok _,⟨_,rfl⟩,q⟩
theorem qAk (hc:X.calm=true):vf X (.builtin "max") (fun xs H Q=>∃ i j,xs=[.int i,.int j]∧Q (.int (if j > i then j else i)) H):=by
 intro pins s σ H xs us Q I r h
 obtain⟨i,j,rfl,q⟩:=h
 obtain⟨u,w',rfl,⟨t,rfl⟩,⟨t',rfl⟩⟩:=qJy r
 refine max_two_ints (I.ok.hd hc) fun h' tk k=>⟨_,H,I.kept k,?_,q⟩
 by_cases hj:j > i
 · rw [if_pos hj,if_pos hj];exact⟨_,rfl⟩
 · rw [if_neg hj,if_neg hj];exact⟨_,rfl⟩
theorem xk (hc:X.calm=true):vf X (.builtin "min") (fun xs H Q=>∃ i j,xs=[.int i,.int j]∧Q (.int (if j < i then j else i)) H):=by
 intro pins s σ H xs us Q I r h
 obtain⟨i,j,rfl,q⟩:=h
 obtain⟨u,w',rfl,⟨t,rfl⟩,⟨t',rfl⟩⟩:=qJy r
 refine min_two_ints (I.ok.hd hc) fun h' tk k=>⟨_,H,I.kept k,?_,q⟩
 by_cases hj:j < i
 · rw [if_pos hj,if_pos hj];exact⟨_,rfl⟩
 · rw [if_neg hj,if_neg hj];exact⟨_,rfl⟩
end
end L2
namespace L2
open PySem PySem.Spec PyProof.Rows
structure ObjM (h:Heap)(x dx C:Addr)(mA:Str→Option Value):Prop where
 obj:h.get? x=some (PySem.W.instObj C dx)
 ns:h.Ns1 dx mA
 ne:dx≠x
theorem qI6 {h:Heap}{dx:Addr}{mA:Str→Option Value}(n:h.Ns1 dx mA):∃ od,h.get? dx=some od∧∀ name,PySem.W.lookIn name od=some (mA name):=by
 obtain⟨o,es,ep,ho,hd,hk,_,hm⟩:=n
 refine⟨o,ho,fun name=>?_⟩
 have e:=hm name
 unfold nsFind findBy at e
 rw [← Array.find?_toList] at e
 unfold PySem.W.lookIn
 rw [hd]
 dsimp only
 split
 · rename_i y q
   rw [q] at e
   exact congrArg some e
 · rename_i q
   rw [q] at e
   have a:es.toList.any (·.refKey)=false:=by
    rw [List.any_eq_false]
    intro y hy
    obtain⟨z,t,hkey⟩:=hk y (Array.mem_toList_iff.mp hy)
    simp [DictEntry.refKey,hkey]
   have a':¬ es.toList.any (·.refKey)=true:=by rw [a];exact Bool.false_ne_true
   rw [if_neg a']
   exact congrArg some e
theorem ObjM.look {h:Heap}{x dx C:Addr}{mA:Str→Option Value}(I:ObjM h x dx C mA):∃ od,PySem.W.InstAt h x (PySem.W.instObj C dx) C (some od)∧∀ name,PySem.W.lookIn name od=some (mA name):=
 let ⟨od,ho,hl⟩:=qI6 I.ns
 ⟨od,⟨I.obj,rfl,rfl,ho⟩,hl⟩
section
variable {prog : Program} {w : World} {A : Around} {E : Value → Shared → Prop} {s : Shared} {K : PySem.W.Frag} {x dx C f : Addr} {mA : Str → Option Value} {name : Str} {v : Value}
end
theorem RelO.some_of {v:V}{o:Option Value}(r:RelO (some v) o):∃ u,o=some u∧RelV v u:=by
 cases o with
 | none=>exact(show False from r).elim
 | some u=>exact⟨u,rfl,r⟩
section
variable {P : Program} {w : World} {H H' : Hp} {h h' : Heap} {a C dx : Addr} {fs fs' : List (Str × V)}
theorem qMp (hok:HOk P w H h)(e:H a=some (.ins C dx fs)):∃ mA,ObjM h a dx C mA∧(∀ f,RelO (fs.lookup f) (mA f))∧PySem.Within mA (fs.map (·.1))∧fs.length≤1000∧H dx=some (.own a):=by
 obtain⟨d,z,ne,ob,mA,n,r,q⟩:=(show ObjOk P w H h a (.ins C dx fs) from hok a _ e)
 exact⟨mA,⟨ob,n,ne⟩,r,q,z,d⟩
end
structure Cls (K:PySem.W.Frag)(C:Addr):Prop where
 pg:PySem.W.plainGet K C Str.empty=true
 hd:PySem.W.hasDictIn K C=true
 po:PySem.W.plainOver K C=true
 sa:PySem.W.findIn K (.ref C) "__setattr__"=some (some (.builtin "object.__setattr__"))
theorem Cls.get {K:PySem.W.Frag}{C:Addr}(c:Cls K C)(f:Str):PySem.W.plainGet K C f=true:=c.pg
section
variable {X : Cx} {pins : List (Addr × Obj)} {σ : St} {H : Hp} {s : Shared} {a C dx : Addr} {fs : List (Str × V)} {f : Str} {v : V} {A : Around} {E : Value → Shared → Prop}
theorem Inv.made (I:Inv X pins σ H s):Inv X pins σ (upd (upd H s.heap.objs.size (.own (s.heap.objs.size+1))) (s.heap.objs.size+1) (.ins C s.heap.objs.size []))
 {s with heap:=(s.heap.push PySem.W.emptyDict).push (PySem.W.instObj C s.heap.objs.size)}:=by
 have e1:(s.heap.push PySem.W.emptyDict).get? s.heap.objs.size=some PySem.W.emptyDict:=Heap.get?_push_size s.heap rfl
 have e2:((s.heap.push PySem.W.emptyDict).push (PySem.W.instObj C s.heap.objs.size)).get? (s.heap.objs.size+1)=some (PySem.W.instObj C s.heap.objs.size):=by
  have:=Heap.get?_push_size (s.heap.push PySem.W.emptyDict) (o:=PySem.W.instObj C s.heap.objs.size) rfl
  rwa [Heap.size_push] at this
 have e3:(s.heap.push PySem.W.emptyDict).Ns s.heap.objs.size (fun _=>none):=⟨PySem.W.emptyDict,#[],_,e1,rfl,(fun e he=>absurd he (by simp)),fun _=>rfl⟩
 have I1:=I.laid (a:=s.heap.objs.size) (o:=.own (s.heap.objs.size+1)) (h':=s.heap.push PySem.W.emptyDict) (t':=s.toks) (fun b u q=>Heap.get?_push_of_some _ q) (Nat.le_refl _) ⟨_,e1⟩
 refine I1.laid (a:=s.heap.objs.size+1) (o:=.ins C s.heap.objs.size []) (t':=s.toks) (fun b u q=>Heap.get?_push_of_some _ q) (Nat.le_of_eq (Heap.size_push _ _)) ?_
 have ne:s.heap.objs.size≠s.heap.objs.size+1:=Nat.ne_of_lt (Nat.lt_succ_self _)
 refine⟨by rw [qU ne,qF],Nat.zero_le _,ne,e2,fun _=>none,(Heap.Ns1.of_empty e3).at fun o q=>Heap.get?_push_of_some _ q,fun _=>True.intro,fun y hy=>absurd rfl hy⟩
theorem qMe {prog:Program}{w:World}{env:Env}{e:Expr}{f:Str}{pos:Pos}{s:Shared}{Q:Value→Shared→Prop}(hb:attributeBase e f env (eval e env)=eval e env)
 (h:wpAny (model prog w) A (eval e env) (fun o s₁=>wpAny (model prog w) A (getAttr o f true) Q E s₁) E s):wpAny (model prog w) A (eval (.Attribute e f pos) env) Q E s:=
 Attribute_any_ h (by rw [arm_eval_Attribute,hb])
end
section
variable {X : Cx} {o e value : Expr} {f : Str} {pos pos' tpos : Pos} {ta tv : TE}
end
section
variable {X : Cx} {pins : List (Addr × Obj)} {σ : St} {H : Hp} {s : Shared} {A : Around} {E : Value → Shared → Prop} {Q : Value → Shared → Prop} {c : Value} {b : Bool}
inductive qBw (K:PySem.W.Frag)(H:Hp):V→Value→Prop where
 | non:qBw K H .non (.type "NoneType")
 | bl (x:Bool):qBw K H (.bl x) (.type "bool")
 | int (i:Int):qBw K H (.int i) (.type "int")
 | str (x:Str):qBw K H (.str x) (.type "str")
 | flt (x:UInt64):qBw K H (.flt x) (.type "float")
 | lst {a:Addr} {xs:List V} (e:H a=some (.lst xs)):qBw K H (.ref a) (.type "list")
 | frz {a:Addr} {o:Obj} {xs:List V} (e:H a=some (.frz o (.lst xs))):qBw K H (.ref a) (.type "list")
 | tup {a:Addr} {xs:List V} (e:H a=some (.tup xs)):qBw K H (.ref a) (.type "tuple")
 | dK {a:Addr} {kvs:List (Key × V)} (e:H a=some (.dK kvs)):qBw K H (.ref a) (.type "dict")
 | dT {a:Addr} {kvs:List (List Key × V)} (e:H a=some (.dT kvs)):qBw K H (.ref a) (.type "dict")
 | ins {a C dx:Addr} {fs:List (Str × V)} (e:H a=some (.ins C dx fs)) (cl:Cls K C) (ha:PySem.W.findIn K (.ref C) "__class__"=some (some (.builtin "object.__class__")))
  (hn:PySem.W.specialIn K (.builtin "object.__class__") "__get__"=some (some (.builtin "getset_descriptor.__get__"))) (htk:PySem.W.takesIn K (.builtin "object.__class__")=some true)
  (hm:PySem.W.mroIn K C (.type "object")=some true):qBw K H (.ref a) (.ref C)
theorem qEi {x:V}{u t:Value}(I:Inv X pins σ H s)(rx:RelV x u)(ty:qBw X.K H x t)(e:PySem.W.kitOne X.K t c=some b)(h:∀ tk,Q (.bool b) {s with toks:=tk}):
 wpAny (model X.prog X.w) A (call (.builtin "isinstance") [u,c]) Q E s:=by
 cases ty with
 | non=>cases (show u=Value.none from rx);exact PySem.W.kia_one PySem.W.kitx_none I.kIn True.intro e (fun z=>nomatch z) h
 | bl y=>cases (show u=Value.bool y from rx);exact PySem.W.kia_one PySem.W.kitx_bool I.kIn True.intro e (fun z=>nomatch z) h
 | int i=>obtain⟨t,q⟩:=(show ∃ t,u=Value.int i t from rx);cases q;exact PySem.W.kia_one PySem.W.kitx_int I.kIn True.intro e (fun z=>nomatch z) h
 | str y=>obtain⟨t,q⟩:=(show ∃ t,u=Value.str y t from rx);cases q;exact PySem.W.kia_one PySem.W.kitx_str I.kIn True.intro e (fun z=>nomatch z) h
 | flt y=>obtain⟨t,q⟩:=(show ∃ t,u=Value.float y t from rx);cases q;exact PySem.W.kia_one PySem.W.kitx_float I.kIn True.intro e (fun z=>nomatch z) h
 | @lst a xs ea=>
  cases (show u=Value.ref a from rx)
  obtain⟨_,_,n,_,h1⟩:=(show ObjOk X.prog X.w H s.heap a (.lst xs) from I.hok a _ ea)
  exact PySem.W.kia_one PySem.W.kitx_list I.kIn ⟨_,h1,rfl⟩ e (fun z=>nomatch z) h
 | @frz a ob xs ea=>
  cases (show u=Value.ref a from rx)
  obtain⟨_,_,_,n,_,h1⟩:=(show ObjOk X.prog X.w H s.heap a (.frz ob (.lst xs)) from I.hok a _ ea)
  exact PySem.W.kia_one PySem.W.kitx_list I.kIn ⟨_,h1,rfl⟩ e (fun z=>nomatch z) h
 | @tup a xs ea=>
  cases (show u=Value.ref a from rx)
  obtain⟨_,_,_,p⟩:=(show ObjOk X.prog X.w H s.heap a (.tup xs) from I.hok a _ ea)
  obtain⟨o,h1,h2,_⟩:=p
  exact PySem.W.kia_one PySem.W.kitx_tuple I.kIn ⟨o,h1,h2⟩ e (fun z=>nomatch z) h
 | @dK a kvs ea=>
  cases (show u=Value.ref a from rx)
  obtain⟨_,_,vs,_,p⟩:=(show ObjOk X.prog X.w H s.heap a (.dK kvs) from I.hok a _ ea)
  obtain⟨o,es,ep,h1,h2,_⟩:=p
  exact PySem.W.kia_one PySem.W.kitx_dict I.kIn ⟨o,h1,h2.1⟩ e (fun z=>nomatch z) h
 | @dT a kvs ea=>
  cases (show u=Value.ref a from rx)
  obtain⟨_,_,xs,_,o,es,ep,h1,h2,_⟩:=(show ObjOk X.prog X.w H s.heap a (.dT kvs) from I.hok a _ ea)
  exact PySem.W.kia_one PySem.W.kitx_dict I.kIn ⟨o,h1,h2.1⟩ e (fun z=>nomatch z) h
 | @ins a C dx fs ea cl ha hn htk hm=>
  cases (show u=Value.ref a from rx)
  obtain⟨mA,O,_⟩:=qMp I.hok ea
  obtain⟨od,J,_⟩:=O.look
  exact PySem.W.kia_one (PySem.W.kitx_own (cl.get _) cl.hd ha hn htk hm) I.kIn J e (fun z=>nomatch z) h
end
end L2
namespace L2
open PySem PySem.Spec PyProof.Rows
structure Room (k:Nat)(A:Around):Prop where
 hd:A.handled=none
 dp:A.depth+3*k+5 < recursionLimit
 un:A.units+16*k+200 < cLine
theorem Room.mono {j k:Nat}{A:Around}(r:Room k A)(h:j≤k):Room j A:=⟨r.hd,by have:=r.dp;omega,by have:=r.un;omega⟩
theorem Room.deeper {k:Nat}{A:Around}(r:Room (k+1) A)(env:Env):Room k (A.deeper env):=
 ⟨r.hd,by have:=r.dp;show A.depth+1+3*k+5 < _;omega,by have:=r.un;show A.units+3+16*k+200 < _;omega⟩
theorem Room.in1 {k:Nat}{A:Around}(r:Room (k+1) A):Room k A.in1:=
 ⟨r.hd,by have:=r.dp;show A.depth+3*k+5 < _;omega,by have:=r.un;show A.units+1+16*k+200 < _;omega⟩
theorem qG8 {A:Around}{C:Addr}{us:List Value}{kw:List (Str × Value)}:(A.under (.builtin "type.__call__" ⟨.ref C::us,kw⟩)).depth=A.depth+1:=by
 first | rfl | simp [Around.under,Code.weight,Code.isCreation,Code.isGuard,Code.isCaller,Code.frames,Code.isFrame,guardIds]
theorem qH2 {A:Around}{C:Addr}{us:List Value}{kw:List (Str × Value)}:(A.under (.builtin "type.__call__" ⟨.ref C::us,kw⟩)).units=A.units+1:=by
 first | rfl | simp [Around.under,Code.cUnits,Code.frames,Code.isFrame]
theorem Room.make {k:Nat}{A:Around}(r:Room (k+1) A)(C:Addr)(us:List Value)(kw:List (Str × Value)):Room k (A.under (.builtin "type.__call__" ⟨.ref C::us,kw⟩)):=
 ⟨r.hd,by have:=r.dp;rw [qG8];omega,by have:=r.un;rw [qH2];omega⟩
theorem Room.depth {k:Nat}{A:Around}(r:Room k A):A.depth < recursionLimit:=by have:=r.dp;omega
theorem Room.units {k:Nat}{A:Around}(r:Room k A):A.units+64 < cLine:=by have:=r.un;omega
theorem Room.units0 {k:Nat}{A:Around}(r:Room k A):A.units < cLine:=by have:=r.un;omega
def qQa:TA:=fun _ H Q=>Q [] H
def qOm (ta:TE)(tr:TA):TA:=fun σ H Q=>ta σ H fun x H1=>tr σ H1 fun xs H2=>Q (x::xs) H2
section
variable {X : Cx} {e : Expr} {es : List Expr} {te : TE} {t : TA} {pos : Pos}
theorem qB:PA X [] qQa:=fun _ _ _ _ H Q I h=>Calls.spliced_nil ⟨[],H,I,.nil,h⟩
theorem qA (ha:PE X e te)(hr:PA X es t)(hs:starEach (e::es) X.env=(false,eval e X.env)::starEach es X.env:=by rfl):PA X (e::es) (qOm te t):=by
 intro pos pins s σ H Q I h
 rw [hs]
 show wpAny _ _ (spliced ((false,eval e X.env)::backTo pos (starEach es X.env))) _ _ s
 refine Calls.spliced_cons (thn (ha pins s σ H _ I h) fun u s1 ⟨x,H1,I1,r1,q1⟩=>?_)
 exact thn (hr pos pins s1 σ H1 _ I1 q1) fun us s2 ⟨xs,H2,I2,r2,q2⟩=>⟨x::xs,H2,I2,.cons r1 r2,q2⟩
inductive qOp (Q:VK)(xs:List V)(H1:Hp):Prop
| mk (_:xs.length≤sizeLine) (_:∀ p,H1 p=none→Q (.ref p) (upd H1 p (.tup xs)))
def qP3 (t:TA):TE:=fun σ H Q=>t σ H fun xs H1=>qOp Q xs H1
inductive qOr (Q:VK)(xs:List V)(H1:Hp):Prop
| mk (_:xs.length≤sizeLine) (_:∀ p,H1 p=none→Q (.ref p) (upd H1 p (.lst xs)))
def qQe (t:TA):TE:=fun σ H Q=>t σ H fun xs H1=>qOr Q xs H1
theorem jO {x1}(h:PA X es t):PE X (.Tuple es x1 pos) (qP3 t):=by
 intro pins s σ H Q I hq
 refine wpAny_Tuple_spliced (thn (h pos pins s σ H _ I hq) fun us s1 ⟨xs,H1,I1,r,z,q⟩=>⟨by rw [← r.length];exact z,?_⟩)
 have hf:H1 s1.heap.objs.size=none:=I1.hok.fresh (Nat.le_refl _)
 refine⟨.ref s1.heap.objs.size,upd H1 s1.heap.objs.size (.tup xs),I1.laid (t':=s1.toks) (fun b u e=>Heap.get?_push_of_some _ e) (Nat.le_refl _) ?_,rfl,q _ hf⟩
 exact⟨z,us,r,⟨_,Heap.get?_push_size _ rfl,rfl,_,rfl⟩⟩
theorem zM (h:PA X es t):PE X (.List es pos) (qQe t):=by
 intro pins s σ H Q I hq
 refine wpAny_List_spliced (thn (h pos pins s σ H _ I hq) fun us s1 ⟨xs,H1,I1,r,z,q⟩=>⟨by rw [← r.length];exact z,?_⟩)
 have hf:H1 s1.heap.objs.size=none:=I1.hok.fresh (Nat.le_refl _)
 refine⟨.ref s1.heap.objs.size,upd H1 s1.heap.objs.size (.lst xs),I1.laid (t':=s1.toks) (fun b u e=>Heap.get?_push_of_some _ e) (Nat.le_refl _) ?_,rfl,q _ hf⟩
 exact⟨z,us,0,r,Heap.get?_push_size _ rfl⟩
end
abbrev Sp:=List V→Hp→VK→XK→Prop
abbrev CXT:=List Env→Hp→Shared→XK→Value→Shared→Prop
structure Env0 (P:Program)(w:World)(K:PySem.W.Frag)(mg:Str→Option Value)(base:Heap)(A:Around)(outer:List Env)(s:Shared)(H:Hp):Prop where
 frames:A.frames=some outer
 mod:Mod K mg base
 bs:∀ b o,base.get? b=some o→s.heap.get? b=some o∧H b=none
 bsz:base.objs.size≤s.heap.objs.size
 funs:s.heap.FunFrames base outer
 frf:∀ b∈frs outer,H b=none
 hok:HOk P w H s.heap
 bare:AllBare s.gens
def CE (outer:List Env)(P:Program)(w:World)(H:Hp)(s:Shared)(Q:VK)(u:Value)(s':Shared):Prop:=
 ∃ v H',s'.os=s.os∧AllBare s'.gens∧Un (frs outer) [] H H' s.heap s'.heap∧HOk P w H' s'.heap∧RelV v u∧Q v H'
def CR (CX:CXT)(outer:List Env)(P:Program)(w:World)(H:Hp)(s:Shared)(Q:VK)(E:XK)(r:Result)(s':Shared):Prop:=
 match r with
 | .ok (.ret u)=>CE outer P w H s Q u s'
 | .ok _=>False
 | .error e=>CX outer H s E e s'
structure FnOk (P:Program)(w:World)(K:PySem.W.Frag)(mg:Str→Option Value)(base:Heap)(CX:CXT)(k:Nat)(f:Addr)(fd:FuncData)(ps:List Str)(sp:Sp):Prop where
 len:∀ vs H Q E,sp vs H Q E→vs.length=ps.length
 run:∀ (A:Around) (outer:List Env) (s:Shared) (H:Hp) (args:Args) (us:List Value) (vs:List V) (Q:VK) (E:XK),Room k A→Env0 P w K mg base A outer s H→BindsTo s fd args (ps.zip us)→Vals vs us→sp vs H Q E→
  codeAny (model P w) A (.call (.ref f) args) (CR CX outer P w H s Q E) s
theorem FnOk.imp {P:Program}{w:World}{K:PySem.W.Frag}{mg:Str→Option Value}{base:Heap}{CX:CXT}{k:Nat}{f:Addr}{fd:FuncData}{ps:List Str}{sp sp':Sp}(F:FnOk P w K mg base CX k f fd ps sp)
 (h:∀ vs H Q E,sp' vs H Q E→sp vs H Q E):FnOk P w K mg base CX k f fd ps sp':=
 ⟨fun vs H Q E q=>F.len vs H Q E (h _ _ _ _ q),fun A outer s H args us vs Q E hr he hb hv hs=>F.run A outer s H args us vs Q E hr he hb hv (h _ _ _ _ hs)⟩
theorem Env0.make {P:Program}{w:World}{K:PySem.W.Frag}{mg:Str→Option Value}{base:Heap}{A:Around}{outer:List Env}{s:Shared}{H:Hp}(e:Env0 P w K mg base A outer s H)(C:Addr)(us:List Value)(kw:List (Str × Value)):
 Env0 P w K mg base (A.under (.builtin "type.__call__" ⟨.ref C::us,kw⟩)) outer s H:=⟨by first | exact e.frames | (simpa [Around.under,Code.envs,Code.isFrame,pushEnvs] using e.frames),e.mod,e.bs,e.bsz,e.funs,e.frf,e.hok,e.bare⟩
section
variable {X : Cx} {pins : List (Addr × Obj)} {σ : St} {H : Hp} {s s' : Shared}
theorem Inv.env0 (I:Inv X pins σ H s):Env0 X.prog X.w X.K X.mg X.base X.A X.stack s H:=
 ⟨I.ok.frames,I.ok.mod,I.bs,Nat.le_trans I.ok.bsz I.sz,I.stack,I.stkFree,I.hok,I.bare⟩
theorem Inv.after {Q:VK}{u:Value}(I:Inv X pins σ H s)(h:CE X.stack X.prog X.w H s Q u s'):EP X pins σ Q u s':=by
 obtain⟨v,H',os,bare,un,hok,r,q⟩:=h
 obtain⟨hh,g,d,t,os'⟩:=s'
 obtain rfl:os'=s.os:=os
 exact⟨v,H',I.call (h':=hh) (g':=g) (d':=d) (t':=t) (ch:=[]) un hok bare (fun b z=>absurd z (by simp)),r,q⟩
end
def qL7 (sp:Sp)(dvs:List V)(E:XK)(t:TA):TE:=fun σ H Q=>t σ H fun vs H1=>sp (vs++dvs) H1 Q E
def Binds (K:PySem.W.Frag)(fd:FuncData)(ps:List Str)(ds:List Value):Prop:=
 ∀ (s:Shared) (us:List Value),K.In s.heap→(us++ds).length=ps.length→BindsTo s fd ⟨us,[]⟩ (ps.zip (us++ds))
theorem Binds.all {K:PySem.W.Frag}{fd:FuncData}{ps:List Str}(h:∀ us:List Value,us.length=ps.length→bindArgs fd ⟨us,[]⟩=pure (ps.zip us)):Binds K fd ps []:=fun s us _ hl=>by
 rw [List.append_nil] at hl ⊢
 exact .of_eq (h us hl)
def qGv (CX:CXT)(X:Cx)(E:XK):Prop:=∀ (pins:List (Addr × Obj)) (σ:St) (H:Hp) (s:Shared) (e:Value) (s':Shared),Inv X pins σ H s→CX X.stack H s E e s'→X.xe e s'
section
variable {X : Cx} {CX : CXT} {k : Nat} {f C : Addr} {fd : FuncData} {ps : List Str} {sp : Sp} {dvs : List V} {ds : List Value} {E : XK} {x m : Str} {p pos apos : Pos} {e o : Expr} {es : List Expr} {ta : TE} {t : TA}
theorem qNi {pins:List (Addr × Obj)}{σ:St}{H:Hp}{s:Shared}{Q:VK}{us:List Value}{vs:List V}(F:FnOk X.prog X.w X.K X.mg X.base CX k f fd ps sp)(hr:Room k X.A)(hb:Binds X.K fd ps ds)(hd:Vals dvs ds)(hx:qGv CX X E)
 (I:Inv X pins σ H s) (r:Vals vs us) (h:sp (vs++dvs) H Q E):wpAny (model X.prog X.w) X.A (call (.ref f) us) (EP X pins σ Q) X.xe s:=by
 have r2:Vals (vs++dvs) (us++ds):=r.append hd
 have hl:(us++ds).length=ps.length:=by rw [← r2.length];exact F.len _ _ _ _ h
 refine wpAny_call (codeAny_mono (F.run X.A X.stack s H ⟨us,[]⟩ (us++ds) (vs++dvs) Q E hr I.env0 (hb s us I.kIn hl) r2 h) fun r s' hq=>?_)
 cases r with
 | error e=>exact hx pins σ H s e s' I hq
 | ok fl=>
  cases fl with
  | ret u=>exact I.after hq
  | next=>exact False.elim hq
  | brk=>exact False.elim hq
  | cont=>exact False.elim hq
theorem qJl (F:FnOk X.prog X.w X.K X.mg X.base CX k f fd ps sp)(hr:Room k X.A)(hg:Gl X x)(hm:X.mg x=some (.ref f))(hk:PySem.W.keepIn X.K (.ref f)=true)(hb:Binds X.K fd ps ds)(hd:Vals dvs ds)(hx:qGv CX X E)
 (ha:PA X (e::es) t) (hdb:(x == ("__debug__":Str))=false:=by decide) (he:starEach (e::es) X.env=(false,eval e X.env)::starEach es X.env:=by rfl) (hpl:(backTo pos (starEach es X.env)).any (·.1)=false:=by rfl):
 PE X (.Call (.Name x p) (e::es) [] pos) (qL7 sp dvs E t):=by
 intro pins s σ H Q I h
 refine wpAny_Call_Name_kw (qAq I hg hm ?_ hdb)
 refine PySem.W.callWith_K (h₀:=X.base) I.ok.mod.kin hk (thn (ha pos pins s σ H _ I h) fun us s1 ⟨vs,H1,I1,r,q⟩=>⟨I1.kIn,?_⟩) he hpl
 exact qNi F hr hb hd hx I1 r q
end
section
variable {X : Cx} {CX : CXT} {k : Nat} {f C : Addr} {fd : FuncData} {ps ks : List Str} {sp : Sp} {E : XK} {x m : Str} {p pos apos kpos : Pos} {e o : Expr} {es : List Expr} {kws : List Keyword} {te ta : TE} {t tk : TA} {nm : Option Str}
variable {g : List Value → List Value → List Value} {gV : List V → List V → List V}
end
structure qM (N P:List Str)(sc:Scope):Prop where
 kind:sc.kind= .function
 co:sc.isCoroutine=false
 gen:sc.isGenerator=false
 nd:N.Nodup
 pre:N.take P.length=P
 par:∀ x∈P,sc.names.lookup x=some .local∨sc.names.lookup x=some .cell
 nofree:∀ y∈sc.names,y.2≠ .free
theorem qDp {kindOf:Str→Option NameKind}{x:Str}:∀ {binds:List (Str × Value)} {m:Str→Option Value},(∀ v,(x,v) ∉ binds)→bindL kindOf binds m x=m x
 | [],_,_=>rfl
 | (n,v)::r,m,h=>by
  unfold bindL
  rw [qDp fun w hw=>h w (List.mem_cons_of_mem _ hw)]
  split
  · have:x≠n:=by rintro rfl;exact h v List.mem_cons_self
    simp [this]
  · rfl
theorem qDi {kindOf:Str→Option NameKind}{x:Str}:∀ {binds:List (Str × Value)} {m:Str→Option Value},(∀ v,(x,v) ∉ binds)→bindC kindOf binds m x=m x
 | [],_,_=>rfl
 | (n,v)::r,m,h=>by
  unfold bindC
  rw [qDi fun w hw=>h w (List.mem_cons_of_mem _ hw)]
  split
  · rfl
  · have:x≠n:=by rintro rfl;exact h v List.mem_cons_self
    simp [this]
theorem qEq {kindOf:Str→Option NameKind}{x:Str}{v:Value}:∀ {P:List Str} {vs:List Value} {i:Nat} {m:Str→Option Value},P.Nodup→P[i]? =some x→vs[i]? =some v→kindOf x=some .local→
 bindL kindOf (P.zip vs) m x=some v
 | [],_,_,_,_,h,_,_=>by simp at h
 | _::_,[],_,_,_,_,h,_=>by simp at h
 | p::P,w::vs,0,m,nd,h1,h2,hk=>by
  simp at h1 h2;subst h1;subst h2
  show bindL kindOf ((p,w)::P.zip vs) m p=_
  unfold bindL
  rw [qDp fun v hv=>(List.nodup_cons.mp nd).1 (List.of_mem_zip hv).1,if_pos hk]
  simp
 | p::P,w::vs,i+1,m,nd,h1,h2,hk=>by
  show bindL kindOf ((p,w)::P.zip vs) m x=_
  unfold bindL
  exact qEq (i:=i) (List.nodup_cons.mp nd).2 (by simpa using h1) (by simpa using h2) hk
theorem qEz {kindOf:Str→Option NameKind}{x:Str}{v:Value}:∀ {P:List Str} {vs:List Value} {i:Nat} {m:Str→Option Value},P.Nodup→P[i]? =some x→vs[i]? =some v→kindOf x≠some .local→
 bindC kindOf (P.zip vs) m x=some v
 | [],_,_,_,_,h,_,_=>by simp at h
 | _::_,[],_,_,_,_,h,_=>by simp at h
 | p::P,w::vs,0,m,nd,h1,h2,hk=>by
  simp at h1 h2;subst h1;subst h2
  show bindC kindOf ((p,w)::P.zip vs) m p=_
  unfold bindC
  rw [qDi fun v hv=>(List.nodup_cons.mp nd).1 (List.of_mem_zip hv).1,if_neg hk]
  simp
 | p::P,w::vs,i+1,m,nd,h1,h2,hk=>by
  show bindC kindOf ((p,w)::P.zip vs) m x=_
  unfold bindC
  exact qEz (i:=i) (List.nodup_cons.mp nd).2 (by simpa using h1) (by simpa using h2) hk
def qC3 (N:List Str)(vs:List V):St:=vs.map some++List.replicate (N.length - vs.length) none
def qJx (CX:CXT)(P:Program)(w:World)(K:PySem.W.Frag)(mg:Str→Option Value)(base:Heap)(N:List Str)(qual:Str)(scope:Scope)(f:Addr)(cd:Value)(A:Around)(outer:List Env)(s:Shared)(H:Hp)(E:XK):Cx where
 prog:=P
 w:=w
 K:=K
 mg:=mg
 base:=base
 A:=A.deeper (envOfC qual scope s.heap.objs.size f cd)
 N:=N
 s₀:=s
 H₀:=H
 env:=envOfC qual scope s.heap.objs.size f cd
 outer:=outer
 stack:=envOfC qual scope s.heap.objs.size f cd::outer
 ex:=[]
 calm:=true
 fn:=fun _=>true
 pn:=[]
 xe:=fun e s'=>wpAny (model P w) (A.deeper (envOfC qual scope s.heap.objs.size f cd)) (leaving (envOfC qual scope s.heap.objs.size f cd) e) (fun _ s''=>CX outer H s E e s'') (fun e' s''=>CX outer H s E e' s'') s'
theorem qGp {sc:Scope}{n:Nat}{x:Str}(h:sc.names.lookup x=some .cell):∃ c,(cellsFrom n sc.names []).lookup x=some c:=by
 have q:=PySem.W.cellsFrom_some sc.names n [] (.inl h)
 exact Option.isSome_iff_exists.mp q
theorem qIo {CX:CXT}{P:Program}{w:World}{K:PySem.W.Frag}{mg:Str→Option Value}{base:Heap}{N ps:List Str}{qual:Str}{scope:Scope}{f:Addr}{cd:Value}{A:Around}{outer:List Env}{s s1:Shared}{H:Hp}{E:XK}{us:List Value}{vs:List V}
 (S:qM N ps scope) (hd:A.handled=none) (e0:Env0 P w K mg base A outer s H) (hl:vs.length=ps.length) (r:Vals vs us)
 (x:InCallC s s.heap.objs.size (bindL (envOfC qual scope s.heap.objs.size f cd).kindOf (ps.zip us) fun _=>none) (cellsFrom (s.heap.objs.size+1) scope.names []) (bindC (envOfC qual scope s.heap.objs.size f cd).kindOf (ps.zip us) fun _=>none) s1):
 Inv (qJx CX P w K mg base N qual scope f cd A outer s H E) [] (qC3 N vs) H s1:=by
 have hpl:ps.length≤N.length:=by have:=congrArg List.length S.pre;rw [List.length_take] at this;omega
 obtain⟨h1,tk,rfl,hk⟩:=x.done
 have noA:∀ b:Addr,b ∉ (qJx CX P w K mg base N qual scope f cd A outer s H E).ex:=fun b z=>absurd (show b∈([]:List Addr) from z) (by simp)
 refine⟨⟨e0.mod,S.kind,rfl,rfl,Nat.le_refl _,fun y z c h1 h2=>?_,fun y hy=>?_,fun y c _ h=>?_,fun _=>hd,Around.frames_deeper e0.frames,.inr ⟨rfl,rfl⟩,fun b z=>absurd z (noA b),e0.bs,e0.bsz,fun b _ _=>noA b,fun b z=>absurd z (noA b),e0.funs,e0.frf⟩,
  rfl,e0.bare,Un.kept hk,⟨_,x.toInCall.ns,fun i y v h1 h2 h3=>?_⟩,fun y c h=>⟨_,x.cell y c h⟩,e0.hok.fresh (Nat.le_refl _),fun y c h=>?_,fun p hp=>absurd (show p∈([]:List (Addr × Obj)) from hp) (by simp),e0.hok.kept hk,?_⟩
 · exact name_of_addr x.apart (PySem.mem_of_lookup h1) (PySem.mem_of_lookup h2)
 · have hy:scope.names.lookup y=some .cell∨scope.names.lookup y=some .free:=hy
   rcases hy with hy | hy
   · exact qGp hy
   · exact absurd rfl (S.nofree _ (PySem.mem_of_lookup hy))
 · exact Nat.le_of_lt (x.above y c (PySem.mem_of_lookup h))
 · have hi:i < vs.length:=by
    unfold qC3 at h2
    by_cases hi:i < vs.length
    · exact hi
    · rw [List.getElem?_append_right (by simpa using hi)] at h2
      rw [List.getElem?_replicate] at h2
      split at h2 <;> cases h2
   have ha:vs[i]? =some v:=by
    unfold qC3 at h2
    rw [List.getElem?_append_left (by simpa using hi),List.getElem?_map] at h2
    cases e:vs[i]? with
    | none=>rw [e] at h2;cases h2
    | some a=>rw [e] at h2;cases h2;rfl
   obtain⟨u,hu,rv⟩:=r.get ha
   have hp:ps[i]? =some y:=by
    rw [← S.pre,List.getElem?_take_of_lt (by omega)];exact h1
   have ndP:ps.Nodup:=by rw [← S.pre];exact S.nd.sublist (List.take_sublist _ _)
   refine⟨u,rv,?_⟩
   rcases S.par y (List.mem_of_getElem? hp) with k | k
   · exact .inl ⟨k,qEq ndP hp hu k⟩
   · obtain⟨c,e⟩:=qGp (n:=s.heap.objs.size+1) k
     refine .inr ⟨.inl k,c,e,?_⟩
     have q:=x.cell y c e
     rw [qEz ndP hp hu (by show scope.names.lookup y≠_;rw [k];decide)] at q
     exact q
 · exact e0.hok.fresh (Nat.le_of_lt (x.above y c (PySem.mem_of_lookup h)))
 · unfold qC3
   show _=N.length
   rw [List.length_append,List.length_map,List.length_replicate]
   omega
theorem qNk {CX:CXT}{P:Program}{w:World}{K:PySem.W.Frag}{mg:Str→Option Value}{base:Heap}{k:Nat}{f:Addr}{name qual:Str}{params:Arguments}{body:List Stmt}{scope:Scope}{dV kV doc pm cdv ct oc:Value}{an od:Option Addr}
 {osl:Array (Option Value)} {N ps:List Str} {sp:Sp} (lk:K.lookup f=some ⟨oc,od,.func (PySem.W.fnOf name qual params body scope dV kV doc pm an cdv ct),osl⟩) (hcd:PySem.W.codeIn K cdv qual=true) (S:qM N ps scope)
 (len:∀ vs H Q E,sp vs H Q E→vs.length=ps.length)
 (hbody:∀ (A:Around) (outer:List Env) (s:Shared) (H:Hp) (vs:List V) (Q:VK) (E:XK),Room k (A.deeper (envOfC qual scope s.heap.objs.size f cdv))→sp vs H Q E→
   ∃ t,PSs (qJx CX P w K mg base N qual scope f cdv A outer s H E) body t∧t {nx:=fun _ H'=>Q .non H',rt:=Q} (qC3 N vs) H):
 FnOk P w K mg base CX (k+1) f (PySem.W.fnOf name qual params body scope dV kV doc pm an cdv ct) ps sp:=by
 refine⟨len,fun A outer s H args us vs Q E hr e0 hb r hsp=>?_⟩
 have hl:=len _ _ _ _ hsp
 have KX:K.In s.heap:=e0.mod.kin.keeps fun b o e=>(e0.bs b o e).1
 have lim:s.heap.NoLimit:=e0.mod.nolimit.keeps fun b o e=>(e0.bs b o e).1
 have hkind:∀ y∈ps.zip us,scope.names.lookup y.1=some .local∨(scope.names.lookup y.1=some .cell∧((cellsFrom (s.heap.objs.size+1) scope.names []).lookup y.1).isSome=true):=fun⟨n,v⟩ hy=>by
  rcases S.par n (List.of_mem_zip hy).1 with q | q
  · exact .inl q
  · exact .inr ⟨q,PySem.W.cellsFrom_some _ _ _ (.inl q)⟩
 refine codeAny_call_function hr.depth (KX _ _ lk) rfl S.co S.gen rfl (PySem.W.codeRec_of KX hcd) (hb _ _ _ _ ?_)
 refine wpAny_newFunctionEnv_cells S.kind hkind fun env he s1 x=>?_
 subst he
 refine⟨lim.keeps x.toInCall.keep,codeAny_func ?_⟩
 obtain⟨t,ht,hq⟩:=hbody A outer s H vs Q E (hr.deeper _) hsp
 have I:Inv (qJx CX P w K mg base N qual scope f cdv A outer s H E) [] (qC3 N vs) H s1:=qIo S hr.hd e0 hl r x
 refine wpAny_mono (ht [] s1 (qC3 N vs) H _ I hq) (fun fl s' hs=>?_) fun e s' hs=>hs
 have fin:∀ {σ':St} {H':Hp} {v:V} {u:Value},Inv (qJx CX P w K mg base N qual scope f cdv A outer s H E) [] σ' H' s'→RelV v u→Q v H'→CE outer P w H s Q u s':=
  fun {σ' H' v u} J rv q=>⟨v,H',J.os,J.bare,J.base,J.hok,rv,q⟩
 cases fl with
 | ret u=>
  obtain⟨v,σ',H',J,rv,q⟩:=hs
  exact fin J rv q
 | next=>
  obtain⟨σ',H',J,q⟩:=hs
  exact fin (v:=V.non) (u:=Value.none) J rfl q
 | brk=>
  obtain⟨_,_,_,q⟩:=hs
  exact False.elim q
 | cont=>
  obtain⟨_,_,_,q⟩:=hs
  exact False.elim q
end L2
namespace L2
open PySem PySem.Spec PyProof.Rows
section
variable {X : Cx} {x : Str} {p pos : Pos} {e : Expr} {es : List Expr} {t : TA} {id T : String} {r : List V → Hp → VK → Prop}
def tCB (r:List V→Hp→VK→Prop)(t:TA):TE:=fun σ H Q=>t σ H fun vs H1=>r vs H1 Q
theorem qQ (hc:vf X (.builtin id) r)(hg:Gl X x)(hm:X.mg x=none)(hv:bootBuiltins x=some (.builtin id))(ha:PA X (e::es) t)(hn:x≠"__name__":=by decide)(hdb:(x == ("__debug__":Str))=false:=by decide)
 (he:starEach (e::es) X.env=(false,eval e X.env)::starEach es X.env:=by rfl) (hpl:(backTo pos (starEach es X.env)).any (·.1)=false:=by rfl):PE X (.Call (.Name x p) (e::es) [] pos) (tCB r t):=by
 intro pins s σ H Q I h
 refine wpAny_Call_Name_kw (qE3 I hg hm hv ?_ hn hdb)
 exact PyProof.Rows.callWith_builtin1 (thn (ha pos pins s σ H _ I h) fun us s1 ⟨vs,H1,I1,r1,q1⟩=>hc pins s1 σ H1 vs us Q I1 r1 q1) he hpl
theorem qAi (hc:vf X (.type T) r)(hg:Gl X x)(hm:X.mg x=none)(hv:bootBuiltins x=some (.type T))(ha:PA X (e::es) t)(hn:x≠"__name__":=by decide)(hdb:(x == ("__debug__":Str))=false:=by decide)
 (he:starEach (e::es) X.env=(false,eval e X.env)::starEach es X.env:=by rfl) (hpl:(backTo pos (starEach es X.env)).any (·.1)=false:=by rfl):PE X (.Call (.Name x p) (e::es) [] pos) (tCB r t):=by
 intro pins s σ H Q I h
 refine wpAny_Call_Name_kw (qE3 I hg hm hv ?_ hn hdb)
 exact PyProof.Rows.callWith_type1 (thn (ha pos pins s σ H _ I h) fun us s1 ⟨vs,H1,I1,r1,q1⟩=>hc pins s1 σ H1 vs us Q I1 r1 q1) he hpl
end
end L2
namespace HT
open PySem PyProof.Rows
section
open PySem.SeqAt
open PySem.AutoSeq1 (wpAny_loadPart')
open PySem.MeetsSeq PySem.MeetsSeq2 PySem.MeetsSeq3
end
section
variable {prog : Program} {w : World} {A : Around} {E : Value → Shared → Prop} {s : Shared}
def sIx (n d:Nat):Option Int→Nat
 | none=>d
 | some v=>if v < 0 then (v+(n:Int)).toNat else min v.toNat n
theorem sIx_none (n d:Nat):sIx n d none=d:=rfl
theorem sIx_nat (n d k:Nat):sIx n d (some (k:Int))=min k n:=by
 show (if (k:Int) < 0 then ((k:Int)+(n:Int)).toNat else min (k:Int).toNat n)=min k n
 rw [if_neg (by omega),Int.toNat_natCast]
end
end HT
namespace L2
open PySem PySem.Spec PyProof.Rows
abbrev TO:=St→Hp→(Option Int→Hp→Prop)→Prop
def PO (X:Cx)(e:Option Expr)(t:TO):Prop:=
 ∀ (pins:List (Addr × Obj)) (s:Shared) (σ:St) (H:Hp) (Q:Option Int→Hp→Prop),Inv X pins σ H s→t σ H Q→
  wpAny (model X.prog X.w) X.A (evalPart e X.env) (fun u s'=>∃ o H',Inv X pins σ H' s'∧IsPart u o∧Q o H') X.xe s
def qLo:TO:=fun _ H Q=>Q none H
inductive qN4 (Q:Option Int→Hp→Prop)(x:V)(H1:Hp):Prop
| mk i (_:x= .int i) (_:Q (some i) H1)
def qOj (t:TE):TO:=fun σ H Q=>t σ H fun x H1=>qN4 Q x H1
section
variable {X : Cx} {e : Expr} {te : TE} {lo hi : Option Expr} {tl th : TO} {pos p2 : Pos}
theorem qCv:PO X none qLo:=by
 intro pins s σ H Q I h
 rw [evalPart_none]
 exact wpAny_pure ⟨none,H,I,.none,h⟩
theorem qAm (h:PE X e te):PO X (some e) (qOj te):=by
 intro pins s σ H Q I hw
 rw [evalPart_some]
 refine thn (h pins s σ H _ I hw) fun u s1 ⟨x,H1,I1,r1,q1⟩=>?_
 obtain⟨i,rfl,q⟩:=q1
 obtain⟨t,rfl⟩:=r1
 exact⟨some i,H1,I1,.int i t,q⟩
def SlR (X:Cx)(r:V→Option Int→Option Int→Hp→VK→Prop):Prop:=
 ∀ (pins:List (Addr × Obj)) (s:Shared) (σ:St) (H:Hp) (x:V) (v vl vu:Value) (lo hi:Option Int) (sl:Addr) (Q:VK),Inv X pins σ H s→RelV x v→s.heap.IsSliceOf sl vl vu .none→IsPart vl lo→IsPart vu hi→r x lo hi H Q→
  ∃ T id,typeLookup (.type T) "__getitem__"=pure (some (.builtin id))∧s.TypeIs v T∧wpAny (model X.prog X.w) X.A (getItem v (.ref sl)) (EP X pins σ Q) X.xe s
def tSl (r:V→Option Int→Option Int→Hp→VK→Prop)(te:TE)(tl th:TO):TE:=fun σ H Q=>te σ H fun x H1=>tl σ H1 fun l H2=>th σ H2 fun u H3=>r x l u H3 Q
theorem wX {r:V→Option Int→Option Int→Hp→VK→Prop}(hr:SlR X r)(he:PE X e te)(hl:PO X lo tl)(hu:PO X hi th):PE X (.Subscript e (.Slice lo hi none p2) pos) (tSl r te tl th):=by
 intro pins s σ H Q I h
 refine Subscript_ (thn (he pins s σ H _ I h) fun v s1 ⟨x,H1,I1,r1,q1⟩=>?_)
 refine wpAny_Slice (thn (hl pins s1 σ H1 _ I1 q1) fun vl s2 ⟨l,H2,I2,pl,q2⟩=>thn (hu pins s2 σ H2 _ I2 q2) fun vu s3 ⟨u,H3,I3,pu,q3⟩=>?_)
 rw [evalPart_none]
 refine wpAny_pure ?_
 have I4:Inv X pins σ H3 {s3 with heap:=s3.heap.push {cls:=.type "slice",data:=.fields #[vl,vu,.none]}}:=I3.kept (t':=s3.toks) fun b ob q=>Heap.get?_push_of_some _ q
 obtain⟨T,id,hT,ht,hg⟩:=hr pins {s3 with heap:=s3.heap.push {cls:=.type "slice",data:=.fields #[vl,vu,.none]}} σ H3 x v vl vu l u s3.heap.objs.size Q I4 r1 (Heap.IsSliceOf.new ..) pl pu q3
 show wpAny (model X.prog X.w) X.A (subscriptTail e (.Slice lo hi none p2) v (.ref s3.heap.objs.size)) (EP X pins σ Q) X.xe {s3 with heap:=s3.heap.push {cls:=.type "slice",data:=.fields #[vl,vu,.none]}}
 exact tail_any (ops:=[.ref s3.heap.objs.size,v]) ht hT hg (by with_unfolding_all rfl)
def qLb (xs:List V)(lo hi:Option Int):List V:=(xs.drop (HT.sIx xs.length 0 lo)).take (HT.sIx xs.length xs.length hi - HT.sIx xs.length 0 lo)
theorem qFp (xs:List V)(lo hi:Option Int):(qLb xs lo hi).length≤xs.length:=by
 unfold qLb
 rw [List.length_take,List.length_drop]
 omega
end
end L2
namespace L2
open PySem PySem.Spec PyProof.Rows
def ixN (n:Nat)(i:Int):Option Nat:=if 0≤i then (if i < n then some i.toNat else none) else if -(n:Int)≤i then some (i+n).toNat else none
def atI {α:Type}(xs:List α)(i:Int):Option α:=(ixN xs.length i).bind fun j=>xs[j]?
theorem qH7 {n:Nat}{i:Int}{j:Nat}(h:ixN n i=some j):seqIndex? i n=some j∧j < n∧-(n:Int)≤i∧i < n:=by
 unfold ixN at h
 by_cases h0:0≤i
 · rw [if_pos h0] at h
   by_cases h1:i < n
   · rw [if_pos h1] at h
     have e:i.toNat=j:=Option.some.inj h
     exact⟨by rw [seqIndex_of h0 h1,e],by omega,by omega,h1⟩
   · rw [if_neg h1] at h;cases h
 · rw [if_neg h0] at h
   by_cases h1:-(n:Int)≤i
   · rw [if_pos h1] at h
     have e:(i+n).toNat=j:=Option.some.inj h
     exact⟨by rw [seqIndex_neg (by omega) h1,e],by omega,h1,by omega⟩
   · rw [if_neg h1] at h;cases h
theorem qI1 {α:Type}{xs:List α}{i:Int}{v:α}(h:atI xs i=some v):∃ j,seqIndex? i xs.length=some j∧xs[j]? =some v∧j < xs.length∧-(xs.length:Int)≤i∧i < xs.length:=by
 unfold atI at h
 cases e:ixN xs.length i with
 | none=>rw [e] at h;cases h
 | some j=>
  rw [e] at h
  obtain⟨h1,h2,h3,h4⟩:=qH7 e
  exact⟨j,h1,h,h2,h3,h4⟩
theorem jc {α:Type}{xs:List α}{j:Nat}{v:α}(h:xs[j]? =some v):atI xs (j:Int)=some v:=by
 have hj:j < xs.length:=(List.getElem?_eq_some_iff.mp h).1
 have e:ixN xs.length (j:Int)=some j:=by
  unfold ixN
  rw [if_pos (by omega),if_pos (by omega)];simp
 unfold atI;rw [e];exact h
def qMm (b:Expr):Prop:=∀ o i,subscripted b false o i=operate [o,i] (getItem o i)
def IxR (X:Cx)(r:R2):Prop:=
 ∀ (value slice:Expr) (pins:List (Addr × Obj)) (s:Shared) (σ:St) (H:Hp) (x y:V) (v u:Value) (Q:VK),Inv X pins σ H s→RelV x v→RelV y u→r x y H Q→
  subscripted slice false v u=operate [v,u] (getItem v u)→wpAny (model X.prog X.w) X.A (subscriptTail value slice v u) (EP X pins σ Q) X.xe s
def MtR (X:Cx)(id:String)(r:V→List V→Hp→VK→Prop):Prop:=
 ∀ (pins:List (Addr × Obj)) (s:Shared) (σ:St) (H:Hp) (x:V) (xs:List V) (v:Value) (us:List Value) (Q:VK),Inv X pins σ H s→RelV x v→Vals xs us→r x xs H Q→
  wpAny (model X.prog X.w) X.A (call (.builtin id) (v::us)) (EP X pins σ Q) X.xe s
section
variable {X : Cx} {a b : Expr} {ta tb : TE} {pos : Pos}
theorem jM {r:R2}(hr:IxR X r)(ha:PE X a ta)(hb:PE X b tb)(hs:qMm b):PE X (.Subscript a b pos) (tOp r ta tb):=by
 intro pins s σ H Q I h
 exact Subscript_ (qOz ha hb I h fun v u s2 x y H2 I2 rx ry q=>hr a b pins s2 σ H2 x y v u Q I2 rx ry q (hs _ _))
inductive qP7 (K:PySem.W.Frag)(x:V)(y:V)(H:Hp)(Q:VK):Prop
| mk p xs i v (_:x= .ref p) (_:y= .int i) (_:SqL K H p xs) (_:atI xs i=some v) (_:Q v H)
inductive qMv (K:PySem.W.Frag)(x:V)(y:V)(H:Hp)(Q:VK):Prop
| mk p xs i v (_:x= .ref p) (_:y= .int i) (_:SqT K H p xs) (_:atI xs i=some v) (_:Q v H)
theorem jE:IxR X (qP7 X.K):=by
 intro value slice pins s σ H x y v u Q I rx ry h hs
 obtain⟨p,xs,i,z,rfl,rfl,hq,he,q⟩:=h
 cases rx
 obtain⟨t,rfl⟩:=ry
 obtain⟨its,r,pl,hz⟩:=I.list hq
 obtain⟨j,h1,h2,h3,h4,h5⟩:=qI1 he
 obtain⟨w,ew,rw'⟩:=r.get h2
 have hl:=r.length
 have hn:=qDr
 have fin:EP X pins σ Q w s:=⟨z,H,I,rw',q⟩
 by_cases h0:0≤i
 · have hj:i.toNat=j:=by
    rw [seqIndex_of h0 h5] at h1
    exact Option.some.inj h1
   exact item_listR pl.isList h0 (by omega) (by rw [hj];simpa using ew) fin hs
 · have hj:(i+(its.toArray.size:Int)).toNat=j:=by
    rw [seqIndex_neg (by omega) h4] at h1
    rw [List.size_toArray,← hl]
    exact Option.some.inj h1
   exact subscriptTail_builtinR (x:=w) pl.isList.typeIs slot_list_getitem.lookup
    (wpAny_getItem_list_neg (Q:=fun r s'=>r=w∧EP X pins σ Q r s') pl.isList (by omega) (by rw [List.size_toArray] <;> omega) (by omega) (by rw [hj];simpa using ew) ⟨rfl,fin⟩) hs
theorem vB:IxR X (qMv X.K):=by
 intro value slice pins s σ H x y v u Q I rx ry h hs
 obtain⟨p,xs,i,z,rfl,rfl,hq,he,q⟩:=h
 cases rx
 obtain⟨t,rfl⟩:=ry
 obtain⟨its,r,pl,hz⟩:=I.tuple hq
 obtain⟨j,h1,h2,h3,h4,h5⟩:=qI1 he
 obtain⟨w,ew,rw'⟩:=r.get h2
 have hl:=r.length
 have hn:=qDr
 have fin:EP X pins σ Q w s:=⟨z,H,I,rw',q⟩
 exact subscriptTail_builtinR (x:=w) pl.typeIs slot_tuple_getitem.lookup
  (getItem_tuple (j:=j) (Q:=fun r s'=>r=w∧EP X pins σ Q r s') pl (by omega) (by omega) (by rw [List.size_toArray,← hl];exact h1) (by simpa using ew) ⟨rfl,fin⟩) hs
theorem qHz (its:List Value)(n j:Nat)(u:Value):Obj.mapSeq (·.setIfInBounds j u) {cls:=.type "list",data:=.seq its.toArray n}={cls:=.type "list",data:=.seq (its.set j u).toArray n}:=by
 simp [Obj.mapSeq]
theorem Inv.lst {pins:List (Addr × Obj)}{σ:St}{H:Hp}{s:Shared}{p:Addr}{xs:List V}(I:Inv X pins σ H s)(h:H p=some (.lst xs)):
 ∃ (its:List Value) (n:Nat),Vals xs its∧s.heap.get? p=some {cls:=.type "list",data:=.seq its.toArray n}∧xs.length≤sizeLine:=by
 obtain⟨z,its,n,r,e⟩:=I.hok p _ h
 exact⟨its,n,r,e,z⟩
theorem Inv.lstUpd {pins:List (Addr × Obj)}{σ:St}{H:Hp}{s:Shared}{p:Addr}{xs ys:List V}{its its':List Value}{n n':Nat}{f:Obj→Obj}(I:Inv X pins σ H s)(h:H p=some (.lst xs))
 (ho:s.heap.get? p=some {cls:=.type "list",data:=.seq its.toArray n}) (hf:f {cls:=.type "list",data:=.seq its.toArray n}={cls:=.type "list",data:=.seq its'.toArray n'}) (r:Vals ys its') (hz:ys.length≤sizeLine) (t:Nat):
 Inv X pins σ (upd H p (.lst ys)) {s with heap:=s.heap.update p f,toks:=t}:=by
 have e:(s.heap.update p f).get? p=some {cls:=.type "list",data:=.seq its'.toArray n'}:=by
  rw [Heap.get?_update_self f ho (by rw [hf] <;> rfl),hf]
 refine I.write (x:=p) (e:=p) (by rw [h];trivial) (.inl rfl) (fun b u hb q=>(Heap.get?_update_other _ _ (Ne.symm hb)).trans q) ⟨_,e⟩ ?_
 exact⟨hz,its',n',r,e⟩
def qPf:V→V→V→Hp→(Hp→Prop)→Prop:=fun o i v H Q=>∃ p xs k j,o= .ref p∧i= .int k∧H p=some (.lst xs)∧ixN xs.length k=some j∧Q (upd H p (.lst (xs.set j v)))
theorem qKc:qPk X qPf:=by
 intro pins s σ H o i v ov iv u Q I ro ri rv h
 obtain⟨p,xs,k,j,rfl,rfl,hp,hj,q⟩:=h
 cases ro
 obtain⟨t,rfl⟩:=ri
 obtain⟨its,n,r,ho,hz⟩:=I.lst hp
 obtain⟨h1,h2,h3,h4⟩:=qH7 hj
 have hl:=r.length
 have hn:=qDr
 have I':Inv X pins σ (upd H p (.lst (xs.set j v))) {s with heap:=s.heap.update p (Obj.mapSeq (·.setIfInBounds j u))}:=
  I.lstUpd hp ho (qHz its n j u) (r.set rv j) (by rw [List.length_set];exact hz) s.toks
 by_cases h0:0≤k
 · have hk:k.toNat=j:=by
    rw [seqIndex_of h0 h4] at h1
    exact Option.some.inj h1
   exact PySem.W.ki_setAt ho h0 (by omega) (by rw [List.size_toArray,← hl];exact h4) (by rw [hk];exact⟨_,I',q⟩)
 · have hk:(k+(its.toArray.size:Int)).toNat=j:=by
    rw [seqIndex_neg (by omega) h3] at h1
    rw [List.size_toArray,← hl]
    exact Option.some.inj h1
   exact PySem.W.ki_setBack ho (by omega) (by rw [List.size_toArray,← hl];exact h3) (by omega) (by rw [hk];exact⟨_,I',q⟩)
theorem qDw (lo hi:Option Int)(n:Nat):(sliceBounds lo hi none n).1=((HT.sIx n 0 lo:Nat):Int)∧(sliceBounds lo hi none n).2.1=((HT.sIx n n hi:Nat):Int)∧(sliceBounds lo hi none n).2.2=1:=by
 refine⟨?_,?_,rfl⟩
 · cases lo with
   | none=>simp [sliceBounds,HT.sIx]
   | some i=>
    simp only [sliceBounds,HT.sIx,Option.getD_none,show (1:Int) > 0 by decide,if_true]
    by_cases h:i < 0
    · simp only [h,if_true] <;> omega
    · simp only [h,if_false] <;> omega
 · cases hi with
   | none=>simp [sliceBounds,HT.sIx]
   | some i=>
    simp only [sliceBounds,HT.sIx,Option.getD_none,show (1:Int) > 0 by decide,if_true]
    by_cases h:i < 0
    · simp only [h,if_true] <;> omega
    · simp only [h,if_false] <;> omega
theorem qCx (its:List Value)(lo hi:Option Int):slicePick its.toArray lo hi none=((its.drop (HT.sIx its.length 0 lo)).take (HT.sIx its.length its.length hi - HT.sIx its.length 0 lo)).toArray:=by
 obtain⟨h1,h2,h3⟩:=qDw lo hi its.toArray.size
 unfold slicePick
 rw [h1,h2,h3]
 simp only [sliceRange_one,pick_run,List.size_toArray] <;> rfl
inductive qPw (K:PySem.W.Frag)(x:V)(lo:Option Int)(hi:Option Int)(H:Hp)(Q:VK):Prop
| mk a xs (_:x= .ref a) (_:SqL K H a xs) (_:∀ p,H p=none→Q (.ref p) (upd H p (.lst (qLb xs lo hi))))
theorem qC9:SlR X (qPw X.K):=by
 intro pins s σ H x v vl vu lo hi sl Q I rx hs pl pu h
 obtain⟨a,xs,rfl,hx,q⟩:=h
 cases rx
 obtain⟨its,r,ht,hz⟩:=I.list hx
 have hlen:=r.length
 refine⟨"list",_,slot_list_getitem.lookup,ht.isList.typeIs,?_⟩
 refine wpAny_getItem_list_slice ht.isList hs pl pu .none (by simp) ?_ (by rw [List.size_toArray] <;> omega)
 rw [qCx,← hlen]
 refine⟨.ref s.heap.objs.size,_,I.laid (t':=s.toks) (o:=.lst (qLb xs lo hi)) (fun b ob q=>Heap.get?_push_of_some _ q) (Nat.le_refl _) ?_,rfl,q _ (I.hok.fresh (Nat.le_refl _))⟩
 exact⟨Nat.le_trans (qFp xs lo hi) hz,_,0,(r.drop (HT.sIx xs.length 0 lo)).take (HT.sIx xs.length xs.length hi - HT.sIx xs.length 0 lo),Heap.get?_push_size _ rfl⟩
def zA:V→Bool
 | .non=>true
 | .bl _=>true
 | .int _=>true
 | .str _=>true
 | _=>false
def eqV:V→V→Bool
 | .non,.non=>true
 | .bl a,.bl b=>a == b
 | .bl a,.int b=>(if a then 1 else 0) == b
 | .int a,.bl b=>a == (if b then 1 else 0)
 | .int a,.int b=>a == b
 | .str a,.str b=>a == b
 | _,_=>false
theorem qGs {A:Around}{s:Shared}{y x:V}{u v:Value}(ry:RelV y u)(rx:RelV x v)(fy:zA y=true)(fx:zA x=true):SeqAt.EqAt A s u v (eqV y x):=by
 cases y with
 | non=>
  cases ry
  cases x with
  | non=>cases rx;exact SeqAt.EqAt.same _
  | bl b=>cases rx;exact SeqAt.EqAt.none_bool b
  | int b=>obtain⟨t,rfl⟩:=rx;exact SeqAt.EqAt.none_int b t
  | str b=>obtain⟨t,rfl⟩:=rx;exact SeqAt.EqAt.none_str b t
  | _=>exact absurd (show false=true from fx) Bool.false_ne_true
 | bl a=>
  cases ry
  cases x with
  | non=>cases rx;exact SeqAt.EqAt.bool_none a
  | bl b=>cases rx;exact SeqAt.EqAt.bool_bool a b
  | int b=>obtain⟨t,rfl⟩:=rx;exact SeqAt.EqAt.bool_int a b t
  | str b=>obtain⟨t,rfl⟩:=rx;exact SeqAt.EqAt.bool_str a b t
  | _=>exact absurd (show false=true from fx) Bool.false_ne_true
 | int a=>
  obtain⟨t',rfl⟩:=ry
  cases x with
  | non=>cases rx;exact SeqAt.EqAt.int_none a t'
  | bl b=>cases rx;exact SeqAt.EqAt.int_bool a t' b
  | int b=>obtain⟨t,rfl⟩:=rx;exact SeqAt.EqAt.int_int a t' b t
  | str b=>obtain⟨t,rfl⟩:=rx;exact SeqAt.EqAt.int_str a t' b t
  | _=>exact absurd (show false=true from fx) Bool.false_ne_true
 | str a=>
  obtain⟨t',rfl⟩:=ry
  cases x with
  | non=>cases rx;exact SeqAt.EqAt.str_none a t'
  | bl b=>cases rx;exact SeqAt.EqAt.str_bool a t' b
  | int b=>obtain⟨t,rfl⟩:=rx;exact SeqAt.EqAt.str_int a t' b t
  | str b=>obtain⟨t,rfl⟩:=rx;exact SeqAt.EqAt.str_str a t' b t
  | _=>exact absurd (show false=true from fx) Bool.false_ne_true
 | _=>exact absurd (show false=true from fy) Bool.false_ne_true
def eqU (x:V)(u:Value):Bool:=match u with
 | .none=>eqV .non x
 | .bool b=>eqV (.bl b) x
 | .int i _=>eqV (.int i) x
 | .str z _=>eqV (.str z) x
 | _=>false
theorem qK7 {x y:V}{u:Value}(r:RelV y u)(f:zA y=true):eqU x u=eqV y x:=by
 cases y with
 | non=>cases r;rfl
 | bl b=>cases r;rfl
 | int i=>obtain⟨t,rfl⟩:=r;rfl
 | str z=>obtain⟨t,rfl⟩:=r;rfl
 | _=>exact absurd (show false=true from f) Bool.false_ne_true
theorem qFr {x:V}:∀ {xs:List V} {us:List Value},Vals xs us→xs.all zA=true→us.any (eqU x)=xs.any fun y=>eqV y x
 | _,_,.nil,_=>rfl
 | y::xs,u::us,.cons r t,f=>by
  rw [List.all_cons,Bool.and_eq_true] at f
  rw [List.any_cons,List.any_cons,qK7 r f.1,qFr t f.2]
theorem qCa {A:Around}{s:Shared}{x:V}{v:Value}(rx:RelV x v)(fx:zA x=true):∀ {xs:List V} {us:List Value},Vals xs us→xs.all zA=true→∀ u∈us,SeqAt.EqAt A s u v (eqU x u)
 | _,_,.nil,_=>fun u hu=>by cases hu
 | y::xs,u::us,.cons r t,f=>fun u' hu=>by
  rw [List.all_cons,Bool.and_eq_true] at f
  rcases List.mem_cons.mp hu with rfl | hu
  · rw [qK7 r f.1];exact qGs r rx f.1 fx
  · exact qCa rx fx t f.2 u' hu
def inV (x:V)(xs:List V):Bool:=xs.any fun y=>eqV y x
inductive rIn (K:PySem.W.Frag)(neg:Bool)(x:V)(y:V)(H:Hp)(Q:VK):Prop
| mk p xs (_:y= .ref p) (_:(SqL K H p xs∨SqT K H p xs)) (_:zA x=true) (_:xs.all zA=true) (_:Q (.bl (if neg then !inV x xs else inV x xs)) H)
theorem vP:OpR X (compareOp .In) (rIn X.K false):=by
 intro pins s σ H x y v u Q I rx ry h
 obtain⟨p,xs,rfl,hq,fx,fs,q⟩:=h
 cases ry
 rcases hq with hq | hq
 · obtain⟨its,r,pl,hz⟩:=I.list hq
   refine SeqAt.in_listAt (eqU x) pl.isList (fun w hw=>qCa rx fx r fs w (by simpa using hw)) ⟨.bl _,H,I,rfl,?_⟩
   rw [show its.toArray.any (eqU x)=its.any (eqU x) by simp,qFr r fs]
   exact q
 · obtain⟨its,r,pl,hz⟩:=I.tuple hq
   refine SeqAt.in_tupleAt (eqU x) pl (fun w hw=>qCa rx fx r fs w (by simpa using hw)) ⟨.bl _,H,I,rfl,?_⟩
   rw [show its.toArray.any (eqU x)=its.any (eqU x) by simp,qFr r fs]
   exact q
theorem qY:vf X (.builtin "len") (fun xs H Q=>∃ p ys,xs=[.ref p]∧(SqL X.K H p ys∨SqT X.K H p ys)∧Q (.int ys.length) H):=by
 intro pins s σ H xs us Q I r h
 obtain⟨p,ys,rfl,hq,q⟩:=h
 obtain⟨u,rfl,rx⟩:=qHa r
 cases rx
 have hn:=qDr
 rcases hq with hq | hq
 · obtain⟨its,r',pl,hz⟩:=I.list hq
   have hlen:=r'.length
   exact Calls.call_len_list pl.isList (by simp only [List.size_toArray] <;> omega) ⟨.int ys.length,H,I.tok _,⟨s.toks+1,by rw [List.size_toArray,hlen]⟩,q⟩
 · obtain⟨its,r',pl,hz⟩:=I.tuple hq
   have hlen:=r'.length
   exact len_tuple pl (by simp only [List.size_toArray] <;> omega) ⟨.int ys.length,H,I.tok _,⟨s.toks+1,by rw [List.size_toArray,hlen]⟩,q⟩
theorem wG:vf X (.builtin "len") (fun xs H Q=>∃ z,xs=[.str z]∧z.length≤sizeLine∧Q (.int z.length) H):=by
 intro pins s σ H xs us Q I r h
 obtain⟨z,rfl,hz,q⟩:=h
 obtain⟨u,rfl,t,rfl⟩:=qHa r
 have hn:=qDr
 exact len_str (by omega) ⟨.int z.length,H,I.tok _,⟨_,rfl⟩,q⟩
theorem wI:vf X (.type "list") (fun xs H Q=>∃ p ys,xs=[.ref p]∧(SqL X.K H p ys∨SqT X.K H p ys)∧∀ l,H l=none→Q (.ref l) (upd H l (.lst ys))):=by
 intro pins s σ H xs us Q I r h
 obtain⟨p,ys,rfl,hq,q⟩:=h
 obtain⟨u,rfl,rx⟩:=qHa r
 cases rx
 have fin:∀ (its:List Value),Vals ys its→ys.length≤sizeLine→∀ (h':Heap) (c':Nat),(∀ b o',s.heap.get? b=some o'→h'.get? b=some o')→
  h'.get? s.heap.objs.size=some {cls:=.type "list",dict:=none,data:=.seq its.toArray c',slots:=#[]}→EP X pins σ Q (.ref s.heap.objs.size) {s with heap:=h'}:=fun its r' hz h' c' kp e=>
  ⟨.ref s.heap.objs.size,_,I.laid (t':=s.toks) kp (Nat.le_refl _) (show ObjOk X.prog X.w _ h' _ (.lst ys) from ⟨hz,its,c',r',e⟩),rfl,q _ (I.hok.fresh (Nat.le_refl _))⟩
 rcases hq with hq | hq
 · obtain⟨its,r',pl,hz⟩:=I.list hq
   have hlen:=r'.length
   obtain⟨o,ho,hc,n,hd⟩:=pl.isList
   exact call_list_seq p (.inl rfl) ho hc hd (fun h' c' kp e=>fin its r' hz h' c' kp e) (by simp only [List.size_toArray] <;> omega)
 · obtain⟨its,r',pl,hz⟩:=I.tuple hq
   have hlen:=r'.length
   obtain⟨o,ho,hc,n,hd⟩:=pl
   exact call_list_seq p (.inr rfl) ho hc hd (fun h' c' kp e=>fin its r' hz h' c' kp e) (by simp only [List.size_toArray] <;> omega)
def tyV (K:PySem.W.Frag)(T:String)(x:V)(H:Hp):Prop:=match x with
 | .str _=>T="str"
 | .int _=>T="int"
 | .ref p=>(T="list"∧∃ xs,SqL K H p xs)∨(T="tuple"∧∃ o,K.lookup p=some o∧o.cls= .type "tuple"∧o.dict=none)∨
  (T="dict"∧((∃ kvs,H p=some (.dK kvs))∨∃ kvs,H p=some (.dT kvs)))∨(T="set"∧∃ S n,H p=some (.set S n))
 | _=>False
theorem qLd {pins:List (Addr × Obj)}{σ:St}{H:Hp}{s:Shared}{T:String}{x:V}{v:Value}(I:Inv X pins σ H s)(r:RelV x v)(ty:tyV X.K T x H):
 s.TypeIs v T∧∀ a,v= .ref a→∃ ob,s.heap.get? a=some ob∧ob.dict=none:=by
 cases x with
 | str z=>
  obtain⟨t,rfl⟩:=r
  cases (show T="str" from ty)
  exact⟨typeIs_str s z t,fun _ e=>nomatch e⟩
 | int i=>
  obtain⟨t,rfl⟩:=r
  cases (show T="int" from ty)
  exact⟨typeIs_int s i t,fun _ e=>nomatch e⟩
 | ref p=>
  cases r
  rcases ty with ⟨rfl,xs,hq⟩ | ⟨rfl,o,hk,hc,hd⟩ | ⟨rfl,hk⟩ | ⟨rfl,S,n,hk⟩
  · obtain⟨its,_,pl,_⟩:=I.list hq
    refine⟨pl.isList.typeIs,fun a e=>?_⟩
    cases e
    obtain⟨o,n,e,c,hd,_⟩:=pl
    exact⟨o,e,hd⟩
  · refine⟨⟨o,I.kIn p o hk,hc⟩,fun a e=>?_⟩
    cases e
    exact⟨o,I.kIn _ o hk,hd⟩
  · have z:∃ o,s.heap.get? p=some o∧o.ExactDict:=by
     rcases hk with ⟨kvs,hk⟩ | ⟨kvs,hk⟩
     · obtain⟨_,_,_,_,o,_,_,e,ex,_⟩:=I.hok p _ hk
       exact⟨o,e,ex⟩
     · obtain⟨_,_,_,_,o,_,_,e,ex,_⟩:=I.hok p _ hk
       exact⟨o,e,ex⟩
    obtain⟨o,e,ex⟩:=z
    refine⟨⟨o,e,ex.1⟩,fun a e2=>?_⟩
    cases e2
    exact⟨o,e,ex.2.1⟩
  · obtain⟨o,_,_,_,e,ex,_⟩:=I.hok p _ hk
    refine⟨⟨o,e,ex.1⟩,fun a e2=>?_⟩
    cases e2
    exact⟨o,e,ex.2.1⟩
 | _=>exact False.elim ty
def qP8 (K:PySem.W.Frag)(T:String)(r:V→List V→Hp→VK→Prop)(to:TE):TE:=fun σ H Q=>to σ H fun x H1=>tyV K T x H1∧r x [] H1 Q
def tBM (K:PySem.W.Frag)(T:String)(r:V→List V→Hp→VK→Prop)(to:TE)(t:TA):TE:=fun σ H Q=>to σ H fun x H1=>tyV K T x H1∧t σ H1 fun xs H2=>r x xs H2 Q
variable {o e : Expr} {es : List Expr} {to : TE} {t : TA} {name : Str} {apos cpos : Pos} {T id : String} {r : V → List V → Hp → VK → Prop}
theorem qAj (pa:PlainAttrs T)(slot:Slot T name id)(hty:typeOf (.builtin id)=pure (.type "method_descriptor"))(hm:MtR X id r)(ho:PE X o to)
 (hbase:attributeBase o name X.env (eval o X.env)=eval o X.env:=by rfl) (hline:(apos.endLine == cpos.line)=true:=by rfl):PE X (.Call (.Attribute o name apos) [] [] cpos) (qP8 X.K T r to):=by
 intro pins s σ H Q I h
 refine wpAny_Call_method0_late hbase hline (thn (ho pins s σ H _ I h) fun v s1 ⟨x,H1,I1,r1,ty,q1⟩=>?_)
 obtain⟨h1,h2⟩:=qLd I1 r1 ty
 exact⟨T,id,pa,slot,hty,h1,h2,Calls.callWith_builtin rfl (PySem.evalArgs_none (hm pins s1 σ H1 x [] v [] Q I1 r1 .nil q1))⟩
theorem qFm (pa:PlainAttrs T)(slot:Slot T name id)(hty:typeOf (.builtin id)=pure (.type "method_descriptor"))(hm:MtR X id r)(ho:PE X o to)(ha:PA X (e::es) t)
 (hbase:attributeBase o name X.env (eval o X.env)=eval o X.env:=by rfl)
 (hfew:((backTo cpos (starEach (e::es) X.env)).all (fun x=>!x.1) && (backToKw cpos (keywordEach [] X.env)).all (fun x=>x.1.isSome)
   && decide ((e::es).length+([]:List Keyword).length+(if ([]:List Keyword).isEmpty then 0 else 1) < 30))=true:=by rfl)
 (hline:(apos.endLine == cpos.line)=true:=by rfl) (hs:starEach (e::es) X.env=(false,eval e X.env)::starEach es X.env:=by rfl) (hplain:(backTo cpos (starEach es X.env)).any (·.1)=false:=by rfl):
 PE X (.Call (.Attribute o name apos) (e::es) [] cpos) (tBM X.K T r to t):=by
 intro pins s σ H Q I h
 refine wpAny_Call_method_late hbase hfew hline rfl (thn (ho pins s σ H _ I h) fun v s1 ⟨x,H1,I1,r1,ty,q1⟩=>?_)
 obtain⟨h1,h2⟩:=qLd I1 r1 ty
 refine⟨T,id,pa,slot,hty,h1,h2,?_⟩
 have hA:=ha cpos pins s1 σ H1 _ I1 q1
 rw [hs] at hA ⊢
 refine Calls.callWith_builtin (by show (false || (backTo cpos (starEach es X.env)).any (·.1))=false;rw [hplain] <;> rfl) (Calls.evalArgs_plain ?_)
 exact thn hA fun us s2 ⟨vs,H2,I2,r2,q2⟩=>hm pins s2 σ H2 x vs v us Q I2 r1 r2 q2
end
end L2
namespace L2
open PySem PySem.Spec PyProof.Rows
def MtM (X:Cx)(id:String)(r:V→List V→Hp→VK→Prop):Prop:=
 ∀ (pins:List (Addr × Obj)) (s:Shared) (σ:St) (H:Hp) (x:V) (xs:List V) (v:Value) (us:List Value) (Q:VK),Inv X pins σ H s→RelV x v→Vals xs us→r x xs H Q→
  wpAny (model X.prog X.w) X.A (call (.builtin id) (v::us)) (EP X pins σ Q) X.xe s
theorem Vals.one:∀ {x:V} {us:List Value},Vals [x] us→∃ u,us=[u]∧RelV x u
 | _,_,.cons r .nil=>⟨_,rfl,r⟩
theorem Vals.two:∀ {x y:V} {us:List Value},Vals [x,y] us→∃ u v,us=[u,v]∧RelV x u∧RelV y v
 | _,_,_,.cons r (.cons q .nil)=>⟨_,_,rfl,r,q⟩
theorem Vals.zero:∀ {us:List Value},Vals [] us→us=[]
 | _,.nil=>rfl
theorem Vals.dropLast {xs:List V}{us:List Value}(h:Vals xs us):Vals xs.dropLast us.dropLast:=by
 induction h with
 | nil=>exact .nil
 | cons r t ih=>
  cases t with
  | nil=>exact .nil
  | cons q t'=>exact .cons r ih
theorem Vals.eraseIdx:∀ {xs:List V} {us:List Value} (i:Nat),Vals xs us→Vals (xs.eraseIdx i) (us.eraseIdx i)
 | _,_,_,.nil=>.nil
 | _,_,0,.cons _ t=>t
 | _,_,i+1,.cons r t=>.cons r (Vals.eraseIdx i t)
theorem Vals.reverse {xs:List V}{us:List Value}(h:Vals xs us):Vals xs.reverse us.reverse:=by
 induction h with
 | nil=>exact .nil
 | cons r t ih=>rw [List.reverse_cons,List.reverse_cons];exact Vals.append ih (.cons r .nil)
theorem qHe {α:Type}(l:List α):l.eraseIdx (l.length - 1)=l.dropLast:=by
 induction l with
 | nil=>rfl
 | cons a r ih=>
  cases r with
  | nil=>rfl
  | cons b r=>
   have e:(a::b::r).length - 1=((b::r).length - 1)+1:=by
    have h1:(a::b::r).length=r.length+2:=rfl
    have h2:(b::r).length=r.length+1:=rfl
    omega
   rw [e,List.eraseIdx_cons_succ,ih]
   all_goals rfl
section
variable {X : Cx} {pins : List (Addr × Obj)} {σ : St} {H : Hp} {s : Shared} {l b : Addr} {xs ys zs : List V}
theorem Inv.lset {its its':List Value}{n:Nat}{f:Array Value→Array Value}{t':Nat}(I:Inv X pins σ H s)(hH:H l=some (.lst xs))
 (e:s.heap.get? l=some {cls:=.type "list",data:=.seq its.toArray n}) (hf:f its.toArray=its'.toArray) (hv:Vals ys its') (hz:ys.length≤sizeLine):
 Inv X pins σ (upd H l (.lst ys)) {s with heap:=s.heap.update l (Obj.mapSeq f),toks:=t'}:=by
 have q:=PySem.IsL.update e f
 rw [hf] at q
 refine I.write (x:=l) (e:=l) (by rw [hH];exact trivial) (.inl rfl) (fun b' u hb hu=>(Heap.get?_update_other s.heap (Obj.mapSeq f) (Ne.symm hb)).trans hu) ⟨_,q⟩ ?_
 exact⟨hz,its',_,hv,q⟩
theorem Inv.lnew {its:List Value}{t':Nat}(I:Inv X pins σ H s)(hv:Vals ys its)(hz:ys.length≤sizeLine):
 Inv X pins σ (upd H s.heap.objs.size (.lst ys)) {s with heap:=s.heap.push {cls:=.type "list",data:=.seq its.toArray},toks:=t'}:=
 I.laid (fun _ _ q=>Heap.get?_push_of_some _ q) (Nat.le_refl _) ⟨hz,its,0,hv,Heap.get?_push_size _ rfl⟩
theorem Inv.fresh (I:Inv X pins σ H s):H s.heap.objs.size=none:=I.hok.fresh (Nat.le_refl _)
theorem Inv.lstM (I:Inv X pins σ H s)(hH:H l=some (.lst xs)):xs.length≤sizeLine∧∃ (its:List Value) (n:Nat),Vals xs its∧xs.length=its.length∧s.heap.get? l=some {cls:=.type "list",data:=.seq its.toArray n}:=by
 obtain⟨z,its,n,r,e⟩:=I.hok l _ hH
 exact⟨z,its,n,r,r.length,e⟩
theorem qK1 {n:Nat}(h:n≤sizeLine):Builtin.List.listTooLong n=false:=by
 unfold Builtin.List.listTooLong
 exact decide_eq_false (by omega)
end
section
variable {X : Cx}
inductive qL8 (x:V)(vs:List V)(H:Hp)(Q:VK):Prop
| mk l xs y (_:x= .ref l) (_:vs=[y]) (_:H l=some (.lst xs)) (_:xs.length < sizeLine) (_:Q .non (upd H l (.lst (xs++[y]))))
theorem zU:MtM X "list.append" qL8:=by
 intro pins s σ H x vs v us Q I rx rv h
 obtain⟨l,xs,y,rfl,rfl,hH,hz,q⟩:=h
 cases rx
 obtain⟨u,rfl,ru⟩:=rv.one
 obtain⟨z,its,n,r,hl,e⟩:=I.lstM hH
 refine call_meets F.slot_list_append ⟨_,e,rfl⟩ F.entry_list_append (F.args_list_append_2 _ _) (PySem.list_append l its.toArray n u (by rw [List.size_toArray];omega)) ⟨e,?_⟩
 refine⟨.non,_,I.lset (its':=its++[u]) hH e (by simp) (r.append (.cons ru .nil)) ?_,rfl,q⟩
 rw [List.length_append,List.length_singleton]
 omega
inductive qMl (x:V)(vs:List V)(H:Hp)(Q:VK):Prop
| mk l b xs zs (_:x= .ref l) (_:vs=[.ref b]) (_:H l=some (.lst xs)) (_:H b=some (.lst zs)) (_:xs.length+zs.length≤sizeLine) (_:Q .non (upd H l (.lst (xs++zs))))
theorem qJv:MtM X "list.extend" qMl:=by
 intro pins s σ H x vs v us Q I rx rv h
 obtain⟨l,b,xs,zs,rfl,rfl,hH,hB,hz,q⟩:=h
 cases rx
 obtain⟨u,rfl,ru⟩:=rv.one
 cases ru
 obtain⟨z,its,n,r,hl,e⟩:=I.lstM hH
 obtain⟨z2,its2,n2,r2,hl2,e2⟩:=I.lstM hB
 have hsz:its.toArray.size+its2.toArray.size≤sizeLine:=by rw [List.size_toArray,List.size_toArray];omega
 have hlong:¬ (!its.toArray.isEmpty && Builtin.List.listTooLong (its.toArray.size+its2.toArray.size))=true:=by
  rw [qK1 hsz,Bool.and_false]
  exact Bool.false_ne_true
 refine call_meets F.slot_list_extend ⟨_,e,rfl⟩ F.entry_list_extend (F.args_list_extend_2 _ _)
  (AutoSeq1.list_extend_list_list_0 l its.toArray n b its2.toArray n2 hlong (by rw [List.size_toArray];omega) (by omega)) ⟨e,e2,?_⟩
 refine⟨.non,_,I.lset (its':=its++its2) hH e (by simp) (r.append r2) ?_,rfl,q⟩
 rw [List.length_append]
 omega
def qPq:V→List V→Hp→VK→Prop:=fun x vs H Q=>∃ l xs y,x= .ref l∧vs=[]∧H l=some (.lst xs)∧xs[xs.length - 1]? =some y∧Q y (upd H l (.lst xs.dropLast))
theorem wl:MtM X "list.pop" qPq:=by
 intro pins s σ H x vs v us Q I rx rv h
 obtain⟨l,xs,y,rfl,rfl,hH,hy,q⟩:=h
 cases rx
 have hus:=rv.zero
 subst hus
 obtain⟨z,its,n,r,hl,e⟩:=I.lstM hH
 obtain⟨u,hu,ru⟩:=r.get hy
 have hy':its.toArray[its.toArray.size - 1]? =some u:=by
  show its.toArray[its.length - 1]? =some u
  rw [← Array.getElem?_toList,← hl]
  exact hu
 refine call_meets F.slot_list_pop ⟨_,e,rfl⟩ F.entry_list_pop (F.args_list_pop_1 _) (MeetsSeq.list_pop_last l its.toArray n u hy' (by rw [List.size_toArray];omega)) ⟨e,?_⟩
 refine⟨y,_,I.lset (its':=its.dropLast) hH e ?_ r.dropLast ?_,ru,q⟩
 · show its.toArray.eraseIdxIfInBounds (its.toArray.size - 1)=its.dropLast.toArray
   rw [List.size_toArray,List.eraseIdxIfInBounds_toArray,qHe]
 · rw [List.length_dropLast]
   omega
inductive qQi (x:V)(y:V)(H:Hp)(Q:VK):Prop
| mk l b xs zs (_:x= .ref l) (_:y= .ref b) (_:H l=some (.lst xs)) (_:H b=some (.lst zs)) (_:xs.length+zs.length≤sizeLine) (_:∀ p,H p=none→Q (.ref p) (upd H p (.lst (xs++zs))))
theorem qG6:OpR X (binaryOp .Add) qQi:=by
 intro pins s σ H x y v u Q I rx ry h
 obtain⟨l,b,xs,zs,rfl,rfl,hH,hB,hz,q⟩:=h
 cases rx
 cases ry
 obtain⟨z,its,n,r,hl,e⟩:=I.lstM hH
 obtain⟨z2,its2,n2,r2,hl2,e2⟩:=I.lstM hB
 refine PySem.P.add_list e e2 ?_ (by rw [List.size_toArray,List.size_toArray];omega)
 have ea:its.toArray++its2.toArray=(its++its2).toArray:=by simp
 rw [ea]
 exact⟨.ref _,_,I.lnew (t':=s.toks) (r.append r2) (by rw [List.length_append];omega),rfl,q _ I.fresh⟩
end
section
variable {prog : Program} {w : World} {A : Around} {E : Value → Shared → Prop} {s : Shared}
end
section
variable {X : Cx}
end
end L2
namespace Att
open PySem PySem.W PySem.Calls PyProof.Rows
theorem qAw {P:Params}{h:Heap}:∀ (ns:List Int) (vs:List Value),WellAll P h vs (ns.map WData.int)→IntsAre vs ns:=by
 intro ns
 induction ns with
 | nil=>
  intro vs w
  rw [List.map_nil] at w
  cases w
  exact .nil
 | cons n ns ih=>
  intro vs w
  rw [List.map_cons] at w
  cases w with
  | cons a b=>
   cases a
   exact .cons _ _ (ih _ b)
theorem qJd {l:OpenLaw}{n:Nat}(hn:l.most=some n){P:Params}{h:Heap}{args:List WData}{vals:List Value}
 (hpre:l.row.toRowW.claim.pre args=true) (hwl:WellAll P h vals args):
 ∃ a vs ns,vals=[Value.ref a]∧args=[WData.list (ns.map WData.int)]∧h.get? a=some {cls:=.type "list",data:=.seq vs.toArray}∧IntsAre vs ns∧ns.length≤n:=by
 have hsh:WShape.hasAll [] args [.list .int]=true:=(pre_splitW hpre).1
 have hc:l.pre.holds [] {args:=args}=true:=(pre_splitW hpre).2
 obtain⟨d,r,rfl,h1,h2⟩:=hasAllW_cons hsh
 obtain rfl:=hasAllW_nil h2
 obtain⟨xs,rfl,h3⟩:=hasW_list h1
 obtain⟨ns,rfl⟩:=items_int h3
 have hlen:ns.length≤n:=by
  unfold OpenLaw.pre at hc
  have h4:(WTm.not (.lt (.lit (.int (n:Int))) (.len (.arg 0)))).holds [] {args:=[.list (ns.map .int)]}=true:=by
   have h4:=(holds_andW hc).1
   rw [hn] at h4
   exact h4
  have h5:=condW_of h4 (w_not (w_lt w_lit (w_len_list (w_arg rfl))))
  rw [List.length_map] at h5
  refine Nat.le_of_not_lt fun q=>?_
  have q':(n:Int) < ((ns.length:Nat):Int):=by omega
  first
   | (rw [decide_eq_true q'] at h5;exact absurd h5 (by decide))
   | (simp at h5;omega)
 cases hwl with
 | cons w1 w2=>
  cases w2
  cases w1 with
  | list ho hall=>exact⟨_,_,ns,rfl,rfl,ho,qAw ns _ hall,hlen⟩
theorem qIq (l:OpenLaw)(args:List WData):l.row.toRowW.claim.post args (.bool true) args=true:=
 postW_of (r:=l.row.toRowW) (X:=(true == true))
  (show WShape.has [] (.bool true) .bool=true by first | rfl | decide | simp [WShape.has,WShape.arms,WShape.armsAll])
  (show (WTm.eq .res (.lit (.bool true))).value [] {args:=args,res:=some (.bool true),after:=args}=some (.bool (true == true)) from w_eq_bool (w_res rfl) w_lit) rfl
theorem attach_call {l:OpenLaw}{n:Nat}{q:Program}{loose:List Str}{XP:(Str→Option Value)→Heap→Prop}{YP:World→Heap→Prop}{d:DefRec}
 (hn:l.most=some n) (hdf:d.params.defaults=[])
 (call:∀ (w:World) (s₀ s₁:Shared) (mg mb:Str→Option Value) (fa:Addr) (o:Obj) (pm cd doc:Value) (a:Addr) (vs:List Value) (ns:List Int),
   Ground q loose [] XP w s₀ mg mb s₁.heap→YP w s₁.heap→
   s₁.heap.get? fa=some o→o.data= .func (docDef d.name d.params d.body d.scope pm cd doc)→s₁.heap.CodeRec cd d.name→mg d.name=some (.ref fa)→
   s₁.heap.get? a=some {cls:=.type "list",data:=.seq vs.toArray}→IntsAre vs ns→ns.length≤n→s₁.gens=#[]→
   codeAny (model l.prog w) callerA (.call (.ref fa) ⟨[.ref a],[]⟩) (fun r s'=>r= .ok (.ret (.bool true))∧OldK s₁.heap s'.heap∧s'.os=s₁.os∧AllBare s'.gens) s₁):
 WalkO q loose XP YP l.row.toRowW d [] (fun f vs=>PySem.call f vs):=by
 intro w s₀ s₁ mg mb G Y fa o pm cd doc dV kV ho hd hcd hD hmg hg args vals as hpre hlay hrd hwl hlo
 obtain rfl:dV= .none:=Dflts.none hD hdf
 obtain rfl:kV= .none:=Dflts.noKw hD
 obtain⟨a,vs,ns,rfl,rfl,hobj,hints,hlen⟩:=qJd hn hpre hwl
 refine enter_call (codeAny_mono (call w s₀ s₁ mg mb fa o pm cd doc a vs ns G Y ho (fd_plain hd) hcd hmg hobj hints hlen hg) fun r s' hq=>?_)
 obtain⟨rfl,h2,h3,h4⟩:=hq
 exact⟨.inl ⟨.bool true,.bool true,[],rfl,fun _=>rfl,.bool true,qIq l _,fun _=>⟨List.Pairwise.nil,fun _ hm=>(nomatch hm)⟩⟩,h2,h3,h4⟩
section
variable {prog : Program} {w : World} {A : Around} {E : Value → Shared → Prop} {s : Shared} {K : Frag}
def ledger (h:Heap)(L d:Addr):List (Addr × Obj):=(List.range h.objs.size).filterMap fun a=>if a=L∨a=d then none else (h.get? a).map fun o=>(a,o)
end
end Att
namespace L2
open PySem PySem.Spec PyProof.Rows
theorem qD4:∀ {vs:List Value} {ns:List Int},IntsAre vs ns→Vals (ns.map V.int) vs
 | _,_,.nil=>.nil
 | _,_,.cons n t h=>.cons ⟨t,rfl⟩ (qD4 h)
def qOl (H:Hp):Prop:=∀ b,H b=none∨∃ o xs,H b=some (.frz o (.lst xs))
theorem qJ9 {P:Program}{w:World}{K:PySem.W.Frag}{mg mb:Str→Option Value}{CX:CXT}{k:Nat}{fa a:Addr}{fd:FuncData}{x:Str}{sp:Sp}{s₁:Shared}{vs:List Value}{ns:List Int}
 (KX:K.In s₁.heap) (hns:s₁.heap.Ns mainGlobals mg) (hb:s₁.heap.Ns builtinsNs mb) (hbb:∀ x:Str,x≠"__name__"→mb x=bootBuiltins x) (hlim:s₁.heap.NoLimit) (hg:s₁.gens=#[])
 (ha:s₁.heap.get? a=some {cls:=.type "list",data:=.seq vs.toArray}) (hi:IntsAre vs ns) (hl:ns.length≤sizeLine) (hr:Room k callerA)
 (F:∀ base:Heap,K.In base→base.Ns mainGlobals mg→FnOk P w K mg base CX k fa fd [x] sp) (hbind:∀ (s:Shared) (u:Value),BindsTo s fd ⟨[u],[]⟩ [(x,u)])
 (hsp:∀ H:Hp,qOl H→SqL K H a (ns.map V.int)→sp [.ref a] H (fun v _=>v= .bl true) fun _ _ _=>False)
 (hCX:∀ H e s',CX [] H s₁ (fun _ _ _=>False) e s'→False):
 codeAny (model P w) callerA (.call (.ref fa) ⟨[.ref a],[]⟩) (fun r s'=>r= .ok (.ret (.bool true))∧OldK s₁.heap s'.heap∧s'.os=s₁.os∧AllBare s'.gens) s₁:=by
 have rv:=qD4 hi
 have lenV:=hi.length
 have core:∀ H:Hp,qOl H→SqL K H a (ns.map V.int)→HOk P w H s₁.heap→(∀ b,H b≠none→b=a)→(H a≠none→K.lookup a=none)→
  codeAny (model P w) callerA (.call (.ref fa) ⟨[.ref a],[]⟩) (fun r s'=>r= .ok (.ret (.bool true))∧OldK s₁.heap s'.heap∧s'.os=s₁.os∧AllBare s'.gens) s₁:=by
  intro H hO hS hok hA hK
  have base_of:∀ {b:Addr} {o:Obj},s₁.heap.get? b=some o→H b=none→(qKq s₁.heap H).get? b=some o:=fun e n=>qKv e n
  have noA:∀ {b:Addr} {o:Obj} {es:Array DictEntry} {ep:Nat},s₁.heap.get? b=some o→o.data= .dict es ep→H b=none:=fun {b o es ep} e d=>by
   cases q:H b with
   | none=>rfl
   | some u=>
    have e':b=a:=hA b (by rw [q];simp)
    subst e'
    rw [ha] at e;cases e
    have d':Data.seq vs.toArray _=Data.dict es ep:=d
    cases d'
  have nsK:∀ {b:Addr} {m:Str→Option Value},s₁.heap.Ns b m→(qKq s₁.heap H).Ns b m:=fun {b m} ⟨o,es,ep,e,d,r⟩=>⟨o,es,ep,base_of e (noA e d),d,r⟩
  have hKb:K.In (qKq s₁.heap H):=fun b o e=>base_of (KX b o e) (by
   cases q:H b with
   | none=>rfl
   | some u=>
    have e':b=a:=hA b (by rw [q];simp)
    subst e'
    rw [hK (by rw [q];simp)] at e;cases e)
  have hM:Mod K mg (qKq s₁.heap H):=⟨hKb,nsK hns,⟨mb,nsK hb,hbb⟩,let ⟨mc,h1,h2⟩:=hlim;⟨mc,nsK h1,h2⟩⟩
  have e0:Env0 P w K mg (qKq s₁.heap H) callerA [] s₁ H:=⟨rfl,hM,fun b o e=>qMb e,Nat.le_of_eq (qJp _ _),trivial,fun b hb=>absurd (show b∈([]:List Addr) from hb) (by simp),hok,.of_eq hg⟩
  refine codeAny_mono ((F _ hKb (nsK hns)).run callerA [] s₁ H ⟨[.ref a],[]⟩ [.ref a] [.ref a] _ _ hr e0 (hbind s₁ (.ref a)) (.cons rfl .nil) (hsp H hO hS)) fun r s' h=>?_
  cases r with
  | error e=>exact(hCX H e s' h).elim
  | ok fl=>
   cases fl with
   | next=>exact False.elim h
   | brk=>exact False.elim h
   | cont=>exact False.elim h
   | ret u=>
    obtain⟨v,H',os,bare,un,hok',r',q⟩:=h
    have q':v= .bl true:=q
    subst q'
    obtain rfl:u=Value.bool true:=r'
    refine⟨rfl,OldK.of_keep fun b o e=>?_,os,bare⟩
    cases q:H b with
    | none=>exact un.keep b o e q (by intro z;exact absurd (show b∈([]:List Addr) from z) (by simp)) (by simp)
    | some u=>
     rcases hO b with z | ⟨ob,xs,z⟩
     · rw [q] at z;cases z
     · have z2:=un.frzs b ob _ z
       obtain⟨e1,_⟩:=hok b _ z
       obtain⟨e2,_⟩:=hok' b _ z2
       rw [e] at e1;cases e1
       exact e2
 cases hk:K.lookup a with
 | some o=>
  have e:=KX a o hk
  rw [ha] at e
  cases e
  refine core (fun _=>none) (fun _=>.inl rfl) (.inr ⟨_,vs.toArray,_,hk,rfl,rfl,rfl,by rw [List.size_toArray,lenV];exact hl,by simpa using rv⟩) (fun b u z=>by have z':(none:Option HO)=some u:=z;cases z') (fun b z=>absurd rfl z) fun z=>absurd rfl z
 | none=>
  refine core (fun b=>if b=a then some (.frz {cls:=.type "list",data:=.seq vs.toArray} (.lst (ns.map V.int))) else none) (fun b=>?_) (.inl (.inr ⟨{cls:=.type "list",data:=.seq vs.toArray},if_pos rfl⟩)) (fun b u z=>?_) (fun b z=>?_) fun _=>hk
  · by_cases hb:b=a
    · exact .inr ⟨_,_,if_pos hb⟩
    · exact .inl (if_neg hb)
  · by_cases hb:b=a
    · have z':=(if_pos hb).symm.trans z
      cases z'
      subst hb
      exact⟨ha,by rw [List.length_map];exact hl,vs,_,rv,ha⟩
    · have z':=(if_neg hb).symm.trans z
      cases z'
  · by_cases hb:b=a
    · exact hb
    · exact absurd (if_neg hb) z
end L2
namespace L2
open PySem PySem.Spec PyProof.Rows
theorem walk_of {l:PySem.W.OpenLaw}{n k:Nat}{q:Program}{loose:List Str}{XP:(Str→Option Value)→Heap→Prop}{YP:World→Heap→Prop}{d:DefRec}{K:Params→PySem.W.Frag}{CX:World→CXT}{sp:World→Sp}{x:Str}
 (hn:l.most=some n) (hn2:n≤sizeLine) (hdf:d.params.defaults=[]) (hr:Room k callerA)
 (hY:∀ (w:World) (h:Heap),YP w h→(K w.params).In h)
 (F:∀ (w:World) (mg:Str→Option Value) (fa:Addr) (h:Heap),(K w.params).In h→h.Ns mainGlobals mg→mg d.name=some (.ref fa)→
   ∃ fd:FuncData,(∀ (s:Shared) (u:Value),BindsTo s fd ⟨[u],[]⟩ [(x,u)])∧
    ∀ base:Heap,(K w.params).In base→base.Ns mainGlobals mg→FnOk l.prog w (K w.params) mg base (CX w) k fa fd [x] (sp w))
 (hsp:∀ (w:World) (H:Hp) (a:Addr) (ns:List Int),ns.length≤n→qOl H→SqL (K w.params) H a (ns.map V.int)→sp w [.ref a] H (fun v _=>v= .bl true) fun _ _ _=>False)
 (hCX:∀ (w:World) (H:Hp) (s:Shared) (e:Value) (s':Shared),CX w [] H s (fun _ _ _=>False) e s'→False):
 PySem.W.WalkO q loose XP YP l.row.toRowW d [] (fun f vs=>PySem.call f vs):=by
 refine Att.attach_call hn hdf fun w s₀ s₁ mg mb fa o pm cd doc a vs ns G Y ho hd hcd hmg hobj hints hlen hg=>?_
 have KX:=hY w _ Y
 obtain⟨fd,hb,hF⟩:=F w mg fa _ KX G.T.g hmg
 exact qJ9 KX G.T.g G.T.b G.T.builtins G.T.nolimit hg hobj hints (Nat.le_trans hlen hn2) hr hF hb (fun H hO hS=>hsp w H a ns hlen hO hS) fun H e s'=>hCX w H s₁ e s'
end L2
namespace L2
open PySem PySem.Spec PyProof.Rows
def qMk (s:Stmt)(j:Nat):Stmt:=match s with
 | .ClassDef _ _ _ body _ _ _ _ _ _ _=>body.getD j (.Pass ⟨0,0,0,0⟩)
 | _=>.Pass ⟨0,0,0,0⟩
def zy (s:Stmt):Arguments:=match s with
 | .FunctionDef _ a _ _ _ _ _ _ _ _=>a
 | _=>{posonlyargs:=[],args:=[],vararg:=none,kwonlyargs:=[],kw_defaults:=[],kwarg:=none,defaults:=[]}
def xR (s:Stmt):List Stmt:=match s with
 | .FunctionDef _ _ b _ _ _ _ _ _ _=>b
 | _=>[]
def qG (s:Stmt):Scope:=match s with
 | .FunctionDef _ _ _ _ _ _ sc _ _ _=>sc
 | _=>{kind:=.function,names:=[],isGenerator:=false,isCoroutine:=false}
abbrev CX0:CXT:=fun _ _ _ _ _ _=>False
abbrev E0:XK:=fun _ _ _=>False
theorem qO9 {X:Cx}:qGv CX0 X E0:=fun _ _ _ _ _ _ _ h=>h.elim
structure Fun (K:PySem.W.Frag)(x qual:Str)(st:Stmt)(f:Addr)(fd:FuncData):Prop where
 ex:∃ (oc:Value) (od:Option Addr) (kV doc pm:Value) (an:Option Addr) (cdv ct:Value) (osl:Array (Option Value)),
  fd=PySem.W.fnOf x qual (zy st) (xR st) (qG st) .none kV doc pm an cdv ct∧K.lookup f=some ⟨oc,od,.func fd,osl⟩∧PySem.W.codeIn K cdv qual=true
 kp:PySem.W.keepIn K (.ref f)=true
section
variable {P : Program} {w : World} {K : PySem.W.Frag} {mg : Str → Option Value} {base : Heap}
theorem Fun.ok {x qual:Str}{st:Stmt}{f:Addr}{fd:FuncData}{N ps:List Str}{k:Nat}{sp:Sp}(F:Fun K x qual st f fd)(S:qM N ps (qG st))(len:∀ vs H Q E,sp vs H Q E→vs.length=ps.length)
 (hbody:∀ (cdv:Value) (A:Around) (outer:List Env) (s:Shared) (H:Hp) (vs:List V) (Q:VK) (E:XK),Room k (A.deeper (envOfC qual (qG st) s.heap.objs.size f cdv))→sp vs H Q E→
   ∃ t,PSs (qJx CX0 P w K mg base N qual (qG st) f cdv A outer s H E).nox (xR st) t∧t {nx:=fun _ H'=>Q .non H',rt:=Q} (qC3 N vs) H):FnOk P w K mg base CX0 (k+1) f fd ps sp:=by
 obtain⟨oc,od,kV,doc,pm,an,cdv,ct,osl,rfl,lk,hcd⟩:=F.ex
 refine qNk lk hcd S len fun A outer s H vs Q E hr hsp=>?_
 obtain⟨t,h,q⟩:=hbody cdv A outer s H vs Q E hr hsp
 exact⟨t,h.nox,q⟩
theorem Fun.binds {x qual:Str}{st:Stmt}{f:Addr}{fd:FuncData}{ps:List Str}(F:Fun K x qual st f fd)
 (h:∀ (kV doc pm:Value) (an:Option Addr) (cdv ct:Value) (us:List Value),us.length=ps.length→bindArgs (PySem.W.fnOf x qual (zy st) (xR st) (qG st) .none kV doc pm an cdv ct) ⟨us,[]⟩=pure (ps.zip us)):Binds K fd ps []:=by
 obtain⟨oc,od,kV,doc,pm,an,cdv,ct,osl,rfl,lk,hcd⟩:=F.ex
 exact .all (h kV doc pm an cdv ct)
theorem qLc {x qual:Str}{st:Stmt}{f:Addr}{oc:Value}{od an:Option Addr}{osl:Array (Option Value)}{kV doc pm cdv ct:Value}(l:K.lookup f=some ⟨oc,od,.func (PySem.W.fnOf x qual (zy st) (xR st) (qG st) .none kV doc pm an cdv ct),osl⟩)
 (c:PySem.W.codeIn K cdv qual=true) (k:PySem.W.keepIn K (.ref f)=true):Fun K x qual st f (PySem.W.fnOf x qual (zy st) (xR st) (qG st) .none kV doc pm an cdv ct):=⟨⟨oc,od,kV,doc,pm,an,cdv,ct,osl,rfl,l,c⟩,k⟩
end
theorem wu {A:Around}{k:Nat}(hr:Room k A):A.units+1 < cLine:=Nat.lt_of_le_of_lt (Nat.add_le_add_left (by decide:1≤64) _) hr.units
theorem qo {n:Nat}(h:n≤1000):n < sizeLine:=Nat.lt_of_le_of_lt h (by decide)
section
variable {X : Cx}
theorem pv (i:Nat){x:Str}{pos:Pos}(hN:X.N[i]? =some x:=by rfl)(hv:Vis X.env.scope x:=by first | exact Or.inl rfl | exact Or.inr (Or.inl rfl) | exact Or.inr (Or.inr rfl))(hd:(x == ("__debug__":Str))=false:=by decide)
 (hcd:(x == ("__classdict__":Str))=false:=by decide):PE X (.Name x pos) (qN6 i):=qN1 hN hv hd hcd
end
theorem qp {A B:Prop}(h:B):if false=true then A else B:=by
 rw [if_neg Bool.false_ne_true]
 exact h
theorem jS {A B:Prop}(h:A):if true=true then A else B:=by
 rw [if_pos rfl]
 exact h
theorem jx {c A B:Prop} [Decidable c] (h1:c→A)(h2:¬ c→B):if c then A else B:=by
 by_cases h:c
 · rw [if_pos h]
   exact h1 h
 · rw [if_neg h]
   exact h2 h
theorem qIe {c A B:Prop} [Decidable c] (hc:c)(h:B):if (!decide c)=true then A else B:=by
 rw [decide_eq_true hc]
 exact qp h
def Same (H H':Hp):Prop:=∀ b o,H b=some o→H' b=some o
theorem Same.refl (H:Hp):Same H H:=fun _ _ h=>h
theorem Same.trans {H H1 H2:Hp}(a:Same H H1)(b:Same H1 H2):Same H H2:=fun c o h=>b c o (a c o h)
theorem Same.free {H H':Hp}(e:Same H H'){l:Addr}(h:H' l=Option.none):H l=Option.none:=by
 cases q:H l with
 | none=>rfl
 | some o=>
  rw [e l o q] at h
  cases h
theorem Same.seq {K:PySem.W.Frag}{H H':Hp}{a:Addr}{xs:List V}(e:Same H H')(h:SqL K H a xs):SqL K H' a xs:=by
 rcases h with (h | ⟨o,h⟩) | h
 · exact .inl (.inl (e _ _ h))
 · exact .inl (.inr ⟨o,e _ _ h⟩)
 · exact .inr h
end L2
namespace L2
open PySem PySem.Spec PyProof.Rows
section
variable {κ : Type} [DecidableEq κ]
def qGi (kvs:List (κ × V))(k:κ):Option V:=(kvs.find? fun kv=>decide (kv.1=k)).map (·.2)
def qE9 (kvs:List (κ × V))(k:κ)(v:V):List (κ × V):=
 if (kvs.any fun kv=>decide (kv.1=k))=true then kvs.map (fun kv=>if kv.1=k then (kv.1,v) else kv) else kvs++[(k,v)]
theorem qCi {p:κ × V}{r:List (κ × V)}{k:κ}(e:p.1=k):qGi (p::r) k=some p.2:=by simp [qGi,List.find?_cons,e]
theorem qCc {p:κ × V}{r:List (κ × V)}{k:κ}(e:¬ p.1=k):qGi (p::r) k=qGi r k:=by simp [qGi,List.find?_cons,e]
theorem qGx (k:κ):∀ kvs:List (κ × V),(kvs.any fun kv=>decide (kv.1=k))=(qGi kvs k).isSome
 | []=>rfl
 | p::r=>by
  rw [List.any_cons]
  by_cases e:p.1=k
  · simp only [qCi e,decide_eq_true e,Bool.true_or,Option.isSome_some]
  · rw [qCc e,decide_eq_false e,Bool.false_or];exact qGx k r
theorem kR (kvs:List (κ × V))(k:κ)(v:V):(qE9 kvs k v).length≤kvs.length+1:=by
 unfold qE9
 split
 · rw [List.length_map];omega
 · rw [List.length_append,List.length_cons,List.length_nil];omega
theorem RelO.isSome_eq {o:Option V}{u:Option Value}(r:RelO o u):o.isSome=u.isSome:=by
 cases o with
 | none=>cases u with
  | none=>rfl
  | some _=>exact(show False from r).elim
 | some _=>cases u with
  | none=>exact(show False from r).elim
  | some _=>rfl
theorem RelO.getD {o:Option V}{u:Option Value}{d:V}{d':Value}(r:RelO o u)(rd:RelV d d'):RelV (o.getD d) (u.getD d'):=by
 cases o with
 | none=>cases u with
  | none=>exact rd
  | some _=>exact(show False from r).elim
 | some _=>cases u with
  | none=>exact(show False from r).elim
  | some _=>exact r
theorem KV.val {kvs:List (κ × V)}{vs:List (κ × Value)}(r:KV kvs vs)(k:κ):RelO (qGi kvs k) (valueAt vs k):=by
 unfold KV at r
 induction r with
 | nil=>exact True.intro
 | @cons p q ps qs h t ih=>
  obtain⟨h1,h2⟩:=h
  by_cases e:p.1=k
  · have e':q.1=k:=h1.symm.trans e
    have b:valueAt (q::qs) k=some q.2:=by simp [valueAt,List.find?_cons,e']
    rw [qCi e,b];exact h2
  · have e':¬ q.1=k:=fun z=>e (h1.trans z)
    have b:valueAt (q::qs) k=valueAt qs k:=by simp [valueAt,List.find?_cons,e']
    rw [qCc e,b];exact ih
theorem KV.any {kvs:List (κ × V)}{vs:List (κ × Value)}(r:KV kvs vs)(k:κ):(kvs.any fun kv=>decide (kv.1=k))=vs.any fun kv=>decide (kv.1=k):=by
 unfold KV at r
 induction r with
 | nil=>rfl
 | cons h t ih=>rw [List.any_cons,List.any_cons,ih,h.1]
theorem KV.repl {kvs:List (κ × V)}{vs:List (κ × Value)}(r:KV kvs vs)(k:κ){y:V}{u:Value}(ry:RelV y u):
 KV (kvs.map fun kv=>if kv.1=k then (kv.1,y) else kv) (vs.map fun kv=>if kv.1=k then (kv.1,u) else kv):=by
 unfold KV at r ⊢
 induction r with
 | nil=>exact .nil
 | @cons p q ps qs h t ih=>
  rw [List.map_cons,List.map_cons]
  refine .cons ?_ ih
  obtain⟨h1,h2⟩:=h
  by_cases e:p.1=k
  · rw [if_pos e,if_pos (h1.symm.trans e)];exact⟨h1,ry⟩
  · rw [if_neg e,if_neg (fun z=>e (h1.trans z))];exact⟨h1,h2⟩
theorem KV.put {kvs:List (κ × V)}{vs:List (κ × Value)}(r:KV kvs vs)(k:κ){y:V}{u:Value}(ry:RelV y u):KV (qE9 kvs k y) (stored vs k u):=by
 unfold qE9 stored
 rw [r.any k]
 by_cases e:(vs.any fun kv=>decide (kv.1=k))=true
 · rw [if_pos e,if_pos e];exact r.repl k ry
 · rw [if_neg e,if_neg e];exact Paired.snoc r ⟨rfl,ry⟩
theorem KV.keys {kvs:List (κ × V)}{vs:List (κ × Value)}(r:KV kvs vs):kvs.map (·.1)=vs.map (·.1):=by
 unfold KV at r
 induction r with
 | nil=>rfl
 | cons h t ih=>rw [List.map_cons,List.map_cons,ih,h.1]
theorem KV.length {kvs:List (κ × V)}{vs:List (κ × Value)}(r:KV kvs vs):kvs.length=vs.length:=Paired.length r
end
theorem qHd {P:Program}{w:World}{k:Key}{u:Value}(r:RelV (kV k) u):(qy P w).is k u=true:=by
 cases k with
 | inl i=>obtain⟨t,e⟩:=(show ∃ t,u=Value.int i t from r);subst e;exact qFh P w i t
 | inr x=>obtain⟨t,e⟩:=(show ∃ t,u=Value.str x t from r);subst e;exact qFu P w x t
theorem qE8 {P:Program}{w:World}:∀ {ks:List Key} {us:List Value},Vals (ks.map kV) us→ItemsAre (qy P w) ks us
 | [],_,r=>by rw [List.map_nil] at r;cases r;exact .nil
 | k::ks,_,r=>by
  rw [List.map_cons] at r
  cases r with
  | cons h t=>exact .cons (qHd h) (qE8 t)
abbrev KT (H:Hp):List (List Key × V)→List (List Key × Addr × Value)→Prop:=Paired fun p q=>p.1=q.1∧H q.2.1=some (.tup (p.1.map kV))∧RelV p.2 q.2.2
theorem KT.val {H:Hp}{kvs:List (List Key × V)}{xs:List (List Key × Addr × Value)}(r:KT H kvs xs)(k:List Key):RelO (qGi kvs k) ((atKey xs k).map (·.2)):=by
 induction r with
 | nil=>exact True.intro
 | @cons p q ps qs h t ih=>
  obtain⟨h1,_,h2⟩:=h
  by_cases e:p.1=k
  · have e':q.1=k:=h1.symm.trans e
    have b:atKey (q::qs) k=some q.2:=by simp [atKey,List.find?_cons,e']
    rw [qCi e,b];exact h2
  · have e':¬ q.1=k:=fun z=>e (h1.trans z)
    have b:atKey (q::qs) k=atKey qs k:=by simp [atKey,List.find?_cons,e']
    rw [qCc e,b];exact ih
theorem KT.repl {H:Hp}{kvs:List (List Key × V)}{xs:List (List Key × Addr × Value)}(r:KT H kvs xs)(k:List Key){y:V}{u:Value}(ry:RelV y u):
 KT H (kvs.map fun kv=>if kv.1=k then (kv.1,y) else kv) (xs.map (putAt k u)):=by
 induction r with
 | nil=>exact .nil
 | @cons p q ps qs h t ih=>
  rw [List.map_cons,List.map_cons]
  refine .cons ?_ ih
  obtain⟨h1,h2,h3⟩:=h
  unfold putAt
  by_cases e:p.1=k
  · rw [if_pos e,if_pos (h1.symm.trans e)];exact⟨h1,h2,ry⟩
  · rw [if_neg e,if_neg (fun z=>e (h1.trans z))];exact⟨h1,h2,h3⟩
theorem KT.put {H:Hp}{kvs:List (List Key × V)}{xs:List (List Key × Addr × Value)}(r:KT H kvs xs)(k:List Key){b:Addr}{y:V}{u:Value}(hb:H b=some (.tup (k.map kV)))(ry:RelV y u):
 KT H (qE9 kvs k y) (storedH xs k b u):=by
 have e:(kvs.any fun kv=>decide (kv.1=k))=(atKey xs k).isSome:=by
  rw [qGx,(r.val k).isSome_eq,Option.isSome_map]
 unfold qE9 storedH
 rw [e]
 by_cases q:(atKey xs k).isSome=true
 · rw [if_pos q,if_pos q];exact r.repl k ry
 · rw [if_neg q,if_neg q];exact Paired.snoc r ⟨rfl,hb,ry⟩
theorem KT.keeps {H H':Hp}{kvs:List (List Key × V)}{xs:List (List Key × Addr × Value)}(r:KT H kvs xs)(ht:∀ b ys,H b=some (.tup ys)→H' b=some (.tup ys)):KT H' kvs xs:=
 Paired.mapP r fun _ _ z=>⟨z.1,ht _ _ z.2.1,z.2.2⟩
section
variable {P : Program} {w : World} {H : Hp} {h : Heap} {a : Addr}
theorem qMx {u:HO}(ok:HOk P w H h)(e:Rd H a u):ObjOk P w H h a u:=e.ok ok
theorem qFa {kvs:List (Key × V)}(ok:HOk P w H h)(e:Rd H a (.dK kvs)):kvs.length≤sizeLine∧(a == sysModules)=false∧∃ vs,KV kvs vs∧h.DictOf (qy P w) a vs:=
 show ObjOk P w H h a (.dK kvs) from qMx ok e
theorem qNg {kvs:List (Key × V)}(ok:HOk P w H h)(e:H a=some (.dK kvs)):kvs.length≤sizeLine∧(a == sysModules)=false∧∃ vs,KV kvs vs∧h.DictOf (qy P w) a vs:=qFa ok (.inl e)
theorem qDy {ks:List Key}(ok:HOk P w H h)(e:H a=some (.tup (ks.map kV))):(tupleKind (qy P w)).is h ks a:=by
 obtain⟨_,its,r,o,h1,h2,n,h3⟩:=(show ObjOk P w H h a (.tup (ks.map kV)) from ok a _ e)
 exact⟨o,its.toArray,n,h1,h2,h3,by simpa using qE8 r⟩
theorem qI4 {kvs:List (List Key × V)}(ok:HOk P w H h)(e:Rd H a (.dT kvs)):kvs.length≤sizeLine∧(a == sysModules)=false∧
 ∃ xs,KT H kvs xs∧h.DictOfH (tupleKind (qy P w)) a xs:=by
 obtain⟨z,y,xs,r,o,es,ep,h1,h2,h3,h4,h5⟩:=(show ObjOk P w H h a (.dT kvs) from qMx ok e)
 refine⟨z,y,xs,r,o,es,ep,h1,h2,h3,h4,fun x hx=>?_,h5⟩
 have all:∀ {l:List (List Key × V)} {m:List (List Key × Addr × Value)},KT H l m→∀ x∈m,(tupleKind (qy P w)).is h x.1 x.2.1:=by
  intro l m q
  induction q with
  | nil=>intro x hx;exact nomatch hx
  | @cons p q ps qs hq t ih=>
   intro x hx
   rcases List.mem_cons.mp hx with e | hx
   · subst e
     exact qDy ok (by rw [← hq.1];exact hq.2.1)
   · exact ih x hx
 exact all r x hx
theorem qO0 {kvs:List (List Key × V)}(ok:HOk P w H h)(e:H a=some (.dT kvs)):kvs.length≤sizeLine∧(a == sysModules)=false∧
 ∃ xs,KT H kvs xs∧h.DictOfH (tupleKind (qy P w)) a xs:=qI4 ok (.inl e)
end
def DGet (H:Hp)(a:Addr)(y:V)(r:Option V):Prop:=
 (∃ kvs k,Rd H a (.dK kvs)∧y=kV k∧r=qGi kvs k)∨∃ kvs k b,Rd H a (.dT kvs)∧y= .ref b∧H b=some (.tup (k.map kV))∧r=qGi kvs k
def DPut (H:Hp)(a:Addr)(y v:V)(H':Hp):Prop:=
 (∃ kvs k,H a=some (.dK kvs)∧y=kV k∧kvs.length < sizeLine∧H'=upd H a (.dK (qE9 kvs k v)))∨
 ∃ kvs k b,H a=some (.dT kvs)∧y= .ref b∧H b=some (.tup (k.map kV))∧kvs.length < sizeLine∧H'=upd H a (.dT (qE9 kvs k v))
theorem DGet.k {H:Hp}{a:Addr}{kvs:List (Key × V)}{k:Key}(e:H a=some (.dK kvs)):DGet H a (kV k) (qGi kvs k):=.inl ⟨kvs,k,.inl e,rfl,rfl⟩
theorem DGet.t {H:Hp}{a b:Addr}{kvs:List (List Key × V)}{k:List Key}(e:H a=some (.dT kvs))(eb:H b=some (.tup (k.map kV))):DGet H a (.ref b) (qGi kvs k):=.inr ⟨kvs,k,b,.inl e,rfl,eb,rfl⟩
theorem DPut.k {H:Hp}{a:Addr}{kvs:List (Key × V)}{k:Key}{v:V}(e:H a=some (.dK kvs))(hl:kvs.length < sizeLine):DPut H a (kV k) v (upd H a (.dK (qE9 kvs k v))):=.inl ⟨kvs,k,e,rfl,hl,rfl⟩
section
variable {X : Cx} {pins : List (Addr × Obj)} {σ : St} {H : Hp} {s : Shared} {a : Addr} {y v : V} {u r : Value} {o : Option V} {A : Around} {E : Value → Shared → Prop}
theorem Inv.big (I:Inv X pins σ H s):sysModules < s.heap.objs.size:=by
 have h:mainGlobals < s.heap.objs.size:=(I.mod.glob.keeps I.bk).lt
 exact Nat.lt_trans (by decide) h
theorem qIf {Q:Value→Shared→Prop}(hu:A.units+1 < cLine)(I:Inv X pins σ H s)(g:DGet H a y (some v))(ry:RelV y u)(h:∀ w' s',Inv X pins σ H s'→RelV v w'→Q w' s'):
 wpAny (model X.prog X.w) A (getItem (.ref a) u) Q E s:=by
 rcases g with ⟨kvs,k,e,ey,l⟩ | ⟨kvs,k,b,e,ey,eb,l⟩
 · subst ey
   obtain⟨z,hd,vs,rel,dd⟩:=qFa I.hok e
   obtain⟨w',hw,rw'⟩:=RelO.some_of (v:=v) (o:=valueAt vs k) (by rw [l];exact rel.val k)
   exact wpAny_getItem_of (qHd ry) dd.mapOf hw (h w' _ (I.tok _) rw')
 · subst ey
   cases (show u=Value.ref b from ry)
   obtain⟨z,hd,xs,rel,dd⟩:=qI4 I.hok e
   obtain⟨w',hw,rw'⟩:=RelO.some_of (v:=v) (o:=(atKey xs k).map (·.2)) (by rw [l];exact rel.val k)
   obtain⟨p,hp,hp2⟩:=Option.map_eq_some_iff.mp hw
   refine wpAny_getItem_heap (tupleKind_room_in1 hu) (qDy I.hok eb) dd hp ?_
   rw [hp2]
   exact h w' _ (I.tok _) rw'
theorem qPu {Q:Value→Shared→Prop}(hu:A.units+1 < cLine)(I:Inv X pins σ H s)(g:DGet H a y o)(ry:RelV y u)(h:∀ s',Inv X pins σ H s'→Q (.bool o.isSome) s'):
 wpAny (model X.prog X.w) A (compareOp .In u (.ref a)) Q E s:=by
 rcases g with ⟨kvs,k,e,ey,l⟩ | ⟨kvs,k,b,e,ey,eb,l⟩
 · subst ey
   obtain⟨z,hd,vs,rel,dd⟩:=qFa I.hok e
   refine wpAny_in_of (qHd ry) hd dd.mapOf ?_
   rw [← (rel.val k).isSome_eq,← l]
   exact h _ (I.tok _)
 · subst ey
   cases (show u=Value.ref b from ry)
   obtain⟨z,hd,xs,rel,dd⟩:=qI4 I.hok e
   refine wpAny_in_heap (tupleKind_room_in1 hu) (qDy I.hok eb) hd dd ?_
   have q:=(rel.val k).isSome_eq
   rw [Option.isSome_map] at q
   rw [← q,← l]
   exact h _ (I.tok _)
theorem qL9 {Q:Value→Shared→Prop}(hu:A.units+1 < cLine)(I:Inv X pins σ H s)(g:DGet H a y o)(ry:RelV y u)(h:∀ s',Inv X pins σ H s'→Q (.bool (!o.isSome)) s'):
 wpAny (model X.prog X.w) A (compareOp .NotIn u (.ref a)) Q E s:=by
 rcases g with ⟨kvs,k,e,ey,l⟩ | ⟨kvs,k,b,e,ey,eb,l⟩
 · subst ey
   obtain⟨z,hd,vs,rel,dd⟩:=qFa I.hok e
   refine wpAny_notIn_of (qHd ry) hd dd.mapOf ?_
   rw [← (rel.val k).isSome_eq,← l]
   exact h _ (I.tok _)
 · subst ey
   cases (show u=Value.ref b from ry)
   obtain⟨z,hd,xs,rel,dd⟩:=qI4 I.hok e
   refine wpAny_notIn_heap (tupleKind_room_in1 hu) (qDy I.hok eb) hd dd ?_
   have q:=(rel.val k).isSome_eq
   rw [Option.isSome_map] at q
   rw [← q,← l]
   exact h _ (I.tok _)
theorem qFz {h':Heap}{t':Nat}{ob:HO}(I:Inv X pins σ H s)(mu:Mut (H a))(hs:Heap.SameBut a s.heap h')(he:∃ q,h'.get? a=some q)(new:ObjOk X.prog X.w (upd H a ob) h' a ob):
 Inv X pins σ (upd H a ob) {s with heap:=h',toks:=t'}:=
 I.write (x:=a) (e:=a) mu (.inl rfl) (fun b q hb z=>(hs.2 b hb).trans z) he new
theorem qK6 {P:Program}{w:World}{H':Hp}{h':Heap}{kvs:List (Key × V)}{vs:List (Key × Value)}(z:kvs.length≤sizeLine)(hd:(a == sysModules)=false)(rel:KV kvs vs)(dd:h'.DictOf (qy P w) a vs):
 ObjOk P w H' h' a (.dK kvs):=⟨z,hd,vs,rel,dd⟩
theorem qI2 {H':Hp}{Q:Unit→Shared→Prop}(hu:A.units+1 < cLine)(I:Inv X pins σ H s)(g:DPut H a y v H')(ry:RelV y u)(rv:RelV v r)(h:∀ s',Inv X pins σ H' s'→Q () s'):
 wpAny (model X.prog X.w) A (setItem (.ref a) u r) Q E s:=by
 rcases g with ⟨kvs,k,e,ey,l,eH⟩ | ⟨kvs,k,b,e,ey,eb,l,eH⟩
 · subst ey eH
   obtain⟨z,hd,vs,rel,dd⟩:=qNg I.hok e
   have hz:vs.length≤sizeLine:=by rw [← rel.length];exact z
   have hl:(qE9 kvs k v).length≤sizeLine:=by have:=kR kvs k v;omega
   refine wpAny_setItem_pairs (hsz:=hz) (qHd ry) dd fun h' dd' hs=>h _ ?_
   have he:∃ q,h'.get? a=some q:=let ⟨q,_,_,hq,_⟩:=dd';⟨q,hq⟩
   exact qFz I (by rw [e];exact True.intro) hs he (qK6 hl hd (rel.put k rv) dd')
 · subst ey eH
   cases (show u=Value.ref b from ry)
   obtain⟨z,hd,xs,rel,dd⟩:=qO0 I.hok e
   have hz:xs.length≤sizeLine:=by rw [← Paired.length rel];exact z
   have hl:(qE9 kvs k v).length≤sizeLine:=by have:=kR kvs k v;omega
   refine wpAny_setItem_heap (hsz:=hz) (tupleKind_room_in1 hu) (qDy I.hok eb) dd fun h' dd' hs=>h _ ?_
   obtain⟨q,es,ep,hq,h2,h3,h4,_,h5⟩:=dd'
   refine qFz I (by rw [e];exact True.intro) hs ⟨q,hq⟩ ⟨hl,hd,_,(rel.put k eb rv).keeps fun c ys ec=>?_,q,es,ep,hq,h2,h3,h4,h5⟩
   rw [qU (qHx ec e (fun z=>nomatch z))]
   exact ec
end
section
variable {X : Cx} {pins : List (Addr × Obj)} {σ : St} {H : Hp} {s : Shared} {a : Addr} {kvs : List (Key × V)} {k : Key} {u : Value} {A : Around} {E : Value → Shared → Prop}
theorem qOy {Q:Value→Shared→Prop}(I:Inv X pins σ H s)(e:Rd H a (.dK kvs))(h:∀ t s',Inv X pins σ H s'→Q (.int kvs.length t) s'):wpAny (model X.prog X.w) A (call (.builtin "len") [.ref a]) Q E s:=by
 obtain⟨z,hd,vs,rel,dd⟩:=qFa I.hok e
 refine call_len_dict hd dd (by rw [← rel.length];rw [sizeLine_eq] at z;omega) ?_
 rw [← rel.length]
 exact h _ _ (I.tok _)
end
def qPr (i:Expr):Prop:=∀ ov iv,subscripted i false ov iv=operate [ov,iv] (getItem ov iv)
theorem qLr {prog:Program}{w:World}{A:Around}{E:Value→Shared→Prop}{s:Shared}{env:Env}{value slice:Expr}{pos:Pos}{T id:String}{Q:Value→Shared→Prop}
 (hl:typeLookup (.type T) "__getitem__"=pure (some (.builtin id))) (hs:qPr slice)
 (h:wpAny (model prog w) A (eval value env) (fun o s₁=>wpAny (model prog w) A (eval slice env) (fun i s₂=>s₂.TypeIs o T∧wpAny (model prog w) A (getItem o i) Q E s₂) E s₁) E s):
 wpAny (model prog w) A (eval (.Subscript value slice pos) env) Q E s:=by
 refine Subscript_ (wpAny_mono h (fun o s₁ h₁=>wpAny_mono h₁ (fun i s₂ h₂=>?_) fun _ _ x=>x) fun _ _ x=>x)
 obtain⟨hT,h₂⟩:=h₂
 unfold subscriptTail
 refine wpAny_bind ?_
 rw [getitemInPython_of_ne hT.not_modules]
 refine wpAny_bind (wpAny_specialOf hT hl ?_)
 have fin:wpAny (model prog w) A (subscripted slice false o i) (fun r s₃=>wpAny (model prog w) A (letTemporaryGo value o r >>=fun _=>pure r) Q E s₃) E s₂:=by
  rw [hs o i]
  exact wpAny_operating (wpAny_mono h₂ (fun r s₃ h₃=>wpAny_bind (wpAny_letTemporaryGo (wpAny_pure h₃))) fun _ _ x=>x)
 first
  | exact wpAny_pure (wpAny_bind fin)
  | exact wpAny_bind (wpAny_pure (wpAny_bind fin))
  | exact wpAny_bind fin
theorem qF7 {X:Cx}{pins:List (Addr × Obj)}{σ:St}{H:Hp}{s:Shared}{a:Addr}{y:V}{o:Option V}(I:Inv X pins σ H s)(g:DGet H a y o):s.TypeIs (.ref a) "dict":=by
 rcases g with ⟨kvs,k,e,_,_⟩ | ⟨kvs,k,b,e,_,_,_⟩
 · obtain⟨_,_,vs,_,dd⟩:=qFa I.hok e
   exact dd.typeIs
 · obtain⟨_,_,xs,_,dd⟩:=qI4 I.hok e
   exact dd.typeIs
def qOi (td ty:TE):TE:=fun σ H Q=>td σ H fun x H1=>ty σ H1 fun y H2=>∃ a v,x= .ref a∧DGet H2 a y (some v)∧Q v H2
def qPy (ty td:TE):TE:=fun σ H Q=>ty σ H fun y H1=>td σ H1 fun x H2=>∃ a o,x= .ref a∧DGet H2 a y o∧Q (.bl o.isSome) H2
def qMs (ty td:TE):TE:=fun σ H Q=>ty σ H fun y H1=>td σ H1 fun x H2=>∃ a o,x= .ref a∧DGet H2 a y o∧Q (.bl (!o.isSome)) H2
def qO1 (td ty tv:TE):TS:=fun D σ H=>tv σ H fun v H1=>td σ H1 fun x H2=>ty σ H2 fun y H3=>∃ a H4,x= .ref a∧DPut H3 a y v H4∧D.nx σ H4
section
variable {X : Cx} {o i e value : Expr} {pos pos' tpos : Pos} {td ty tv : TE}
theorem kN (hu:X.A.units+1 < cLine)(ho:PE X o td)(hi:PE X i ty)(hs:qPr i):PE X (.Subscript o i pos) (qOi td ty):=by
 intro pins s σ H Q I h
 refine qLr PySem.F.slot_dict_getitem.lookup hs (thn (ho pins s σ H _ I h) fun u s1 ⟨x,H1,I1,rx,q1⟩=>thn (hi pins s1 σ H1 _ I1 q1) fun iv s2 ⟨y,H2,I2,ry,a,v,ex,g,q2⟩=>?_)
 subst ex
 obtain rfl:u=Value.ref a:=rx
 exact⟨qF7 I2 g,qIf hu I2 g ry fun w' s3 I3 rw'=>⟨v,H2,I3,rw',q2⟩⟩
theorem qNf (hu:X.A.units+1 < cLine)(hi:PE X i ty)(ho:PE X o td):PC X .In i o (qPy ty td):=by
 intro pins s σ H Q I h
 refine thn (hi pins s σ H _ I h) fun iv s1 ⟨y,H1,I1,ry,q1⟩=>thn (ho pins s1 σ H1 _ I1 q1) fun u s2 ⟨x,H2,I2,rx,a,ov,ex,g,q2⟩=>?_
 subst ex
 obtain rfl:u=Value.ref a:=rx
 exact qPu hu I2 g ry fun s3 I3=>⟨.bl ov.isSome,H2,I3,rfl,q2⟩
theorem qEx (hu:X.A.units+1 < cLine)(hi:PE X i ty)(ho:PE X o td):PC X .NotIn i o (qMs ty td):=by
 intro pins s σ H Q I h
 refine thn (hi pins s σ H _ I h) fun iv s1 ⟨y,H1,I1,ry,q1⟩=>thn (ho pins s1 σ H1 _ I1 q1) fun u s2 ⟨x,H2,I2,rx,a,ov,ex,g,q2⟩=>?_
 subst ex
 obtain rfl:u=Value.ref a:=rx
 exact qL9 hu I2 g ry fun s3 I3=>⟨.bl (!ov.isSome),H2,I3,rfl,q2⟩
theorem qLy (hu:X.A.units+1 < cLine)(ho:PE X o td)(hi:PE X i ty)(hv:PE X value tv)(hs:swapsWith value (some (.Subscript o i pos')) pos.line X.env=pure false):
 PS X (.Assign [.Subscript o i pos'] value pos) (qO1 td ty tv):=by
 intro pins s σ H D I h
 refine wpAny_Assign_Subscript (thn (hv pins s σ H _ I h) fun r s1 ⟨v,H1,I1,rv,q1⟩=>thn (ho pins s1 σ H1 _ I1 q1) fun u s2 ⟨x,H2,I2,rx,q2⟩=>thn (hi pins s2 σ H2 _ I2 q2) fun iv s3 ⟨y,H3,I3,ry,a,H4,ex,g,q3⟩=>?_) hs
 subst ex
 obtain rfl:u=Value.ref a:=rx
 exact qI2 hu I3 g ry rv fun s4 I4=>⟨σ,H4,I4,q3⟩
end
theorem qGg {P:Program}{w:World}{H:Hp}(h:Heap)(hb:sysModules < h.objs.size):ObjOk P w H (h.push {cls:=.type "dict",data:=.dict #[]}) h.objs.size (.dK []):=
 ⟨Nat.zero_le _,beq_eq_false_iff_ne.mpr (Ne.symm (Nat.ne_of_lt hb)),[],.nil,Heap.DictOf.new h⟩
def qM2:TE:=fun _ H Q=>∀ p,H p=none→Q (.ref p) (upd H p (.dK []))
section
variable {X : Cx} {pos : Pos}
theorem qKe:PE X (.Dict [] [] pos) qM2:=fun pins s σ H Q I h=>
 wpAny_Dict_empty ⟨.ref s.heap.objs.size,_,I.laid (a:=s.heap.objs.size) (o:=.dK []) (t':=s.toks) (fun _ _ q=>Heap.get?_push_of_some _ q) (Nat.le_refl _) (qGg s.heap I.big),rfl,h _ (I.hok.fresh (Nat.le_refl _))⟩
end
def qJe:List (TE × TE)→St→Hp→(List (V × V)→Hp→Prop)→Prop
 | [],_,H,Q=>Q [] H
 | (tk,tv)::r,σ,H,Q=>tk σ H fun x H1=>tv σ H1 fun y H2=>qJe r σ H2 fun ps H3=>Q ((x,y)::ps) H3
abbrev VV:List (V × V)→List (Value × Value)→Prop:=Paired fun p q=>RelV p.1 q.1∧RelV p.2 q.2
def PPs (X:Cx)(pos:Pos)(keys:List (Option Expr))(values:List Expr)(trs:List (TE × TE)):Prop:=
 ∀ (pins:List (Addr × Obj)) (s:Shared) (σ:St) (H:Hp) (Q:List (V × V)→Hp→Prop),Inv X pins σ H s→qJe trs σ H Q→
  wpAny (model X.prog X.w) X.A (evalPairs (pairTrees keys values X.env pos)) (fun vs s'=>∃ ps H',Inv X pins σ H' s'∧VV ps vs∧Q ps H') X.xe s
theorem qIb {X:Cx}{pos:Pos}:PPs X pos [] [] []:=fun pins s σ H Q I h=>pairTrees_nil_walk ⟨[],H,I,.nil,h⟩
theorem qC4 {X:Cx}{pos:Pos}{k v:Expr}{ks:List (Option Expr)}{vs:List Expr}{tk tv:TE}{trs:List (TE × TE)}(hk:PE X k tk)(hv:PE X v tv)(hr:PPs X pos ks vs trs):
 PPs X pos (some k::ks) (v::vs) ((tk,tv)::trs):=fun pins s σ H Q I h=>
 pairTrees_cons_walk (thn (hk pins s σ H _ I h) fun u s1 ⟨x,H1,I1,rx,q1⟩=>thn (hv pins s1 σ H1 _ I1 q1) fun w2 s2 ⟨y,H2,I2,ry,q2⟩=>
  thn (hr pins s2 σ H2 _ I2 q2) fun ws s3 ⟨ps,H3,I3,rel,q3⟩=>⟨(x,y)::ps,H3,I3,.cons ⟨rx,ry⟩ rel,q3⟩)
def qAc (kvs more:List (Key × V)):List (Key × V):=more.foldl (fun acc kv=>qE9 acc kv.1 kv.2) kvs
theorem KV.merge:∀ {more:List (Key × V)} {rs:List (Key × Value)} {kvs:List (Key × V)} {vs:List (Key × Value)},KV more rs→KV kvs vs→KV (qAc kvs more) (merged vs rs):=by
 intro more rs kvs vs r
 unfold KV at r
 induction r generalizing kvs vs with
 | nil=>intro q;exact q
 | @cons p q ps qs h t ih=>
  intro r0
  have e:KV (qE9 kvs p.1 p.2) (stored vs q.1 q.2):=by
   have:=r0.put p.1 h.2
   rw [← h.1];exact this
  exact ih e
theorem vU:∀ (more kvs:List (Key × V)),(qAc kvs more).length≤kvs.length+more.length
 | [],kvs=>by show kvs.length≤kvs.length+0;omega
 | p::r,kvs=>by
  have h1:=vU r (qE9 kvs p.1 p.2)
  have h2:=kR kvs p.1 p.2
  show (qAc (qE9 kvs p.1 p.2) r).length≤_
  rw [List.length_cons];omega
theorem qB0 {P:Program}{w:World}:∀ {kvs:List (Key × V)} {ws:List (Value × Value)},VV (kvs.map fun kv=>(kV kv.1,kv.2)) ws→∃ rs,Carries (qy P w) ws rs∧KV kvs rs
 | [],_,r=>by rw [List.map_nil] at r;cases r;exact⟨[],True.intro,.nil⟩
 | p::kvs,_,r=>by
  rw [List.map_cons] at r
  cases r with
  | @cons a b as bs h t=>
   obtain⟨rs,c,q⟩:=qB0 (P:=P) (w:=w) t
   obtain⟨b1,b2⟩:=b
   exact⟨(p.1,b2)::rs,⟨qHd h.1,rfl,c⟩,.cons ⟨rfl,h.2⟩ q⟩
def qPd (trs:List (TE × TE)):TE:=fun σ H Q=>∀ p,H p=none→qJe trs σ (upd H p (.dK [])) fun ps H2=>H2 p=some (.dK [])∧∃ kvs:List (Key × V),ps=kvs.map (fun kv=>(kV kv.1,kv.2))∧kvs.length≤15∧Q (.ref p) (upd H2 p (.dK (qAc [] kvs)))
theorem qJs {X:Cx}{pos:Pos}{keys:List (Option Expr)}{values:List Expr}{trs:List (TE × TE)}(h:PPs X pos keys values trs)(hall:keys.all (·.isSome)=true)(hl:keys.length=values.length)(h0:keys≠[])
 (h15:keys.length≤15):PE X (.Dict keys values pos) (qPd trs):=by
 intro pins s σ H Q I q
 have hn:=I.hok.fresh (Nat.le_refl s.heap.objs.size)
 have I1:=I.laid (a:=s.heap.objs.size) (o:=.dK []) (h':=s.heap.push {cls:=.type "dict",data:=.dict #[]}) (t':=s.toks) (fun _ _ q=>Heap.get?_push_of_some _ q) (Nat.le_refl _) (qGg s.heap I.big)
 refine wpAny_Dict_walk (knd:=qy X.prog X.w) hall hl h0 h15 (thn (h pins _ σ _ _ I1 (q _ hn)) fun ws s2 ⟨ps,H2,I2,rel,e,kvs,ep,lk,q2⟩=>?_)
 subst ep
 obtain⟨rs,c,rk⟩:=qB0 (P:=X.prog) (w:=X.w) rel
 obtain⟨z,hd,vs0,r0,dd⟩:=qNg I2.hok e
 cases r0
 refine⟨rs,c,dd,fun h' dd' hs=>⟨.ref s.heap.objs.size,_,?_,rfl,q2⟩⟩
 have hz:(qAc [] kvs).length≤sizeLine:=by
  have h1:=vU kvs []
  rw [List.length_nil] at h1
  rw [sizeLine_eq];omega
 have he:∃ q,h'.get? s.heap.objs.size=some q:=let ⟨q,_,_,hq,_⟩:=dd';⟨q,hq⟩
 exact qFz I2 (by rw [e];exact True.intro) hs he (qK6 hz hd (rk.merge .nil) dd')
structure M1 (X:Cx)(o:Expr)(m:Str)(apos:Pos)(e:Expr)(cpos:Pos):Prop where
 base:attributeBase o m X.env (eval o X.env)=eval o X.env
 few:((backTo cpos (starEach [e] X.env)).all (fun x=>!x.1) && (backToKw cpos (keywordEach [] X.env)).all (fun x=>x.1.isSome)
  && decide (([e]:List Expr).length+([]:List Keyword).length+(if ([]:List Keyword).isEmpty then 0 else 1) < 30))=true
 line:(apos.endLine == cpos.line)=true
 trees:backTo cpos (starEach [e] X.env)=[(false,eval e X.env)]
structure M2 (X:Cx)(o:Expr)(m:Str)(apos:Pos)(e f:Expr)(cpos:Pos):Prop where
 base:attributeBase o m X.env (eval o X.env)=eval o X.env
 few:((backTo cpos (starEach [e,f] X.env)).all (fun x=>!x.1) && (backToKw cpos (keywordEach [] X.env)).all (fun x=>x.1.isSome)
  && decide (([e,f]:List Expr).length+([]:List Keyword).length+(if ([]:List Keyword).isEmpty then 0 else 1) < 30))=true
 line:(apos.endLine == cpos.line)=true
 trees:backTo cpos (starEach [e,f] X.env)=[(false,eval e X.env),(false,eval f X.env)]
section
variable {X : Cx} {pins : List (Addr × Obj)} {σ : St} {H : Hp} {s : Shared} {a : Addr} {y d : V} {u r : Value} {o : Option V} {A : Around} {E : Value → Shared → Prop}
end
section
variable {X : Cx} {o e f : Expr} {apos cpos : Pos} {td ty tx : TE}
end
section
variable {X : Cx} {pins : List (Addr × Obj)} {σ : St} {H : Hp} {s : Shared} {a : Addr} {kvs : List (Key × V)} {A : Around} {E : Value → Shared → Prop}
end
section
variable {X : Cx} {pins : List (Addr × Obj)} {σ : St} {H : Hp} {s : Shared} {a : Addr} {y : V} {u : Value} {A : Around} {E : Value → Shared → Prop}
end
end L2
namespace Att
open PySem PySem.W PySem.Calls PyProof.Rows
section
variable {prog : Program} {w : World} {A : Around} {E : Value → Shared → Prop} {s : Shared} {K : Frag}
end
end Att
namespace L2
open PySem PySem.Spec PyProof.Rows
end L2
namespace L2
open PySem PySem.Spec PyProof.Rows
end L2
namespace L2
open PySem PySem.Spec PyProof.Rows
section
variable {P : Program} {w : World} {K : PySem.W.Frag} {mg : Str → Option Value} {base : Heap}
end
section
variable {X : Cx}
end
section
variable {κ : Type} [DecidableEq κ]
end
end L2
namespace Mt
theorem qMt (a b:Int):a.fmod b=a - b*a.fdiv b:=by
 have:=Int.fmod_add_mul_fdiv a b
 omega
theorem qGh (a b:Int):Int.gcd b (a.fmod b)=Int.gcd a b:=by
 apply Nat.dvd_antisymm
 · refine Int.dvd_gcd ?_ (Int.gcd_dvd_left b (a.fmod b))
   have h1:((Int.gcd b (a.fmod b):Nat):Int) ∣ b:=Int.gcd_dvd_left ..
   have h2:((Int.gcd b (a.fmod b):Nat):Int) ∣ a.fmod b:=Int.gcd_dvd_right ..
   have h3:=Int.dvd_add h2 (Int.dvd_trans h1 (Int.dvd_mul_right b (a.fdiv b)))
   have e:a.fmod b+b*a.fdiv b=a:=Int.fmod_add_mul_fdiv a b
   rwa [e] at h3
 · refine Int.dvd_gcd (Int.gcd_dvd_right ..) ?_
   rw [qMt]
   exact Int.dvd_sub (Int.gcd_dvd_left ..) (Int.dvd_trans (Int.gcd_dvd_right ..) (Int.dvd_mul_right ..))
theorem qI9 (a b:Int)(h:b≠0):(a.fmod b).natAbs < b.natAbs:=by
 rcases Int.lt_or_gt_of_ne h with h | h
 · have h1:=Int.fmod_lt_of_pos (-a) (show 0 < -b by omega)
   have h2:=Int.fmod_nonneg_of_pos (-a) (show 0 < -b by omega)
   rw [Int.neg_fmod_neg] at h1 h2
   omega
 · have h1:=Int.fmod_lt_of_pos a h
   have h2:=Int.fmod_nonneg_of_pos a h
   omega
def sg (t b:Int):Int:=if b < 0 then -((Int.gcd t b:Nat):Int) else ((Int.gcd t b:Nat):Int)
def ja (t b:Int):Int:=t.fdiv (sg t b)
def jN (t b:Int):Int:=b.fdiv (sg t b)
theorem vh {t b:Int}(h:b≠0):0 < Int.gcd t b:=by
 rcases Nat.eq_zero_or_pos (Int.gcd t b) with z | z
 · rw [Int.gcd_eq_zero_iff] at z
   exact absurd z.2 h
 · exact z
theorem qOk {t b:Int}(h:b≠0):sg t b≠0:=by
 have:=vh (t:=t) h
 unfold sg;split <;> omega
theorem qKg (t b:Int):sg t b ∣ t:=by
 unfold sg;split
 · exact Int.neg_dvd.mpr (Int.gcd_dvd_left ..)
 · exact Int.gcd_dvd_left ..
theorem qKi (t b:Int):sg t b ∣ b:=by
 unfold sg;split
 · exact Int.neg_dvd.mpr (Int.gcd_dvd_right ..)
 · exact Int.gcd_dvd_right ..
theorem qGr (t b:Int):(sg t b).natAbs=Int.gcd t b:=by
 unfold sg;split <;> omega
theorem qKp (t b:Int):ja t b*sg t b=t:=Int.fdiv_mul_cancel (qKg t b)
theorem qIw (t b:Int):jN t b*sg t b=b:=Int.fdiv_mul_cancel (qKi t b)
theorem jk {t b:Int}(h:b≠0):0 < jN t b:=by
 have e:=qIw t b
 have g:=vh (t:=t) h
 by_cases hb:b < 0
 · have s:sg t b= -((Int.gcd t b:Nat):Int):=by unfold sg;rw [if_pos hb]
   rw [s] at e
   rcases Int.lt_trichotomy (jN t b) 0 with z | z | z
   · have:=Int.mul_pos_of_neg_of_neg z (show -((Int.gcd t b:Nat):Int) < 0 by omega)
     omega
   · rw [z] at e;omega
   · exact z
 · have s:sg t b=((Int.gcd t b:Nat):Int):=by unfold sg;rw [if_neg hb]
   rw [s] at e
   rcases Int.lt_trichotomy (jN t b) 0 with z | z | z
   · have:=Int.mul_neg_of_neg_of_pos z (show 0 < ((Int.gcd t b:Nat):Int) by omega)
     omega
   · rw [z] at e;omega
   · exact z
theorem qF9 {t b:Int}(h:b≠0):Int.gcd (ja t b) (jN t b)=1:=by
 have e:=Int.gcd_mul_right (ja t b) (sg t b) (jN t b)
 rw [qKp,qIw,qGr] at e
 have g:=vh (t:=t) h
 have e':1*Int.gcd t b=(ja t b).gcd (jN t b)*Int.gcd t b:=by omega
 exact(Nat.eq_of_mul_eq_mul_right g e').symm
theorem jz (t b:Int):ja t b*b=t*jN t b:=by
 have e1:=qKp t b
 have e2:=qIw t b
 calc ja t b*b=ja t b*(jN t b*sg t b):=by rw [e2]
  _=(ja t b*sg t b)*jN t b:=by rw [Int.mul_comm (jN t b),Int.mul_assoc]
  _=t*jN t b:=by rw [e1]
theorem wY {t b:Int}(h:b≠0):(ja t b).natAbs≤t.natAbs:=by
 have e:=congrArg Int.natAbs (qKp t b)
 rw [Int.natAbs_mul,qGr] at e
 have g:=vh (t:=t) h
 rw [← e]
 exact Nat.le_mul_of_pos_right _ g
theorem zC {t b:Int}(h:b≠0):(jN t b).natAbs≤b.natAbs:=by
 have e:=congrArg Int.natAbs (qIw t b)
 rw [Int.natAbs_mul,qGr] at e
 have g:=vh (t:=t) h
 have:=Nat.le_mul_of_pos_right (jN t b).natAbs g
 omega
end Mt
namespace Mt
theorem qLp {p q p' q':Int}(hq:0 < q)(hq':0 < q')(g:Int.gcd p q=1)(g':Int.gcd p' q'=1)(c:p*q'=p'*q):p=p'∧q=q':=by
 have d1:q ∣ q':=by
  have h:q ∣ p*q':=by rw [c];exact Int.dvd_mul_left ..
  have n:q.natAbs ∣ p.natAbs*q'.natAbs:=by
   have:=Int.natAbs_dvd_natAbs.mpr h
   rwa [Int.natAbs_mul] at this
  have co:Nat.Coprime q.natAbs p.natAbs:=by
   show Nat.gcd q.natAbs p.natAbs=1
   rw [Nat.gcd_comm];exact g
  exact Int.natAbs_dvd_natAbs.mp (Nat.Coprime.dvd_of_dvd_mul_left co n)
 have d2:q' ∣ q:=by
  have h:q' ∣ p'*q:=by rw [← c];exact Int.dvd_mul_left ..
  have n:q'.natAbs ∣ p'.natAbs*q.natAbs:=by
   have:=Int.natAbs_dvd_natAbs.mpr h
   rwa [Int.natAbs_mul] at this
  have co:Nat.Coprime q'.natAbs p'.natAbs:=by
   show Nat.gcd q'.natAbs p'.natAbs=1
   rw [Nat.gcd_comm];exact g'
  exact Int.natAbs_dvd_natAbs.mp (Nat.Coprime.dvd_of_dvd_mul_left co n)
 have e:q=q':=by
  have h1:=Int.le_of_dvd hq' d1
  have h2:=Int.le_of_dvd hq d2
  omega
 subst e
 exact⟨Int.eq_of_mul_eq_mul_right (by omega) c,rfl⟩
theorem qJf {t b p q:Int}(h:b≠0)(hq:0 < q)(g:Int.gcd p q=1)(c:p*b=t*q):ja t b=p∧jN t b=q:=by
 have e:=jz t b
 have k:ja t b*q=p*jN t b:=by
  have:(ja t b*q)*b=(p*jN t b)*b:=by
   calc (ja t b*q)*b=(ja t b*b)*q:=by rw [Int.mul_assoc,Int.mul_comm q b,← Int.mul_assoc]
    _=(t*jN t b)*q:=by rw [e]
    _=(t*q)*jN t b:=by rw [Int.mul_assoc,Int.mul_comm (jN t b) q,← Int.mul_assoc]
    _=(p*b)*jN t b:=by rw [c]
    _=(p*jN t b)*b:=by rw [Int.mul_assoc,Int.mul_comm b,← Int.mul_assoc]
  exact Int.eq_of_mul_eq_mul_right h this
 exact qLp (jk h) hq (qF9 h) g k
theorem qGo {p q:Int}(hq:0 < q)(g:Int.gcd p q=1):ja p q=p∧jN p q=q:=qJf (by omega) hq g rfl
theorem qX {p q:Int}(hq:0 < q):p.fdiv q*q≤p∧p < (p.fdiv q+1)*q:=by
 have e:=Int.fmod_add_mul_fdiv p q
 have h1:=Int.fmod_nonneg_of_pos p hq
 have h2:=Int.fmod_lt_of_pos p hq
 have c:q*p.fdiv q=p.fdiv q*q:=Int.mul_comm ..
 have d:(p.fdiv q+1)*q=p.fdiv q*q+q:=by rw [Int.add_mul,Int.one_mul]
 omega
end Mt
namespace Mt
theorem vp {A B C D:Int}(hB:0 < B)(hD:0 < D)(h:A*D=C*B):A.fdiv B=C.fdiv D:=by
 obtain⟨h1,h2⟩:=qX (p:=A) hB
 obtain⟨h3,h4⟩:=qX (p:=C) hD
 generalize A.fdiv B=f at h1 h2 ⊢
 generalize C.fdiv D=g at h3 h4 ⊢
 have k1:f*B*D≤A*D:=Int.mul_le_mul_of_nonneg_right h1 (by omega)
 have k2:C*B < (g+1)*D*B:=Int.mul_lt_mul_of_pos_right h4 hB
 have k3:g*D*B≤C*B:=Int.mul_le_mul_of_nonneg_right h3 (by omega)
 have k4:A*D < (f+1)*B*D:=Int.mul_lt_mul_of_pos_right h2 hD
 have p:=Int.mul_pos hB hD
 have e1:f*(B*D) < (g+1)*(B*D):=by grind
 have e2:g*(B*D) < (f+1)*(B*D):=by grind
 have:=Int.lt_of_mul_lt_mul_right e1 (by omega)
 have:=Int.lt_of_mul_lt_mul_right e2 (by omega)
 omega
def plP (p q r s k:Int):Int:=ja (p*s+k*r*q) (q*s)
def plQ (p q r s k:Int):Int:=jN (p*s+k*r*q) (q*s)
theorem qLi {p q r s k:Int}(hq:0 < q)(hs:0 < s):0 < plQ p q r s k:=jk (Int.ne_of_gt (Int.mul_pos hq hs))
theorem qKb (p q r s k:Int):plP p q r s k*(q*s)=(p*s+k*r*q)*plQ p q r s k:=jz _ _
theorem qLl {p q r s k:Int}(hq:0 < q)(hs:0 < s):(plP p q r s k).natAbs≤(p*s+k*r*q).natAbs:=wY (Int.ne_of_gt (Int.mul_pos hq hs))
theorem qL4 {p q r s k:Int}(hq:0 < q)(hs:0 < s):(plQ p q r s k).natAbs≤(q*s).natAbs:=zC (Int.ne_of_gt (Int.mul_pos hq hs))
end Mt
namespace Mt
def InR (N D m:Int):Prop:=0≤N∧N < m*D
theorem vX {N D m:Int}(hD:0 < D):InR N D m↔(0≤N.fdiv D∧N.fdiv D < m):=by
 obtain⟨h1,h2⟩:=qX (p:=N) hD
 generalize N.fdiv D=f at h1 h2 ⊢
 unfold InR
 constructor
 · rintro ⟨a,b⟩
   constructor
   · have:0*D < (f+1)*D:=by rw [Int.zero_mul];omega
     have:=Int.lt_of_mul_lt_mul_right this (by omega)
     omega
   · exact Int.lt_of_mul_lt_mul_right (a:=D) (by omega) (by omega)
 · rintro ⟨a,b⟩
   constructor
   · have:=Int.mul_nonneg a (by omega:0≤D)
     omega
   · have:(f+1)*D≤m*D:=Int.mul_le_mul_of_nonneg_right (by omega) (by omega)
     omega
theorem qD8 {X Y E D m:Int}(hE:0 < E)(hD:0 < D)(h:X*D=Y*E):InR X E m↔InR Y D m:=by
 rw [vX hE,vX hD,vp hE hD h]
def xF (N R D m:Int):Int:=
 if R=0 then 1000000 else if ¬ (0≤N.fdiv D∧N.fdiv D < m) then 0
 else if 1000000 < (if R < 0 then N.fdiv (-R)+1 else -((N - m*D).fdiv R)) then 1000000 else (if R < 0 then N.fdiv (-R)+1 else -((N - m*D).fdiv R))
theorem qKa {N R D m:Int}(hR:R < 0)(h:InR N D m):1≤N.fdiv (-R)+1∧(∀ j,0≤j→j < N.fdiv (-R)+1→InR (N+j*R) D m)∧¬ InR (N+(N.fdiv (-R)+1)*R) D m:=by
 obtain⟨h1,h2⟩:=qX (p:=N) (q:=-R) (by omega)
 have f0:0≤N.fdiv (-R):=Int.fdiv_nonneg h.1 (by omega)
 generalize N.fdiv (-R)=f at h1 h2 f0 ⊢
 refine⟨by omega,fun j j0 j1=>?_,?_⟩
 · have k1:j*(-R)≤f*(-R):=Int.mul_le_mul_of_nonneg_right (by omega) (by omega)
   have k2:0≤j*(-R):=Int.mul_nonneg j0 (by omega)
   have e:j*R= -(j*(-R)):=by grind
   obtain⟨a,b⟩:=h
   exact⟨by omega,by omega⟩
 · intro z
   have e:(f+1)*R= -((f+1)*(-R)):=by grind
   have:=z.1
   omega
theorem qJ7 {N R D m:Int}(hR:0 < R)(h:InR N D m):1≤ -((N - m*D).fdiv R)∧(∀ j,0≤j→j < -((N - m*D).fdiv R)→InR (N+j*R) D m)∧¬ InR (N+ -((N - m*D).fdiv R)*R) D m:=by
 obtain⟨h1,h2⟩:=qX (p:=N - m*D) hR
 obtain⟨a,b⟩:=h
 generalize (N - m*D).fdiv R=f at h1 h2 ⊢
 have f0:f < 0:=by
  have:f*R < 0*R:=by rw [Int.zero_mul];omega
  exact Int.lt_of_mul_lt_mul_right this (by omega)
 refine⟨by omega,fun j j0 j1=>?_,?_⟩
 · have k1:(j+f+1)*R≤0*R:=Int.mul_le_mul_of_nonneg_right (by omega) (by omega)
   have k2:0≤j*R:=Int.mul_nonneg j0 (by omega)
   have e:(j+f+1)*R=j*R+(f+1)*R:=by grind
   rw [Int.zero_mul] at k1
   exact⟨by omega,by omega⟩
 · intro z
   have:=z.2
   have e:-f*R= -(f*R):=by grind
   omega
theorem qLs {N R D m:Int}(hD:0 < D)(h0:R=0→InR N D m):0≤xF N R D m∧xF N R D m≤1000000∧(∀ j,0≤j→j < xF N R D m→InR (N+j*R) D m)∧(xF N R D m < 1000000→¬ InR (N+xF N R D m*R) D m)∧(R=0→xF N R D m=1000000):=by
 unfold xF
 by_cases hR:R=0
 · rw [if_pos hR]
   refine⟨by decide,by decide,fun j _ _=>?_,fun z=>absurd z (by decide),fun _=>rfl⟩
   rw [hR,Int.mul_zero,Int.add_zero]
   exact h0 hR
 rw [if_neg hR]
 by_cases hi:InR N D m
 · rw [if_neg (by rw [Classical.not_not];exact(vX hD).mp hi)]
   have key:∀ g:Int,1≤g→(∀ j,0≤j→j < g→InR (N+j*R) D m)→¬ InR (N+g*R) D m→
    0≤(if 1000000 < g then 1000000 else g)∧(if 1000000 < g then 1000000 else g)≤1000000∧(∀ j,0≤j→j < (if 1000000 < g then 1000000 else g)→InR (N+j*R) D m)∧((if 1000000 < g then 1000000 else g) < 1000000→¬ InR (N+(if 1000000 < g then 1000000 else g)*R) D m):=by
    intro g g1 g2 g3
    by_cases hg:1000000 < g
    · rw [if_pos hg]
      exact⟨by decide,by decide,fun j a b=>g2 j a (by omega),fun z=>absurd z (by decide)⟩
    · rw [if_neg hg]
      exact⟨by omega,by omega,g2,fun _=>g3⟩
   have fin:∀ {A B C D':Prop},A∧B∧C∧D'→A∧B∧C∧D'∧(R=0→(if 1000000 < (if R < 0 then N.fdiv (-R)+1 else -((N - m*D).fdiv R)) then (1000000:Int) else (if R < 0 then N.fdiv (-R)+1 else -((N - m*D).fdiv R)))=1000000):=fun⟨a,b,c,d⟩=>⟨a,b,c,d,fun z=>absurd z hR⟩
   refine fin ?_
   by_cases hn:R < 0
   · rw [if_pos hn]
     obtain⟨a,b,c⟩:=qKa hn hi
     exact key _ a b c
   · rw [if_neg hn]
     obtain⟨a,b,c⟩:=qJ7 (by omega:0 < R) hi
     exact key _ a b c
 · rw [if_pos (by rw [← vX hD];exact hi)]
   refine⟨by decide,by decide,fun j a b=>absurd b (by omega),fun _=>?_,fun z=>absurd z hR⟩
   rw [Int.zero_mul,Int.add_zero]
   exact hi
end Mt
namespace L3
open PySem PySem.Spec PyProof.Rows L2
def CMulB (i j:Int):Prop:=CMul i j∨(i.natAbs < 2 ^ 60000∧j.natAbs < 2 ^ 60000)
theorem vS {i:Int}(h:i.natAbs < 2 ^ 60000):Builtin.Int.intBits i≤2 ^ 20:=by
 unfold Builtin.Int.intBits
 split
 · exact Nat.zero_le _
 · rename_i h0
   have hz:i.natAbs≠0:=by
    intro z
    apply h0
    have:i=0:=by omega
    rw [this];rfl
   have:=(Nat.log2_lt hz).mpr h
   have e:(2:Nat) ^ 20=1048576:=by decide
   omega
theorem CMulB.ok {i j:Int}(h:CMulB i j):IntMulOk i j:=by
 rcases h with h | ⟨h1,h2⟩
 · exact h.ok
 · exact IntMulOk.of_bits (vS h1) (vS h2)
def CDivB (_ j:Int):Prop:=j≠0∧j.natAbs < 2 ^ 8000
theorem CDivB.ok {i j:Int}(h:CDivB i j):Builtin.divisionGoesByPylong i j=false:=by
 refine PyProof.noPylong_of_log2 ?_
 have hz:j.natAbs≠0:=by have:=h.1;omega
 have:=(Nat.log2_lt hz).mpr h.2
 omega
section
variable {X : Cx}
theorem ql:OpR X (binaryOp .Mult) (rI CMulB fun i j=>.int (i*j)):=opI fun _ _ _ _ _ _ _ hc q=>mul_int q hc.ok
theorem qf:OpR X (binaryOp .FloorDiv) (rI CDivB fun i j=>.int (i.fdiv j)):=opI fun _ _ _ _ _ _ _ hc q=>floordiv_int hc.1 q (.inl hc.ok)
theorem qZ:vf X (.builtin "isinstance") (fun xs H Q=>∃ x c t b,xs=[x,c]∧qBw X.K H x t∧
 (∃ n,c= .ty n∧PySem.W.kitOne X.K t (.type n)=some b∨∃ a,c= .ref a∧PySem.W.kitOne X.K t (.ref a)=some b)∧Q (.bl b) H):=by
 intro pins s σ H xs us Q I r h
 obtain⟨x,c,t,b,rfl,ty,hk,q⟩:=h
 obtain⟨u,u',rfl,rx,rc⟩:=qJy r
 obtain⟨n,⟨rfl,e⟩ | ⟨a,rfl,e⟩⟩:=hk
 · cases rc
   exact qEi I rx ty e fun tk=>⟨.bl b,H,I.tok _,rfl,q⟩
 · cases rc
   exact qEi I rx ty e fun tk=>⟨.bl b,H,I.tok _,rfl,q⟩
def qIg (xs ys:List V):Bool:=(List.range (min xs.length ys.length)).all (fun j=>eqV (xs.getD j .non) (ys.getD j .non)) && xs.length == ys.length
theorem qH1 {A:Around}{s:Shared}{xs ys:List V}{us ws:List Value}(r1:Vals xs us)(r2:Vals ys ws)(f1:xs.all zA=true)(f2:ys.all zA=true):
 ∀ j (h1:j < us.toArray.size) (h2:j < ws.toArray.size),SeqAt.EqAt A s us.toArray[j] ws.toArray[j] (eqV (xs.getD j .non) (ys.getD j .non)):=by
 intro j h1 h2
 have l1:=r1.length
 have l2:=r2.length
 rw [List.size_toArray] at h1 h2
 have g1:xs[j]? =some xs[j]:=List.getElem?_eq_getElem (by omega)
 have g2:ys[j]? =some ys[j]:=List.getElem?_eq_getElem (by omega)
 obtain⟨u,e1,q1⟩:=r1.get g1
 obtain⟨w,e2,q2⟩:=r2.get g2
 have d1:xs.getD j .non=xs[j]:=by rw [List.getD_eq_getElem?_getD,g1];rfl
 have d2:ys.getD j .non=ys[j]:=by rw [List.getD_eq_getElem?_getD,g2];rfl
 have c1:us.toArray[j]=u:=by
  have:=(List.getElem?_eq_some_iff.mp e1).2
  simpa using this
 have c2:ws.toArray[j]=w:=by
  have:=(List.getElem?_eq_some_iff.mp e2).2
  simpa using this
 rw [d1,d2,c1,c2]
 exact qGs q1 q2 (List.all_eq_true.mp f1 _ (List.getElem_mem _)) (List.all_eq_true.mp f2 _ (List.getElem_mem _))
inductive qP4 (K:PySem.W.Frag)(neg:Bool)(x:V)(y:V)(H:Hp)(Q:VK):Prop
| mk p q xs ys (_:x= .ref p) (_:y= .ref q) (_:SqT K H p xs) (_:SqT K H q ys) (_:xs.all zA=true) (_:ys.all zA=true) (_:Q (.bl (if neg then !qIg xs ys else qIg xs ys)) H)
theorem qNr (hu:X.A.units < cLine):OpR X (compareOp .Eq) (qP4 X.K false):=by
 intro pins s σ H x y v u Q I rx ry h
 obtain⟨p,q,xs,ys,rfl,rfl,h1,h2,f1,f2,k⟩:=h
 cases rx;cases ry
 obtain⟨us,r1,t1,_⟩:=I.tuple h1
 obtain⟨ws,r2,t2,_⟩:=I.tuple h2
 have l1:us.toArray.size=xs.length:=by rw [List.size_toArray];exact r1.length.symm
 have l2:ws.toArray.size=ys.length:=by rw [List.size_toArray];exact r2.length.symm
 refine SeqAt.eq_tupleAt t1 t2 hu (qH1 r1 r2 f1 f2) ?_
 rw [l1,l2]
 exact⟨.bl (qIg xs ys),H,I,rfl,k⟩
end
def q9 (X:Cx)(scope:Scope)(cl:List (Str × Addr))(C:Addr)(N:List Str)(s:Shared)(H:Hp)(fp:List Addr):Cx:=
 {X with N:=N,s₀:=s,H₀:=H,env:=compEnvC scope cl C X.env,outer:=X.stack,stack:=X.stack,ex:=fp,fn:=fun _=>false,pn:=[]}
def vG (js:List Nat)(σ:L2.St):L2.St:=js.map fun j=>(σ[j]?).join
theorem qHu {prog:Program}{w:World}{A:Around}{R:Result→Shared→Prop}{s0:Shared}{el tg src:Expr}{cs:List Expr}{sco:Scope}{po:Pos}{itv lst:Value}{en:Env}(J:Nat→Shared→Prop)
 (step:∀ k st,J k st→wpAny (model prog w) A (pyNext itv) (fun got s1=>match got with
   | none=>R (.ok .next) s1
   | some u=>wpAny (model prog w) A (letOwnedTupleGo tg itv u) (fun _ s1'=>wpAny (model prog w) A (assign tg en u) (fun _ s2=>
    wpAny (model prog w) A (forIn cs true fun c r=>if r=true then do let ok ← isTrue c en (eval c en);pure (ForInStep.yield ok) else pure (ForInStep.yield r)) (fun good s3=>
     if good=true then wpAny (model prog w) A (eval el en) (fun y s4=>
      wpAny (model prog w) A (call (.builtin "list.append") [lst,y]) (fun _ s5=>∃ j,j < k∧J j s5) (notedBy (model prog w) A en fun x z=>R (.error x) z) s4) (notedBy (model prog w) A en fun x z=>R (.error x) z) s3
     else ∃ j,j < k∧J j s3) (notedBy (model prog w) A en fun x z=>R (.error x) z) s2) (notedBy (model prog w) A en fun x z=>R (.error x) z) s1') (notedBy (model prog w) A en fun x z=>R (.error x) z) s1) (notedBy (model prog w) A en fun x z=>R (.error x) z) st)
 (k:Nat) (hJ:J k s0):codeAny (model prog w) A (.compLoop (.ListComp el [⟨tg,src,cs,0⟩] sco po) 0 itv lst en) R s0:=by
 refine codeAny_loop rfl J (fun k st hk=>?_) k hJ
 show wpAny _ A ((compTurn (.ListComp el [⟨tg,src,cs,0⟩] sco po) 0 itv lst en).onRaise (fun x=>do noteFrame x en;theTreesLotGoes x)) _ _ st
 refine wpAny_noted ?_
 rw [compTurn_list]
 refine wpAny_bind (wpAny_standAt (wpAny_bind (wpAny_mono (step k st hk) (fun got s1 g1=>?_) fun _ _ q=>q)))
 match got with
 | none=>exact wpAny_pure g1
 | some u=>
  refine wpAny_bind (wpAny_mono g1 (fun _ s1' g2=>?_) fun _ _ q=>q)
  refine wpAny_bind (wpAny_mono g2 (fun _ s2 g3=>wpAny_bind (wpAny_mono g3 (fun good s3 g4=>?_) fun _ _ q=>q)) fun _ _ q=>q)
  match good with
  | false=>exact wpAny_pure ⟨rfl,g4⟩
  | true=>
   refine wpAny_bind (wpAny_bind (wpAny_mono g4 (fun y s4 g5=>?_) fun _ _ q=>q))
   exact wpAny_bind (wpAny_mono g5 (fun _ s5 g6=>wpAny_pure (wpAny_pure ⟨rfl,g6⟩)) fun _ _ q=>q)
structure COk (X:Cx)(scope:Scope)(cl:List (Str × Addr))(iter:Expr)(xs ys:List Str)(js:List Nat):Prop where
 clos:closureFor scope X.env=pure cl
 cls:cl.map (fun p=>X.env.cells.lookup p.1)=cl.map (fun p=>some p.2)
 cell:(scope.names.all fun p=>p.2 != .cell)=true
 kind:scope.kind= .function
 names:(scope.names.all fun p=>p.2 != .local || scope.names.lookup p.1 == some .local)=true
 has:((relabel scope X.env).names.all fun p=>(p.2 != .cell && p.2 != .free) || (cl.lookup p.1).isSome)=true
 hjs:js.map (fun j=>X.N[j]?)=ys.map some
 hys:(ys.all fun y=>((relabel scope X.env).names.lookup y == some .cell || (relabel scope X.env).names.lookup y == some .free) && (X.env.scope.names.lookup y == some .cell || X.env.scope.names.lookup y == some .free))=true
 set:∀ x,foldedSetIterable iter X.env x=pure x
 nd:(xs++ys).Nodup
def PTs (X:Cx)(cs:List Expr)(t:TT):Prop:=
 ∀ (pins:List (Addr × Obj)) (s:Shared) (σ:L2.St) (H:Hp) (Q:Bool→Hp→Prop),Inv X pins σ H s→t σ H Q→wpAny (model X.prog X.w) X.A (forIn cs true fun c r=>if r=true then do let ok ← isTrue c X.env (eval c X.env);pure (ForInStep.yield ok) else pure (ForInStep.yield r)) (TP X pins σ Q) X.xe s
theorem qIv {X:Cx}:PTs X [] fun _ H Q=>Q true H:=fun _ _ _ H _ I h=>wpAny_pure ⟨H,I,h⟩
theorem qF3 {X:Cx}{c:Expr}{t:TT}(hc:PT X c t):PTs X [c] t:=fun pins s σ H Q I h=>by
 simp only [List.forIn_cons,List.forIn_nil,if_true]
 exact wpAny_bind (wpAny_bind (thn (hc pins s σ H Q I h) fun _ _ q=>wpAny_pure (wpAny_pure q)))
def kA (n:Nat)(js:List Nat)(g:TG)(tc:TT)(te:TE)(σ:L2.St)(Q:VK)(J:It)(H1:Hp):Prop:=∃ W:Nat→Nat→List V→Hp→Prop,(∃ m,W 0 m [] H1)∧∀ i m acc H2,W i m acc H2→
 acc.length < sizeLine∧((J.stop i H2∧∀ D,H2 D=none→Q (.ref D) (upd H2 D (.lst acc)))∨
  (J.go i H2∧∀ x H3,J.yld i H2 x H3→g x (List.replicate n none++vG js σ) H3 fun σ' H4=>∃ vs:L2.St,σ'=vs++vG js σ∧vs.length=n∧tc σ' H4 fun ok H5=>if ok=true then te σ' H5 fun v H6=>∃ m',m' < m∧W (i+1) m' (acc++[v]) H6 else ∃ m',m' < m∧W (i+1) m' acc H5))
theorem qBt {X:Cx}{elt iter tg:Expr}{cs:List Expr}{scope:Scope}{cl:List (Str × Addr)}{pos:Pos}{wi:TI}{g:TG}{tc:TT}{te:TE}{xs ys:List Str}{js:List Nat}{E:It→Hp→Prop}
 (hcm:X.calm=true) (hi:PI X tg iter wi) (hg:∀ C s H fp,PG (q9 X scope cl C (xs++ys) s H fp).nox tg g) (hc:∀ C s H fp,PTs (q9 X scope cl C (xs++ys) s H fp).nox cs tc) (he:∀ C s H fp,PE (q9 X scope cl C (xs++ys) s H fp).nox elt te)
 (hC:COk X scope cl iter xs ys js)
 {pins:List (Addr × Obj)} {s:Shared} {σ:L2.St} {H:Hp} (R:V→Hp→Prop) (use:Option (Value→Sem Unit)) (Q:Value→Shared→Prop) (I:Inv X pins σ H s) (h:wi σ H E) (hE:∀ J H1,E J H1→kA xs.length js g tc te σ R J H1)
 (fin:∀ (v:V) (u:Value) (H':Hp) (s':Shared) (C:Addr),Inv X pins σ H' s'→RelV v u→R v H'→(∃ m,s'.heap.Ns C m)→H' C=none→C≠X.env.locals→X.s₀.heap.objs.size≤C→(∀ y c,X.env.cells.lookup y=some c→c≠C)→(∀ p∈X.pn++pins,p.1≠C)→
   compPost (model X.prog X.w) X.A X.xe use Q u C (.ok .next) s'):
 wpAny (model X.prog X.w) X.A (comprehension (.ListComp elt [⟨tg,iter,cs,0⟩] scope pos) scope X.env (firstIterPos [⟨tg,iter,cs,0⟩] pos) (newList []) false (eval iter X.env) use) Q X.xe s:=by
 obtain⟨hclos,hcl,hcell,hkind,hnames,hhas,hjs,hys,hs,hnd⟩:=hC
 have hcell':∀ y∈scope.names,y.2≠ .cell:=fun y hy=>by
  have:=List.all_eq_true.mp hcell y hy
  simpa using this
 have hnm:∀ y∈scope.names,y.2= .local→scope.names.lookup y.1=some .local:=fun y hy e=>by
  have:=List.all_eq_true.mp hnames y hy
  rw [e] at this
  simpa using this
 have clX:∀ y c,cl.lookup y=some c→X.env.cells.lookup y=some c:=fun y c e=>by
  have hm:=PySem.mem_of_lookup e
  obtain⟨k,hk,e2⟩:=List.mem_iff_getElem.mp hm
  have:=congrArg (fun l=>l[k]?) hcl
  simp only [List.getElem?_map,List.getElem?_eq_getElem hk,Option.map_some,e2] at this
  exact Option.some.inj this
 have has:∀ y,((relabel scope X.env).names.lookup y=some .cell∨(relabel scope X.env).names.lookup y=some .free)→∃ c,cl.lookup y=some c:=fun y hy=>by
  have key:∀ k:NameKind,(k= .cell∨k= .free)→(relabel scope X.env).names.lookup y=some k→∃ c,cl.lookup y=some c:=fun k hk e=>by
   have:=List.all_eq_true.mp hhas _ (PySem.mem_of_lookup e)
   rcases hk with rfl | rfl <;> exact Option.isSome_iff_exists.mp (by simpa using this)
  rcases hy with e | e
  · exact key _ (.inl rfl) e
  · exact key _ (.inr rfl) e
 refine wpAny_comprehension_free (use:=use) rfl hs hclos hkind hnm (thn (hi pins s σ H _ I h) fun v s1 h1=>thn h1 fun itv s2 h2=>?_)
 obtain⟨it,fp,tn,J,H2,e,I2,T,st2,f2,hw⟩:=h2
 obtain⟨W,⟨m0,w0⟩,turn⟩:=hE J H2 hw
 subst e
 refine wpAny_newObj_type (wpAny_newFunctionEnv hcell' (by intro y hy;simp at hy) (fun h₁ hns hsb=>?_) hkind)
 dsimp only at hns hsb ⊢
 generalize hG:s2.heap.push {cls:=.type "list",dict:=none,data:=.seq ([]:List Value).toArray}=G at hns hsb ⊢
 have szG:G.objs.size=s2.heap.objs.size+1:=by rw [← hG,Heap.size_push]
 have inG:∀ b o,s2.heap.get? b=some o→G.get? b=some o:=fun b o e=>hG ▸ Heap.get?_push_of_some _ e
 have ltC:∀ b o,s2.heap.get? b=some o→b≠G.objs.size:=fun b o e=>by rw [szG];exact Nat.ne_of_lt (Nat.lt_succ_of_lt (Heap.lt_size e))
 have ltD:∀ b o,s2.heap.get? b=some o→b≠s2.heap.objs.size:=fun b o e=>Nat.ne_of_lt (Heap.lt_size e)
 have DC:s2.heap.objs.size≠G.objs.size:=by rw [szG];omega
 have old:∀ b o,s2.heap.get? b=some o→h₁.get? b=some o:=fun b o e=>hsb.extBut b o (ltC b o e) (Heap.get?_push_of_some _ (inG b o e))
 have hacc:h₁.PlainList s2.heap.objs.size #[]:=⟨_,hsb.extBut _ _ DC (Heap.get?_push_of_some _ (hG ▸ Heap.get?_push_size _ rfl))⟩
 have fpO:∀ b∈fp,∃ o,s2.heap.get? b=some o:=fun b hb=>let ⟨o,e,_⟩:=T.obj 0 _ st2 b hb;⟨o,e⟩
 have stkO:∀ b∈frs X.stack,∃ o,s2.heap.get? b=some o:=fun b hb=>by
  obtain⟨_,o,ho,_⟩:=I2.stack.mem hb
  exact⟨o,ho⟩
 have freshH:∀ a,s2.heap.objs.size≤a→H2 a=none:=fun a ha=>I2.hok.fresh ha
 have stkFp:∀ b∈fp,b ∉ frs X.stack:=fun b hb z=>by
  rcases List.mem_cons.mp (I2.stkSub b z) with q | q
  · exact(f2 b hb).2.1 q
  · exact(f2 b hb).2.2.1 q
 have okX:(q9 X scope cl G.objs.size (xs++ys) s2 H2 fp).Ok:={
  mod:=I2.ok.mod
  kind:=hkind
  glob:=I2.ok.glob
  blt:=I2.ok.blt
  above:=by show s2.heap.objs.size≤G.objs.size;rw [szG];omega
  inj:=fun y z c e1 e2=>I2.ok.inj y z c (clX y c e1) (clX z c e2)
  has:=fun y hy=>has y hy
  cab:=fun y c e _=>absurd (show false=true from e) Bool.false_ne_true
  hd:=I2.ok.hd
  frames:=I2.ok.frames
  stk:=.inl rfl
  exf:=fun b hb=>by
   obtain⟨o,e⟩:=fpO b hb
   exact⟨ltC b o e,fun y c e1=>(f2 b hb).2.2.2.2.1 y c (clX y c e1)⟩
  bs:=I2.bs
  bsz:=Nat.le_trans I2.ok.bsz I2.sz
  noex:=fun b o e hb=>by
   rcases (f2 b hb).2.2.2.1 with q | q
   · exact I2.ok.noex b o e q
   · exact Nat.lt_irrefl _ (Nat.lt_of_lt_of_le (Nat.lt_of_lt_of_le (Heap.lt_size e) I2.ok.bsz) q)
  exfs:=stkFp
  funs:=I2.stack
  frf:=I2.stkFree}
 have lenY:js.length=ys.length:=by have:=congrArg List.length hjs;simpa using this
 have I0:Inv (q9 X scope cl G.objs.size (xs++ys) s2 H2 fp) [] (List.replicate xs.length none++vG js σ) H2 {s2 with heap:=h₁,toks:=s2.toks+([]:List (Str × Value)).length}:=by
  refine⟨okX,rfl,I2.bare,Un.kept old,⟨_,hns,fun k y v e1 e2 e3=>?_⟩,fun y c e=>?_,freshH _ (by show s2.heap.objs.size≤G.objs.size;rw [szG];omega),fun y c e=>I2.freeC y c (clX y c e),fun p hp=>absurd (show p∈([]:List (Addr × Obj)) from hp) (by simp),I2.hok.kept old,?_⟩
  · obtain⟨k,e1',e2'⟩:∃ k,ys[k]? =some y∧(vG js σ)[k]? =some (some v):=by
     have e1:(xs++ys)[k]? =some y:=e1
     by_cases hk:k < xs.length
     · rw [List.getElem?_append_left (by simpa using hk),List.getElem?_replicate,if_pos hk] at e2
       cases e2
     · rw [List.getElem?_append_right (by simpa using hk),List.length_replicate] at e2
       rw [List.getElem?_append_right (Nat.le_of_not_lt hk)] at e1
       exact⟨_,e1,e2⟩
    unfold vG at e2'
    rw [List.getElem?_map] at e2'
    cases ej:js[k]? with
    | none=>rw [ej] at e2';cases e2'
    | some j=>
     rw [ej] at e2'
     have e4:(σ[j]?).join=some v:=Option.some.inj e2'
     have e5:σ[j]? =some (some v):=by
      cases q:σ[j]? with
      | none=>rw [q] at e4;cases e4
      | some o=>rw [q] at e4;exact congrArg some e4
     have e6:X.N[j]? =some y:=by
      have:=congrArg (fun l=>l[k]?) hjs
      simp only [List.getElem?_map,ej,e1',Option.map_some] at this
      exact Option.some.inj this
     have hy:=List.all_eq_true.mp hys y (List.mem_of_getElem? e1')
     simp only [Bool.and_eq_true,Bool.or_eq_true,beq_iff_eq] at hy
     obtain⟨ky,ko⟩:=hy
     obtain⟨m,hn,hl⟩:=I2.loc
     obtain⟨u,r,lk⟩:=hl j y v e6 e5 (.inr ko)
     refine⟨u,r,.inr ⟨ky,?_⟩⟩
     rcases lk with ⟨kl,_⟩ | ⟨_,c,ec,hc⟩
     · have kl':X.env.scope.names.lookup y=some .local:=kl
       rw [kl'] at ko
       rcases ko with z | z <;> cases z
     · obtain⟨c',ec'⟩:=has y ky
       have:=clX y c' ec'
       rw [ec] at this
       cases this
       obtain⟨o,ho,hd⟩:=hc
       exact⟨c,ec',o,old c o ho,hd⟩
  · obtain⟨v,o,ho,hd⟩:=I2.cell y c (clX y c e)
    exact⟨v,o,old c o ho,hd⟩
  · show (List.replicate xs.length none++vG js σ).length=(xs++ys).length
    simp [vG,lenY]
 have loop:∀ s3:Shared,s3={s2 with heap:=h₁,toks:=s2.toks+([]:List (Str × Value)).length}→
  codeAny (model X.prog X.w) X.A (.compLoop (.ListComp elt [⟨tg,iter,cs,0⟩] scope pos) 0 (.ref it) (.ref s2.heap.objs.size) (compEnvC scope cl G.objs.size X.env))
   (compPost (model X.prog X.w) X.A X.xe use Q (.ref s2.heap.objs.size) G.objs.size) s3:=by
  rintro s3 rfl
  have stat:∀ {H':Hp} (o:Obj),(∀ b∈fp,H' b=none)→∀ b∈fp,qKd (q9 X scope cl G.objs.size (xs++ys) s2 H2 fp) [(s2.heap.objs.size,o)] H' b:=fun {H'} o hn b hb=>by
   obtain⟨ob,eb⟩:=fpO b hb
   refine⟨hn b hb,ltC b ob eb,stkFp b hb,.inl hb,fun y c e1=>(f2 b hb).2.2.2.2.1 y c (clX y c e1),fun p hp=>?_⟩
   have hp':p=(s2.heap.objs.size,o):=by
    have:p∈[(s2.heap.objs.size,o)]:=hp
    simpa using this
   rw [hp']
   exact Ne.symm (ltD b ob eb)
  refine qHu (fun n s'=>∃ i acc its H3,Inv (q9 X scope cl G.objs.size (xs++ys) s2 H2 fp) [] (List.replicate xs.length none++vG js σ) H3 s'∧tn i s'.heap∧(∀ b∈fp,H3 b=none)∧s'.heap.PlainList s2.heap.objs.size its.toArray∧Vals acc its∧H3 s2.heap.objs.size=none∧W i n acc H3)
   ?_ m0 ⟨0,[],[],H2,I0,T.keep _ _ _ st2 fun b _ o e=>old b o e,fun b hb=>(f2 b hb).1,hacc,.nil,freshH _ (Nat.le_refl _),w0⟩
  rintro n s3 ⟨i,acc,its,H3,I3,st3,fr3,⟨nn,pl3⟩,va3,hD3,w3⟩
  obtain⟨hlen,cs⟩:=turn i n acc H3 w3
  have hal:acc.length=its.length:=va3.length
  have nD:s2.heap.objs.size ∉ frs X.stack:=fun z=>by
   obtain⟨o,e⟩:=stkO _ z
   exact ltD _ o e rfl
  have I3p:Inv (q9 X scope cl G.objs.size (xs++ys) s2 H2 fp) [(s2.heap.objs.size,{cls:=.type "list",data:=.seq its.toArray nn})] (List.replicate xs.length none++vG js σ) H3 s3:=I3.pins_of fun p hp=>by
   have e:p=(s2.heap.objs.size,{cls:=.type "list",data:=.seq its.toArray nn}):=by simpa using hp
   subst e
   exact⟨pl3,hD3,DC,nD,fun v z=>nomatch z⟩
  rcases cs with ⟨stop,q⟩ | ⟨go,step⟩
  · refine thn (T.done (q9 X scope cl G.objs.size (xs++ys) s2 H2 fp) rfl rfl rfl hcm i _ s3 _ H3 _ I3p (stat _ fr3) st3 stop) fun r s4 hr=>?_
    obtain⟨hr,I4⟩:=hr
    subst hr
    have pl4:=(I4.pin (s2.heap.objs.size,{cls:=.type "list",data:=.seq its.toArray nn}) (by simp)).1
    obtain⟨m,hn,_⟩:=I4.loc
    have B:=I4.base
    have un':Un (frs X.stack) fp H2 (upd H3 s2.heap.objs.size (.lst acc)) s2.heap s4.heap:=by
     refine⟨fun b o e n hb hx=>B.keep b o e n hb hx,fun b o e n hb hx=>B.slot b o e n hb hx,fun b o e n hx=>?_,fun b o e hx=>B.there b o e hx,fun b xs e=>?_,fun b o u e=>?_,fun b ps e=>?_⟩
     · rw [qU (ltD b o e)]
       exact B.free b o e n hx
     · have z:=B.tups b xs e
       rw [qU (qS z hD3)]
       exact z
     · have z:=B.frzs b o u e
       rw [qU (qS z hD3)]
       exact z
     · obtain⟨more,z⟩:=B.tbls b ps e
       exact⟨more,by rw [qU (qS z hD3)];exact z⟩
    have freeC4:H3 G.objs.size=none:=I4.free
    have hok':HOk X.prog X.w (upd H3 s2.heap.objs.size (.lst acc)) s4.heap:=fun b u e=>by
     by_cases hb:b=s2.heap.objs.size
     · subst hb
       rw [qF] at e
       cases e
       exact⟨Nat.le_of_lt hlen,its,nn,va3,pl4⟩
     · rw [qU hb] at e
       exact(I4.hok b u e).stay (fun c v hc z=>z) (fun c z=>by rw [qU (qS z hD3)];exact z) fun c xs z=>by rw [qU (qS z hD3)];exact z
    have hch:∀ b∈fp,(b∈X.ex∨X.s₀.heap.objs.size≤b)∧b≠X.env.locals∧(∀ y c,X.env.cells.lookup y=some c→c≠b)∧∀ p∈X.pn++pins,p.1≠b:=fun b hb=>by
     obtain⟨_,z1,_,z3,z4,z5⟩:=f2 b hb
     exact⟨z3,z1,z4,z5⟩
    have I5:=I2.call' (s':=s4) (ch:=fp) I4.os un' hok' I4.bare hch
    refine fin (.ref s2.heap.objs.size) _ _ s4 G.objs.size I5 rfl (q _ hD3) ⟨m,hn⟩ ?_ ?_ ?_ (fun y c e=>?_) fun p hp=>?_
    · rw [qU (Ne.symm DC)];exact freeC4
    · rw [szG];exact Nat.ne_of_gt (Nat.lt_succ_of_lt I2.lt)
    · rw [szG];exact Nat.le_succ_of_le I2.sz
    · obtain⟨v,o,ho,_⟩:=I2.cell y c e
      exact ltC c o ho
    · exact ltC p.1 p.2 (I2.pin p hp).1
  · refine thn (T.item (q9 X scope cl G.objs.size (xs++ys) s2 H2 fp) rfl rfl rfl hcm i _ s3 _ H3 _ I3p (stat _ fr3) st3 go) fun r s4 hr=>?_
    obtain⟨u,hr,h4⟩:=hr
    subst hr
    refine thn h4 fun _ s5 h5=>?_
    obtain⟨v,H5,I5,r5,y5,st5,fr5⟩:=h5
    have I5':=I5.pinned (stat _ fr5) (T.obj _ _ st5)
    refine wpAny_mono (hg G.objs.size s2 H2 fp _ s5 _ H5 v u _ (I5'.wish _) r5 (step v H5 y5)) (fun _ s6 h6=>?_) fun _ _ z=>z.elim
    obtain⟨σ6,H6',I6',vs,eσ,hv,q5⟩:=h6
    subst eσ
    have back:∀ (H7:Hp) (s7:Shared) (σ7:L2.St) (h':Heap) (acc':List V) (its':List Value) (m':Nat),Inv (q9 X scope cl G.objs.size (xs++ys) s2 H2 fp) ([(s2.heap.objs.size,{cls:=.type "list",data:=.seq its.toArray nn})]++qDg fp s5.heap) (vs++vG js σ) H7 s7→
     Heap.SameBut s2.heap.objs.size s7.heap h'→h'.PlainList s2.heap.objs.size its'.toArray→Vals acc' its'→m' < n→W (i+1) m' acc' H7→
     ∃ m,m < n∧∃ i acc its H3,Inv (q9 X scope cl G.objs.size (xs++ys) s2 H2 fp) [] (List.replicate xs.length none++vG js σ) H3 {s7 with heap:=h'}∧tn i h'∧(∀ b∈fp,H3 b=none)∧h'.PlainList s2.heap.objs.size its.toArray∧Vals acc its∧H3 s2.heap.objs.size=none∧W i m acc H3:=by
     intro H7 s7 _ h' acc' its' m' I7 hsb' hp' va' hm' w7
     have pinD:=I7.pin (s2.heap.objs.size,{cls:=.type "list",data:=.seq its.toArray nn}) (by simp)
     have pf:∀ b∈fp,∀ o,s5.heap.get? b=some o→s7.heap.get? b=some o∧H7 b=none:=fun b hb o e=>by
      have z:=I7.pin (b,o) (List.mem_append_right _ (List.mem_append_right _ (vy hb e)))
      exact⟨z.1,z.2.1⟩
     have I8:Inv (q9 X scope cl G.objs.size (xs++ys) s2 H2 fp) [] (List.replicate xs.length none++vG js σ) H7 {s7 with heap:=h'}:=by
      have I7u:Inv (q9 X scope cl G.objs.size (xs++ys) s2 H2 fp) [] (List.replicate xs.length none++vG js σ) H7 s7:=(I7.pins_of (pins':=[]) fun p hp=>absurd hp (by simp)).weak (by simp [hv]) fun k v e=>by
       by_cases hk:k < xs.length
       · rw [List.getElem?_append_left (by simpa using hk),List.getElem?_replicate,if_pos hk] at e
         cases e
       · rw [List.getElem?_append_right (by simpa using hk),List.length_replicate] at e
         rw [List.getElem?_append_right (by rw [hv];exact Nat.le_of_not_lt hk),hv]
         exact e
      refine I7u.turned (t':=s7.toks) (it:=s2.heap.objs.size) (fun b o hb e=>hsb'.extBut b o hb e) pinD.2.1 DC (.inr (Nat.le_refl _)) (fun y c e=>?_) fun p hp=>absurd (show p∈([]:List (Addr × Obj)) from hp) (by simp)
      obtain⟨v,o,ho,_⟩:=I2.cell y c (clX y c e)
      exact ltD c o ho
     refine⟨m',hm',i+1,acc',its',H7,I8,?_,fun b hb=>?_,hp',va',pinD.2.1,w7⟩
     · refine T.keep _ _ _ st5 fun b hb o e=>hsb'.extBut b o ?_ (pf b hb o e).1
       obtain⟨ob,eb⟩:=fpO b hb
       exact ltD b ob eb
     · obtain⟨o,e,_⟩:=T.obj _ _ st5 b hb
       exact(pf b hb o e).2
    refine wpAny_mono (hc G.objs.size s2 H2 fp _ s6 _ _ _ I6' q5) (fun ok s6a h6=>?_) fun _ _ z=>z.elim
    obtain⟨H6,I6a,q6⟩:=h6
    cases ok with
    | false=>
     rw [if_neg (by decide)] at q6 ⊢
     obtain⟨m',hm',w7⟩:=q6
     have I7:=I6a.unwish
     have pinD:=I7.pin (s2.heap.objs.size,{cls:=.type "list",data:=.seq its.toArray nn}) (by simp)
     exact back H6 s6a (List.replicate xs.length none++vG js σ) s6a.heap acc its m' I7 (Heap.SameBut.refl _ _) ⟨nn,pinD.1⟩ va3 hm' w7
    | true=>
     rw [if_pos rfl] at q6 ⊢
     refine wpAny_mono (he G.objs.size s2 H2 fp _ s6a _ H6 _ I6a q6) (fun y s7 h7=>?_) fun _ _ z=>z.elim
     obtain⟨v7,H7,I7,r7,m',hm',w7⟩:=h7
     have I7:=I7.unwish
     have pinD:=I7.pin (s2.heap.objs.size,{cls:=.type "list",data:=.seq its.toArray nn}) (by simp)
     refine wpAny_list_append_plain (items:=its.toArray) ⟨nn,pinD.1⟩ (fun h' hp' hsb'=>?_) (by rw [List.size_toArray,← hal];exact Nat.le_of_lt hlen)
     have e8:its.toArray.push y=(its++[y]).toArray:=by simp
     rw [e8] at hp'
     exact back H7 s7 (List.replicate xs.length none++vG js σ) h' (acc++[v7]) (its++[y]) m' I7 hsb' hp' (va3.append (.cons r7 .nil)) hm' w7
 exact codeAny_compStart_list (loop _ rfl) (T.self _ 0 _ _ _ (T.keep _ _ _ st2 fun b _ o e=>old b o e) (loop _ rfl))
theorem qGj {X:Cx}{pins:List (Addr × Obj)}{σ:L2.St}{H:Hp}{s:Shared}{C:Addr}{h':Heap}(I:Inv X pins σ H s)(hsb:Heap.SameBut C s.heap h')(h0:H C=none)(h1:C≠X.env.locals)(h2:X.s₀.heap.objs.size≤C)
 (h3:∀ y c,X.env.cells.lookup y=some c→c≠C) (h4:∀ p∈X.pn++pins,p.1≠C):Inv X pins σ H {s with heap:=h'}:=
 I.turned (t':=s.toks) (it:=C) (fun b o hb e=>hsb.extBut b o hb e) h0 h1 (.inr h2) h3 h4
theorem qGy {X:Cx}{elt iter tg:Expr}{cs:List Expr}{scope:Scope}{cl:List (Str × Addr)}{pos:Pos}{wi:TI}{g:TG}{tc:TT}{te:TE}{xs ys:List Str}{js:List Nat}{T:L2.St→VK→It→Hp→Prop}
 (hcm:X.calm=true) (hi:PI X tg iter wi) (hg:∀ C s H fp,PG (q9 X scope cl C (xs++ys) s H fp).nox tg g) (hc:∀ C s H fp,PTs (q9 X scope cl C (xs++ys) s H fp).nox cs tc) (he:∀ C s H fp,PE (q9 X scope cl C (xs++ys) s H fp).nox elt te) (hC:COk X scope cl iter xs ys js) (hE:∀ σ Q J H1,T σ Q J H1→kA xs.length js g tc te σ Q J H1):PE X (.ListComp elt [⟨tg,iter,cs,0⟩] scope pos) (fun σ H Q=>wi σ H (T σ Q)):=by
 intro pins s σ H Q I h
 rw [eval_ListComp]
 refine qBt hcm hi hg hc he hC Q none (EP X pins σ Q) I h (hE σ Q) fun v u H' s' C I' r q hm h0 h1 h2 h3 h4=>?_
 obtain⟨m,hm⟩:=hm
 exact⟨m,hm,fun h' hsb=>⟨v,H',qGj I' hsb h0 h1 h2 h3 h4,r,q⟩⟩
theorem qCr {X:Cx}{elt iter tg:Expr}{cs:List Expr}{scope:Scope}{cl:List (Str × Addr)}{pos:Pos}{wi:TI}{g:TG}{tc:TT}{te:TE}{xs ys:List Str}{js:List Nat}{T:L2.St→VK→It→Hp→Prop}{i:Nat}{y:Str}{py spos:Pos}(hN:X.N.Nodup)(hi':X.N[i]? =some y)(hy:X.env.kindOf y=some .local)
 (hcm:X.calm=true) (hi:PI X tg iter wi) (hg:∀ C s H fp,PG (q9 X scope cl C (xs++ys) s H fp).nox tg g) (hc:∀ C s H fp,PTs (q9 X scope cl C (xs++ys) s H fp).nox cs tc) (he:∀ C s H fp,PE (q9 X scope cl C (xs++ys) s H fp).nox elt te) (hC:COk X scope cl iter xs ys js) (hE:∀ σ Q J H1,T σ Q J H1→kA xs.length js g tc te σ Q J H1) (hsw:swapsWith (.ListComp elt [⟨tg,iter,cs,0⟩] scope pos) (some (.Name y py)) spos.line X.env=pure true):PS X (.Assign [.Name y py] (.ListComp elt [⟨tg,iter,cs,0⟩] scope pos) spos) (qLz (fun σ H Q=>wi σ H (T σ Q)) (vm i)):=by
 intro pins s σ H D I h
 rw [exec_Assign_Name_used _ _ _ _ hsw]
 refine wpAny_bind (wpAny_standAt (wpAny_bind ?_))
 have key:=qBt (pos:=pos) hcm hi hg hc he hC (fun v H'=>D.nx (σ.set i (some v)) H') (some (assign (.Name y py) X.env)) (fun _ s'=>SP X pins D .next s') I h (hE σ _) fun v u H' s' C I' r q hm h0 h1 h2 h3 h4=>?_
 · exact wpAny_bind (thn key fun _ s' hq=>wpAny_pure (wpAny_pure hq))
 · refine wpAny_assign_Name (qEo I' hN hi' (.inl hy) r (fun s2 I2 ch=>?_) (.inr hy))
   obtain⟨b,sb,hb⟩:=ch
   obtain⟨m,hm⟩:=hm
   have nb:C≠b:=by
    rcases hb with rfl | hb
    · exact h1
    · exact Ne.symm (h3 y b hb)
   exact⟨m,hm.sameBut sb nb,fun h' hsb=>⟨_,H',qGj I2 hsb h0 h1 h2 h3 h4,q⟩⟩
def CompEnd (js:List Nat)(te:TE)(σ:L2.St)(Q:VK)(J:It)(H1:Hp):Prop:=∃ W:Nat→Nat→List V→Hp→Prop,(∃ m,W 0 m [] H1)∧∀ i m acc H2,W i m acc H2→
 acc.length < sizeLine∧((J.stop i H2∧∀ D,H2 D=none→Q (.ref D) (upd H2 D (.lst acc)))∨
  (J.go i H2∧∀ x H3,J.yld i H2 x H3→te (some x::vG js σ) H3 fun v H4=>∃ m',m' < m∧W (i+1) m' (acc++[v]) H4))
def qNm (js:List Nat)(wi:TI)(te:TE):TE:=fun σ H Q=>wi σ H (CompEnd js te σ Q)
theorem CompEnd.g {js:List Nat}{te:TE}(σ:L2.St)(Q:VK)(J:It)(H1:Hp):CompEnd js te σ Q J H1→kA 1 js (vm 0) (fun _ H Q=>Q true H) te σ Q J H1:=fun⟨W,w0,st⟩=>
 ⟨W,w0,fun i m acc H2 w=>⟨(st i m acc H2 w).1,(st i m acc H2 w).2.imp id fun⟨go,y⟩=>⟨go,fun x H3 z=>⟨[some x],rfl,rfl,(if_pos rfl).mpr (y x H3 z)⟩⟩⟩⟩
theorem qCe {X:Cx}{elt iter:Expr}{x:Str}{px:Pos}{scope:Scope}{cl:List (Str × Addr)}{pos:Pos}{wi:TI}{te:TE}(ys:List Str)(js:List Nat)
 (hcm:X.calm=true) (hi:PI X (.Name x px) iter wi) (he:∀ C s H fp,PE (q9 X scope cl C (x::ys) s H fp).nox elt te) (hx:scope.names.lookup x=some .local:=by rfl) (hC:COk X scope cl iter [x] ys js:=by exact⟨rfl,rfl,rfl,rfl,rfl,rfl,rfl,rfl,fun _=>rfl,by decide⟩):PE X (.ListComp elt [⟨.Name x px,iter,[],0⟩] scope pos) (qNm js wi te):=
 qGy (xs:=[x]) (T:=CompEnd js te) hcm hi (fun _ _ _ _=>qq (i:=0) hC.nd rfl (.inl (lookup_relabel_local hx)) (.inr (lookup_relabel_local hx))) (fun _ _ _ _=>qIv) he hC CompEnd.g
theorem qFg {X:Cx}{elt iter:Expr}{x:Str}{px:Pos}{scope:Scope}{cl:List (Str × Addr)}{pos:Pos}{wi:TI}{te:TE}(ys:List Str)(js:List Nat){i:Nat}{y:Str}{py spos:Pos}(hN:X.N.Nodup)(hi':X.N[i]? =some y)(hy:X.env.kindOf y=some .local)
 (hcm:X.calm=true) (hi:PI X (.Name x px) iter wi) (he:∀ C s H fp,PE (q9 X scope cl C (x::ys) s H fp).nox elt te) (hx:scope.names.lookup x=some .local:=by rfl) (hC:COk X scope cl iter [x] ys js:=by exact⟨rfl,rfl,rfl,rfl,rfl,rfl,rfl,rfl,fun _=>rfl,by decide⟩) (hsw:swapsWith (.ListComp elt [⟨.Name x px,iter,[],0⟩] scope pos) (some (.Name y py)) spos.line X.env=pure true:=by rfl):PS X (.Assign [.Name y py] (.ListComp elt [⟨.Name x px,iter,[],0⟩] scope pos) spos) (qLz (qNm js wi te) (vm i)):=
 qCr (xs:=[x]) (T:=CompEnd js te) hN hi' hy hcm hi (fun _ _ _ _=>qq (i:=0) hC.nd rfl (.inl (lookup_relabel_local hx)) (.inr (lookup_relabel_local hx))) (fun _ _ _ _=>qIv) he hC CompEnd.g hsw
def Nxt (n i:Nat)(P:Prop):Prop:=∃ m',m' < n - i∧m'=n - (i+1)∧i+1≤n∧P
theorem Nxt.mk {n i:Nat}{P:Prop}(h:i < n)(p:P):Nxt n i P:=⟨n - (i+1),by omega,rfl,h,p⟩
theorem vA {K:PySem.W.Frag}{a:Addr}{xs:List V}{js:List Nat}{te:TE}{σ:L2.St}{H:Hp}{Q:VK}(Pv:Nat→List V→Hp→Prop)(h0:Pv 0 [] H)(hl:∀ i acc H,i≤xs.length→Pv i acc H→SqL K H a xs∧acc.length < sizeLine)
 (hs:∀ i x acc H,i < xs.length→xs[i]? =some x→Pv i acc H→te (some x::vG js σ) H fun v H'=>Nxt xs.length i (Pv (i+1) (acc++[v]) H')) (hd:∀ acc H,Pv xs.length acc H→∀ D,H D=none→Q (.ref D) (upd H D (.lst acc))):CompEnd js te σ Q (Itl K a) H:=by
 refine⟨fun i m acc H=>m=xs.length - i∧i≤xs.length∧Pv i acc H,⟨xs.length,by simp,Nat.zero_le _,h0⟩,?_⟩
 rintro i m acc H2 ⟨rfl,hi,p⟩
 obtain⟨q,hz⟩:=hl i acc H2 hi p
 refine⟨hz,?_⟩
 by_cases hlt:i < xs.length
 · refine .inr ⟨⟨xs,xs[i],q,by simp [hlt]⟩,fun x H3 y=>?_⟩
   obtain⟨e,y⟩:=y
   subst e
   exact hs i x acc _ hlt (y xs q) p
 · have e:i=xs.length:=by omega
   subst e
   exact .inl ⟨⟨xs,q,Nat.le_refl _⟩,hd acc H2 p⟩
theorem qBx {lo:Int}{n:Nat}{js:List Nat}{te:TE}{σ:L2.St}{H:Hp}{Q:VK}(Pv:Nat→List V→Hp→Prop)(h0:Pv 0 [] H)(hl:∀ i acc H,i≤n→Pv i acc H→acc.length < sizeLine)
 (hs:∀ i acc H,i < n→Pv i acc H→te (some (.int (lo+i))::vG js σ) H fun v H'=>Nxt n i (Pv (i+1) (acc++[v]) H')) (hd:∀ acc H,Pv n acc H→∀ D,H D=none→Q (.ref D) (upd H D (.lst acc))):CompEnd js te σ Q (Itr lo n) H:=by
 refine⟨fun i m acc H=>m=n - i∧i≤n∧Pv i acc H,⟨n,by simp,Nat.zero_le _,h0⟩,?_⟩
 rintro i m acc H2 ⟨rfl,hi,p⟩
 refine⟨hl i acc H2 hi p,?_⟩
 by_cases hlt:i < n
 · refine .inr ⟨hlt,fun x H3 y=>?_⟩
   obtain⟨e,y⟩:=y
   subst e y
   exact hs i acc _ hlt p
 · have e:i=n:=by omega
   subst e
   exact .inl ⟨Nat.le_refl _,hd acc H2 p⟩
structure Def (K:PySem.W.Frag)(mg:Str→Option Value)(x:Str)(st:Stmt)(ps:List Str)(f:Addr)(fd:FuncData):Prop where
 F:Fun K x x st f fd
 b:Binds K fd ps []
 m:mg x=some (.ref f)
section
variable {X : Cx}
theorem qI {k j:Nat}{x:Str}{st:Stmt}{ps:List Str}{f:Addr}{fd:FuncData}{sp:Sp}{e:Expr}{es:List Expr}{t:TA}{p pos:Pos}(D:Def X.K X.mg x st ps f fd)(F:FnOk X.prog X.w X.K X.mg X.base CX0 j f fd ps sp)(hr:Room k X.A)(hg:Gl X x)(ha:PA X (e::es) t)(hj:j≤k:=by decide)
 (hdb:(x == ("__debug__":Str))=false:=by decide) (he:starEach (e::es) X.env=(false,eval e X.env)::starEach es X.env:=by rfl) (hpl:(backTo pos (starEach es X.env)).any (·.1)=false:=by rfl):
 PE X (.Call (.Name x p) (e::es) [] pos) (qL7 sp [] E0 t):=qJl F (hr.mono hj) hg D.m D.F.kp D.b .nil qO9 ha hdb he hpl
theorem zG {x:Str}{n:String}{pos:Pos}(hg:Gl X x)(hm:X.mg x=none)(hv:bootBuiltins x=some (.type n))(hn:x≠"__name__":=by decide)(hd:(x == ("__debug__":Str))=false:=by decide):PE X (.Name x pos) (tC (.ty n)):=
 qLx hg hm hv rfl hn hd
end
theorem v6 {X:Cx}{K:PySem.W.Frag}(h:X.K=K):IxR X (qMv K):=h ▸ vB
def qOx (t:TS):TS:=fun D σ H=>∃ R:L2.St→Hp→Prop,t {D with nx:=R} σ H∧∀ σ' H',R σ' H'→D.nx σ' H'
theorem xE {X:Cx}{st:Stmt}{t:TS}(h:PS X st t):PS X st (qOx t):=by
 rintro pins s σ H D I ⟨R,ht,hR⟩
 refine thn (h pins s σ H {D with nx:=R} I ht) fun f s' q=>?_
 cases f with
 | next=>obtain⟨σ',H',I',r⟩:=q;exact⟨σ',H',I',hR _ _ r⟩
 | brk=>exact q
 | cont=>exact q
 | ret u=>exact q
theorem qH {H:Hp}{p:Addr}(h:H p=none)(o:HO):Same H (upd H p o):=fun b u q=>by rw [qU (qS q h)];exact q
theorem Same.tup {K:PySem.W.Frag}{H H':Hp}{a:Addr}{xs:List V}(e:Same H H')(h:SqT K H a xs):SqT K H' a xs:=by
 rcases h with (h | ⟨o,h⟩) | h
 · exact .inl (.inl (e _ _ h))
 · exact .inl (.inr ⟨o,e _ _ h⟩)
 · exact .inr h
section
variable {X : Cx}
end
abbrev EC:=Value × Option Addr
def zd (h:Heap)(e:Addr)(C:EC)(hd:Option Addr):Prop:=
 ∃ (vs:Array Value) (sl:Array (Option Value)),h.get? e=some {cls:=C.1,dict:=C.2,data:=.fields vs,slots:=sl}∧
  match hd with
  | none=>vs[1]? =some .none
  | some T=>vs[1]? =some (.ref T)∧T≠e∧∃ oT ts m,h.get? T=some oT∧oT.data= .fields ts∧ts[3]? =some m
structure Noted (fs:List Addr)(e:Addr)(hd:Option Addr)(C:EC)(h h':Heap):Prop where
 keep:∀ b o,h.get? b=some o→b ∉ fs→b≠e→some b≠hd→h'.get? b=some o
 slot:∀ b o,h.get? b=some o→b∈fs→b≠e→some b≠hd→∃ sl,h'.get? b=some {o with slots:=sl}
 ent:∃ T,(h.get? T=none∨hd=some T)∧zd h' e C (some T)
theorem Noted.before {fs:List Addr}{e T:Addr}{C:EC}{h h1 h':Heap}(x:Noted fs e none C h1 h')(k:∀ b,b≠T→h1.get? b=h.get? b)(t:∃ o,h1.get? T=some o):Noted fs e (some T) C h h':=by
 refine⟨fun b o q hf he ht=>x.keep b o ?_ hf he (by simp),fun b o q hf he ht=>x.slot b o ?_ hf he (by simp),?_⟩
 · rw [k b (fun z=>ht (by rw [z]))];exact q
 · rw [k b (fun z=>ht (by rw [z]))];exact q
 · obtain⟨T',n | n,r⟩:=x.ent
   · refine⟨T',.inl ?_,r⟩
     rw [← k T' (fun z=>?_)];exact n
     obtain⟨o,q⟩:=t
     rw [z,q] at n;cases n
   · cases n
section
variable {M : Model} {A : Around} {E : Value → Shared → Prop} {s : Shared}
theorem Noted.then {fs:List Addr}{e T:Addr}{hd:Option Addr}{C:EC}{h h1 h2:Heap}(x:Noted fs e hd C h h1)(hT:h.get? T=none∨hd=some T)(y:Noted fs e (some T) C h1 h2):Noted fs e hd C h h2:=by
 have nt:∀ b o,h.get? b=some o→some b≠hd→(some b:Option Addr)≠some T:=fun b o q hb z=>by
  cases z
  rcases hT with n | n
  · rw [q] at n;cases n
  · exact hb n.symm
 have n1:∀ T',h1.get? T'=none→T'≠e→some T'≠hd→h.get? T'=none:=fun T' n he ht=>by
  cases q:h.get? T' with
  | none=>rfl
  | some o=>
   by_cases hs:T'∈fs
   · obtain⟨sl,z⟩:=x.slot T' o q hs he ht
     rw [n] at z;cases z
   · have z:=x.keep T' o q hs he ht
     rw [n] at z;cases z
 refine⟨fun b o q hf he ht=>y.keep b o (x.keep b o q hf he ht) hf he (nt b o q ht),fun b o q hf he ht=>?_,?_⟩
 · obtain⟨sl,z⟩:=x.slot b o q hf he ht
   obtain⟨sl',z'⟩:=y.slot b _ z hf he (nt b o q ht)
   exact⟨sl',z'⟩
 · obtain⟨T',n,r⟩:=y.ent
   refine⟨T',?_,r⟩
   rcases n with n | n
   · by_cases hh:hd=some T'
     · exact .inr hh
     · refine .inl (n1 T' n (fun z=>?_) (Ne.symm hh))
       obtain⟨vs,sl,q,r1,nT,_⟩:=r
       exact nT z
   · cases n
     exact hT
theorem qD9 {base:Heap}{env:Env}{outer:List Env}{L e:Addr}{C:EC}{head:Value}{vs:Array Value}{sl:Array (Option Value)}{had:Bool}{Q:Unit→Shared→Prop}
 (fr:A.frames=some (env::outer)) (ff:s.heap.FunFrames base (env::outer)) (ef:env.frame=some L) (re:s.heap.get? e=some {cls:=C.1,dict:=C.2,data:=.fields vs,slots:=sl}) (v1:1 < vs.size)
 (k:∀ h',Noted (frs (env::outer)) e none C s.heap h'→Q () {s with heap:=h'}):
 wpAny M A (do let a ← frameOf env;let pl ← entryPlaceOf L had;let b ← EntryCells.newEntry head a .none (rawInt L) .none pl;setField (.ref e) 1 b) Q E s:=by
 have efs:e ∉ frs (env::outer):=fun z=>by
  obtain⟨_,o,q,nf⟩:=ff.mem z
  rw [re] at q;cases q
  exact nf vs rfl
 refine wpAny_bind (wpAny_frameOf_fun fr ff ef fun g so=>?_)
 refine wpAny_bind (wpAny_entryPlaceOf fun pl ip=>?_)
 unfold EntryCells.newEntry newFields
 refine wpAny_bind (wpAny_newObj_type ?_ (ip.sizeOk5 _ _ _ _ _))
 generalize hN:({cls:=.type "traceback",dict:=none,data:=.fields ([head,.ref L,.none,rawInt L,.none]++(if pl.isEmpty then List.replicate 6 Value.none else pl)).toArray}:Obj)=N
 have Nd:N.data= .fields ([head,.ref L,.none,rawInt L,.none]++(if pl.isEmpty then List.replicate 6 Value.none else pl)).toArray:=by rw [← hN]
 have q1:g.get? e=some {cls:=C.1,dict:=C.2,data:=.fields vs,slots:=sl}:=(so.2.1 e efs).trans re
 have q2:=Heap.get?_push_of_some (h:=g) N q1
 have ne:g.objs.size≠e:=Nat.ne_of_gt (Heap.lt_size q1)
 refine wpAny_setField q2 rfl v1 (k _ ?_)
 have q3:=Heap.get?_update_self (Obj.mapFields (·.setIfInBounds 1 (Value.ref g.objs.size))) q2 rfl
 have nf:N.isFreed=false:=Obj.isFreed_of_fields Nd
 have t3:((g.push N).update e (Obj.mapFields (·.setIfInBounds 1 (Value.ref g.objs.size)))).get? g.objs.size=some N:=
  (Heap.get?_update_other (g.push N) _ (Ne.symm ne)).trans (Heap.get?_push_size g nf)
 have oth:∀ b o,b≠e→g.get? b=some o→((g.push N).update e (Obj.mapFields (·.setIfInBounds 1 (Value.ref g.objs.size)))).get? b=some o:=fun b o hb q=>by
  rw [Heap.get?_update_other _ _ (Ne.symm hb)]
  exact Heap.get?_push_of_some _ q
 refine⟨fun b o q hf he _=>oth b o he ((so.2.1 b hf).trans q),fun b o q hf he _=>?_,g.objs.size,.inl ?_,vs.setIfInBounds 1 (.ref g.objs.size),sl,q3,by simp [v1],ne,N,_,rawInt L,t3,Nd,?_⟩
 · obtain⟨sl',q'⟩:=so.2.2 b o q
   exact⟨sl',oth b _ he q'⟩
 · rw [so.1]
   exact Heap.get?_none_of_le (Nat.le_refl _)
 · simp
theorem qGk {base:Heap}{env:Env}{outer:List Env}{L e:Addr}{C:EC}{hd:Option Addr}{Q:Unit→Shared→Prop}
 (fr:A.frames=some (env::outer)) (ff:s.heap.FunFrames base (env::outer)) (ef:env.frame=some L) (re:zd s.heap e C hd)
 (k:∀ h',Noted (frs (env::outer)) e hd C s.heap h'→Q () {s with heap:=h'}):wpAny M A (noteFrame (.ref e) env) Q E s:=by
 have re0:=re
 obtain⟨vs,sl,q,r⟩:=re
 unfold noteFrame
 simp only [ef]
 cases hd with
 | none=>
  refine wpAny_bind (wpAny_field q rfl r ?_)
  rw [if_neg (by decide)]
  exact qD9 fr ff ef q (Array.getElem?_eq_some_iff.mp r).1 k
 | some T=>
  obtain⟨r1,nT,oT,ts,m,qT,dT,r3⟩:=r
  refine wpAny_bind (wpAny_field q rfl r1 ?_)
  rw [if_pos (by simp)]
  refine wpAny_bind (wpAny_field qT dT r3 ?_)
  by_cases hm:(m == rawInt L)=true
  · rw [if_pos hm]
    exact wpAny_pure (k s.heap ⟨fun b o q _ _ _=>q,fun b o q _ _ _=>⟨o.slots,q⟩,T,.inr rfl,re0⟩)
  rw [if_neg hm]
  refine wpAny_bind (wpAny_setField qT dT (Array.getElem?_eq_some_iff.mp r3).1 ?_)
  have oth:∀ b,b≠T→(s.heap.update T (Obj.mapFields (·.setIfInBounds 3 Value.none))).get? b=s.heap.get? b:=fun b z=>Heap.get?_update_other _ _ (Ne.symm z)
  have qT':=Heap.get?_update_self (Obj.mapFields (·.setIfInBounds 3 Value.none)) qT (Obj.isFreed_of_fields (Obj.data_mapFields dT _))
  have nf:∀ b o,s.heap.get? b=some o→(∀ vs,o.data≠ .fields vs)→b≠T:=fun b o z n w=>by
   rw [w,qT] at z;cases z
   exact n ts dT
  refine qD9 (s:={s with heap:=s.heap.update T (Obj.mapFields (·.setIfInBounds 3 Value.none))}) fr (ff.of_keeps fun b o z n=>⟨o,(oth b (nf b o z n)).trans z,rfl⟩) ef ((oth e (Ne.symm nT)).trans q) (Array.getElem?_eq_some_iff.mp r1).1 fun h' x=>?_
  exact k h' (x.before oth ⟨_,qT'⟩)
theorem qBy {e T:Addr}{C:EC}{fo:Option Addr}{Q:Unit→Shared→Prop}(re:zd s.heap e C (some T))
 (k:∀ h',(∀ fs,Noted fs e (some T) C s.heap h')→Q () {s with heap:=h'}):wpAny M A (setFlight (.ref e) fo) Q E s:=by
 obtain⟨vs,sl,q,r1,nT,oT,ts,m,qT,dT,r3⟩:=re
 unfold setFlight
 refine wpAny_bind (wpAny_field q rfl r1 ?_)
 rw [if_pos (by simp)]
 have oth:∀ b,b≠T→(s.heap.update T (Obj.mapFields (·.setIfInBounds 3 (fo.elim Value.none fun f=>rawInt f)))).get? b=s.heap.get? b:=fun b z=>Heap.get?_update_other _ _ (Ne.symm z)
 refine wpAny_setField qT dT (Array.getElem?_eq_some_iff.mp r3).1 (k _ fun fs=>⟨fun b o q _ _ z=>?_,fun b o q _ _ z=>⟨o.slots,?_⟩,T,.inr rfl,?_⟩)
 · rw [oth b fun w=>z (by rw [w])];exact q
 · rw [oth b fun w=>z (by rw [w])];exact q
 · refine⟨vs,sl,(Heap.get?_update_other _ _ nT).trans q,r1,nT,_,_,fo.elim Value.none fun f=>rawInt f,Heap.get?_update_self _ qT (Obj.isFreed_of_fields (Obj.data_mapFields dT _)),Obj.data_mapFields dT _,?_⟩
   have h3:=(Array.getElem?_eq_some_iff.mp r3).1
   simp [h3]
theorem qAe {e T:Addr}{C:EC}{Q:Unit→Shared→Prop}(re:zd s.heap e C (some T))
 (k:∀ h',(∀ fs,Noted fs e (some T) C s.heap h')→Q () {s with heap:=h'}):wpAny M A (setFlight (.ref e) none) Q E s:=qBy re k
theorem qJb {base:Heap}{env:Env}{outer:List Env}{L e:Addr}{C:EC}{hd:Option Addr}{Q:Unit→Shared→Prop}
 (fr:A.frames=some (env::outer)) (ff:s.heap.FunFrames base (env::outer)) (ef:env.frame=some L) (re:zd s.heap e C hd)
 (k:∀ h',Noted (frs (env::outer)) e hd C s.heap h'→Q () {s with heap:=h'}):wpAny M A (noteFrame (.ref e) env) (fun _ s'=>wpAny M A (setFlight (.ref e) none) Q E s') E s:=by
 refine qGk fr ff ef re fun h1 N1=>?_
 obtain⟨T,hT,rT⟩:=N1.ent
 exact qAe (s:={s with heap:=h1}) rT fun h2 N2=>k h2 (N1.then hT (N2 _))
theorem qJ5 {base:Heap}{env:Env}{outer:List Env}{L e:Addr}{C:EC}{hd:Option Addr}{E2:Value→Shared→Prop}
 (fr:A.frames=some (env::outer)) (ff:s.heap.FunFrames base (env::outer)) (ef:env.frame=some L) (re:zd s.heap e C hd)
 (k:∀ h',Noted (frs (env::outer)) e hd C s.heap h'→E2 (.ref e) {s with heap:=h'}):notedBy M A env (cameBackBy M A env E2) (.ref e) s:=by
 refine qGk fr ff ef re fun h1 N1=>?_
 obtain⟨T,hT,rT⟩:=N1.ent
 obtain⟨vs,sl,q,r1,_⟩:=id rT
 show wpAny M A _ _ _ _
 refine wpAny_bind (wpAny_field (s:={s with heap:=h1}) q rfl r1 ?_)
 rw [if_neg (by simp)]
 exact qBy (s:={s with heap:=h1}) rT fun h2 N2=>k h2 (N1.then hT (N2 _))
end
theorem qLf {P:Program}{w:World}{H:Hp}{h:Heap}{a:Addr}{o:HO}(x:ObjOk P w H h a o):∃ ob,h.get? a=some ob:=by
 cases o with
 | lst xs=>obtain⟨_,_,_,_,e⟩:=x;exact⟨_,e⟩
 | tup xs=>obtain⟨_,_,_,ob,e,_⟩:=x;exact⟨ob,e⟩
 | dK kvs=>obtain⟨_,_,_,_,o,_,_,e,_⟩:=x;exact⟨_,e⟩
 | dT kvs=>obtain⟨_,_,_,_,o,_,_,e,_⟩:=x;exact⟨_,e⟩
 | set S n=>obtain⟨o,_,_,_,e,_⟩:=x;exact⟨_,e⟩
 | ins C dx fs=>obtain⟨_,_,_,e,_⟩:=x;exact⟨_,e⟩
 | own y=>exact x
 | xd fs=>obtain⟨_,⟨_,_,_,e,_⟩,_⟩:=x;exact⟨_,e⟩
 | rng lo hi=>obtain⟨_,_,_,e⟩:=x;exact⟨_,e⟩
 | frz ob u=>obtain⟨e,_⟩:=x;exact⟨_,e⟩
 | tbl ps=>exact⟨_,x⟩
 | met f y=>exact⟨_,x⟩
 | ext φ=>exact x.2.1
def qH6 (h₀:Heap)(H:Hp)(ps:List (Addr × Obj))(e:Addr):Prop:=h₀.get? e=none∧H e=none∧∀ p∈ps,p.1≠e
def qL6 (h₀:Heap)(H:Hp)(ps:List (Addr × Obj))(h:Heap)(e:Addr)(C:EC):Prop:=
 qH6 h₀ H ps e∧∃ hd,zd h e C hd∧∀ T,hd=some T→qH6 h₀ H ps T
def CXR (P:Program)(w:World):CXT:=fun outer H s E e s'=>∃ ea C H',e= .ref ea∧s'.os=s.os∧AllBare s'.gens∧Un (frs outer) [] H H' s.heap s'.heap∧HOk P w H' s'.heap∧qL6 s.heap H' [] s'.heap ea C∧E C.1 C.2 H'
def XE (X:Cx)(Ex:Value→Option Addr→Hp→Prop):Value→Shared→Prop:=fun e s'=>∃ ea C σ H',e= .ref ea∧Inv X [] σ H' s'∧qL6 X.s₀.heap H' X.pn s'.heap ea C∧Ex C.1 C.2 H'
section
variable {X : Cx} {σ : L2.St} {H : Hp} {s : Shared}
theorem zS {e:Addr}{hd:Option Addr}{C:EC}{h':Heap}(I:Inv X [] σ H s)(hex:X.ex=[])(re:zd s.heap e C hd)(n1:qH6 X.s₀.heap H X.pn e)(n3:∀ T,hd=some T→qH6 X.s₀.heap H X.pn T)
 (N:Noted (frs X.stack) e hd C s.heap h'):Inv X [] σ H {s with heap:=h'}∧qL6 X.s₀.heap H X.pn h' e C:=by
 have B:=I.base
 rw [hex] at B
 have ne:∀ b o,X.s₀.heap.get? b=some o→b≠e∧some b≠hd∧b≠X.env.locals:=fun b o q=>by
  refine⟨fun z=>?_,fun z=>?_,Nat.ne_of_lt (Nat.lt_of_lt_of_le (Heap.lt_size q) I.ok.above)⟩
  · rw [z,n1.1] at q;cases q
  · rw [(n3 b z.symm).1] at q;cases q
 have nin:∀ b,b ∉ ([]:List Addr):=fun b z=>nomatch z
 have nfl:∀ b o,s.heap.get? b=some o→(∀ vs,o.data≠ .fields vs)→b≠e∧some b≠hd:=fun b o q nf=>by
  obtain⟨vs,sl,qe,r⟩:=re
  refine⟨fun z=>?_,fun z=>?_⟩
  · rw [z,qe] at q;cases q
    exact nf vs rfl
  · subst z
    obtain⟨_,_,oT,ts,_,qT,dT,_⟩:=r
    rw [qT] at q;cases q
    exact nf ts dT
 have up:∀ b o,s.heap.get? b=some o→b≠e→some b≠hd→∃ sl,h'.get? b=some {o with slots:=sl}:=fun b o q z1 z2=>by
  by_cases hs:b∈frs X.stack
  · exact N.slot b o q hs z1 z2
  · exact⟨o.slots,N.keep b o q hs z1 z2⟩
 have un:Un X.fs [] X.H₀ H X.s₀.heap h':=by
  refine⟨fun b o q n hb hx=>?_,fun b o q n hb hx=>?_,fun b o q n hx=>B.free b o q n hx,fun b o q hx=>?_,B.tups,B.frzs,B.tbls⟩
  · obtain⟨z1,z2,z3⟩:=ne b o q
    refine N.keep b o (B.keep b o q n hb hx) (fun z=>?_) z1 z2
    rcases List.mem_cons.mp (I.stkSub b z) with w | w
    · exact z3 w
    · exact hb w
  · obtain⟨z1,z2,z3⟩:=ne b o q
    obtain⟨sl,q1⟩:=B.slot b o q n hb hx
    obtain⟨sl',q2⟩:=up b _ q1 z1 z2
    exact⟨sl',q2⟩
  · obtain⟨z1,z2,z3⟩:=ne b o q
    obtain⟨o',q1⟩:=B.there b o q hx
    obtain⟨sl',q2⟩:=up b _ q1 z1 z2
    exact⟨_,q2⟩
 have hok:HOk X.prog X.w H h':=fun a u q=>by
  have key:∀ c,H c=none→¬ (c=a∨H c=some (.own a)):=fun c z w=>by
   rcases w with w | w
   · rw [w,q] at z;cases z
   · rw [z] at w;cases w
  exact(I.hok a u q).stay (fun c v hc z=>N.keep c v z (fun w=>key c (I.stkFree c w) hc) (fun w=>key c (by rw [w];exact n1.2.1) hc) fun w=>key c (n3 c w.symm).2.1 hc) (fun _ z=>z) fun _ _ z=>z
 have cellK:∀ c v,s.heap.IsCell c v→h'.IsCell c v:=fun c v ⟨o,q,d⟩=>by
  obtain⟨z1,z2⟩:=nfl c o q fun vs w=>by rw [d] at w;cases w
  obtain⟨sl,q'⟩:=up c o q z1 z2
  exact⟨_,q',d⟩
 have I':Inv X [] σ H {s with heap:=h'}:=by
  refine⟨I.ok,I.os,I.bare,by rw [hex];exact un,?_,fun y c e=>?_,I.free,I.freeC,fun p hp=>?_,hok,I.len⟩
  · obtain⟨m,⟨o,es,ep,ho,hd',r⟩,hl⟩:=I.loc
    obtain⟨z1,z2⟩:=nfl _ o ho fun vs w=>by rw [hd'] at w;cases w
    obtain⟨sl,q'⟩:=up _ o ho z1 z2
    refine⟨m,⟨_,es,ep,q',hd',r⟩,fun i x v e1 e2 e3=>?_⟩
    obtain⟨u,r,l⟩:=hl i x v e1 e2 e3
    refine⟨u,r,?_⟩
    rcases l with l | ⟨k,c,ec,z⟩
    · exact .inl l
    · exact .inr ⟨k,c,ec,cellK c _ z⟩
  · obtain⟨v,z⟩:=I.cell y c e
    exact⟨v,cellK c v z⟩
  · obtain⟨q,n,nl,nf,d⟩:=I.pin p hp
    have hp':p∈X.pn:=by simpa using hp
    refine⟨N.keep p.1 p.2 q (fun z=>?_) (n1.2.2 p hp') fun z=>(n3 p.1 z.symm).2.2 p hp' rfl,n,nl,nf,d⟩
    rcases List.mem_cons.mp (I.stkSub p.1 z) with w | w
    · exact nl w
    · exact nf w
 refine⟨I',n1,?_⟩
 obtain⟨T,nT,r⟩:=N.ent
 refine⟨some T,r,fun T' e'=>?_⟩
 cases e'
 rcases nT with nT | nT
 rotate_left
 · exact n3 T nT
 refine⟨?_,?_,fun p hp z=>?_⟩
 · cases q:X.s₀.heap.get? T with
   | none=>rfl
   | some o=>
    obtain⟨o',z⟩:=B.there T o q (nin T)
    rw [nT] at z;cases z
 · cases q:H T with
   | none=>rfl
   | some u=>
    obtain⟨o',z⟩:=qLf (I.hok T u q)
    rw [nT] at z;cases z
 · have q:=(I.pin p (List.mem_append_left _ hp)).1
   rw [z,nT] at q;cases q
end
theorem qMn {X:Cx}{Ex:Value→Option Addr→Hp→Prop}{L:Addr}{env:Env}{outer:List Env}(hst:X.stack=env::outer)(he:X.env=env)(hf:env.frame=some L)(hex:X.ex=[]):PassesOwn (model X.prog X.w) X.A X.env (XE X Ex):=by
 rintro e s' ⟨ea,C,σ,H',rfl,I,⟨n1,hd,r,n3⟩,z⟩
 subst he
 have fr:=I.ok.frames
 rw [hst] at fr
 have ff:=I.stack
 rw [hst] at ff
 refine qJ5 fr ff hf r fun h' N'=>?_
 rw [← hst] at N'
 obtain⟨I',x'⟩:=zS I hex r n1 n3 N'
 exact⟨ea,C,σ,H',rfl,I',x',z⟩
theorem qL5 {X:Cx}{E:Value→Shared→Prop}{st:List Stmt}{t:TS}(h:PSs (X.wish E) st t)(hE:∀ e s',E e s'→X.xe e s'):PSs X st t:=fun pins s σ H D I hw=>
 wpAny_mono (h pins s σ H D (I.wish E) hw) (fun _ _ q=>q.unwish) hE
section
variable {P : Program} {w : World} {K : PySem.W.Frag} {mg : Str → Option Value} {base : Heap}
theorem okX {x qual:Str}{st:Stmt}{f:Addr}{fd:FuncData}{N ps:List Str}{k:Nat}{sp:Sp}(F:Fun K x qual st f fd)(S:qM N ps (qG st))(len:∀ vs H Q E,sp vs H Q E→vs.length=ps.length)
 (hbody:∀ (cdv:Value) (A:Around) (outer:List Env) (s:Shared) (H:Hp) (vs:List V) (Q:VK) (E:XK),Room k (A.deeper (envOfC qual (qG st) s.heap.objs.size f cdv))→sp vs H Q E→
   ∃ t,PSs ((qJx (CXR P w) P w K mg base N qual (qG st) f cdv A outer s H E).wish (XE (qJx (CXR P w) P w K mg base N qual (qG st) f cdv A outer s H E) E)) (xR st) t∧
    t {nx:=fun _ H'=>Q .non H',rt:=Q} (qC3 N vs) H):FnOk P w K mg base (CXR P w) (k+1) f fd ps sp:=by
 obtain⟨oc,od,kV,doc,pm,an,cdv,ct,osl,rfl,lk,hcd⟩:=F.ex
 refine qNk lk hcd S len fun A outer s H vs Q E hr hsp=>?_
 obtain⟨t,h,q⟩:=hbody cdv A outer s H vs Q E hr hsp
 refine⟨t,qL5 h ?_,q⟩
 rintro e s' ⟨ea,C,σ,H',rfl,I,⟨n1,hd,r,n3⟩,z⟩
 show wpAny _ _ (leaving _ _) _ _ _
 unfold leaving
 refine wpAny_bind (qJb I.ok.frames I.stack rfl r fun h' N'=>?_)
 obtain⟨I',x'⟩:=zS I rfl r n1 n3 N'
 exact⟨ea,C,H',rfl,I.os,I.bare,I'.base,I'.hok,x',z⟩
end
theorem qOq {X:Cx}{Ex:Value→Option Addr→Hp→Prop}(hex:X.ex=[]):qGv (CXR X.prog X.w) (X.wish (XE X Ex)) Ex:=by
 rintro pins σ H s e s' I ⟨ea,C,H',rfl,os,bare,un,hok,⟨n1,hd,r,n3⟩,q⟩
 have I0:=I.unwish
 have I1:Inv X pins σ H' s':=I0.call' (ch:=[]) os un hok bare fun b z=>nomatch z
 have old:∀ b,s.heap.get? b=none→X.s₀.heap.get? b=none:=fun b z=>by
  cases w:X.s₀.heap.get? b with
  | none=>rfl
  | some o=>
   obtain⟨o',w'⟩:=I0.base.there b o w (by rw [hex];intro y;cases y)
   rw [z] at w';cases w'
 have pn:∀ b,s.heap.get? b=none→∀ p∈X.pn,p.1≠b:=fun b z p hp w=>by
  have q:=(I0.pin p (List.mem_append_left _ hp)).1
  rw [w,z] at q;cases q
 exact⟨ea,C,σ,H',rfl,I1.pins_of (pins':=[]) fun p hp=>(nomatch hp),⟨⟨old _ n1.1,n1.2.1,pn _ n1.1⟩,hd,r,fun T e=>⟨old _ (n3 T e).1,(n3 T e).2.1,pn _ (n3 T e).1⟩⟩,q⟩
theorem xV {X:Cx}{Ex:Value→Option Addr→Hp→Prop}{k j:Nat}{x:Str}{st:Stmt}{ps:List Str}{f:Addr}{fd:FuncData}{sp:Sp}{e:Expr}{es:List Expr}{t:TA}{p pos:Pos}(D:Def X.K X.mg x st ps f fd)(F:FnOk X.prog X.w X.K X.mg X.base (CXR X.prog X.w) j f fd ps sp)(hr:Room k X.A)(hg:Gl X x)
 (ha:PA (X.wish (XE X Ex)) (e::es) t) (hj:j≤k:=by decide) (hex:X.ex=[]:=by rfl)
 (hdb:(x == ("__debug__":Str))=false:=by decide) (he:starEach (e::es) X.env=(false,eval e X.env)::starEach es X.env:=by rfl) (hpl:(backTo pos (starEach es X.env)).any (·.1)=false:=by rfl):
 PE (X.wish (XE X Ex)) (.Call (.Name x p) (e::es) [] pos) (qL7 sp [] Ex t):=
 qJl (X:=X.wish (XE X Ex)) (CX:=CXR X.prog X.w) F (hr.mono hj) hg D.m D.F.kp D.b .nil (qOq hex) ha hdb he hpl
def qLu:List Value:=[.type "ValueError",.type "Exception",.type "BaseException",.type "object"]
def OwnX (K:PySem.W.Frag)(C:Addr):Prop:=PySem.W.excIn K C qLu "ValueError.__new__"=true
theorem qMa {K:PySem.W.Frag}{h:Heap}{mg:Str→Option Value}{x:Str}{C:Addr}(X:K.In h)(b:mg x=some (.ref C))(q:OwnX K C):OwnCls x C qLu "ValueError.__new__" mg h:=by
 refine⟨b,?_⟩
 unfold OwnX PySem.W.excIn at q
 split at q
 · rename_i dd cd sl ho
   split at q
   · rename_i C' bm k0 k1 k2 k3 n k5 hm hs
     simp only [Bool.and_eq_true,beq_iff_eq,Bool.not_eq_true'] at q
     obtain⟨⟨⟨⟨⟨eC,en⟩,del⟩,ht⟩,ok⟩,ni⟩:=q
     subst eC en
     obtain⟨nm,bs,mro,ns,qn,hd,sn,sub,ab,col,dl⟩:=cd
     dsimp only at hm del ok ni
     subst hm del
     have hsl:sl=#[k0,k1,k2,k3,some (.builtin "ValueError.__new__"),k5]:=by
      obtain⟨l⟩:=sl
      simp only at hs
      rw [hs]
     subst hsl
     exact⟨bm,ns,nm,qn,bs,hd,sn,sub,ab,col,dd,k0,k1,k2,k3,k5,_,X _ _ ho,.of_isNs (PySem.W.isNs_of_in X ok),PySem.W.nsMap_none_of_in X ok ni,PySem.W.tail_of_in X ht⟩
   · cases q
 · cases q
def qNp (C:Addr)(Ex:Value→Option Addr→Hp→Prop)(t:TA):TS:=fun _ σ H=>t σ H fun vs H1=>vs.length≤sizeLine∧Ex (.ref C) none H1
theorem qz {X:Cx}{Ex:Value→Option Addr→Hp→Prop}{x:Str}{C:Addr}{np cpos pos:Pos}{e₀:Expr}{rest:List Expr}{t:TA}(hcm:X.calm=true)(hg:Gl X x)(hm:X.mg x=some (.ref C))(hx:OwnX X.K C)(ha:PA (X.wish (XE X Ex)) (e₀::rest) t)
 (he:starEach (e₀::rest) X.env=(false,eval e₀ X.env)::starEach rest X.env:=by rfl) (hpl:(backTo cpos (starEach rest X.env)).any (·.1)=false:=by rfl) (hex:X.ex=[]:=by rfl) (hdb:(x == ("__debug__":Str))=false:=by decide):
 PS (X.wish (XE X Ex)) (.Raise (some (.Call (.Name x np) (e₀::rest) [] cpos)) none pos) (qNp C Ex t):=by
 intro pins s σ H D I h
 obtain⟨tl,N,nm,q,bs,hdct,sn,sub,ab,col,dd,k0,k1,k2,k3,k5,mN,hC,hN,hni,T⟩:=
  (qMa (X:=I.ok.mod.kin) hm hx).obj
 refine wpAny_Raise_call_subT (bm:=tl) (C:=C) (N:=N) (nm:=nm) (q:=q) (bs:=bs) (hdct:=hdct) (sn:=sn) (sub:=sub) (ab:=ab) (col:=col) (dd:=dd) (k5:=k5) (k0:=k0) (k1:=k1) (k2:=k2) (k3:=k3)
  PySem.F.excBase_ValueError (mN:=mN) (T.hasType PySem.F.excBase_ValueError.hasBase) (I.ok.hd hcm) (by rw [he];show (false || (backTo cpos (starEach rest X.env)).any (·.1))=false;rw [hpl];rfl) hni (qAq I hg hm ⟨rfl,?_⟩ hdb)
 have z:=ha cpos pins s σ H _ I h
 rw [show (X.wish (XE X Ex)).env=X.env from rfl] at z
 rw [he] at z ⊢
 refine Calls.evalArgs_plain (wpAny_mono z (fun us s2 w=>?_) fun _ _ y=>y)
 obtain⟨vs,H1,I1,r1,hl,ex⟩:=w
 have I1':=I1.unwish
 refine⟨rfl,by rw [← r1.length];exact hl,I1.bk _ _ hC,hN.keeps I1.bk,T.keeps I1.bk,fun h' e hmk=>?_⟩
 obtain⟨tt,q1,q2,q3⟩:=hmk.there
 have I2:Inv X pins σ H1 {s2 with heap:=h'}:=I1'.kept (t':=s2.toks) hmk.keeps
 refine⟨e,(.ref C,none),σ,H1,rfl,I2.pins_of (pins':=[]) fun p hp=>(nomatch hp),⟨⟨?_,?_,fun p hp z=>?_⟩,none,⟨_,_,q1,rfl⟩,fun T e'=>nomatch e'⟩,ex⟩
 · cases w:X.s₀.heap.get? e with
   | none=>rfl
   | some o=>
    obtain⟨o',w'⟩:=I1'.base.there e o w (by rw [hex];intro y;cases y)
    rw [hmk.new] at w';cases w'
 · cases w:H1 e with
   | none=>rfl
   | some u=>
    obtain⟨o',w'⟩:=qLf (I1'.hok e u w)
    rw [hmk.new] at w';cases w'
 · have q':=(I1'.pin p (List.mem_append_left _ hp)).1
   rw [z,hmk.new] at q';cases q'
def pnX (X:Cx)(l:List (Addr × Obj)):Cx:={X with pn:=l}
def hdX (X:Cx)(ea:Addr):Cx:={X with A:=X.A.mark (some (.ref ea)),calm:=false}
section
variable {X : Cx} {pins : List (Addr × Obj)} {σ : L2.St} {H : Hp} {s : Shared}
theorem qM6 (I:Inv X pins σ H s):Inv (pnX X (X.pn++pins)) [] σ H s:=by
 obtain⟨a1,a2,a3,a4,a5,a6,a7,a8,a9,a10,a11,a12,a13,a14,a15,a16,a17,a18⟩:=I.ok
 exact⟨⟨a1,a2,a3,a4,a5,a6,a7,a8,a9,a10,a11,a12,a13,a14,a15,a16,a17,a18⟩,I.os,I.bare,I.base,I.loc,I.cell,I.free,I.freeC,fun p hp=>I.pin p (by have z:p∈(X.pn++pins)++[]:=hp;simpa using z),I.hok,I.len⟩
theorem wL (I:Inv (pnX X (X.pn++pins)) [] σ H s):Inv X pins σ H s:=by
 obtain⟨a1,a2,a3,a4,a5,a6,a7,a8,a9,a10,a11,a12,a13,a14,a15,a16,a17,a18⟩:=I.ok
 exact⟨⟨a1,a2,a3,a4,a5,a6,a7,a8,a9,a10,a11,a12,a13,a14,a15,a16,a17,a18⟩,I.os,I.bare,I.base,I.loc,I.cell,I.free,I.freeC,fun p hp=>I.pin p (by show p∈(X.pn++pins)++[];simpa using hp),I.hok,I.len⟩
theorem qIu {ea:Addr}(I:Inv X pins σ H s):Inv (hdX X ea) pins σ H s:=by
 obtain⟨a1,a2,a3,a4,a5,a6,a7,a8,a9,a10,a11,a12,a13,a14,a15,a16,a17,a18⟩:=I.ok
 exact⟨⟨a1,a2,a3,a4,a5,a6,a7,a8,fun h=>absurd (show false=true from h) Bool.false_ne_true,a10,a11,a12,a13,a14,a15,a16,a17,a18⟩,I.os,I.bare,I.base,I.loc,I.cell,I.free,I.freeC,I.pin,I.hok,I.len⟩
theorem qEw {ea:Addr}(I:Inv (hdX X ea) pins σ H s)(hd:X.calm=true→X.A.handled=none):Inv X pins σ H s:=by
 obtain⟨a1,a2,a3,a4,a5,a6,a7,a8,a9,a10,a11,a12,a13,a14,a15,a16,a17,a18⟩:=I.ok
 exact⟨⟨a1,a2,a3,a4,a5,a6,a7,a8,hd,a10,a11,a12,a13,a14,a15,a16,a17,a18⟩,I.os,I.bare,I.base,I.loc,I.cell,I.free,I.freeC,I.pin,I.hok,I.len⟩
def qCd (e:Addr)(C:EC):HO:=.ext fun h=>∃ (vs:Array Value) (sl:Array (Option Value)),h.get? e=some {cls:=C.1,dict:=C.2,data:=.fields vs,slots:=sl}
theorem qDk {a:Addr}{C:EC}{hd:Option Addr}(I:Inv X [] σ H s)(_:X.ex=[])(n:qH6 X.s₀.heap H X.pn a)(r:zd s.heap a C hd):Inv X [] σ (upd H a (qCd a C)) s:=by
 obtain⟨vs,sl,q,_⟩:=r
 have B:=I.base
 have ne:∀ b o,X.s₀.heap.get? b=some o→b≠a:=fun b o w z=>by rw [z,n.1] at w;cases w
 refine⟨I.ok,I.os,I.bare,⟨B.keep,B.slot,fun b o w z hx=>?_,B.there,fun b xs w=>?_,fun b o u w=>?_,fun b ps w=>?_⟩,I.loc,I.cell,?_,fun y c e=>?_,fun p hp=>?_,fun b u w=>?_,I.len⟩
 · rw [qU (ne b o w)];exact B.free b o w z hx
 · have z:=B.tups b xs w
   rw [qU (qS z n.2.1)];exact z
 · have z:=B.frzs b o u w
   rw [qU (qS z n.2.1)];exact z
 · obtain⟨more,z⟩:=B.tbls b ps w
   exact⟨more,by rw [qU (qS z n.2.1)];exact z⟩
 · obtain⟨m,⟨o,es,ep,ho,hd',_⟩,_⟩:=I.loc
   rw [qU (fun z=>by rw [z,q] at ho;cases ho;cases hd')]
   exact I.free
 · obtain⟨v,o,ho,hd'⟩:=I.cell y c e
   rw [qU (fun z=>by rw [z,q] at ho;cases ho;cases hd')]
   exact I.freeC y c e
 · obtain⟨w1,w2,w3⟩:=I.pin p hp
   have hp':p∈X.pn:=by simpa using hp
   rw [qU (n.2.2 p hp')]
   exact⟨w1,w2,w3⟩
 · by_cases hb:b=a
   · subst hb
     rw [qF] at w
     cases w
     refine⟨⟨vs,sl,q⟩,⟨_,q⟩,fun h1 h2 z k=>?_⟩
     obtain⟨vs',sl',z⟩:=z
     exact⟨vs',sl',k _ z⟩
   · rw [qU hb] at w
     exact(I.hok b u w).stay (fun _ _ _ z=>z) (fun c z=>by rw [qU (qS z n.2.1)];exact z) fun c xs z=>by rw [qU (qS z n.2.1)];exact z
theorem vJ {M:Model}{A:Around}{E:Value→Shared→Prop}{i:Nat}{n:Str}{pos:Pos}{Q:Unit→Shared→Prop}(I:Inv X pins σ H s)(hN:X.N.Nodup)(hi:X.N[i]? =some n)(hl:X.env.scope.names.lookup n=some .local)
 (h:∀ s',Inv X pins (σ.set i none) H s'→Q () s'):wpAny M A (do bindName X.env n .none;unbindBehindTheSuite X.env n pos) Q E s:=by
 refine wpAny_bind (wpAny_bindName (z9 (v:=.non) I hN hi (.inl hl) rfl (fun s1 I1=>?_) (.inr hl)))
 unfold unbindBehindTheSuite
 refine wpAny_onRaise ?_
 have hcls:(X.env.scope.kind == .class || (X.env.scope.kind == .module && X.env.locals != X.env.globals))=false:=by rw [I1.ok.kind];rfl
 have hiσ:i < σ.length:=by rw [I.len];exact(List.getElem?_eq_some_iff.mp hi).1
 obtain⟨m,hn,hlk⟩:=I1.loc
 obtain⟨u,r,lk⟩:=hlk i n .non hi (by rw [List.getElem?_set_self hiσ]) (.inl hl)
 have hm:m n=some u:=by
  rcases lk with ⟨_,z⟩ | ⟨z,_⟩
  · exact z
  · have hl':X.env.kindOf n=some .local:=hl
    rw [hl'] at z
    rcases z with z | z <;> cases z
 obtain⟨oL,es,ep,hoL,hdL,_⟩:=id hn
 refine wpAny_unbindName_local hl hn hm hcls fun h' u' hn' hs=>h _ ?_
 have B:=I1.base
 have neL:∀ b o,X.s₀.heap.get? b=some o→b≠X.env.locals:=fun b o e=>Nat.ne_of_lt (Nat.lt_of_lt_of_le (Heap.lt_size e) I1.ok.above)
 refine⟨I1.ok,I1.os,I1.bare,⟨fun b o e n hb hx=>(hs.2 b (neL b o e)).trans (B.keep b o e n hb hx),fun b o e n hb hx=>?_,B.free,fun b o e hx=>?_,B.tups,B.frzs,B.tbls⟩,⟨_,hn',fun j y v e1 e2 e3=>?_⟩,fun y c e=>?_,I1.free,I1.freeC,fun p hp=>?_,fun b ob e=>?_,?_⟩
 · obtain⟨sl,z⟩:=B.slot b o e n hb hx
   exact⟨sl,(hs.2 b (neL b o e)).trans z⟩
 · obtain⟨o',z⟩:=B.there b o e hx
   exact⟨o',(hs.2 b (neL b o e)).trans z⟩
 · have hj:j≠i:=fun z=>by
    subst z
    rw [List.getElem?_set_self hiσ] at e2
    cases e2
   rw [List.getElem?_set_ne (Ne.symm hj)] at e2
   obtain⟨u2,r2,l2⟩:=hlk j y v e1 (by rw [List.getElem?_set_ne (Ne.symm hj)];exact e2) e3
   refine⟨u2,r2,?_⟩
   rcases l2 with ⟨k,z⟩ | ⟨k,c,ec,z⟩
   · refine .inl ⟨k,?_⟩
     have:y≠n:=fun w=>hj (qCb hN e1 (w ▸ hi))
     simp [this,z]
   · exact .inr ⟨k,c,ec,z.sameBut hs (I1.cne y c ec)⟩
 · obtain⟨w',z⟩:=I1.cell y c e
   exact⟨w',z.sameBut hs (I1.cne y c e)⟩
 · obtain⟨e,n,ne,nf,d⟩:=I1.pin p hp
   exact⟨(hs.2 p.1 ne).trans e,n,ne,nf,d⟩
 · refine(I1.hok b ob e).stay (fun c w' hc q=>(hs.2 c fun z=>?_).trans q) (fun _ q=>q) fun _ _ q=>q
   have fr:=I1.free
   rcases hc with hc | hc
   · rw [← hc,z,fr] at e;cases e
   · rw [z,fr] at hc;cases hc
 · have:=I1.len
   simpa using this
end
def qMj (D:qHr)(i:Option Nat):qHr:=
 let f:(L2.St→Hp→Prop)→L2.St→Hp→Prop:=fun q σ H=>match i with | some i=>q (σ.set i none) H | none=>q σ H
 {nx:=f D.nx,rt:=D.rt,bk:=f D.bk,ct:=f D.ct}
def qOv (i:Option Nat)(ea:Addr)(σ:L2.St):L2.St:=match i with | some i=>σ.set i (some (.ref ea)) | none=>σ
def qPj (K:PySem.W.Frag)(Ex:Value→Option Addr→Hp→Prop)(C:Addr)(i:Option Nat)(tb ts:TS):TS:=fun D σ H=>tb D σ H∧∀ (ea:Addr) (B:EC) (σ':L2.St) (H':Hp),Ex B.1 B.2 H'→H' ea=none→σ'.length=σ.length→
 PySem.W.exmOne K B.1 (.ref C)=some true∧ts (qMj D i) (qOv i ea σ') (upd H' ea (qCd ea B))
def qOf (K:PySem.W.Frag)(Ex:Value→Option Addr→Hp→Prop)(C:Addr)(i:Option Nat)(tb ts te:TS):TS:=fun D σ H=>qPj K Ex C i (fun _=>tb {D with nx:=te D}) ts D σ H
inductive qEj (X:Cx):Option Str→Option Nat→Prop where
 | none:qEj X none none
 | some {n:Str} {i:Nat} (hi:X.N[i]? =some n) (hl:X.env.scope.names.lookup n=some .local):qEj X (some n) (some i)
theorem qJu {X:Cx}{body:List Stmt}{b₀:Stmt}{suite:List Stmt}{x:Str}{C:Addr}{nm:Option Str}{i:Option Nat}{np hpos pos:Pos}{oe:List Stmt}{tb ts te:TS}(Ex:Value→Option Addr→Hp→Prop)
 (hcl:qEj X nm i) (hN:X.N.Nodup) (hg:Gl X x) (hm:X.mg x=some (.ref C))
 (hb:∀ l,PSs ((pnX X l).wish (XE (pnX X l) Ex)) body tb) (hs:∀ l ea,PSs (hdX (pnX X l) ea).nox (b₀::suite) ts) (ho:PSs X oe te)
 (hstk:X.stack=X.env::X.outer:=by rfl) (hfr:X.env.frame=some X.env.locals:=by rfl) (hex:X.ex=[]:=by rfl) (hdb:(x == ("__debug__":Str))=false:=by decide):
 PS X (.Try body [.ExceptHandler (some (.Name x np)) nm (b₀::suite) hpos] oe [] pos) (qOf X.K Ex C i tb ts te):=by
 rintro pins s σ H D I ⟨h1,h2⟩
 have I0:=qM6 I
 refine wpAny_Try_except (wpAny_mono (hb (X.pn++pins) [] s σ H {D with nx:=te D} (I0.wish _) h1) (fun f s1 q=>?_) fun e s1 q=>?_)
 · have q:=q.unwish
   cases f with
   | next=>
    obtain⟨σ',H',J,z⟩:=q
    exact ho pins s1 σ' H' D (wL J) z
   | brk=>
    obtain⟨σ',H',J,z⟩:=q
    exact⟨σ',H',wL J,z⟩
   | cont=>
    obtain⟨σ',H',J,z⟩:=q
    exact⟨σ',H',wL J,z⟩
   | ret u=>
    obtain⟨v,σ',H',J,r,z⟩:=q
    exact⟨v,σ',H',wL J,r,z⟩
 · obtain⟨ea,B,σ',H',rfl,I1,⟨n1,hd,r,n3⟩,ex⟩:=q
   have hlen:σ'.length=σ.length:=I1.len.trans I.len.symm
   obtain⟨hx,ht⟩:=h2 ea B σ' H' ex n1.2.1 hlen
   have fr:X.A.frames=some (X.env::X.outer):=by rw [← hstk];exact I.ok.frames
   have ff:s1.heap.FunFrames X.base (X.env::X.outer):=by
    have z:=I1.stack
    rw [show (pnX X (X.pn++pins)).stack=X.env::X.outer from hstk] at z
    exact z
   refine qJb fr ff hfr r fun h' N'=>?_
   have N':Noted (frs X.stack) ea hd B s1.heap h':=by rw [hstk];exact N'
   obtain⟨I2,n1,hd2,r2,n3⟩:=zS I1 hex r n1 n3 N'
   refine wpAny_handleBy_cons (codeAny_handlers_test (qAq (X:=hdX (pnX X (X.pn++pins)) ea) (qIu I2) hg hm ?_ hdb)) (by intro z;cases z)
   have LT:PySem.W.Looks (model X.prog X.w) h' (typeOf (.ref ea)) B.1:=by
    obtain⟨vs,sl,qe,_⟩:=r2
    exact(PySem.W.Looks.ld qe).andThen .now
   refine(PySem.W.exm_one (M:=model X.prog X.w) I2.kIn LT hx).here ?_
   show codeAny _ _ _ _ _
   obtain⟨T,rfl,r3⟩:∃ T,hd2=some T∧zd h' ea B (some T):=by
    obtain⟨T,_,_⟩:=N'.ent
    cases hd2 with
    | some T=>exact⟨T,rfl,r2⟩
    | none=>
     obtain⟨T,_,rT⟩:=N'.ent
     obtain⟨vs,sl,q1,q2⟩:=r2
     obtain⟨vs',sl',q1',q2',_⟩:=rT
     rw [q1] at q1'
     cases q1'
     rw [q2] at q2'
     cases q2'
   have run:∀ (s4:Shared) (σ4:L2.St) (Q:Flow→Shared→Prop) (E:Value→Shared→Prop),Inv (hdX (pnX X (X.pn++pins)) ea) [] σ4 (upd H' ea (qCd ea B)) s4→ts (qMj D i) σ4 (upd H' ea (qCd ea B))→
    (∀ f s5,SP (hdX (pnX X (X.pn++pins)) ea) [] (qMj D i) f s5→Q f s5)→wpAny (model X.prog X.w) (X.A.mark (some (.ref ea))) (execs (b₀::suite) X.env) Q E s4:=fun s4 σ4 Q E I4 z k=>
    wpAny_mono (hs (X.pn++pins) ea [] s4 σ4 _ _ (I4.wish _) z) (fun f s5 q=>k f s5 q.unwish) fun _ _ z=>z.elim
   have hdn:(pnX X (X.pn++pins)).calm=true→(pnX X (X.pn++pins)).A.handled=none:=I2.ok.hd
   cases hcl with
   | none=>
    refine codeAny_handlers_suite (qAe r3 fun h3 N3=>?_)
    obtain⟨I3,n1,hd3,r4,n3⟩:=zS I2 hex r3 n1 n3 (N3 _)
    refine run _ _ _ _ (qIu (qDk I3 hex n1 r4)) ht fun f s5 q=>?_
    cases f with
    | next=>obtain⟨σ5,H5,J,z⟩:=q;exact⟨σ5,H5,wL (qEw J hdn),z⟩
    | brk=>obtain⟨σ5,H5,J,z⟩:=q;exact⟨σ5,H5,wL (qEw J hdn),z⟩
    | cont=>obtain⟨σ5,H5,J,z⟩:=q;exact⟨σ5,H5,wL (qEw J hdn),z⟩
    | ret u=>obtain⟨v,σ5,H5,J,rv,z⟩:=q;exact⟨v,σ5,H5,wL (qEw J hdn),rv,z⟩
   | some hi hl=>
    refine codeAny_handlers_suite_as (qAe r3 fun h3 N3=>?_)
    obtain⟨I3,n1,hd3,r4,n3⟩:=zS I2 hex r3 n1 n3 (N3 _)
    refine z9 (X:=hdX (pnX X (X.pn++pins)) ea) (v:=.ref ea) (qIu (qDk I3 hex n1 r4)) hN hi (.inl hl) rfl (fun s4 I4=>?_) (.inr hl)
    refine run _ _ _ _ I4 ht fun f s5 q=>?_
    cases f with
    | next=>obtain⟨σ5,H5,J,z⟩:=q;exact vJ (X:=pnX X (X.pn++pins)) (qEw J hdn) hN hi hl fun s6 J6=>⟨_,H5,wL J6,z⟩
    | brk=>obtain⟨σ5,H5,J,z⟩:=q;exact vJ (X:=pnX X (X.pn++pins)) (qEw J hdn) hN hi hl fun s6 J6=>⟨_,H5,wL J6,z⟩
    | cont=>obtain⟨σ5,H5,J,z⟩:=q;exact vJ (X:=pnX X (X.pn++pins)) (qEw J hdn) hN hi hl fun s6 J6=>⟨_,H5,wL J6,z⟩
    | ret u=>obtain⟨v,σ5,H5,J,rv,z⟩:=q;exact vJ (X:=pnX X (X.pn++pins)) (qEw J hdn) hN hi hl fun s6 J6=>⟨v,_,H5,wL J6,rv,z⟩
theorem qJc {X:Cx}{body:List Stmt}{b₀:Stmt}{suite:List Stmt}{x:Str}{C:Addr}{nm:Option Str}{i:Option Nat}{np hpos pos:Pos}{tb ts:TS}(Ex:Value→Option Addr→Hp→Prop)
 (hcl:qEj X nm i) (hN:X.N.Nodup) (hg:Gl X x) (hm:X.mg x=some (.ref C))
 (hb:∀ l,PSs ((pnX X l).wish (XE (pnX X l) Ex)) body tb) (hs:∀ l ea,PSs (hdX (pnX X l) ea).nox (b₀::suite) ts)
 (hstk:X.stack=X.env::X.outer:=by rfl) (hfr:X.env.frame=some X.env.locals:=by rfl) (hex:X.ex=[]:=by rfl) (hdb:(x == ("__debug__":Str))=false:=by decide):
 PS X (.Try body [.ExceptHandler (some (.Name x np)) nm (b₀::suite) hpos] [] [] pos) (qPj X.K Ex C i tb ts):=
 qJu Ex hcl hN hg hm hb hs qL hstk hfr hex hdb
end L3
set_option maxRecDepth 100000
namespace L3
open PySem PySem.Spec PySem.Calls PyProof.Rows PySem.W
section
variable {prog : Program} {w : World} {A : Around} {E : Value → Shared → Prop} {K : Frag} {h : Heap} {g : Array GenState} {d : Drawn} {t : Nat} {os : OsState} {a D : Addr} {ox : Obj} {od : Option Obj}
structure ExcK (K:Frag)(D:Addr):Prop where
 ga:findIn K (.ref D) "__getattribute__"=some (some (.builtin "BaseException.__getattribute__"))
 gt:findIn K (.ref D) "__getattr__"=some none
 ca:findIn K (.ref D) "__class__"=some (some (.builtin "object.__class__"))
 sg:specialIn K (.builtin "object.__class__") "__get__"=some (some (.builtin "getset_descriptor.__get__"))
 tk:takesIn K (.builtin "object.__class__")=some true
 mo:mroIn K D (.type "object")=some true
 mb:mroIn K D (.type "BaseException")=some true
end
end L3
namespace L3
open PySem PySem.Spec PyProof.Rows L2
end L3
set_option maxRecDepth 100000
namespace L3
open PySem PySem.Spec PySem.Calls PySem.Builtin PySem.Builtin.ObjectAttr PyProof.Rows
def exOver (K:PySem.W.Frag)(C D:Addr):Bool:=(PySem.W.clsIn K C).any fun cd=>cd.mro == .ref C:: .ref D::qLu
section
variable {prog : Program} {w : World} {A : Around} {E : Value → Shared → Prop} {K : PySem.W.Frag} {s : Shared} {x C D : Addr} {vs : Array Value} {sl : Array (Option Value)} {R : Result → Shared → Prop}
open PySem.W in
theorem qJw {ox:Obj}{od:Option Obj}{name:Str}{tk:Tok}{v:Value}(X:K.In s.heap)(I:InstAt s.heap x ox C od)(hp:exOver K C D=true)(ht:takerIn K C name=some none)
 (h:∀ b,wpAny (model prog w) A.in1 (storeInOwnDict (.ref x) (.ref C) (.str name tk) name v b)
   (fun fin s'=>match fin with | .done f=>R (.ok f) s' | .again c'=>c'.quiet=true∧codeAny (model prog w) A c' R s') (fun e s'=>R (.error e) s') s):
 codeAny (model prog w) A (.call (.builtin "object.__setattr__") ⟨[.ref x,.str name tk,v],[]⟩) R s:=by
 have SF:=PySem.F.store_object
 obtain⟨cd,hc,ho⟩:=any_some hp
 have ho:cd.mro= .ref C:: .ref D::qLu:=beq_iff_eq.mp ho
 have sub:Looks (model prog w) s.heap (isInstance (.ref x) (.type "object")) true:=I.type.andThen (looks_mroIn X (by unfold mroIn;rw [hc,Option.bind_some,ho];rfl))
 refine codeAny_call_builtin SF.slot.plain SF.entry (@check_slot (model prog w) _ _ s "object.__setattr__" "object" "__setattr__" (.ref x) [.str name tk,v] [] _ SF.kind SF.split sub (SF.args (.ref x) (.str name tk) v) ?_)
 obtain⟨attr,ha,hr⟩:=Option.bind_eq_some_iff.mp ht
 have hm:Looks (model prog w) s.heap (mroOf (.ref C)) cd.mro:=(looks_clsIn X hc).andThen .now
 have L3:Looks (model prog w) s.heap (storeTaker? attr) none:=by
  cases attr with
  | none=>cases hr;exact .now
  | some a=>
   obtain⟨b,hb,hb2⟩:=Option.map_eq_some_iff.mp hr
   refine(looks_takesIn X hb).andThen ?_
   cases b
   · exact .now
   · cases hb2
 rw [osa_eq,refuse_eq]
 refine wpAny_bind (wpAny_bind (I.type.here (wpAny_bind (hm.here ?_))))
 rw [ho,refuseLoop_ref,refuseLoop_ref]
 rw [show refuseLoop (.ref x) "__setattr__" qLu=pure () from PySem.F.store_ValueError.passes (.ref x)]
 refine wpAny_pure (wpAny_bind (I.type.here (wpAny_bind ((looks_findIn X ha).here (wpAny_bind (L3.here ?_))))))
 exact h _
open PySem.W in
theorem qLv {name:Str}{v:Value}{Q:Unit→Shared→Prop}(X:K.In s.heap)(hx:s.heap.get? x=some {cls:=.ref C,dict:=none,data:=.fields vs,slots:=sl})
 (hs:findIn K (.ref C) "__setattr__"=some (some (.builtin "object.__setattr__"))) (hp:exOver K C D=true) (ht:takerIn K C name=some none) (hh:hasDictIn K C=true)
 (h:∀ h' tk,h'.get? x=some {cls:=.ref C,dict:=some s.heap.objs.size,data:=.fields vs,slots:=sl}→h'.Ns1 s.heap.objs.size (fun y=>if y=name then some v else none)→(∀ b o,b≠x→s.heap.get? b=some o→h'.get? b=some o)→Q () {s with heap:=h',toks:=tk}):
 wpAny (model prog w) A (setAttr (.ref x) name v) Q E s:=by
 have J:InstAt s.heap x {cls:=.ref C,dict:=none,data:=.fields vs,slots:=sl} C none:=⟨hx,rfl,rfl,trivial⟩
 refine PySem.W.set_plain X J hs (qJw (s:={s with toks:=s.toks+1}) X J hp ht fun b=>?_)
 obtain⟨cd,hc,hd'⟩:=PySem.W.any_some hh
 refine wpAny_bind (wpAny_pure (wpAny_bind (wpAny_bind (wpAny_loadPart hx (wpAny_bind (PySem.W.Looks.here (s:={s with toks:=s.toks+1}) (PySem.W.looks_clsIn X hc) ?_))))))
 rw [hd']
 have hx₁:(s.heap.push {cls:=.type "dict",data:=.dict #[]}).get? x=some {cls:=.ref C,dict:=none,data:=.fields vs,slots:=sl}:=Heap.get?_push_of_some _ hx
 have hxs:x≠s.heap.objs.size:=Nat.ne_of_lt (Heap.lt_size hx)
 refine wpAny_bind (wpAny_alloc' ?_)
 refine wpAny_bind (wpAny_update' hx₁ ?_)
 refine wpAny_pure ?_
 have hgd:((s.heap.push {cls:=.type "dict",data:=.dict #[]}).update x fun o=>{o with dict:=some s.heap.objs.size}).get? s.heap.objs.size=some {cls:=.type "dict",data:=.dict #[]}:=
  (Heap.get?_update_ne _ _ _ _ hxs.symm).trans (Heap.get?_push_at rfl rfl)
 have hnd:((s.heap.push {cls:=.type "dict",data:=.dict #[]}).update x fun o=>{o with dict:=some s.heap.objs.size}).Ns s.heap.objs.size (fun _=>none):=
  ⟨_,#[],_,hgd,rfl,fun e he=>absurd he (by simp),fun _=>rfl⟩
 refine wpAny_bind (wpAny_pure (wpAny_bind ?_))
 refine wpAny_nsSet1 (s:={s with heap:=_,toks:=s.toks+1}) (Heap.Ns1.of_empty hnd) fun h' hn' hs2=>?_
 obtain⟨oD,esD,epD,hoD,hdD,hcD⟩:=hn'.count (Within.cons name v Within.nil)
 refine wpAny_bind (wpAny_lookBehind hoD (by rw [hdD];exact pastItsLine_dict (Nat.le_trans hcD (by rw [List.length_cons,List.length_nil,sizeLine_eq];omega))) ?_)
 refine wpAny_pure (h _ _ ?_ hn' ?_)
 · refine(hs2.2 x hxs).trans (Heap.get?_update_self _ hx₁ rfl)
 · intro b o hb ho
   exact(hs2.2 b (Nat.ne_of_lt (Heap.lt_size ho))).trans ((Heap.get?_update_ne _ _ _ _ hb).trans (Heap.get?_push_of_some _ ho))
end
section
variable {prog : Program} {w : World} {A : Around} {E : Value → Shared → Prop} {h : Heap} {g : Array GenState} {d : Drawn} {t : Nat} {os : OsState}
variable {nm q : Str} {C N : Addr} {bs bm bmB : List Value} {hdct : Bool} {sn : List Str} {sub : List Value} {ab : Bool} {col : Option Bool} {dd : Option Addr} {k0 k1 k2 k3 k5 : Option Value} {B newId initId : String}
theorem wk (F:ExcBaseFacts B newId initId bmB)(T:OwnTail h bmB bm){mN:Str→Option Value}{rest:List Value}{fI:Addr}{oI:Obj}{Q:PySem.Fin→Shared→Prop}
 (hC:h.get? C=some (excClassObj nm q C N bs bm hdct sn sub ab col dd k0 k1 k2 k3 k5 newId)) (hn:h.Ns N mN) (hi:mN "__init__"=some (.ref fI))
 (hfI:h.get? fI=some oI) (hfc:oI.cls= .type "function")
 (hq:∀ h' e,Heap.MadeExcOf h h' e (.ref C) rest→h'.objs.size=h.objs.size+2→e=h.objs.size+1→
   wpAny (model prog w) A (call (.ref fI) (.ref e::rest)) (fun r s'=>r= .none∧Q (.done (.ret (.ref e))) s') E ⟨h',g,d,t,os⟩) (hrest:rest.length≤sizeLine:=by size_fits):
 wpAny (model prog w) A (Builtin.«type.__call__» ⟨.ref C::rest,[]⟩) Q E ⟨h,g,d,t,os⟩:=by
 repeat (first | with_reducible refine wpAny_loadPart_at hC ?_ | with_reducible refine wpAny_madeBy_exc hC ?_ | wp_step)
 refine codeAny_call_builtin_code (Code.quiet_builtin _ F.quiet) (wpAny_check_new_subT F T hC ?_)
 refine codeAny_exc_new_subT F T hC ?_ hrest
 show wpAny _ _ _ _ _ _
 have hC₁:=Heap.get?_push_of_some {cls:=.ref C,data:=.fields #[.ref h.objs.size,.none,.none,.none,.bool false,.none]}
  (Heap.get?_push_of_some {cls:=.type "tuple",data:=.seq rest.toArray} hC)
 have hfI₁:=Heap.get?_push_of_some {cls:=.ref C,data:=.fields #[.ref h.objs.size,.none,.none,.none,.bool false,.none]}
  (Heap.get?_push_of_some {cls:=.type "tuple",data:=.seq rest.toArray} hfI)
 have hn₁:((h.push {cls:=.type "tuple",data:=.seq rest.toArray}).push {cls:=.ref C,data:=.fields #[.ref h.objs.size,.none,.none,.none,.bool false,.none]}).Ns N mN:=
  let ⟨o,es,ep,e,r⟩:=hn;⟨o,es,ep,Heap.get?_push_of_some _ (Heap.get?_push_of_some _ e),r⟩
 have hget:((h.push {cls:=.type "tuple",data:=.seq rest.toArray}).push
  {cls:=.ref C,data:=.fields #[.ref h.objs.size,.none,.none,.none,.bool false,.none]}).get? (h.objs.size+1)=some
  {cls:=.ref C,data:=.fields #[.ref h.objs.size,.none,.none,.none,.bool false,.none]}:=by heap_get
 have hcC:(Value.ref C::bm).contains (.ref C)=true:=by simp
 have T₁:=T.keeps (h':=(h.push {cls:=.type "tuple",data:=.seq rest.toArray}).push {cls:=.ref C,data:=.fields #[.ref h.objs.size,.none,.none,.none,.bool false,.none]})
  fun b o e=>Heap.get?_push_of_some _ (Heap.get?_push_of_some _ e)
 unfold isInstance
 repeat (first | with_reducible refine wpAny_loadPart_at hget ?_ | (with_reducible refine wpAny_isSubtype_exc hC₁ ?_;rw [hcC]) | wp_step)
 show wpAny _ _ (typeLookup (.ref C) _) _ _ _
 refine wpAny_typeLookup_tail hC₁ hn₁ T₁ F.mroIs F.init.lookup ?_
 rw [hi]
 refine wpAny_holding (wpAny_bind ?_)
 unfold bindSpecial
 refine wpAny_bind (wpAny_typeOf (T:="function") ⟨_,hfI₁,hfc⟩ ?_)
 rw [if_pos (by decide)]
 refine wpAny_pure (wpAny_bind (wpAny_mono (hq _ (h.objs.size+1) ⟨fun b o hb=>Heap.get?_push_of_some _ (Heap.get?_push_of_some _ hb),Heap.get?_none_of_le (Nat.le_succ _),h.objs.size,hget,Heap.get?_none_of_le (Nat.le_refl _),?_⟩ (by simp only [Heap.size_push]) rfl) (fun r s' hr=>?_) fun _ _ x=>x))
 · exact Heap.get?_push_of_some _ (Heap.get?_push_at rfl rfl)
 · obtain⟨rfl,hQ⟩:=hr
   wp_walk
   exact hQ
theorem qHt (F:ExcBaseFacts B newId initId bmB)(T:OwnTail h bmB bm){mN:Str→Option Value}{rest:List Value}{fI:Addr}{oI:Obj}{Q:Value→Shared→Prop}
 (hC:h.get? C=some (excClassObj nm q C N bs bm hdct sn sub ab col dd k0 k1 k2 k3 k5 newId)) (hn:h.Ns N mN) (hi:mN "__init__"=some (.ref fI))
 (hfI:h.get? fI=some oI) (hfc:oI.cls= .type "function")
 (hq:∀ h' e,Heap.MadeExcOf h h' e (.ref C) rest→h'.objs.size=h.objs.size+2→e=h.objs.size+1→
   wpAny (model prog w) (A.under (.builtin "type.__call__" ⟨.ref C::rest,[]⟩)) (call (.ref fI) (.ref e::rest)) (fun r s'=>r= .none∧Q (.ref e) s') E ⟨h',g,d,t,os⟩) (hrest:rest.length≤sizeLine:=by size_fits):
 wpAny (model prog w) A (call (.ref C) rest) Q E ⟨h,g,d,t,os⟩:=by
 have f1:=tc_lookup
 have f2:=tc_bind (.ref C)
 have hT:(⟨h,g,d,t,os⟩:Shared).TypeIs (.ref C) "type":=⟨_,hC,rfl⟩
 refine wpAny_call (codeAny_of_tree ?_)
 show wpAny _ _ (callAny (.ref C) _) _ _ _
 repeat (any_goals (first | assumption | with_reducible refine wpAny_loadPart_at hC ?_ | wp_step))
 refine⟨rfl,?_⟩
 refine codeAny_call_builtin_at (Code.quiet_builtin _ (by decide+kernel)) entry_typeCall (wpAny_check_type_call_sub hC (wk (hrest:=hrest) F T hC hn hi hfI hfc fun h' e hm h1 h2=>?_))
 exact hq h' e hm h1 h2
end
section
variable {prog : Program} {w : World} {A : Around} {E : Value → Shared → Prop} {s : Shared} {env : Env}
variable {nm q : Str} {C N : Addr} {bs bm bmB : List Value} {hdct : Bool} {sn : List Str} {sub : List Value} {ab : Bool} {col : Option Bool} {dd : Option Addr} {k0 k1 k2 k3 k5 : Option Value} {B newId initId : String}
theorem qHj {M:Model}{x:Sem Value}{Q:Flow→Shared→Prop}(hbase:bm.contains (.type "BaseException")=true)(hh:A.handled=none)
 (h:wpAny M A x (fun v s₁=>∃ e od vs sl,v= .ref e∧s₁.heap.get? C=some (excClassObj nm q C N bs bm hdct sn sub ab col dd k0 k1 k2 k3 k5 newId)∧
   s₁.heap.get? e=some {cls:=.ref C,dict:=od,data:=.fields vs,slots:=sl}∧vs[1]? =some .none∧E (.ref e) s₁) E s):
 wpAny M A (raiseStmt env (some x) none) Q E s:=by
 have hcB:(Value.ref C::bm).contains (.type "BaseException")=true:=by rw [List.contains_cons,hbase,Bool.or_true]
 unfold raiseStmt
 refine wpAny_bind (wpAny_mono h (fun v s₁ h₁=>?_) fun _ _ x=>x)
 obtain⟨e,od,vs,sl,rfl,hC,he,hv,hE⟩:=h₁
 obtain⟨hp,g,d,tk,os⟩:=s₁
 repeat (first | with_reducible refine wpAny_loadPart_at he ?_ | with_reducible refine wpAny_loadPart_at hC ?_ | (with_reducible refine wpAny_isSubtype_exc hC ?_;rw [hcB]) | wp_step)
 rw [hv]
 refine wpAny_pure ?_
 rw [if_neg (by decide)]
 refine wpAny_pure ?_
 exact wpAny_raiseNew_none hh hE
theorem qFx (F:ExcBaseFacts B newId initId bmB){mN:Str→Option Value}{x:Str}{np cpos pos:Pos}{args:List Expr}{fI:Addr}{oI:Obj}{Q:Flow→Shared→Prop}
 (hbase:bm.contains (.type "BaseException")=true) (hh:A.handled=none) (hplain:(backTo cpos (starEach args env)).any (·.1)=false) (hi:mN "__init__"=some (.ref fI)) (hfc:oI.cls= .type "function")
 (h:wpAny (model prog w) A (eval (.Name x np) env) (fun f s₁=>f= .ref C∧wpAny (model prog w) A (evalArgs (.ref C) true (backTo cpos (starEach args env)) [])
   (fun a s₂=>a.kw=[]∧a.pos.length≤sizeLine∧s₂.heap.get? C=some (excClassObj nm q C N bs bm hdct sn sub ab col dd k0 k1 k2 k3 k5 newId)∧s₂.heap.Ns N mN∧OwnTail s₂.heap bmB bm∧s₂.heap.get? fI=some oI∧
     ∀ h' e,Heap.MadeExcOf s₂.heap h' e (.ref C) a.pos→h'.objs.size=s₂.heap.objs.size+2→e=s₂.heap.objs.size+1→
      wpAny (model prog w) (A.under (.builtin "type.__call__" ⟨.ref C::a.pos,[]⟩)) (call (.ref fI) (.ref e::a.pos))
       (fun r s'=>r= .none∧s'.heap.get? C=some (excClassObj nm q C N bs bm hdct sn sub ab col dd k0 k1 k2 k3 k5 newId)∧(∃ od vs sl,s'.heap.get? e=some {cls:=.ref C,dict:=od,data:=.fields vs,slots:=sl}∧vs[1]? =some .none)∧E (.ref e) s') E {s₂ with heap:=h'}) E s₁) E s):
 wpAny (model prog w) A (exec (.Raise (some (.Call (.Name x np) args [] cpos)) none pos) env) Q E s:=by
 rw [arm_exec_Raise]
 refine wpAny_bind (wpAny_standAt (qHj (C:=C) (nm:=nm) (q:=q) (N:=N) (bs:=bs) (bm:=bm) (hdct:=hdct) (sn:=sn) (sub:=sub) (ab:=ab) (col:=col) (dd:=dd) (k0:=k0) (k1:=k1) (k2:=k2) (k3:=k3) (k5:=k5) (newId:=newId) hbase hh (wpAny_bind (wpAny_mono (wpAny_Call_ofName (wpAny_mono h (fun f s₁ h₁=>?_) fun _ _ x=>x)) (fun v s₃ h₃=>wpAny_bind (wpAny_standAt (wpAny_pure h₃))) fun _ _ x=>x))))
 obtain⟨rfl,h₁⟩:=h₁
 unfold callWith
 refine wpAny_bind (wpAny_holding (wpAny_mono h₁ (fun a s₂ h₂=>wpAny_bind (wpAny_standAt ?_)) fun _ _ x=>x))
 obtain⟨apos,akw⟩:=a
 obtain⟨hkw,hlen,hC,hn,T,hfI,h₂⟩:=h₂
 obtain rfl:akw=[]:=hkw
 obtain⟨hp,g,d,tk,os⟩:=s₂
 simp only [hplain]
 refine wpAny_bind (wpAny_keeperOf_exc hC ?_)
 refine wpAny_bind (qHt (hrest:=hlen) F T hC hn hi hfI hfc fun h' e hm h1 h2=>wpAny_mono (h₂ h' e hm h1 h2) (fun r s' z=>⟨z.1,?_⟩) fun _ _ x=>x)
 obtain⟨_,hC',⟨od,vs,sl,he,hv⟩,hE⟩:=z
 refine wpAny_bind (wpAny_holding (wpAny_point (wpAny_pure ?_)))
 exact⟨e,od,vs,sl,rfl,hC',he,hv,hE⟩
end
end L3
namespace L3
open PySem PySem.Spec PyProof.Rows L2
def wZ (e:Addr)(C:Value):HO:=.ext fun h=>∃ (vs:Array Value) (sl:Array (Option Value)),h.get? e=some {cls:=C,dict:=none,data:=.fields vs,slots:=sl}∧vs[1]? =some .none
def qAb (e:Addr)(C:EC):HO:=.ext fun h=>zd h e C none
def excInitIn (K:PySem.W.Frag)(C f:Addr):Bool:=match K.lookup C with
 | some ⟨.type "type",_,.cls cd,sl⟩=>(match cd.mro,sl.toList with
  | .ref C'::bm,[_,_,_,_,some (.builtin n),_]=>C' == C && n == "ValueError.__new__" && !cd.hasDel && PySem.W.tailIn K qLu bm && PySem.W.nsOkIn K cd.ns && PySem.W.nsIn K cd.ns "__init__" == some (some (.ref f))
  | _,_=>false)
 | _=>false
structure XMk (K:PySem.W.Frag)(C D f:Addr):Prop where
 ov:exOver K C D=true
 hd:PySem.W.hasDictIn K C=true
 sa:PySem.W.findIn K (.ref C) "__setattr__"=some (some (.builtin "object.__setattr__"))
 ex:excInitIn K C f=true
 fn:PySem.W.isFn K (.ref f)=true
theorem qHp {K:PySem.W.Frag}{h:Heap}{N:Addr}{mg:Str→Option Value}{n:Str}{v:Value}(X:K.In h)(G:h.Ns N mg)(e:PySem.W.nsIn K N n=some (some v)):mg n=some v:=by
 obtain⟨o,es,ep,ho,hd,_,hf⟩:=G
 unfold PySem.W.nsIn at e
 split at e
 · rename_i c d es' n' sl q
   have:=X _ _ q
   rw [ho] at this
   cases this
   cases hd
   split at e
   · rename_i en he
     cases e
     rw [← hf]
     unfold nsFind findBy
     rw [← Array.find?_toList,he]
     rfl
   · split at e <;> cases e
 · cases e
theorem qKt {K:PySem.W.Frag}{h:Heap}{C f:Addr}(X:K.In h)(q:excInitIn K C f=true):
 ∃ bm N nm qn bs hdct sn sub ab col dd k0 k1 k2 k3 k5 mN,h.get? C=some (excClassObj nm qn C N bs bm hdct sn sub ab col dd k0 k1 k2 k3 k5 "ValueError.__new__")∧h.Ns N mN∧mN "__init__"=some (.ref f)∧OwnTail h qLu bm:=by
 unfold excInitIn at q
 split at q
 · rename_i dd cd sl ho
   split at q
   · rename_i C' bm k0 k1 k2 k3 n k5 hm hs
     simp only [Bool.and_eq_true,beq_iff_eq,Bool.not_eq_true'] at q
     obtain⟨⟨⟨⟨⟨eC,en⟩,del⟩,ht⟩,ok⟩,ni⟩:=q
     subst eC en
     obtain⟨nm,bs,mro,ns,qn,hd,sn,sub,ab,col,dl⟩:=cd
     dsimp only at hm del ok ni
     subst hm del
     have hsl:sl=#[k0,k1,k2,k3,some (.builtin "ValueError.__new__"),k5]:=by
      obtain⟨l⟩:=sl
      simp only at hs
      rw [hs]
     subst hsl
     have N1:h.Ns ns (h.nsMap ns):=.of_isNs (PySem.W.isNs_of_in X ok)
     refine⟨bm,ns,nm,qn,bs,hd,sn,sub,ab,col,dd,k0,k1,k2,k3,k5,_,X _ _ ho,N1,qHp X N1 ni,PySem.W.tail_of_in X ht⟩
   · cases q
 · cases q
section
variable {X : Cx} {pins : List (Addr × Obj)} {σ : L2.St} {H : Hp} {s : Shared}
theorem qKx {e:Addr}{φ:Heap→Prop}(I:Inv X pins σ (upd H e (.ext φ)) s)(h0:H e=none)(hs:X.s₀.heap.get? e=none):Inv X pins σ H s:=by
 have B:=I.base
 have nn:∀ b u,upd H e (.ext φ) b=some u→(∀ ψ,u≠ .ext ψ)→H b=some u:=fun b u z n=>by
  by_cases hb:b=e
  · subst hb
    rw [qF] at z
    cases z
    exact absurd rfl (n φ)
  · rwa [qU hb] at z
 have n0:∀ b,upd H e (.ext φ) b=none→H b=none:=fun b z=>by
  by_cases hb:b=e
  · rw [hb,qF] at z;cases z
  · rwa [qU hb] at z
 refine⟨I.ok,I.os,I.bare,⟨B.keep,B.slot,fun b o w z hx=>n0 _ (B.free b o w z hx),B.there,fun b xs w=>nn _ _ (B.tups b xs w) (fun _ z=>nomatch z),fun b o u w=>nn _ _ (B.frzs b o u w) (fun _ z=>nomatch z),fun b ps w=>?_⟩,I.loc,I.cell,n0 _ I.free,fun y c z=>n0 _ (I.freeC y c z),fun p hp=>?_,fun b u w=>?_,I.len⟩
 · obtain⟨more,z⟩:=B.tbls b ps w
   exact⟨more,nn _ _ z (fun _ z=>nomatch z)⟩
 · obtain⟨w1,w2,w3⟩:=I.pin p hp
   exact⟨w1,n0 _ w2,w3⟩
 · have hb:b≠e:=fun z=>by rw [z,h0] at w;cases w
   refine(I.hok b u (by rw [qU hb];exact w)).stay (fun _ _ _ z=>z) (fun c z=>nn _ _ z (fun _ z=>nomatch z)) fun c xs z=>nn _ _ z (fun _ z=>nomatch z)
end
theorem qHn {X:Cx}{pins:List (Addr × Obj)}{σ:L2.St}{H:Hp}{s:Shared}{dx:Addr}{fs:List (Str × V)}(I:Inv X pins σ H s)(h0:H dx=none)(hs0:X.s₀.heap.get? dx=none)(hp:∀ p∈X.pn++pins,p.1≠dx)
 (hl:dx≠X.env.locals) (hc:∀ y c,X.env.cells.lookup y=some c→c≠dx) (ok:∃ mA,s.heap.Ns1 dx mA∧∀ f,RelO (fs.lookup f) (mA f)):Inv X pins σ (upd H dx (.xd fs)) s:=by
 have B:=I.base
 have ne:∀ b o,X.s₀.heap.get? b=some o→b≠dx:=fun b o w z=>by rw [z,hs0] at w;cases w
 refine⟨I.ok,I.os,I.bare,⟨B.keep,B.slot,fun b o w z hx=>?_,B.there,fun b xs w=>?_,fun b o u w=>?_,fun b ps w=>?_⟩,I.loc,I.cell,?_,fun y c e=>?_,fun p hp'=>?_,fun b u w=>?_,I.len⟩
 · rw [qU (ne b o w)];exact B.free b o w z hx
 · have z:=B.tups b xs w
   rw [qU (qS z h0)];exact z
 · have z:=B.frzs b o u w
   rw [qU (qS z h0)];exact z
 · obtain⟨more,z⟩:=B.tbls b ps w
   exact⟨more,by rw [qU (qS z h0)];exact z⟩
 · rw [qU (Ne.symm hl)];exact I.free
 · rw [qU (hc y c e)];exact I.freeC y c e
 · obtain⟨w1,w2,w3⟩:=I.pin p hp'
   rw [qU (hp p hp')]
   exact⟨w1,w2,w3⟩
 · by_cases hb:b=dx
   · subst hb
     rw [qF] at w
     cases w
     exact ok
   · rw [qU hb] at w
     exact(I.hok b u w).stay (fun _ _ _ z=>z) (fun c z=>by rw [qU (qS z h0)];exact z) fun c xs z=>by rw [qU (qS z h0)];exact z
def qOn (K:PySem.W.Frag)(ta tv:TE)(f:Str):TS:=fun D σ H=>tv σ H fun y H1=>ta σ H1 fun x H2=>∃ a C B,x= .ref a∧H2 a=some (wZ a (.ref C))∧exOver K C B=true∧PySem.W.hasDictIn K C=true∧
 PySem.W.findIn K (.ref C) "__setattr__"=some (some (.builtin "object.__setattr__"))∧PySem.W.takerIn K C f=some none∧∀ dx,H2 dx=none→D.nx σ (upd (upd H2 a (qAb a (.ref C,some dx))) dx (.xd [(f,y)]))
theorem qL1 {X:Cx}{o value:Expr}{f:Str}{pos pos':Pos}{ta tv:TE}(ha:PE X o ta)(hv:PE X value tv)(hs:swapsWith value (some (.Attribute o f pos')) pos.line X.env=pure false:=by rfl):
 PS X (.Assign [.Attribute o f pos'] value pos) (qOn X.K ta tv f):=by
 intro pins s σ H D I h
 refine plainObj_wpAny_Assign_Attribute (thn (hv pins s σ H _ I h) fun u s1 ⟨y,H1,I1,ry,q⟩=>thn (ha pins s1 σ H1 _ I1 q) fun ov s2 ⟨x,H2,I2,rx,a,C,B,ex,ea,o1,o2,o3,o4,q2⟩=>?_) hs
 subst ex
 obtain rfl:ov=Value.ref a:=rx
 obtain⟨⟨vs,sl,he,hv1⟩,_,_⟩:=I2.hok a _ ea
 have hf:H2 s2.heap.objs.size=none:=I2.hok.fresh (Nat.le_refl _)
 refine qLv I2.kIn he o3 o1 o4 o2 fun h' tk he' hn k=>⟨σ,_,?_,q2 _ hf⟩
 have I3:Inv X pins σ (upd H2 a (qAb a (.ref C,some s2.heap.objs.size))) {s2 with heap:=h',toks:=tk}:=by
  refine I2.write (x:=a) (e:=a) (by rw [ea];exact True.intro) (.inl rfl) k ⟨_,he'⟩ ?_
  refine⟨⟨vs,sl,he',hv1⟩,⟨_,he'⟩,fun h1 h2 z k=>?_⟩
  obtain⟨vs',sl',z,z2⟩:=z
  exact⟨vs',sl',k _ z,z2⟩
 have na:s2.heap.objs.size≠a:=fun z=>by rw [z,ea] at hf;cases hf
 refine qHn I3 (by rw [qU na];exact hf) ?_ (fun p hp=>Nat.ne_of_lt (Heap.lt_size (I2.pin p hp).1)) (Nat.ne_of_gt I2.lt) (fun y c e=>?_) ⟨_,hn,fun g=>?_⟩
 · cases w:X.s₀.heap.get? s2.heap.objs.size with
   | none=>rfl
   | some o=>exact absurd (Nat.lt_of_lt_of_le (Heap.lt_size w) I2.sz) (Nat.lt_irrefl _)
 · obtain⟨v,o,ho,_⟩:=I2.cell y c e
   exact Nat.ne_of_lt (Heap.lt_size ho)
 · by_cases hg:g=f
   · subst hg
     simp [List.lookup]
     exact ry
   · have e1:([(f,y)]:List (Str × V)).lookup g=none:=by
      rw [List.lookup_cons]
      have:(g == f)=false:=beq_eq_false_iff_ne.mpr hg
      rw [this]
      rfl
     rw [e1,if_neg hg]
     trivial
inductive qF8 (C:Addr)(f:Str)(vs:List V)(H:Hp)(Q:VK)(_:XK):Prop
| mk (e:Addr) (v:V) (_:vs=[.ref e,v]) (_:H e=some (wZ e (.ref C))) (_:∀ dx,H dx=none→Q .non (upd (upd H e (qAb e (.ref C,some dx))) dx (.xd [(f,v)])))
def qMd (C:Addr)(fn:Str)(Ex:Value→Option Addr→Hp→Prop)(t:TA):TS:=fun _ σ H=>t σ H fun vs H1=>∃ v,vs=[v]∧∀ dx,H1 dx=none→Ex (.ref C) (some dx) (upd H1 dx (.xd [(fn,v)]))
theorem qIh {X:Cx}{Ex:Value→Option Addr→Hp→Prop}{fn:Str}{k:Nat}{x:Str}{C B f:Addr}{fd:FuncData}{ps:List Str}{np cpos pos:Pos}{e₀:Expr}{rest:List Expr}{t:TA}(M:XMk X.K C B f)
 (F:FnOk X.prog X.w X.K X.mg X.base CX0 k f fd ps (qF8 C fn)) (hb:Binds X.K fd ps []) (hr:Room (k+1) X.A) (hcm:X.calm=true) (hg:Gl X x) (hm:X.mg x=some (.ref C)) (ha:PA (X.wish (XE X Ex)) (e₀::rest) t)
 (he:starEach (e₀::rest) X.env=(false,eval e₀ X.env)::starEach rest X.env:=by rfl) (hpl:(backTo cpos (starEach rest X.env)).any (·.1)=false:=by rfl) (hex:X.ex=[]:=by rfl) (hdb:(x == ("__debug__":Str))=false:=by decide):
 PS (X.wish (XE X Ex)) (.Raise (some (.Call (.Name x np) (e₀::rest) [] cpos)) none pos) (qMd C fn Ex t):=by
 intro pins s σ H D I h
 obtain⟨tl,N,nm,q,bs,hdct,sn,sub,ab,col,dd,k0,k1,k2,k3,k5,mN,hC,hN,hni,T⟩:=qKt (K:=X.K) I.ok.mod.kin M.ex
 have hfn:PySem.W.typeIn X.K (.ref f)=some (.type "function"):=beq_iff_eq.mp M.fn
 have hfo:∃ oI:Obj,X.base.get? f=some oI∧oI.cls= .type "function":=by
  replace hfn:(X.K.lookup f).map (·.cls)=some (.type "function"):=hfn
  cases hl:X.K.lookup f with
  | none=>rw [hl] at hfn;cases hfn
  | some o=>
   rw [hl] at hfn
   exact⟨o,I.ok.mod.kin _ _ hl,by simpa using hfn⟩
 obtain⟨oI,hfI,hfc⟩:=hfo
 refine qFx (bm:=tl) (C:=C) (N:=N) (nm:=nm) (q:=q) (bs:=bs) (hdct:=hdct) (sn:=sn) (sub:=sub) (ab:=ab) (col:=col) (dd:=dd) (k5:=k5) (k0:=k0) (k1:=k1) (k2:=k2) (k3:=k3)
  PySem.F.excBase_ValueError (mN:=mN) (fI:=f) (oI:=oI) (T.hasType PySem.F.excBase_ValueError.hasBase) (I.ok.hd hcm) (by rw [he];show (false || (backTo cpos (starEach rest X.env)).any (·.1))=false;rw [hpl];rfl) hni hfc (qAq I hg hm ⟨rfl,?_⟩ hdb)
 have z:=ha cpos pins s σ H _ I h
 rw [show (X.wish (XE X Ex)).env=X.env from rfl] at z
 rw [he] at z ⊢
 refine Calls.evalArgs_plain (wpAny_mono z (fun us s2 w=>?_) fun _ _ y=>y)
 obtain⟨vs,H1,I1,r1,v,rfl,ex⟩:=w
 have I1':=I1.unwish
 have hl1:us.length=1:=r1.length.symm
 refine⟨rfl,by rw [hl1,sizeLine_eq];decide,I1.bk _ _ hC,hN.keeps I1.bk,T.keeps I1.bk,I1.bk _ _ hfI,fun h' e hmk hsz hes=>?_⟩
 obtain⟨tt,q1,q2,q3⟩:=hmk.there
 have hle:s2.heap.objs.size≤e:=by rw [hes];exact Nat.le_succ _
 have e0:H1 e=none:=I1'.hok.fresh hle
 have I2:Inv X pins σ (upd H1 e (wZ e (.ref C))) {s2 with heap:=h'}:=I1'.laid (t':=s2.toks) hmk.keeps hle ⟨⟨_,_,q1,rfl⟩,⟨_,q1⟩,fun h1 h2 z k=>by
  obtain⟨vs',sl',z,z2⟩:=z
  exact⟨vs',sl',k _ z,z2⟩⟩
 have r2:Vals [V.ref e,v] (Value.ref e::us):=.cons rfl r1
 have hsp:qF8 C fn [V.ref e,v] (upd H1 e (wZ e (.ref C))) (fun u H2=>u= .non∧∃ dx,H1 dx=none∧dx≠e∧H2=upd (upd H1 dx (.xd [(fn,v)])) e (qAb e (.ref C,some dx))) E0:=⟨e,v,rfl,qF,fun dx hdx=>⟨rfl,dx,?_⟩⟩
 rotate_left
 · have hne:dx≠e:=fun z=>by rw [z,qF] at hdx;cases hdx
   refine⟨by rwa [qU hne] at hdx,hne,?_⟩
   funext b
   by_cases hb:b=e
   · subst hb
     rw [qF,qU (Ne.symm hne),qF]
   · rw [qU hb (o:=qAb e (.ref C,some dx)) (H:=upd H1 dx (.xd [(fn,v)]))]
     by_cases hb2:b=dx
     · subst hb2
       rw [qF,qF]
     · rw [qU hb2,qU hb,qU hb,qU hb2]
 have hl:((Value.ref e::us)++[]).length=ps.length:=by
  have:=F.len _ _ _ _ hsp
  rw [List.append_nil,List.length_cons,hl1]
  simpa using this
 have hbb:=hb _ (Value.ref e::us) I2.kIn hl
 rw [List.append_nil] at hbb
 refine wpAny_call (codeAny_mono (F.run _ X.stack _ _ ⟨Value.ref e::us,[]⟩ (Value.ref e::us) _ _ E0 (hr.make C us []) (I2.env0.make C us []) hbb r2 hsp) fun r s' hq'=>?_)
 cases r with
 | error e=>exact False.elim hq'
 | ok fl=>
  cases fl with
  | ret u=>
   obtain⟨v',H',I3,rv,ev,dx,hdx,hne,rfl⟩:=I2.after hq'
   subst ev
   cases rv
   obtain⟨⟨vs',sl',g1,g2⟩,_,_⟩:=I3.hok e _ qF
   have e0':(upd H1 dx (.xd [(fn,v)])) e=none:=by rw [qU (Ne.symm hne)];exact e0
   have hs0:X.s₀.heap.get? e=none:=by
    cases w:X.s₀.heap.get? e with
    | none=>rfl
    | some o=>
     obtain⟨o',w'⟩:=I1'.base.there e o w (by rw [hex];intro y;cases y)
     rw [hmk.new] at w';cases w'
   refine⟨rfl,I3.bk _ _ hC,⟨some dx,vs',sl',g1,g2⟩,e,(.ref C,some dx),σ,upd H1 dx (.xd [(fn,v)]),rfl,(qKx I3 e0' hs0).pins_of (pins':=[]) fun p hp=>(nomatch hp),⟨⟨hs0,e0',fun p hp z=>?_⟩,none,⟨vs',sl',g1,g2⟩,fun T e'=>nomatch e'⟩,ex dx hdx⟩
   have q':=(I1'.pin p (List.mem_append_left _ hp)).1
   rw [z,hmk.new] at q';cases q'
  | next=>exact False.elim hq'
  | brk=>exact False.elim hq'
  | cont=>exact False.elim hq'
end L3
set_option maxRecDepth 100000
namespace L3
open PySem PySem.Spec PySem.Calls PyProof.Rows PySem.W
section
variable {prog : Program} {w : World} {A : Around} {E : Value → Shared → Prop} {K : Frag} {h : Heap} {g : Array GenState} {d : Drawn} {t : Nat} {os : OsState} {a D : Addr} {ox o : Obj} {name : Str} {v : Value}
theorem qH0 {tk:Tok}{Q:PySem.Fin→Shared→Prop}(X:K.In h)(I:InstAt h a ox D (some o))(hf:findObj K D (some o) name=some (.value v))(hq:Q (.done (.ret v)) ⟨h,g,d,t,os⟩):
 wpAny (model prog w) A (Builtin.«object.__getattribute__» ⟨[.ref a,.str name tk],[]⟩) Q E ⟨h,g,d,t,os⟩:=by
 have L0:=I.type (M:=model prog w)
 have L2:=looks_find (M:=model prog w) X I hf
 unfold Builtin.«object.__getattribute__»
 repeat (any_goals (first | assumption | (with_reducible refine wpAny_bind (L0.at ?_)) | (with_reducible refine wpAny_bind (L2.at ?_)) | wp_step))
theorem qIk {tk:Tok}{R:Result→Shared→Prop}(c:ExcK K D)(X:K.In h)(I:InstAt h a ox D (some o))(hf:findObj K D (some o) name=some (.value v))(hq:R (.ok (.ret v)) ⟨h,g,d,t,os⟩):
 codeAny (model prog w) A (.call (.builtin "BaseException.__getattribute__") ⟨[.ref a,.str name tk],[]⟩) R ⟨h,g,d,t,os⟩:=by
 refine codeAny_call_builtin F.attr_ValueError.ga.plain F.entry_bexc_ga ?_
 have bkd:builtinKind "BaseException.__getattribute__"=some .slot:=by decide+kernel
 have hsp:splitId "BaseException.__getattribute__"=some ("BaseException","__getattribute__"):=by decide+kernel
 have ha:=F.args_bexc_ga (.ref a) (.str name tk)
 have L0:=I.type (M:=model prog w)
 have L1:Looks (model prog w) h (isInstance (.ref a) (.type "BaseException")) true:=L0.andThen (looks_mroIn X c.mb)
 simp only [checkBuiltinCall,bkd,hsp]
 refine wpAny_bind (L1.at ?_)
 repeat (first | assumption | (with_reducible refine qH0 X I hf ?_) | exact hq | wp_step)
theorem qLn {tk:Tok}{fill ex:Bool}{Q:Value→Shared→Prop}(c:ExcK K D)(X:K.In h)(I:InstAt h a ox D (some o))(hf:findObj K D (some o) name=some (.value v))(hv:handedIn v=true)(hq:Q v ⟨h,g,d,t,os⟩):
 wpAny (model prog w) A (getAttrBy (.ref a) (.str name tk) fill ex) Q E ⟨h,g,d,t,os⟩:=by
 have L0:=I.type (M:=model prog w)
 have L1:=looks_findIn (M:=model prog w) X c.ga
 have L2:=looks_findIn (M:=model prog w) X c.gt
 have f3:=F.attr_ValueError.ga.bind (.ref a)
 have no2:(Value.builtin "BaseException.__getattribute__" == Value.builtin "object.__getattribute__")=false:=by decide+kernel
 have no1:(onTheHeap (Value.ref D) && Value.builtin "BaseException.__getattribute__" == Value.builtin "object.__getattribute__")=false:=by rw [no2];rfl
 have hho:=handedOut_of hv
 repeat (any_goals (first | assumption | (with_reducible refine wpAny_bind (L0.at ?_)) | (with_reducible refine wpAny_bind (L1.at ?_)) | (with_reducible refine wpAny_bind (L2.at ?_)) | (with_reducible refine L1.at ?_) | (with_reducible refine L2.at ?_) | wp_step))
 have no3:(ex && onTheHeap (Value.builtin "BaseException.__getattribute__"))=false:=by
  rw [show onTheHeap (Value.builtin "BaseException.__getattribute__")=false from rfl,Bool.and_false]
 rw [if_neg (by rw [no3];decide)]
 repeat (any_goals (first | assumption | (with_reducible refine wpAny_bind (L0.at ?_)) | (with_reducible refine wpAny_bind (L1.at ?_)) | (with_reducible refine wpAny_bind (L2.at ?_)) | (with_reducible refine L1.at ?_) | (with_reducible refine L2.at ?_) | wp_step))
 refine qIk c X I hf ?_
 show wpAny _ _ (handedOut v) Q E _
 rw [hho]
 exact wpAny_pure hq
end
end L3
namespace L3
open PySem PySem.Spec PyProof.Rows L2
theorem qJn {o:Obj}{es:Array DictEntry}{ep:Nat}{name:Str}{v:Value}(hd:o.data= .dict es ep)(hf:nsFind es name=some v):PySem.W.lookIn name o=some (some v):=by
 unfold PySem.W.lookIn
 rw [hd]
 dsimp only
 unfold nsFind findBy at hf
 rw [← Array.find?_toList] at hf
 cases he:es.toList.find? (fun e=>e.key.isStr name) with
 | none=>rw [he] at hf;cases hf
 | some en=>
  rw [he] at hf
  have:en.val=v:=by simpa using hf
  subst this
  rfl
inductive qM4 (K:PySem.W.Frag)(f:Str)(Q:VK)(x:V)(H1:Hp):Prop
| mk a D dx fs i (_:x= .ref a) (_:H1 a=some (qCd a (.ref D,some dx))) (_:H1 dx=some (.xd fs)) (_:fs.lookup f=some (.int i)) (_:ExcK K D) (_:PySem.W.hasDictIn K D=true) (_:PySem.W.findIn K (.ref D) f=some none) (_:Q (.int i) H1)
def qNo (K:PySem.W.Frag)(ta:TE)(f:Str):TE:=fun σ H Q=>ta σ H fun x H1=>qM4 K f Q x H1
theorem qMo {X:Cx}{e:Expr}{f:Str}{pos:Pos}{ta:TE}(he:PE X e ta)(hb:attributeBase e f X.env (eval e X.env)=eval e X.env:=by rfl):PE X (.Attribute e f pos) (qNo X.K ta f):=by
 intro pins s σ H Q I h
 refine qMe hb (thn (he pins s σ H _ I h) fun u s1 ⟨x,H1,I1,rx,a,D,dx,fs,i,ex,ea,ed,el,c,hh,hn,q⟩=>?_)
 subst ex
 obtain rfl:u=Value.ref a:=rx
 obtain⟨⟨vs,sl,qe⟩,_⟩:=I1.hok a _ ea
 obtain⟨mA,⟨o,es,ep,eo,hd,_,_,hm⟩,r⟩:=I1.hok dx _ ed
 have J:PySem.W.InstAt s1.heap a {cls:=.ref D,dict:=some dx,data:=.fields vs,slots:=sl} D (some o):=⟨qe,rfl,rfl,eo⟩
 have rf:=r f
 rw [el] at rf
 cases hmf:mA f with
 | none=>rw [hmf] at rf;exact False.elim rf
 | some u=>
  rw [hmf] at rf
  obtain⟨tk,rfl⟩:RelV (.int i) u:=rf
  have hl:=qJn hd ((hm f).trans hmf)
  have hf:PySem.W.findObj X.K D (some o) f=some (.value (.int i tk)):=PySem.W.findObj_own hh hn rfl hl
  unfold getAttr
  obtain⟨hp,g,d,t,os⟩:=s1
  refine wpAny_bind ?_
  refine wpAny_mkText ?_
  refine qLn c I1.kIn J hf rfl ?_
  exact⟨.int i,H1,I1.tok _,⟨_,rfl⟩,q⟩
end L3
set_option maxRecDepth 100000
namespace L3
open PySem PySem.Spec PyProof.Rows L2
inductive PHs (X:Cx):List ExceptHandler→List (Addr × Option Nat × TS)→Prop where
 | nil:PHs X [] []
 | cons {x:Str} {np hpos:Pos} {nm:Option Str} {i:Option Nat} {b₀:Stmt} {suite:List Stmt} {C:Addr} {ts:TS} {hs:List ExceptHandler} {cs:List (Addr × Option Nat × TS)} (hcl:qEj X nm i) (hg:Gl X x) (hm:X.mg x=some (.ref C))
  (h:∀ l ea,PSs (hdX (pnX X l) ea).nox (b₀::suite) ts) (r:PHs X hs cs) (hdb:(x == ("__debug__":Str))=false:=by decide):PHs X (.ExceptHandler (some (.Name x np)) nm (b₀::suite) hpos::hs) ((C,i,ts)::cs)
section
variable {X : Cx}
theorem qJ2 {bs:List Bool}{its:List Value}{P:Program}{w:World}{A:Around}(r:Vals (bs.map V.bl) its):TruthOf P w A (fun i v=>its.toArray[i]? =some v) (fun i=>(bs[i]?).getD false):=by
 intro i v s Q E hv hq
 have hv':its[i]? =some v:=by simpa using hv
 have hl:=r.length
 have hi:i < bs.length:=by
  have:=(List.getElem?_eq_some_iff.mp hv').1
  rw [List.length_map] at hl
  omega
 obtain⟨u,e1,q1⟩:=r.get (i:=i) (x:=.bl bs[i]) (by rw [List.getElem?_map,List.getElem?_eq_getElem hi];rfl)
 rw [hv'] at e1
 cases e1
 cases q1
 have e:(bs[i]?).getD false=bs[i]:=by rw [List.getElem?_eq_getElem hi];rfl
 have hq':Q ((bs[i]?).getD false) s:=hq
 rw [e] at hq'
 exact wpAny_truthy_bool hq'
theorem qJi (bs:List Bool):(List.range bs.length).all (fun i=>(bs[i]?).getD false)=bs.all id:=by
 rw [Bool.eq_iff_iff,List.all_eq_true,List.all_eq_true]
 constructor
 · intro h x hx
   obtain⟨i,hi,e⟩:=List.mem_iff_getElem.mp hx
   have:=h i (by simpa using hi)
   rw [List.getElem?_eq_getElem hi,e] at this
   exact this
 · intro h i hi
   have hi:i < bs.length:=by simpa using hi
   rw [List.getElem?_eq_getElem hi]
   exact h _ (List.getElem_mem hi)
theorem vL (hc:X.calm=true):vf X (.builtin "all") (fun xs H Q=>∃ (p:Addr) (bs:List Bool),xs=[.ref p]∧SqL X.K H p (bs.map V.bl)∧Q (.bl (bs.all id)) H):=by
 intro pins s σ H xs us Q I r h
 obtain⟨p,bs,rfl,hq,q⟩:=h
 obtain⟨u,rfl,rx⟩:=qHa r
 cases rx
 obtain⟨its,rv,pl,hz⟩:=I.list hq
 have hp:p≠s.heap.objs.size:=by
  obtain⟨o,n,e,_⟩:=pl
  exact Nat.ne_of_lt (Heap.lt_size e)
 have hh:X.A.in1.handled=none:=I.ok.hd hc
 have hl:its.toArray.size=bs.length:=by rw [List.size_toArray,← rv.length,List.length_map]
 refine call_all_walk (wpAny_pyIter_list pl.isList ?_)
 refine⟨s.heap.objs.size,_,_,_,_,_,_,rfl,Walks.list hh _ p hp its.toArray,⟨⟨_,Heap.get?_push_size _ rfl,rfl,rfl⟩,pl.isList.at fun o e=>Heap.get?_push_of_some _ e⟩,qJ2 rv,fun h' tk hk=>?_⟩
 rw [hl,qJi]
 refine⟨.bl _,H,I.kept fun b o e=>hk b o (fun z=>?_) (Heap.get?_push_of_some _ e),rfl,q⟩
 have z':b=s.heap.objs.size:=by simpa using z
 exact absurd (Heap.lt_size e) (by rw [z'];exact Nat.lt_irrefl _)
theorem qNu:OpR X (compareOp .In) (fun x y H Q=>∃ (a b:Str),x= .str a∧y= .str b∧Q (.bl (!(Builtin.Str.occurrences b a 0 b.length 1).isEmpty)) H):=by
 intro pins s σ H x y v u Q I rx ry h
 obtain⟨a,b,rfl,rfl,q⟩:=h
 obtain⟨t,rfl⟩:=rx
 obtain⟨t',rfl⟩:=ry
 exact P.in_str ⟨.bl _,H,I,rfl,q⟩
def Its (z:Str):It:=⟨fun i _=>i < z.cps.size,fun i H x H'=>H'=H∧∃ c,z.cps[i]? =some c∧x= .str ⟨#[c]⟩,fun i _=>z.cps.size≤i⟩
theorem qJo {P:Program}{w:World}{K:PySem.W.Frag}{tg:Expr}(it:Addr)(z:Str)(t:Tok)(ty:String)(hty:ty="str_ascii_iterator"∨ty="str_iterator"):
 qLm P w K tg (Its z) [it] it (fun i h=>h.IsStrIter it ty z t i∧i≤z.cps.size) where
 mem:=by simp
 obj:=fun i h st b hb=>by
  have e:b=it:=by simpa using hb
  subst e
  obtain⟨⟨o,e,c,d⟩,_⟩:=st
  exact⟨o,e,fun v z=>by rw [d] at z;cases z⟩
 keep:=fun i h h' st k=>⟨let ⟨o,ho,r⟩:=st.1;⟨o,k it (by simp) o ho,r⟩,st.2⟩
 item:=by
  intro X hP hw hK hc i pins s σ H E I hf st hg
  subst hP hw hK
  have hi:i < z.cps.size:=hg
  have hx:z.cps[i]? =some z.cps[i]:=by simp [hi]
  obtain⟨f0,f1,f2,f3,f4,f5⟩:=hf it (by simp)
  have fin:∀ h',h'.IsStrIter it ty z t (i+1)→Heap.SameBut it s.heap h'→∃ u,some (Value.str ⟨#[z.cps[i]]⟩ s.toks)=some u∧wpAny (model X.prog X.w) X.A (letOwnedTupleGo tg (.ref it) u) (fun _ s2=>∃ x H',Inv X pins σ H' s2∧RelV x u∧(Its z).yld i H x H'∧(s2.heap.IsStrIter it ty z t (i+1)∧i+1≤z.cps.size)∧∀ b∈[it],H' b=none) E {s with heap:=h',toks:=s.toks+1}:=fun h' st' sb=>by
   have I1:Inv X pins σ H {s with heap:=h',toks:=s.toks+1}:=I.turned (t':=s.toks+1) (fun b o hb e=>(sb.2 b hb).trans e) f0 f1 f3 f4 f5
   obtain⟨o,e,c,d⟩:=id st'
   refine⟨_,rfl,qJ4 (s:={s with heap:=h',toks:=s.toks+1}) e c d (by rcases hty with rfl | rfl <;> decide) ⟨.str ⟨#[z.cps[i]]⟩,H,I1,⟨_,rfl⟩,⟨rfl,_,hx,rfl⟩,⟨st',hi⟩,fun b hb=>(hf b hb).1⟩⟩
  rcases hty with rfl | rfl
  · exact wpAny_pyNext_ascii_item st.1 hx fin
  · exact wpAny_pyNext_wide_item st.1 hx fin
 done:=by
  intro X hP hw hK hc i pins s σ H E I hf st hg
  subst hP hw hK
  have hi:z.cps.size≤i:=hg
  have hx:z.cps[i]? =none:=by simp [hi]
  obtain⟨f0,f1,f2,f3,f4,f5⟩:=hf it (by simp)
  rcases hty with rfl | rfl
  · exact wpAny_pyNext_ascii_end (I.ok.hd hc) st.1 hx fun h' eb=>⟨rfl,I.turned (t':=s.toks) (fun b o hb e=>eb b o hb e) f0 f1 f3 f4 f5⟩
  · exact wpAny_pyNext_wide_end (I.ok.hd hc) st.1 hx fun h' eb=>⟨rfl,I.turned (t':=s.toks) (fun b o hb e=>eb b o hb e) f0 f1 f3 f4 f5⟩
 self:=fun _ _ _ _ _ st h=>by
  rcases hty with rfl | rfl
  · exact wpAny_pyIter_striter_ascii st.1 h
  · exact wpAny_pyIter_striter_wide st.1 h
def qQg (tl:TE):TI:=fun σ H R=>tl σ H fun x H1=>∃ z,x= .str z∧R (Its z) H1
theorem qNy {tg l:Expr}{tl:TE}(hl:PE X l tl):PI X tg l (qQg tl):=by
 intro pins s σ H R I h
 refine thn (hl pins s σ H _ I h) fun v s1 ⟨x,H1,I1,r1,q1⟩=>?_
 obtain⟨z,e,q⟩:=q1
 subst e
 obtain⟨t,rfl⟩:=r1
 have key:∀ ty:String,(ty="str_ascii_iterator"∨ty="str_iterator")→PIE X pins σ tg R (.ref s1.heap.objs.size) {s1 with heap:=s1.heap.push {cls:=.type ty,data:=.fields #[.str z t,.int 0 0]}}:=fun ty hty=>by
  refine⟨s1.heap.objs.size,[s1.heap.objs.size],_,_,H1,rfl,I1.kept (t':=s1.toks) fun b o e=>Heap.get?_push_of_some _ e,qJo _ z t ty hty,⟨⟨_,Heap.get?_push_size _ rfl,rfl,rfl⟩,Nat.zero_le _⟩,fun b hb=>?_,q⟩
  have e:b=s1.heap.objs.size:=by simpa using hb
  subst e
  exact I1.fpOk (Nat.le_refl _) (I1.hok.fresh (Nat.le_refl _))
 cases ha:z.cps.all (· < 128)
 · exact wpAny_pyIter_wide ha (key _ (.inr rfl))
 · exact wpAny_pyIter_ascii ha (key _ (.inl rfl))
theorem qKu {z:Str}{js:List Nat}{te:TE}{σ:L2.St}{H:Hp}{Q:VK}(Pv:Nat→List V→Hp→Prop)(h0:Pv 0 [] H)(hl:∀ i acc H,i≤z.cps.size→Pv i acc H→acc.length < sizeLine)
 (hs:∀ i c acc H,i < z.cps.size→z.cps[i]? =some c→Pv i acc H→te (some (.str ⟨#[c]⟩)::vG js σ) H fun v H'=>Nxt z.cps.size i (Pv (i+1) (acc++[v]) H')) (hd:∀ acc H,Pv z.cps.size acc H→∀ D,H D=none→Q (.ref D) (upd H D (.lst acc))):CompEnd js te σ Q (Its z) H:=by
 refine⟨fun i m acc H=>m=z.cps.size - i∧i≤z.cps.size∧Pv i acc H,⟨z.cps.size,by simp,Nat.zero_le _,h0⟩,?_⟩
 rintro i m acc H2 ⟨rfl,hi,p⟩
 refine⟨hl i acc H2 hi p,?_⟩
 by_cases hlt:i < z.cps.size
 · refine .inr ⟨hlt,fun x H3 y=>?_⟩
   obtain⟨e,c,hc,rfl⟩:=y
   subst e
   exact hs i c acc _ hlt hc p
 · have e:i=z.cps.size:=by omega
   subst e
   exact .inl ⟨Nat.le_refl _,hd acc H2 p⟩
end
section
variable {X : Cx}
end
inductive D where
 | leaf (v:V)
 | tup (xs:List D)
 | lst (xs:List D)
mutual
def Rep (K:PySem.W.Frag)(H:Hp):D→V→Prop
 | .leaf v,x=>x=v∧zA v=true
 | .tup ds,x=>∃ p xs,x= .ref p∧SqT K H p xs∧Reps K H ds xs
 | .lst ds,x=>∃ p xs,x= .ref p∧SqL K H p xs∧Reps K H ds xs
def Reps (K:PySem.W.Frag)(H:Hp):List D→List V→Prop
 | [],[]=>True
 | d::ds,x::xs=>Rep K H d x∧Reps K H ds xs
 | _,_=>False
end
mutual
def eqD:D→D→Bool
 | .leaf v,.leaf w=>eqV v w
 | .tup xs,.tup ys=>wc xs ys
 | .lst xs,.lst ys=>wc xs ys
 | _,_=>false
def wc:List D→List D→Bool
 | [],[]=>true
 | x::xs,y::ys=>eqD x y && wc xs ys
 | _,_=>false
end
mutual
def dep:D→Nat
 | .leaf _=>0
 | .tup xs=>qD3 xs+1
 | .lst xs=>qD3 xs+1
def qD3:List D→Nat
 | []=>0
 | x::xs=>max (dep x) (qD3 xs)
end
theorem Reps.length {K:PySem.W.Frag}{H:Hp}:∀ {ds:List D} {xs:List V},Reps K H ds xs→ds.length=xs.length
 | [],[],_=>rfl
 | _::_,_::_,h=>by
  unfold Reps at h
  rw [List.length_cons,List.length_cons,h.2.length]
 | [],_::_,h=>by unfold Reps at h;exact h.elim
 | _::_,[],h=>by unfold Reps at h;exact h.elim
theorem qKj {v:V}(h:zA v=true):eqV v v=true:=by
 cases v <;> simp_all [zA,eqV]
theorem wb:∀ {xs ys:List D},wc xs ys=true→xs.length=ys.length
 | [],[],_=>rfl
 | x::xs,y::ys,h=>by
  unfold wc at h
  rw [Bool.and_eq_true] at h
  rw [List.length_cons,List.length_cons,wb h.2]
 | [],_::_,h=>by simp [wc] at h
 | _::_,[],h=>by simp [wc] at h
def itE (xs ys:List D)(j:Nat):Bool:=match xs[j]?,ys[j]? with
 | some a,some b=>eqD a b
 | _,_=>false
theorem qDs:∀ (xs ys:List D),((List.range (min xs.length ys.length)).all (itE xs ys) && xs.length == ys.length)=wc xs ys
 | [],[]=>by simp [wc]
 | [],y::ys=>by simp [wc]
 | x::xs,[]=>by simp [wc]
 | x::xs,y::ys=>by
  have ih:=qDs xs ys
  have e:min (x::xs).length (y::ys).length=min xs.length ys.length+1:=by simp only [List.length_cons];omega
  rw [e,List.range_succ_eq_map,List.all_cons,List.all_map]
  have e2:(itE (x::xs) (y::ys)) ∘ Nat.succ=itE xs ys:=by
   funext j
   simp [itE]
  have e3:itE (x::xs) (y::ys) 0=eqD x y:=by simp [itE]
  have e4:((x::xs).length == (y::ys).length)=(xs.length == ys.length):=by
   rw [Bool.eq_iff_iff];simp
  rw [e2,e3,e4,Bool.and_assoc,ih]
  conv=>rhs;unfold wc
theorem qFv {xs ys:List D}(h:xs.length=ys.length):(List.range xs.length).all (itE xs ys)=wc xs ys:=by
 have:=qDs xs ys
 rw [← h,Nat.min_self] at this
 simpa using this
section
variable {X : Cx} {pins : List (Addr × Obj)} {σ : L2.St} {H : Hp} {s : Shared}
mutual
theorem qCs (I:Inv X pins σ H s):∀ (d e:D) {x:V},Rep X.K H d x→Rep X.K H e x→eqD d e=true
 | .leaf v,.leaf w,x,h1,h2=>by
  unfold Rep at h1 h2
  obtain⟨rfl,f⟩:=h1
  obtain⟨rfl,_⟩:=h2
  unfold eqD
  exact qKj f
 | .leaf v,.tup ds,x,h1,h2=>by
  unfold Rep at h1 h2
  obtain⟨rfl,f⟩:=h1
  obtain⟨p,xs,rfl,_⟩:=h2
  cases f
 | .leaf v,.lst ds,x,h1,h2=>by
  unfold Rep at h1 h2
  obtain⟨rfl,f⟩:=h1
  obtain⟨p,xs,rfl,_⟩:=h2
  cases f
 | .tup ds,.leaf w,x,h1,h2=>by
  unfold Rep at h1 h2
  obtain⟨rfl,f⟩:=h2
  obtain⟨p,xs,rfl,_⟩:=h1
  cases f
 | .lst ds,.leaf w,x,h1,h2=>by
  unfold Rep at h1 h2
  obtain⟨rfl,f⟩:=h2
  obtain⟨p,xs,rfl,_⟩:=h1
  cases f
 | .tup ds,.tup es,x,h1,h2=>by
  unfold Rep at h1 h2
  obtain⟨p,xs,rfl,t1,r1⟩:=h1
  obtain⟨q,ys,e,t2,r2⟩:=h2
  cases e
  rw [I.tuple_inj t1 t2] at r1
  unfold eqD
  exact qA5 I ds es r1 r2
 | .lst ds,.lst es,x,h1,h2=>by
  unfold Rep at h1 h2
  obtain⟨p,xs,rfl,t1,r1⟩:=h1
  obtain⟨q,ys,e,t2,r2⟩:=h2
  cases e
  rw [I.list_inj t1 t2] at r1
  unfold eqD
  exact qA5 I ds es r1 r2
 | .tup ds,.lst es,x,h1,h2=>by
  unfold Rep at h1 h2
  obtain⟨p,xs,rfl,t1,r1⟩:=h1
  obtain⟨q,ys,e,t2,r2⟩:=h2
  cases e
  obtain⟨_,_,i1,_⟩:=I.tuple t1
  obtain⟨_,_,i2,_⟩:=I.list t2
  exact(SeqAt.ne_of_list_tuple i2.isList i1 rfl).elim
 | .lst ds,.tup es,x,h1,h2=>by
  unfold Rep at h1 h2
  obtain⟨p,xs,rfl,t1,r1⟩:=h1
  obtain⟨q,ys,e,t2,r2⟩:=h2
  cases e
  obtain⟨_,_,i1,_⟩:=I.list t1
  obtain⟨_,_,i2,_⟩:=I.tuple t2
  exact(SeqAt.ne_of_list_tuple i1.isList i2 rfl).elim
theorem qA5 (I:Inv X pins σ H s):∀ (ds es:List D) {xs:List V},Reps X.K H ds xs→Reps X.K H es xs→wc ds es=true
 | [],[],_,_,_=>by simp [wc]
 | d::ds,e::es,[],h1,_=>by unfold Reps at h1;exact h1.elim
 | d::ds,e::es,x::xs,h1,h2=>by
  unfold Reps at h1 h2
  unfold wc
  rw [qCs I d e h1.1 h2.1,qA5 I ds es h1.2 h2.2]
  rfl
 | [],e::es,[],_,h2=>by unfold Reps at h2;exact h2.elim
 | [],e::es,_::_,h1,_=>by unfold Reps at h1;exact h1.elim
 | d::ds,[],[],h1,_=>by unfold Reps at h1;exact h1.elim
 | d::ds,[],_::_,_,h2=>by unfold Reps at h2;exact h2.elim
end
theorem kB {A:Around}{x:V}{u:Value}{p:Addr}{its:Array Value}(f:zA x=true)(r:RelV x u)(hu:A.units < cLine)(h:s.heap.IsTuple p its∨s.heap.IsList p its):SeqAt.EqAt A s u (.ref p) false∧SeqAt.EqAt A s (.ref p) u false:=by
 cases x with
 | non=>cases r;rcases h with h | h <;> exact⟨by first | exact SeqAt.EqAt.none_tuple h hu | exact SeqAt.EqAt.none_list h hu,by first | exact SeqAt.EqAt.tuple_none h hu | exact SeqAt.EqAt.list_none h hu⟩
 | bl b=>cases r;rcases h with h | h <;> exact⟨by first | exact SeqAt.EqAt.bool_tuple _ h hu | exact SeqAt.EqAt.bool_list _ h hu,by first | exact SeqAt.EqAt.tuple_bool _ h hu | exact SeqAt.EqAt.list_bool _ h hu⟩
 | int i=>obtain⟨t,rfl⟩:=r;rcases h with h | h <;> exact⟨by first | exact SeqAt.EqAt.int_tuple _ _ h hu | exact SeqAt.EqAt.int_list _ _ h hu,by first | exact SeqAt.EqAt.tuple_int _ _ h hu | exact SeqAt.EqAt.list_int _ _ h hu⟩
 | str i=>obtain⟨t,rfl⟩:=r;rcases h with h | h <;> exact⟨by first | exact SeqAt.EqAt.str_tuple _ _ h hu | exact SeqAt.EqAt.str_list _ _ h hu,by first | exact SeqAt.EqAt.tuple_str _ _ h hu | exact SeqAt.EqAt.list_str _ _ h hu⟩
 | _=>cases f
theorem Reps.get {K:PySem.W.Frag}{H:Hp}:∀ {ds:List D} {xs:List V},Reps K H ds xs→∀ (j:Nat) (d:D),ds[j]? =some d→∃ x,xs[j]? =some x∧Rep K H d x
 | [],[],_,j,d,e=>by simp at e
 | a::ds,x::xs,h,0,d,e=>by
  unfold Reps at h
  have:a=d:=by simpa using e
  subst this
  exact⟨x,rfl,h.1⟩
 | a::ds,x::xs,h,j+1,d,e=>by
  unfold Reps at h
  exact h.2.get j d (by simpa using e)
 | [],_::_,h,_,_,_=>by unfold Reps at h;exact h.elim
 | _::_,[],h,_,_,_=>by unfold Reps at h;exact h.elim
theorem qDb:∀ {ds:List D} {j:Nat} {d:D},ds[j]? =some d→dep d≤qD3 ds
 | a::ds,0,d,e=>by
  have:a=d:=by simpa using e
  subst this
  unfold qD3
  exact Nat.le_max_left _ _
 | a::ds,j+1,d,e=>by
  have:=qDb (ds:=ds) (j:=j) (d:=d) (by simpa using e)
  unfold qD3
  exact Nat.le_trans this (Nat.le_max_right _ _)
 | [],_,_,e=>by simp at e
theorem qIp {A:Around}{ds es:List D}{xs ys:List V}{us ws:List Value}(r1:Reps X.K H ds xs)(r2:Reps X.K H es ys)(v1:Vals xs us)(v2:Vals ys ws)
 (ih:∀ d e x y u w,d∈ds→Rep X.K H d x→Rep X.K H e y→RelV x u→RelV y w→SeqAt.EqAt A s u w (eqD d e)):
 ∀ j (h1:j < us.toArray.size) (h2:j < ws.toArray.size),SeqAt.EqAt A s us.toArray[j] ws.toArray[j] (itE ds es j):=by
 intro j h1 h2
 have l1:=v1.length
 have l2:=v2.length
 have m1:=r1.length
 have m2:=r2.length
 rw [List.size_toArray] at h1 h2
 have g1:ds[j]? =some ds[j]:=List.getElem?_eq_getElem (by omega)
 have g2:es[j]? =some es[j]:=List.getElem?_eq_getElem (by omega)
 obtain⟨x,ex,rx⟩:=r1.get j _ g1
 obtain⟨y,ey,ry⟩:=r2.get j _ g2
 obtain⟨u,eu,qu⟩:=v1.get ex
 obtain⟨w,ew,qw⟩:=v2.get ey
 have c1:us.toArray[j]=u:=by
  have:=(List.getElem?_eq_some_iff.mp eu).2
  simpa using this
 have c2:ws.toArray[j]=w:=by
  have:=(List.getElem?_eq_some_iff.mp ew).2
  simpa using this
 have e:itE ds es j=eqD ds[j] es[j]:=by unfold itE;rw [g1,g2]
 rw [c1,c2,e]
 exact ih _ _ _ _ _ _ (List.getElem_mem _) rx ry qu qw
theorem qN3 (I:Inv X pins σ H s):∀ (n:Nat) (A:Around) (d e:D) (x y:V) (u w:Value),dep d≤n→A.units+n < cLine→Rep X.K H d x→Rep X.K H e y→RelV x u→RelV y w→SeqAt.EqAt A s u w (eqD d e):=by
 intro n
 induction n with
 | zero=>
  intro A d e x y u w hd hu r1 r2 q1 q2
  cases d with
  | leaf v=>
   unfold Rep at r1
   obtain⟨rfl,f1⟩:=r1
   cases e with
   | leaf v'=>
    unfold Rep at r2
    obtain⟨rfl,f2⟩:=r2
    unfold eqD
    exact qGs q1 q2 f1 f2
   | tup es=>
    unfold Rep at r2
    obtain⟨p,ys,rfl,t,_⟩:=r2
    cases q2
    obtain⟨_,_,i,_⟩:=I.tuple t
    unfold eqD
    exact(kB f1 q1 hu (.inl i)).1
   | lst es=>
    unfold Rep at r2
    obtain⟨p,ys,rfl,t,_⟩:=r2
    cases q2
    obtain⟨_,_,i,_⟩:=I.list t
    unfold eqD
    exact(kB f1 q1 hu (.inr i.isList)).1
  | tup ds=>unfold dep at hd;omega
  | lst ds=>unfold dep at hd;omega
 | succ n ih=>
  intro A d e x y u w hd hu r1 r2 q1 q2
  have hu0:A.units < cLine:=by omega
  have hu1:A.in1.units+n < cLine:=by show A.units+1+n < cLine;omega
  cases d with
  | leaf v=>
   unfold Rep at r1
   obtain⟨rfl,f1⟩:=r1
   cases e with
   | leaf v'=>
    unfold Rep at r2
    obtain⟨rfl,f2⟩:=r2
    unfold eqD
    exact qGs q1 q2 f1 f2
   | tup es=>
    unfold Rep at r2
    obtain⟨p,ys,rfl,t,_⟩:=r2
    cases q2
    obtain⟨_,_,i,_⟩:=I.tuple t
    unfold eqD
    exact(kB f1 q1 hu0 (.inl i)).1
   | lst es=>
    unfold Rep at r2
    obtain⟨p,ys,rfl,t,_⟩:=r2
    cases q2
    obtain⟨_,_,i,_⟩:=I.list t
    unfold eqD
    exact(kB f1 q1 hu0 (.inr i.isList)).1
  | tup ds=>
   have r1':=r1
   unfold Rep at r1
   obtain⟨p,xs,rfl,t1,s1⟩:=r1
   cases q1
   obtain⟨us,v1,i1,_⟩:=I.tuple t1
   cases e with
   | leaf v'=>
    unfold Rep at r2
    obtain⟨rfl,f2⟩:=r2
    unfold eqD
    exact(kB f2 q2 hu0 (.inl i1)).2
   | lst es=>
    unfold Rep at r2
    obtain⟨q,ys,rfl,t2,_⟩:=r2
    cases q2
    obtain⟨_,_,i2,_⟩:=I.list t2
    unfold eqD
    exact SeqAt.EqAt.tuple_list i1 i2.isList hu0
   | tup es=>
    have r2':=r2
    unfold Rep at r2
    obtain⟨q,ys,rfl,t2,s2⟩:=r2
    cases q2
    by_cases pq:p=q
    · subst pq
      rw [qCs I _ _ r1' r2']
      exact SeqAt.EqAt.same _
    obtain⟨ws,v2,i2,_⟩:=I.tuple t2
    have hdd:qD3 ds≤n:=by unfold dep at hd;omega
    have:=SeqAt.EqAt.of_refs pq (SeqAt.RcAt.tuples i1 i2 hu0 (qIp s1 s2 v1 v2 fun d e x y u w hm ra rb qa qb=>by
     obtain⟨j,hj,ej⟩:=List.mem_iff_getElem.mp hm
     have hde:dep d≤qD3 ds:=qDb (j:=j) (by rw [List.getElem?_eq_getElem hj,ej])
     exact ih A.in1 d e x y u w (by omega) hu1 ra rb qa qb))
    rw [List.size_toArray,List.size_toArray,← v1.length,← v2.length,← s1.length,← s2.length,qDs] at this
    unfold eqD
    exact this
  | lst ds=>
   have r1':=r1
   unfold Rep at r1
   obtain⟨p,xs,rfl,t1,s1⟩:=r1
   cases q1
   obtain⟨us,v1,i1,_⟩:=I.list t1
   cases e with
   | leaf v'=>
    unfold Rep at r2
    obtain⟨rfl,f2⟩:=r2
    unfold eqD
    exact(kB f2 q2 hu0 (.inr i1.isList)).2
   | tup es=>
    unfold Rep at r2
    obtain⟨q,ys,rfl,t2,_⟩:=r2
    cases q2
    obtain⟨_,_,i2,_⟩:=I.tuple t2
    unfold eqD
    exact SeqAt.EqAt.list_tuple i1.isList i2 hu0
   | lst es=>
    have r2':=r2
    unfold Rep at r2
    obtain⟨q,ys,rfl,t2,s2⟩:=r2
    cases q2
    by_cases pq:p=q
    · subst pq
      rw [qCs I _ _ r1' r2']
      exact SeqAt.EqAt.same _
    obtain⟨ws,v2,i2,_⟩:=I.list t2
    have hdd:qD3 ds≤n:=by unfold dep at hd;omega
    unfold eqD
    by_cases hl:ds.length=es.length
    · have hsz:us.toArray.size=ws.toArray.size:=by rw [List.size_toArray,List.size_toArray,← v1.length,← v2.length,← s1.length,← s2.length];exact hl
      have:=SeqAt.EqAt.of_refs pq (SeqAt.RcAt.lists i1.isList i2.isList hsz hu0 (qIp s1 s2 v1 v2 fun d e x y u w hm ra rb qa qb=>by
       obtain⟨j,hj,ej⟩:=List.mem_iff_getElem.mp hm
       have hde:dep d≤qD3 ds:=qDb (j:=j) (by rw [List.getElem?_eq_getElem hj,ej])
       exact ih A.in1 d e x y u w (by omega) hu1 ra rb qa qb))
      rw [List.size_toArray,← v1.length,← s1.length,qFv hl] at this
      exact this
    · have hsz:(us.toArray.size != ws.toArray.size)=true:=by
       rw [List.size_toArray,List.size_toArray,← v1.length,← v2.length,← s1.length,← s2.length]
       simpa using hl
      have e:wc ds es=false:=by
       rw [Bool.eq_false_iff]
       intro z
       exact hl (wb z)
      rw [e]
      exact SeqAt.EqAt.of_refs pq (SeqAt.RcAt.lists_lengths i1.isList i2.isList hsz hu0)
def kin:D→D→Bool
 | .tup _,.tup _=>true
 | .lst _,.lst _=>true
 | _,_=>false
inductive qNh (K:PySem.W.Frag)(neg:Bool)(x:V)(y:V)(H:Hp)(Q:VK):Prop
| mk (d e:D) (_:Rep K H d x) (_:Rep K H e y) (_:kin d e=true) (_:dep d≤60) (_:Q (.bl (if neg then !eqD d e else eqD d e)) H)
theorem z7 {A:Around}(I:Inv X pins σ H s)(hu:A.units+64 < cLine){ds es:List D}{xs ys:List V}{us ws:List Value}(hd:qD3 ds≤60)(s1:Reps X.K H ds xs)(s2:Reps X.K H es ys)(v1:Vals xs us)(v2:Vals ys ws):
 ∀ j (h1:j < us.toArray.size) (h2:j < ws.toArray.size),SeqAt.EqAt A.in1 s us.toArray[j] ws.toArray[j] (itE ds es j):=
 qIp s1 s2 v1 v2 fun d e x y u w hm ra rb qa qb=>by
  obtain⟨j,hj,ej⟩:=List.mem_iff_getElem.mp hm
  have hde:dep d≤qD3 ds:=qDb (j:=j) (by rw [List.getElem?_eq_getElem hj,ej])
  exact qN3 I 60 A.in1 d e x y u w (by omega) (by show A.units+1+60 < cLine;omega) ra rb qa qb
theorem op_eqR (hu:X.A.units+64 < cLine):OpR X (compareOp .Eq) (qNh X.K false):=by
 intro pins s σ H x y v u Q I rx ry h
 obtain⟨d,e,r1,r2,hk,hd,q⟩:=h
 have hu0:X.A.units < cLine:=by omega
 cases d with
 | leaf a=>cases e <;> cases hk
 | tup ds=>
  cases e with
  | leaf b=>cases hk
  | lst es=>cases hk
  | tup es=>
   unfold Rep at r1 r2
   obtain⟨p,xs,rfl,t1,s1⟩:=r1
   obtain⟨p',ys,rfl,t2,s2⟩:=r2
   cases rx;cases ry
   obtain⟨us,v1,i1,_⟩:=I.tuple t1
   obtain⟨ws,v2,i2,_⟩:=I.tuple t2
   refine SeqAt.eq_tupleAt i1 i2 hu0 (z7 I hu (by unfold dep at hd;omega) s1 s2 v1 v2) ?_
   rw [List.size_toArray,List.size_toArray,← v1.length,← v2.length,← s1.length,← s2.length,qDs]
   refine⟨.bl _,H,I,rfl,?_⟩
   unfold eqD at q
   exact q
 | lst ds=>
  cases e with
  | leaf b=>cases hk
  | tup es=>cases hk
  | lst es=>
   unfold Rep at r1 r2
   obtain⟨p,xs,rfl,t1,s1⟩:=r1
   obtain⟨p',ys,rfl,t2,s2⟩:=r2
   cases rx;cases ry
   obtain⟨us,v1,i1,_⟩:=I.list t1
   obtain⟨ws,v2,i2,_⟩:=I.list t2
   unfold eqD at q
   by_cases hl:ds.length=es.length
   · have hsz:us.toArray.size=ws.toArray.size:=by rw [List.size_toArray,List.size_toArray,← v1.length,← v2.length,← s1.length,← s2.length];exact hl
     refine SeqAt.eq_listAt i1.isList i2.isList hsz hu0 (z7 I hu (by unfold dep at hd;omega) s1 s2 v1 v2) ?_
     rw [List.size_toArray,← v1.length,← s1.length,qFv hl]
     exact⟨.bl _,H,I,rfl,q⟩
   · have hsz:(us.toArray.size != ws.toArray.size)=true:=by
      rw [List.size_toArray,List.size_toArray,← v1.length,← v2.length,← s1.length,← s2.length]
      simpa using hl
     have e:wc ds es=false:=by
      rw [Bool.eq_false_iff]
      intro z
      exact hl (wb z)
     rw [e] at q
     exact SeqAt.eq_list_lengthsAt i1.isList i2.isList hsz hu0 ⟨.bl _,H,I,rfl,q⟩
theorem qLa (hu:X.A.units+64 < cLine):OpR X (compareOp .NotEq) (qNh X.K true):=by
 intro pins s σ H x y v u Q I rx ry h
 obtain⟨d,e,r1,r2,hk,hd,q⟩:=h
 have hu0:X.A.units < cLine:=by omega
 cases d with
 | leaf a=>cases e <;> cases hk
 | tup ds=>
  cases e with
  | leaf b=>cases hk
  | lst es=>cases hk
  | tup es=>
   unfold Rep at r1 r2
   obtain⟨p,xs,rfl,t1,s1⟩:=r1
   obtain⟨p',ys,rfl,t2,s2⟩:=r2
   cases rx;cases ry
   obtain⟨us,v1,i1,_⟩:=I.tuple t1
   obtain⟨ws,v2,i2,_⟩:=I.tuple t2
   refine SeqAt.RcNeAt.tuples i1 i2 hu0 (z7 I hu (by unfold dep at hd;omega) s1 s2 v1 v2) _ _ _ _ ?_
   rw [List.size_toArray,List.size_toArray,← v1.length,← v2.length,← s1.length,← s2.length,qDs]
   refine⟨.bl _,H,I,rfl,?_⟩
   unfold eqD at q
   exact q
 | lst ds=>
  cases e with
  | leaf b=>cases hk
  | tup es=>cases hk
  | lst es=>
   unfold Rep at r1 r2
   obtain⟨p,xs,rfl,t1,s1⟩:=r1
   obtain⟨p',ys,rfl,t2,s2⟩:=r2
   cases rx;cases ry
   obtain⟨us,v1,i1,_⟩:=I.list t1
   obtain⟨ws,v2,i2,_⟩:=I.list t2
   unfold eqD at q
   by_cases hl:ds.length=es.length
   · have hsz:us.toArray.size=ws.toArray.size:=by rw [List.size_toArray,List.size_toArray,← v1.length,← v2.length,← s1.length,← s2.length];exact hl
     refine SeqAt.RcNeAt.lists i1.isList i2.isList hsz hu0 (z7 I hu (by unfold dep at hd;omega) s1 s2 v1 v2) _ _ _ _ ?_
     rw [List.size_toArray,← v1.length,← s1.length,qFv hl]
     exact⟨.bl _,H,I,rfl,q⟩
   · have hsz:(us.toArray.size != ws.toArray.size)=true:=by
      rw [List.size_toArray,List.size_toArray,← v1.length,← v2.length,← s1.length,← s2.length]
      simpa using hl
     have e:wc ds es=false:=by
      rw [Bool.eq_false_iff]
      intro z
      exact hl (wb z)
     rw [e] at q
     exact SeqAt.RcNeAt.lists_lengths i1.isList i2.isList hsz hu0 _ _ _ _ ⟨.bl _,H,I,rfl,q⟩
end
end L3
namespace L3
open PySem PySem.Spec PyProof.Rows L2
def CompEndF (js:List Nat)(tc:TT)(te:TE)(σ:L2.St)(Q:VK)(J:It)(H1:Hp):Prop:=∃ W:Nat→Nat→List V→Hp→Prop,(∃ m,W 0 m [] H1)∧∀ i m acc H2,W i m acc H2→
 acc.length < sizeLine∧((J.stop i H2∧∀ D,H2 D=none→Q (.ref D) (upd H2 D (.lst acc)))∨
  (J.go i H2∧∀ x H3,J.yld i H2 x H3→tc (some x::vG js σ) H3 fun ok H4=>if ok=true then te (some x::vG js σ) H4 fun v H5=>∃ m',m' < m∧W (i+1) m' (acc++[v]) H5 else ∃ m',m' < m∧W (i+1) m' acc H4))
def qLj (js:List Nat)(wi:TI)(tc:TT)(te:TE):TE:=fun σ H Q=>wi σ H (CompEndF js tc te σ Q)
theorem CompEndF.g {js:List Nat}{tc:TT}{te:TE}(σ:L2.St)(Q:VK)(J:It)(H1:Hp):CompEndF js tc te σ Q J H1→kA 1 js (vm 0) tc te σ Q J H1:=fun⟨W,w0,st⟩=>
 ⟨W,w0,fun i m acc H2 w=>⟨(st i m acc H2 w).1,(st i m acc H2 w).2.imp id fun⟨go,y⟩=>⟨go,fun x H3 z=>⟨[some x],rfl,rfl,y x H3 z⟩⟩⟩⟩
theorem qK0 {X:Cx}{elt iter cnd:Expr}{x:Str}{px:Pos}{scope:Scope}{cl:List (Str × Addr)}{pos:Pos}{wi:TI}{tc:TT}{te:TE}(ys:List Str)(js:List Nat)
 (hcm:X.calm=true) (hi:PI X (.Name x px) iter wi) (hc:∀ C s H fp,PT (q9 X scope cl C (x::ys) s H fp).nox cnd tc) (he:∀ C s H fp,PE (q9 X scope cl C (x::ys) s H fp).nox elt te) (hx:scope.names.lookup x=some .local:=by rfl) (hC:COk X scope cl iter [x] ys js:=by exact⟨rfl,rfl,rfl,rfl,rfl,rfl,rfl,rfl,fun _=>rfl,by decide⟩):PE X (.ListComp elt [⟨.Name x px,iter,[cnd],0⟩] scope pos) (qLj js wi tc te):=
 qGy (xs:=[x]) (T:=CompEndF js tc te) hcm hi (fun _ _ _ _=>qq (i:=0) hC.nd rfl (.inl (lookup_relabel_local hx)) (.inr (lookup_relabel_local hx))) (fun C s H fp=>qF3 (hc C s H fp)) he hC CompEndF.g
theorem qKz {X:Cx}{elt iter cnd:Expr}{x:Str}{px:Pos}{scope:Scope}{cl:List (Str × Addr)}{pos:Pos}{wi:TI}{tc:TT}{te:TE}(ys:List Str)(js:List Nat){i:Nat}{y:Str}{py spos:Pos}(hN:X.N.Nodup)(hi':X.N[i]? =some y)(hy:X.env.kindOf y=some .local)
 (hcm:X.calm=true) (hi:PI X (.Name x px) iter wi) (hc:∀ C s H fp,PT (q9 X scope cl C (x::ys) s H fp).nox cnd tc) (he:∀ C s H fp,PE (q9 X scope cl C (x::ys) s H fp).nox elt te) (hx:scope.names.lookup x=some .local:=by rfl) (hC:COk X scope cl iter [x] ys js:=by exact⟨rfl,rfl,rfl,rfl,rfl,rfl,rfl,rfl,fun _=>rfl,by decide⟩) (hsw:swapsWith (.ListComp elt [⟨.Name x px,iter,[cnd],0⟩] scope pos) (some (.Name y py)) spos.line X.env=pure true:=by rfl):PS X (.Assign [.Name y py] (.ListComp elt [⟨.Name x px,iter,[cnd],0⟩] scope pos) spos) (qLz (qLj js wi tc te) (vm i)):=
 qCr (xs:=[x]) (T:=CompEndF js tc te) hN hi' hy hcm hi (fun _ _ _ _=>qq (i:=0) hC.nd rfl (.inl (lookup_relabel_local hx)) (.inr (lookup_relabel_local hx))) (fun C s H fp=>qF3 (hc C s H fp)) he hC CompEndF.g hsw
theorem qHk {K:PySem.W.Frag}{a:Addr}{xs:List V}{js:List Nat}{tc:TT}{te:TE}{σ:L2.St}{H:Hp}{Q:VK}(Pv:Nat→List V→Hp→Prop)(h0:Pv 0 [] H)(hl:∀ i acc H,i≤xs.length→Pv i acc H→SqL K H a xs∧acc.length < sizeLine)
 (hs:∀ i x acc H,i < xs.length→xs[i]? =some x→Pv i acc H→tc (some x::vG js σ) H fun ok H'=>if ok=true then te (some x::vG js σ) H' fun v H''=>Nxt xs.length i (Pv (i+1) (acc++[v]) H'') else Nxt xs.length i (Pv (i+1) acc H')) (hd:∀ acc H,Pv xs.length acc H→∀ D,H D=none→Q (.ref D) (upd H D (.lst acc))):CompEndF js tc te σ Q (Itl K a) H:=by
 refine⟨fun i m acc H=>m=xs.length - i∧i≤xs.length∧Pv i acc H,⟨xs.length,by simp,Nat.zero_le _,h0⟩,?_⟩
 rintro i m acc H2 ⟨rfl,hi,p⟩
 obtain⟨q,hz⟩:=hl i acc H2 hi p
 refine⟨hz,?_⟩
 by_cases hlt:i < xs.length
 · refine .inr ⟨⟨xs,xs[i],q,by simp [hlt]⟩,fun x H3 y=>?_⟩
   obtain⟨e,y⟩:=y
   subst e
   exact hs i x acc _ hlt (y xs q) p
 · have e:i=xs.length:=by omega
   subst e
   exact .inl ⟨⟨xs,q,Nat.le_refl _⟩,hd acc H2 p⟩
theorem qIs (n:Nat):sliceRange (sliceBounds none none (some (-1)) n).1 (sliceBounds none none (some (-1)) n).2.1 (sliceBounds none none (some (-1)) n).2.2=(List.range n).map fun k=>n - 1 - k:=by
 have e1:(sliceBounds none none (some (-1)) n).1=(n:Int) - 1:=by simp [sliceBounds]
 have e2:(sliceBounds none none (some (-1)) n).2.1= -1:=by simp [sliceBounds]
 have e3:(sliceBounds none none (some (-1)) n).2.2= -1:=by simp [sliceBounds]
 rw [e1,e2,e3]
 unfold sliceRange
 have h0:¬ ((-1:Int) > 0):=by decide
 have hc:(if (-1:Int) > 0 then (if (n:Int) - 1 < -1 then (-1 - ((n:Int) - 1)+ -1 - 1) / -1 else 0) else (if (n:Int) - 1 > -1 then ((n:Int) - 1 - -1 - -1 - 1) / (- -1) else 0)).toNat=n:=by
  rw [if_neg h0]
  by_cases hn:(n:Int) - 1 > -1
  · rw [if_pos hn]
    have e:(- -1:Int)=1:=by decide
    rw [e,Int.ediv_one]
    omega
  · rw [if_neg hn]
    omega
 simp only [] at hc ⊢
 rw [hc]
 refine List.map_congr_left fun k hk=>?_
 have:=List.mem_range.mp hk
 omega
theorem qJ1 (its:List Value):slicePick its.toArray none none (some (-1))=its.reverse.toArray:=by
 unfold slicePick
 rw [qIs]
 congr 1
 rw [List.filterMap_map]
 apply List.ext_getElem?
 intro j
 have key:∀ n,n≤its.length→(List.range n).filterMap ((fun x=>its.toArray[x]?) ∘ fun k=>its.toArray.size - 1 - k)=its.reverse.take n:=by
  intro n
  induction n with
  | zero=>intro _;simp
  | succ n ih=>
   intro hn
   rw [List.range_succ,List.filterMap_append,ih (by omega),List.take_add_one]
   have hi:its.length - 1 - n < its.length:=by omega
   have e:its.reverse[n]? =some its[its.length - 1 - n]:=by
    rw [List.getElem?_reverse (by omega),List.getElem?_eq_getElem hi]
   rw [e]
   simp [hi]
 rw [List.size_toArray] at key ⊢
 rw [key its.length (Nat.le_refl _),List.take_of_length_le (by simp)]
theorem Vals.rev {xs:List V}{us:List Value}(r:Vals xs us):Vals xs.reverse us.reverse:=by
 induction r with
 | nil=>exact .nil
 | cons h t ih=>
  rw [List.reverse_cons,List.reverse_cons]
  exact ih.append (.cons h .nil)
inductive qOe (K:PySem.W.Frag)(Q:VK)(x:V)(H1:Hp):Prop
| mk a xs (_:x= .ref a) (_:SqL K H1 a xs) (_:∀ p,H1 p=none→Q (.ref p) (upd H1 p (.lst xs.reverse)))
def qP9 (K:PySem.W.Frag)(te:TE):TE:=fun σ H Q=>te σ H fun x H1=>qOe K Q x H1
theorem qNn {X:Cx}{e:Expr}{te:TE}{j:Nat}{pc pu p2 pos:Pos}(he:PE X e te):PE X (.Subscript e (.Slice none none (some (.UnaryOp .USub (.Constant (.int 1) j pc) pu)) p2) pos) (qP9 X.K te):=by
 intro pins s σ H Q I h
 refine Subscript_ (thn (he pins s σ H _ I h) fun v s1 ⟨x,H1,I1,r1,q1⟩=>?_)
 obtain⟨a,xs,rfl,hx,q⟩:=q1
 cases r1
 refine wpAny_Slice ?_
 rw [evalPart_none]
 refine wpAny_pure (wpAny_pure ?_)
 have po:=(qAm (X:=X) (we (X:=X) (pos:=pu) zp (qE (X:=X) (i:=1) (j:=j) (pos:=pc)))) pins s1 σ H1 (fun i H2=>i=some (-1)∧H2=H1) I1 ⟨1,rfl,-1,rfl,rfl,rfl⟩
 refine thn po fun vs s3 h3=>?_
 obtain⟨st,H3,I3,ps,rfl,rfl⟩:=h3
 have I4:Inv X pins σ H3 {s3 with heap:=s3.heap.push {cls:=.type "slice",data:=.fields #[.none,.none,vs]}}:=I3.kept (t':=s3.toks) fun b ob q=>Heap.get?_push_of_some _ q
 obtain⟨its,r,ht,hz⟩:=I4.list hx
 have hlen:=r.length
 show wpAny (model X.prog X.w) X.A (subscriptTail e (.Slice none none (some (.UnaryOp .USub (.Constant (.int 1) j pc) pu)) p2) (.ref a) (.ref s3.heap.objs.size)) (EP X pins σ Q) X.xe {s3 with heap:=s3.heap.push {cls:=.type "slice",data:=.fields #[.none,.none,vs]}}
 refine tail_any (ops:=[.ref a,.ref s3.heap.objs.size]) ht.isList.typeIs slot_list_getitem.lookup ?_ (by with_unfolding_all rfl)
 refine wpAny_getItem_list_slice ht.isList (Heap.IsSliceOf.new ..) .none .none ps (by simp) ?_ (by rw [List.size_toArray] <;> omega)
 rw [qJ1]
 refine⟨.ref _,_,I4.laid (t':=s3.toks) (o:=.lst xs.reverse) (fun b ob q=>Heap.get?_push_of_some _ q) (Nat.le_refl _) ?_,rfl,q _ (I4.hok.fresh (Nat.le_refl _))⟩
 exact⟨by rw [List.length_reverse];exact hz,_,0,L3.Vals.rev r,Heap.get?_push_size _ rfl⟩
theorem qLw {X:Cx}{pins:List (Addr × Obj)}{σ:L2.St}{H:Hp}{s:Shared}{h':Heap}{t':Nat}{ch:List Addr}(I:Inv X pins σ H s)(hf:∀ b∈ch,qKd X pins H b)
 (k:∀ b o,b ∉ ch→s.heap.get? b=some o→h'.get? b=some o):Inv X pins σ H {s with heap:=h',toks:=t'}:=by
 have nit:∀ b u,H b=some u→b ∉ ch:=fun b u e z=>by rw [(hf b z).1] at e;cases e
 refine I.step (g':=s.gens) (d':=s.drawn) (ch:=ch) (fun b hb=>?_) (fun b o _ _ hc e _=>k b o hc e) (fun b o _ _ hc e _=>⟨o.slots,k b o hc e⟩) (fun _ _ _ _ n=>n)
  (fun b o hc e=>⟨o,k b o hc e⟩) (fun _ _ e=>e) (fun _ _ _ e=>e) (fun b ps e=>⟨#[],by rw [e];simp⟩) (fun m hm=>?_) (fun b u e=>?_) I.bare
 · obtain⟨_,f1,_,f3,f4,f5⟩:=hf b hb
   exact⟨f3,f1,f4,f5⟩
 · obtain⟨o,es,ep,ho,r⟩:=hm
   exact⟨o,es,ep,k _ o (fun z=>(hf _ z).2.1 rfl) ho,r⟩
 · refine(I.hok b u e).stay (fun c v hc q=>k c v ?_ q) (fun _ q=>q) fun _ _ q=>q
   rcases hc with z | z
   · rw [z];exact nit b u e
   · exact nit c _ z
theorem qLe {X:Cx}{pins:List (Addr × Obj)}{σ:L2.St}{H:Hp}{s:Shared}{h':Heap}{t':Nat}{ch:List Addr}{xs:List V}{us:Array Value}(I:Inv X pins σ H s)(hf:∀ b∈ch,qKd X pins H b)(hlt:∀ b∈ch,b < s.heap.objs.size)
 (k:∀ b o,b ∉ ch→s.heap.get? b=some o→h'.get? b=some o) (hT:h'.get? s.heap.objs.size=some {cls:=.type "tuple",data:=.seq us}) (r:Vals xs us.toList) (hz:xs.length≤sizeLine):
 Inv X pins σ (upd H s.heap.objs.size (.tup xs)) {s with heap:=h',toks:=t'}∧∀ b∈ch,upd H s.heap.objs.size (.tup xs) b=none:=by
 have hn:∀ b∈ch,upd H s.heap.objs.size (.tup xs) b=none:=fun b hb=>by
  rw [qU (Nat.ne_of_lt (hlt b hb))];exact(hf b hb).1
 have I1:Inv X pins σ (upd H s.heap.objs.size (.tup xs)) {s with heap:=s.heap.push {cls:=.type "tuple",data:=.seq us},toks:=t'}:=
  I.laid (t':=t') (fun b o e=>Heap.get?_push_of_some _ e) (Nat.le_refl _) ⟨hz,us.toList,r,⟨_,Heap.get?_push_size _ rfl,rfl,_,rfl⟩⟩
 have I2:=qLw (h':=h') (t':=t') (ch:=ch) I1 (fun b hb=>⟨hn b hb,(hf b hb).2⟩) (fun b o hb e=>?_)
 · exact⟨I2,hn⟩
 rcases Heap.get?_push_cases e with ⟨e1,e2⟩ | e1
 · rw [e1,e2];exact hT
 · exact k b o hb e1
def Ite (K:PySem.W.Frag)(a:Addr):It:=
 ⟨fun i H=>∃ xs x,SqL K H a xs∧xs[i]? =some x,fun i H x H'=>∃ p v,H p=none∧x= .ref p∧(∀ xs,SqL K H a xs→xs[i]? =some v)∧H'=upd H p (.tup [.int i,v]),fun i H=>∃ xs,SqL K H a xs∧xs.length≤i⟩
theorem qIj {P:Program}{w:World}{K:PySem.W.Frag}{elts:List Expr}{k1:Nat}{pos:Pos}(a e it:Addr)(hne:e≠it):
 qLm P w K (.Tuple elts k1 pos) (Ite K a) [e,it] e (fun i h=>(∃ old,IsEnum h e it (i:Nat) old)∧h.IsListIter it a i) where
 mem:=by simp
 obj:=fun i h st b hb=>by
  obtain⟨⟨old,he⟩,o,ho,c,d⟩:=st
  rcases List.mem_cons.mp hb with rfl | hb
  · exact⟨_,he,fun v z=>by cases z⟩
  · have e:b=it:=by simpa using hb
    subst e
    exact⟨o,ho,fun v z=>by rw [d] at z;cases z⟩
 keep:=fun i h h' st k=>by
  obtain⟨⟨old,he⟩,hi⟩:=st
  exact⟨⟨old,k e (by simp) _ he⟩,hi.at fun o q=>k it (by simp) o q⟩
 item:=by
  intro X hP hw hK hc i pins s σ H E I hf st hg
  subst hP hw hK
  obtain⟨⟨old,he⟩,hit⟩:=st
  obtain⟨xs,x,hq,hx⟩:=hg
  obtain⟨its,rv,p,hz⟩:=I.list hq
  obtain⟨u,hu,ru⟩:=rv.get hx
  refine wpAny_pyNext_enum_item he hit p.isList (x:=u) (by simpa using hu) hne fun h' heo hit' hT hsz hk=>?_
  refine⟨_,rfl,wpAny_letOwnedTupleGo_enum heo fun h'' he'' hs''=>?_⟩
  have hel:e < s.heap.objs.size:=Heap.lt_size he
  have hil:it < s.heap.objs.size:=by obtain⟨_,q,_⟩:=hit;exact Heap.lt_size q
  have T:=qLe (h':=h'') (t':=s.toks+1) (ch:=[e,it]) (xs:=[.int i,x]) (us:=#[.int i s.toks,u]) I hf (fun b hb=>by
   rcases List.mem_cons.mp hb with rfl | hb
   · exact hel
   · have z:b=it:=by simpa using hb
     subst z;exact hil)
   (fun b o hb q=>(hs''.2 b (fun z=>hb (by simp [z]))).trans (hk b o (fun z=>hb (by simp [z])) (fun z=>hb (by simp [z])) q))
   ((hs''.2 _ (Nat.ne_of_gt hel)).trans hT) (.cons ⟨_,rfl⟩ (.cons ru .nil)) (by show 2≤sizeLine;decide)
  refine⟨.ref s.heap.objs.size,_,T.1,rfl,⟨_,x,I.hok.fresh (Nat.le_refl _),rfl,fun ys hy=>by rw [I.list_inj hy hq];exact hx,rfl⟩,⟨⟨u,by simpa using he''⟩,hit'.at fun o q=>(hs''.2 it hne.symm).trans q⟩,T.2⟩
 done:=by
  intro X hP hw hK hc i pins s σ H E I hf st hg
  subst hP hw hK
  obtain⟨⟨old,he⟩,hit⟩:=st
  obtain⟨xs,hq,hx⟩:=hg
  obtain⟨its,rv,p,hz⟩:=I.list hq
  obtain⟨f0,f1,f2,f3,f4,f5⟩:=hf it (by simp)
  have hl:=rv.length
  exact wpAny_pyNext_enum_end (I.ok.hd hc) he hit p.isList (by simp;omega) fun h' eb=>⟨rfl,I.turned (t':=s.toks) (fun b o hb e=>eb b o hb e) f0 f1 f3 f4 f5⟩
 self:=fun _ _ _ _ _ st h=>by
  obtain⟨⟨old,he⟩,_⟩:=st
  exact wpAny_pyIter_enum he h
inductive qNa (K:PySem.W.Frag)(R:It→Hp→Prop)(vs:List V)(H1:Hp):Prop
| mk a (_:vs=[.ref a]) (_:(∃ xs,SqL K H1 a xs)) (_:R (Ite K a) H1)
def qPi (K:PySem.W.Frag)(t:TA):TI:=fun σ H R=>t σ H fun vs H1=>qNa K R vs H1
theorem qIr {X:Cx}{l:Expr}{tl:TA}{elts:List Expr}{k1:Nat}{tpos p pos:Pos}(hg:Gl X "enumerate")(hm:X.mg "enumerate"=none)(hl:PA X [l] tl)(hs:starEach [l] X.env=[(false,eval l X.env)]:=by rfl):
 PI X (.Tuple elts k1 tpos) (.Call (.Name "enumerate" p) [l] [] pos) (qPi X.K tl):=by
 intro pins s σ H R I h
 refine Call_ (qE3 I hg hm boot_enumerate (PyProof.Rows.callWith_type1 (thn (hl pos pins s σ H _ I h) fun us s1 ⟨vs,H1,I1,r1,q1⟩=>?_) hs rfl))
 obtain⟨a,e,⟨xs,hq⟩,q⟩:=q1
 subst e
 cases r1 with
 | cons r rr=>
  cases rr
  cases r
  obtain⟨its,rv,pl,hz⟩:=I1.list hq
  refine call_enumerate_list pl.isList fun h' he hit hsz hk=>?_
  refine wpAny_pyIter_enum he ?_
  refine⟨s1.heap.objs.size+1,[s1.heap.objs.size+1,s1.heap.objs.size],_,_,H1,rfl,I1.kept (t':=s1.toks) fun b o e=>hk b o e,qIj a _ _ (Nat.succ_ne_self _),⟨⟨_,he⟩,hit⟩,fun b hb=>?_,q⟩
  rcases List.mem_cons.mp hb with rfl | hb
  · exact I1.fpOk (Nat.le_succ _) (I1.hok.fresh (Nat.le_succ _))
  · have e:b=s1.heap.objs.size:=by simpa using hb
    subst e
    exact I1.fpOk (Nat.le_refl _) (I1.hok.fresh (Nat.le_refl _))
theorem qKn {K:PySem.W.Frag}{a:Addr}{xs:List V}{g:TG}{tb:TS}{D:qHr}{σ:L2.St}{H:Hp}(Pv:Nat→L2.St→Hp→Prop)(h0:Pv 0 σ H)(hl:∀ i σ H,i≤xs.length→Pv i σ H→SqL K H a xs)
 (hs:∀ i x σ H p,xs[i]? =some x→Pv i σ H→H p=none→g (.ref p) σ (upd H p (.tup [.int i,x])) fun σ2 H2=>tb {D with nx:=Pv (i+1),ct:=Pv (i+1),bk:=D.nx} σ2 H2) (hd:∀ σ H,Pv xs.length σ H→D.nx σ H):
 ∃ W:Nat→Nat→L2.St→Hp→Prop,(∃ m,W 0 m σ H)∧∀ i m σ H,W i m σ H→
  ((Ite K a).stop i H∧D.nx σ H)∨((Ite K a).go i H∧∃ N:L2.St→Hp→Prop,(∀ σ' H',N σ' H'→∃ m',m' < m∧W (i+1) m' σ' H')∧∀ x H',(Ite K a).yld i H x H'→g x σ H' fun σ2 H2=>tb {D with nx:=N,ct:=N,bk:=D.nx} σ2 H2):=by
 refine⟨fun i m σ H=>m=xs.length - i∧i≤xs.length∧Pv i σ H,⟨xs.length,by simp,Nat.zero_le _,h0⟩,?_⟩
 rintro i m σ H ⟨rfl,hi,p⟩
 have q:=hl i σ H hi p
 by_cases hlt:i < xs.length
 · refine .inr ⟨⟨xs,xs[i],q,by simp [hlt]⟩,Pv (i+1),fun σ' H' p'=>⟨xs.length - (i+1),by omega,rfl,hlt,p'⟩,fun x H' y=>?_⟩
   obtain⟨z,v,hz,rfl,y,rfl⟩:=y
   exact hs i v σ _ z (y xs q) p hz
 · have e:i=xs.length:=by omega
   subst e
   exact .inl ⟨⟨xs,q,Nat.le_refl _⟩,hd σ H p⟩
def CompEndP (K:PySem.W.Frag)(js:List Nat)(tc:TT)(te:TE)(σ:L2.St)(Q:VK)(J:It)(H1:Hp):Prop:=∃ W:Nat→Nat→List V→Hp→Prop,(∃ m,W 0 m [] H1)∧∀ i m acc H2,W i m acc H2→
 acc.length < sizeLine∧((J.stop i H2∧∀ D,H2 D=none→Q (.ref D) (upd H2 D (.lst acc)))∨
  (J.go i H2∧∀ x H3,J.yld i H2 x H3→∃ p va vb,x= .ref p∧SqT K H3 p [va,vb]∧tc (some va::some vb::vG js σ) H3 fun ok H4=>if ok=true then te (some va::some vb::vG js σ) H4 fun v H5=>∃ m',m' < m∧W (i+1) m' (acc++[v]) H5 else ∃ m',m' < m∧W (i+1) m' acc H4))
def qNb (K:PySem.W.Frag)(js:List Nat)(wi:TI)(tc:TT)(te:TE):TE:=fun σ H Q=>wi σ H (CompEndP K js tc te σ Q)
theorem CompEndP.g {K:PySem.W.Frag}{js:List Nat}{tc:TT}{te:TE}(σ:L2.St)(Q:VK)(J:It)(H1:Hp):CompEndP K js tc te σ Q J H1→kA 2 js (qOa K 2 (qIl (vm 0) (qIl (vm 1) qO2))) tc te σ Q J H1:=fun⟨W,w0,st⟩=>
 ⟨W,w0,fun i m acc H2 w=>⟨(st i m acc H2 w).1,(st i m acc H2 w).2.imp id fun⟨go,y⟩=>⟨go,fun x H3 z=>let ⟨p,va,vb,e,q,r⟩:=y x H3 z;⟨p,_,e,q,rfl,va,_,rfl,vb,_,rfl,rfl,[some va,some vb],rfl,rfl,r⟩⟩⟩⟩
theorem qL2 {X:Cx}{scope:Scope}{cl:List (Str × Addr)}{x1 x2:Str}{px1 px2:Pos}{tk:Nat}{tpos:Pos}{ys:List Str}(hcm:X.calm=true)(hnd:([x1,x2]++ys).Nodup)(hx1:scope.names.lookup x1=some .local)(hx2:scope.names.lookup x2=some .local)(C:Addr)(s:Shared)(H:Hp)(fp:List Addr):PG (q9 X scope cl C ([x1,x2]++ys) s H fp).nox (.Tuple [.Name x1 px1,.Name x2 px2] tk tpos) (qOa X.K 2 (qIl (vm 0) (qIl (vm 1) qO2))):=
 qG2 (X:=(q9 X scope cl C ([x1,x2]++ys) s H fp).nox) hcm (xO (qq (i:=0) hnd rfl (.inl (lookup_relabel_local hx1)) (.inr (lookup_relabel_local hx1))) (xO (qq (i:=1) hnd rfl (.inl (lookup_relabel_local hx2)) (.inr (lookup_relabel_local hx2))) qCq))
theorem qKw {X:Cx}{elt iter cnd:Expr}{x1 x2:Str}{px1 px2:Pos}{tk:Nat}{tpos:Pos}{scope:Scope}{cl:List (Str × Addr)}{pos:Pos}{wi:TI}{tc:TT}{te:TE}(ys:List Str)(js:List Nat){i:Nat}{y:Str}{py spos:Pos}(hN:X.N.Nodup)(hi':X.N[i]? =some y)(hy:X.env.kindOf y=some .local)
 (hcm:X.calm=true) (hi:PI X (.Tuple [.Name x1 px1,.Name x2 px2] tk tpos) iter wi) (hc:∀ C s H fp,PT (q9 X scope cl C (x1::x2::ys) s H fp).nox cnd tc) (he:∀ C s H fp,PE (q9 X scope cl C (x1::x2::ys) s H fp).nox elt te) (hx1:scope.names.lookup x1=some .local:=by rfl) (hx2:scope.names.lookup x2=some .local:=by rfl) (hC:COk X scope cl iter [x1,x2] ys js:=by exact⟨rfl,rfl,rfl,rfl,rfl,rfl,rfl,rfl,fun _=>rfl,by decide⟩) (hsw:swapsWith (.ListComp elt [⟨.Tuple [.Name x1 px1,.Name x2 px2] tk tpos,iter,[cnd],0⟩] scope pos) (some (.Name y py)) spos.line X.env=pure true:=by rfl):PS X (.Assign [.Name y py] (.ListComp elt [⟨.Tuple [.Name x1 px1,.Name x2 px2] tk tpos,iter,[cnd],0⟩] scope pos) spos) (qLz (qNb X.K js wi tc te) (vm i)):=
 qCr (xs:=[x1,x2]) (T:=CompEndP X.K js tc te) hN hi' hy hcm hi (qL2 hcm hC.nd hx1 hx2) (fun C s H fp=>qF3 (hc C s H fp)) he hC CompEndP.g hsw
theorem qHs {K:PySem.W.Frag}{a:Addr}{xs:List V}{js:List Nat}{tc:TT}{te:TE}{σ:L2.St}{H:Hp}{Q:VK}(Pv:Nat→List V→Hp→Prop)(h0:Pv 0 [] H)(hl:∀ i acc H,i≤xs.length→Pv i acc H→SqL K H a xs∧acc.length < sizeLine)
 (hs:∀ i x acc H p,i < xs.length→xs[i]? =some x→Pv i acc H→H p=none→tc (some (.int i)::some x::vG js σ) (upd H p (.tup [.int i,x])) fun ok H'=>if ok=true then te (some (.int i)::some x::vG js σ) H' fun v H''=>Nxt xs.length i (Pv (i+1) (acc++[v]) H'') else Nxt xs.length i (Pv (i+1) acc H')) (hd:∀ acc H,Pv xs.length acc H→∀ D,H D=none→Q (.ref D) (upd H D (.lst acc))):CompEndP K js tc te σ Q (Ite K a) H:=by
 refine⟨fun i m acc H=>m=xs.length - i∧i≤xs.length∧Pv i acc H,⟨xs.length,by simp,Nat.zero_le _,h0⟩,?_⟩
 rintro i m acc H2 ⟨rfl,hi,p⟩
 obtain⟨q,hz⟩:=hl i acc H2 hi p
 refine⟨hz,?_⟩
 by_cases hlt:i < xs.length
 · refine .inr ⟨⟨xs,xs[i],q,by simp [hlt]⟩,fun x H3 y=>?_⟩
   obtain⟨z,v,hz,rfl,y,rfl⟩:=y
   exact⟨z,_,_,rfl,SqT.of qF,hs i v acc _ z hlt (y xs q) p hz⟩
 · have e:i=xs.length:=by omega
   subst e
   exact .inl ⟨⟨xs,q,Nat.le_refl _⟩,hd acc H2 p⟩
theorem qM1 {X:Cx}{pins:List (Addr × Obj)}{σ:L2.St}{H:Hp}{s:Shared}{d:Addr}{kvs:List (Key × V)}{o:Obj}(I:Inv X pins σ H s)(e:H d=some (.dK kvs))(ho:s.heap.get? d=some o):
 Inv X pins σ (upd H d (.frz o (.dK kvs))) s:=by
 have ne:∀ b u,H b=some u→u≠ .dK kvs→b≠d:=fun b u h hu z=>by subst z;rw [e] at h;exact hu (Option.some.inj h).symm
 refine I.step (g':=s.gens) (d':=s.drawn) (t':=s.toks) (h':=s.heap) (ch:=[]) (fun _ z=>nomatch z) (fun b o _ _ _ h _=>h) (fun b o _ _ _ h _=>⟨o.slots,h⟩) (fun b ob _ h n=>?_) (fun b o _ h=>⟨o,h⟩) (fun b xs h=>?_) (fun b ob u h=>?_) (fun b ps h=>?_) (fun m hm=>hm) (fun b u h=>?_) I.bare
 · rw [qU (fun z=>by subst z;rw [e] at n;cases n)];exact n
 · rw [qU (ne b _ h (by intro z;cases z))];exact h
 · rw [qU (ne b _ h (by intro z;cases z))];exact h
 · exact⟨#[],by rw [qU (ne b _ h (by intro z;cases z)),h];simp⟩
 · by_cases hb:b=d
   · subst hb
     rw [qF] at h
     cases h
     exact⟨ho,I.hok _ _ e⟩
   · rw [qU hb] at h
     exact(I.hok b u h).stay (fun c v _ q=>q) (fun c q=>by rw [qU (ne c _ q (by intro z;cases z))];exact q) fun c xs q=>by rw [qU (ne c _ q (by intro z;cases z))];exact q
theorem qIm {k:Key}{v:Value}(h:qFc k v=true):RelV (kV k) v:=by
 rcases jC h with ⟨i,t,rfl,rfl⟩ | ⟨x,t,rfl,rfl⟩
 · exact⟨t,rfl⟩
 · exact⟨t,rfl⟩
theorem KV.get {κ:Type}{kvs:List (κ × V)}{vs:List (κ × Value)}(r:KV kvs vs){i:Nat}{k:κ}{v:V}(h:kvs[i]? =some (k,v)):∃ u,vs[i]? =some (k,u)∧RelV v u:=by
 induction r generalizing i with
 | nil=>simp at h
 | @cons p q ps qs hpq _ ih=>
  cases i with
  | zero=>
   have e:p=(k,v):=by simpa using h
   subst e
   obtain⟨k',u⟩:=q
   have e:k=k':=hpq.1
   subst e
   exact⟨u,rfl,hpq.2⟩
  | succ i=>exact ih (by simpa using h)
theorem qK3 {κ:Type}{kvs:List (κ × V)}{vs:List (κ × Value)}(r:KV kvs vs):kvs.length=vs.length:=Paired.length r
def Itd (d:Addr)(o:Obj)(kvs:List (Key × V)):It:=
 ⟨fun i H=>H d=some (.frz o (.dK kvs))∧i < kvs.length,fun i H x H'=>∃ p k v,H p=none∧kvs[i]? =some (k,v)∧x= .ref p∧H'=upd H p (.tup [kV k,v]),fun i H=>H d=some (.frz o (.dK kvs))∧kvs.length≤i⟩
def Itk (d:Addr)(o:Obj)(kvs:List (Key × V)):It:=
 ⟨fun i H=>H d=some (.frz o (.dK kvs))∧i < kvs.length,fun i H x H'=>∃ k v,kvs[i]? =some (k,v)∧x=kV k∧H'=H,fun i H=>H d=some (.frz o (.dK kvs))∧kvs.length≤i⟩
theorem qG9:entryFor table "dict_itemiterator.__iter__"=some Builtin.«dict_keyiterator.__iter__»:=by
 refine entryFor_alias (id':="dict_keyiterator.__iter__") ?_ ?_ ?_ ?_
 · kernel_rfl
 · first
    | rfl
    | decide+kernel
    | (unfold String.splitOn
       simp+decide [String.splitOnAux])
 · decide+kernel
 · kernel_rfl
section
variable {P : Program} {w : World} {K : PySem.W.Frag}
theorem qHv {elts:List Expr}{k1:Nat}{pos:Pos}{d it:Addr}{o:Obj}{kvs:List (Key × V)}{vs:List (Key × Value)}{ep:Nat}(r:KV kvs vs)(hD:∀ h:Heap,h.get? d=some o→h.DictAt (qy P w) d vs ep):
 qLm P w K (.Tuple elts k1 pos) (Itd d o kvs) [it] it (fun i h=>∃ ok ov,IsItemIter h it d i vs.length ep ok ov) where
 mem:=by simp
 obj:=fun i h st b hb=>by
  obtain⟨ok,ov,e⟩:=st
  have z:b=it:=by simpa using hb
  subst z
  exact⟨_,e,fun v z=>by cases z⟩
 keep:=fun i h h' st k=>by
  obtain⟨ok,ov,e⟩:=st
  exact⟨ok,ov,k it (by simp) _ e⟩
 item:=by
  intro X hP hw hK hc i pins s σ H E I hf st hg
  subst hP hw hK
  obtain⟨ok,ov,hit⟩:=st
  obtain⟨hH,hi⟩:=hg
  have hd:s.heap.get? d=some o:=(show s.heap.get? d=some o∧_ from I.hok d _ hH).1
  have ex:kvs[i]? =some (kvs[i].1,kvs[i].2):=by rw [List.getElem?_eq_getElem hi]
  obtain⟨u,hu,ru⟩:=KV.get r ex
  refine wpAny_pyNext_items_item hit (hD _ hd) hu fun key h' hk hit' hT hsz hkp=>?_
  refine⟨_,rfl,wpAny_letOwnedTupleGo_items hit' fun h'' he'' hs''=>?_⟩
  have hil:it < s.heap.objs.size:=Heap.lt_size hit
  have T:=qLe (h':=h'') (t':=s.toks) (ch:=[it]) (xs:=[kV kvs[i].1,kvs[i].2]) (us:=#[key,u]) I hf (fun b hb=>by
   have z:b=it:=by simpa using hb
   subst z;exact hil)
   (fun b ob hb q=>(hs''.2 b (fun z=>hb (by simp [z]))).trans (hkp b ob (fun z=>hb (by simp [z])) q))
   ((hs''.2 _ (Nat.ne_of_gt hil)).trans hT) (.cons (qIm hk) (.cons ru .nil)) (by show 2≤sizeLine;decide)
  exact⟨.ref s.heap.objs.size,_,T.1,rfl,⟨_,_,_,I.hok.fresh (Nat.le_refl _),ex,rfl,rfl⟩,⟨_,_,he''⟩,T.2⟩
 done:=by
  intro X hP hw hK hc i pins s σ H E I hf st hg
  subst hP hw hK
  obtain⟨ok,ov,hit⟩:=st
  obtain⟨hH,hi⟩:=hg
  have hd:s.heap.get? d=some o:=(show s.heap.get? d=some o∧_ from I.hok d _ hH).1
  obtain⟨f0,f1,f2,f3,f4,f5⟩:=hf it (by simp)
  have hl:=qK3 r
  exact wpAny_pyNext_items_end (I.ok.hd hc) hit (hD _ hd) (by simp;omega) fun h' eb=>⟨rfl,I.turned (t':=s.toks) (fun b o hb e=>eb b o hb e) f0 f1 f3 f4 f5⟩
 self:=fun _ _ s' _ _ st h=>by
  obtain⟨ok,ov,hit⟩:=st
  have hT:s'.TypeIs (.ref it) "dict_itemiterator":=⟨_,hit,rfl⟩
  refine wpAny_pyIter_slot hT F.slot_dict_itemiterator_iter (wpAny_call_entry F.slot_dict_itemiterator_iter hT qG9 ?_ (F.args_dict_itemiterator_iter_1 _))
  exact wpAny_pure ⟨_,rfl,"dict_itemiterator",_,hT,F.slot_dict_itemiterator_next.lookup,h⟩
theorem qIa {tg:Expr}{d it:Addr}{o:Obj}{kvs:List (Key × V)}{vs:List (Key × Value)}{ep:Nat}(r:KV kvs vs)(hD:∀ h:Heap,h.get? d=some o→h.DictAt (qy P w) d vs ep):
 qLm P w K tg (Itk d o kvs) [it] it (fun i h=>h.IsKeyIter it d i vs.length ep) where
 mem:=by simp
 obj:=fun i h st b hb=>by
  obtain⟨ob,e,_,q⟩:=st
  have z:b=it:=by simpa using hb
  subst z
  exact⟨_,e,fun v z=>by rw [q] at z;cases z⟩
 keep:=fun i h h' st k=>by
  obtain⟨ob,e,q⟩:=st
  exact⟨ob,k it (by simp) _ e,q⟩
 item:=by
  intro X hP hw hK hc i pins s σ H E I hf st hg
  subst hP hw hK
  obtain⟨hH,hi⟩:=hg
  have hd:s.heap.get? d=some o:=(show s.heap.get? d=some o∧_ from I.hok d _ hH).1
  have ex:kvs[i]? =some (kvs[i].1,kvs[i].2):=by rw [List.getElem?_eq_getElem hi]
  obtain⟨u,hu,ru⟩:=KV.get r ex
  obtain⟨f0,f1,f2,f3,f4,f5⟩:=hf it (by simp)
  refine wpAny_pyNext_dict_item st (hD _ hd) hu fun key h' hk st' sb=>?_
  have I1:Inv X pins σ H {s with heap:=h'}:=I.turned (t':=s.toks) (fun b o hb e=>(sb.2 b hb).trans e) f0 f1 f3 f4 f5
  obtain⟨ob,e,c,q⟩:=id st'
  exact⟨key,rfl,qJ4 (s:={s with heap:=h'}) e c q (by decide) ⟨kV kvs[i].1,H,I1,qIm hk,⟨_,_,ex,rfl,rfl⟩,st',fun b hb=>(hf b hb).1⟩⟩
 done:=by
  intro X hP hw hK hc i pins s σ H E I hf st hg
  subst hP hw hK
  obtain⟨hH,hi⟩:=hg
  have hd:s.heap.get? d=some o:=(show s.heap.get? d=some o∧_ from I.hok d _ hH).1
  obtain⟨f0,f1,f2,f3,f4,f5⟩:=hf it (by simp)
  have hl:=qK3 r
  exact wpAny_pyNext_dict_end (I.ok.hd hc) st (hD _ hd) (by simp;omega) fun h' eb=>⟨rfl,I.turned (t':=s.toks) (fun b o hb e=>eb b o hb e) f0 f1 f3 f4 f5⟩
 self:=fun _ _ _ _ _ st h=>wpAny_pyIter_keyiter st h
end
def Frz (H:Hp)(d:Addr)(kvs:List (Key × V))(R:Obj→Hp→Prop):Prop:=(∃ o,H d=some (.frz o (.dK kvs))∧R o H)∨(H d=some (.dK kvs)∧∀ o,R o (upd H d (.frz o (.dK kvs))))
theorem qK4 {X:Cx}{pins:List (Addr × Obj)}{σ:L2.St}{H:Hp}{s:Shared}{d:Addr}{kvs:List (Key × V)}{R:Obj→Hp→Prop}(I:Inv X pins σ H s)(h:Frz H d kvs R):
 ∃ (o:Obj) (vs:List (Key × Value)) (ep:Nat) (H':Hp),Inv X pins σ H' s∧R o H'∧H' d=some (.frz o (.dK kvs))∧KV kvs vs∧(d == sysModules)=false∧∀ h':Heap,h'.get? d=some o→h'.DictAt (qy X.prog X.w) d vs ep:=by
 rcases h with ⟨o,e,q⟩ | ⟨e,q⟩
 · obtain⟨ho,_,hs,vs,r,o',es,ep,ho',rest⟩:=(show s.heap.get? d=some o∧kvs.length≤sizeLine∧(d == sysModules)=false∧∃ vs,KV kvs vs∧s.heap.DictOf (qy X.prog X.w) d vs from I.hok d _ e)
   rw [ho] at ho'
   cases ho'
   exact⟨o,vs,ep,H,I,q,e,r,hs,fun h' hh=>⟨o,es,hh,rest⟩⟩
 · obtain⟨_,hs,vs,r,o,es,ep,ho,rest⟩:=(show kvs.length≤sizeLine∧(d == sysModules)=false∧∃ vs,KV kvs vs∧s.heap.DictOf (qy X.prog X.w) d vs from I.hok d _ e)
   exact⟨o,vs,ep,_,qM1 I e ho,q o,qF,r,hs,fun h' hh=>⟨o,es,hh,rest⟩⟩
def qNv (td:TE):TI:=fun σ H R=>td σ H fun x H1=>∃ d kvs,x= .ref d∧Frz H1 d kvs fun o H2=>R (Itd d o kvs) H2
theorem qGq {X:Cx}{e:Expr}{td:TE}{elts:List Expr}{k1:Nat}{tpos apos cpos:Pos}(he:PE X e td)
 (hbase:attributeBase e "items" X.env (eval e X.env)=eval e X.env:=by rfl) (hline:(apos.endLine == cpos.line)=true:=by rfl):
 PI X (.Tuple elts k1 tpos) (.Call (.Attribute e "items" apos) [] [] cpos) (qNv td):=by
 intro pins s σ H R I h
 refine wpAny_Call_method0_late hbase hline (thn (he pins s σ H _ I h) fun v s1 ⟨x,H1,I1,r1,d,kvs,ex,fz⟩=>?_)
 subst ex
 cases r1
 obtain⟨o,vs,ep,H2,I2,q,hd,r,hs,hD⟩:=qK4 I1 fz
 have hg:s1.heap.get? d=some o:=(show s1.heap.get? d=some o∧_ from I2.hok d _ hd).1
 have hA:=hD _ hg
 have hT:s1.TypeIs (.ref d) "dict":=hA.dictOf.typeIs
 refine⟨"dict","dict.items",F.plainAttrs_dict,F.slot_dict_items,F.type_dict_items,hT,fun a ea=>?_,Calls.callWith_builtin rfl (PySem.evalArgs_none ?_)⟩
 · cases ea
   obtain⟨o',es,e1,ex,_⟩:=hA
   exact⟨o',e1,ex.2.1⟩
 refine call_meetsIn F.slot_dict_items hT F.entry_dict_items (F.args_dict_items_1 _) (meets_dict_items (qy X.prog X.w) d hs) ⟨⟨vs,hA.dictOf⟩,?_⟩
 have hA2:=hD (s1.heap.push {cls:=.type "dict_items",data:=.fields #[.ref d]}) (Heap.get?_push_of_some _ hg)
 refine wpAny_pyIter_items (knd:=qy X.prog X.w) ⟨_,Heap.get?_push_size _ rfl,rfl,rfl⟩ hA2 ?_
 have I3:Inv X pins σ H2 {s1 with heap:=s1.heap.push {cls:=.type "dict_items",data:=.fields #[.ref d]}}:=I2.kept (t':=s1.toks) fun b ob e=>Heap.get?_push_of_some _ e
 refine⟨(s1.heap.push {cls:=.type "dict_items",data:=.fields #[.ref d]}).objs.size,[(s1.heap.push {cls:=.type "dict_items",data:=.fields #[.ref d]}).objs.size],_,_,H2,rfl,I3.kept (t':=s1.toks) fun b ob e=>Heap.get?_push_of_some _ e,qHv r hD,⟨_,_,Heap.get?_push_size _ rfl⟩,fun b hb=>?_,q⟩
 have e:b=(s1.heap.push {cls:=.type "dict_items",data:=.fields #[.ref d]}).objs.size:=by simpa using hb
 subst e
 exact I3.fpOk (Nat.le_refl _) (I3.hok.fresh (Nat.le_refl _))
def qOu (td:TE):TI:=fun σ H R=>td σ H fun x H1=>∃ d kvs,x= .ref d∧Frz H1 d kvs fun o H2=>R (Itk d o kvs) H2
theorem qMi {X:Cx}{e tg:Expr}{td:TE}(he:PE X e td):PI X tg e (qOu td):=by
 intro pins s σ H R I h
 refine thn (he pins s σ H _ I h) fun v s1 ⟨x,H1,I1,r1,d,kvs,ex,fz⟩=>?_
 subst ex
 cases r1
 obtain⟨o,vs,ep,H2,I2,q,hd,r,hs,hD⟩:=qK4 I1 fz
 have hg:s1.heap.get? d=some o:=(show s1.heap.get? d=some o∧_ from I2.hok d _ hd).1
 refine wpAny_pyIter_dict (knd:=qy X.prog X.w) hs (hD _ hg) ?_
 refine⟨s1.heap.objs.size,[s1.heap.objs.size],_,_,H2,rfl,I2.kept (t':=s1.toks) fun b ob e=>Heap.get?_push_of_some _ e,qIa r hD,⟨_,Heap.get?_push_size _ rfl,rfl,rfl⟩,fun b hb=>?_,q⟩
 have e:b=s1.heap.objs.size:=by simpa using hb
 subst e
 exact I2.fpOk (Nat.le_refl _) (I2.hok.fresh (Nat.le_refl _))
theorem qEb {d:Addr}{o:Obj}{kvs:List (Key × V)}{g:TG}{tb:TS}{D:qHr}{σ:L2.St}{H:Hp}(Pv:Nat→L2.St→Hp→Prop)(h0:Pv 0 σ H)(hl:∀ i σ H,i≤kvs.length→Pv i σ H→H d=some (.frz o (.dK kvs)))
 (hs:∀ i k v σ H p,kvs[i]? =some (k,v)→Pv i σ H→H p=none→g (.ref p) σ (upd H p (.tup [kV k,v])) fun σ2 H2=>tb {D with nx:=Pv (i+1),ct:=Pv (i+1),bk:=D.nx} σ2 H2) (hd:∀ σ H,Pv kvs.length σ H→D.nx σ H):
 ∃ W:Nat→Nat→L2.St→Hp→Prop,(∃ m,W 0 m σ H)∧∀ i m σ H,W i m σ H→
  ((Itd d o kvs).stop i H∧D.nx σ H)∨((Itd d o kvs).go i H∧∃ N:L2.St→Hp→Prop,(∀ σ' H',N σ' H'→∃ m',m' < m∧W (i+1) m' σ' H')∧∀ x H',(Itd d o kvs).yld i H x H'→g x σ H' fun σ2 H2=>tb {D with nx:=N,ct:=N,bk:=D.nx} σ2 H2):=by
 refine⟨fun i m σ H=>m=kvs.length - i∧i≤kvs.length∧Pv i σ H,⟨kvs.length,by simp,Nat.zero_le _,h0⟩,?_⟩
 rintro i m σ H ⟨rfl,hi,p⟩
 have q:=hl i σ H hi p
 by_cases hlt:i < kvs.length
 · refine .inr ⟨⟨q,hlt⟩,Pv (i+1),fun σ' H' p'=>⟨kvs.length - (i+1),by omega,rfl,hlt,p'⟩,fun x H' y=>?_⟩
   obtain⟨z,k,v,hz,ek,rfl,rfl⟩:=y
   exact hs i k v σ _ z ek p hz
 · have e:i=kvs.length:=by omega
   subst e
   exact .inl ⟨⟨q,Nat.le_refl _⟩,hd σ H p⟩
theorem qHm {d:Addr}{o:Obj}{kvs:List (Key × V)}{js:List Nat}{tc:TT}{te:TE}{σ:L2.St}{H:Hp}{Q:VK}(Pv:Nat→List V→Hp→Prop)(h0:Pv 0 [] H)(hl:∀ i acc H,i≤kvs.length→Pv i acc H→H d=some (.frz o (.dK kvs))∧acc.length < sizeLine)
 (hs:∀ i k v acc H,i < kvs.length→kvs[i]? =some (k,v)→Pv i acc H→tc (some (kV k)::vG js σ) H fun ok H'=>if ok=true then te (some (kV k)::vG js σ) H' fun v H''=>Nxt kvs.length i (Pv (i+1) (acc++[v]) H'') else Nxt kvs.length i (Pv (i+1) acc H')) (hd:∀ acc H,Pv kvs.length acc H→∀ D,H D=none→Q (.ref D) (upd H D (.lst acc))):CompEndF js tc te σ Q (Itk d o kvs) H:=by
 refine⟨fun i m acc H=>m=kvs.length - i∧i≤kvs.length∧Pv i acc H,⟨kvs.length,by simp,Nat.zero_le _,h0⟩,?_⟩
 rintro i m acc H2 ⟨rfl,hi,p⟩
 obtain⟨q,hz⟩:=hl i acc H2 hi p
 refine⟨hz,?_⟩
 by_cases hlt:i < kvs.length
 · refine .inr ⟨⟨q,hlt⟩,fun x H3 y=>?_⟩
   obtain⟨k,v,ek,rfl,rfl⟩:=y
   exact hs i k v acc _ hlt ek p
 · have e:i=kvs.length:=by omega
   subst e
   exact .inl ⟨⟨q,Nat.le_refl _⟩,hd acc H2 p⟩
theorem wE {X:Cx}:vf X (.builtin "isinstance") (fun xs H Q=>∃ (p:Addr) (n t:String) (b:Bool),xs=[.ref p,.ty n]∧((∃ ys,SqT X.K H p ys∧t="tuple")∨∃ kvs:List (Key × V),Rd H p (.dK kvs)∧t="dict")∧PySem.W.kitOne X.K (.type t) (.type n)=some b∧Q (.bl b) H):=by
 intro pins s σ H xs us Q I r h
 obtain⟨p,n,t,b,rfl,ht,e,q⟩:=h
 obtain⟨u,w',rfl,ru,rw'⟩:=qJy r
 cases ru
 have ew:w'= .type n:=rw'
 subst ew
 rcases ht with ⟨ys,hy,rfl⟩ | ⟨kvs,hk,rfl⟩
 · obtain⟨its,_,⟨o,h1,h2,_⟩,_⟩:=I.tuple hy
   exact PySem.W.kia_one PySem.W.kitx_tuple I.kIn ⟨o,h1,h2⟩ e (fun z=>nomatch z) fun tk=>⟨.bl b,H,I.tok tk,rfl,q⟩
 · obtain⟨_,_,vs,_,o,es,ep,h1,h2,_⟩:=qFa I.hok hk
   exact PySem.W.kia_one PySem.W.kitx_dict I.kIn ⟨o,h1,h2.1⟩ e (fun z=>nomatch z) fun tk=>⟨.bl b,H,I.tok tk,rfl,q⟩
def EqIn (P:Program)(w:World)(A:Around)(s:Shared)(y x:Value):Prop:=∀ (E:Value→Shared→Prop) (Q:Bool→Shared→Prop),Q true s→wpAny (model P w) A (eqBool y x) Q E s
theorem EqIn.rc {P:Program}{w:World}{A:Around}{s:Shared}{l b:Addr}(h:∀ (E:Value→Shared→Prop) (Q:Value→Shared→Prop),Q (.bool true) s→wpAny (model P w) A (richCompare .Eq (.ref l) (.ref b)) Q E s):EqIn P w A s (.ref l) (.ref b):=by
 by_cases e:l=b
 · subst e
   exact fun E Q hq=>SeqAt.EqAt.same _ P w E Q hq
 · intro E Q hq
   unfold eqBool
   refine wpAny_holding (wpAny_ite_split (fun z=>?_) (fun _=>?_))
   · have:=eq_of_beq z
     injection this with this
     exact absurd this e
   · exact wpAny_bind (h E _ (wpAny_truthy_bool hq))
section
variable {X : Cx} {pins : List (Addr × Obj)} {σ : L2.St} {H : Hp} {s : Shared}
end
theorem vC {X:Cx}{K:PySem.W.Frag}(h:X.K=K):vf X (.type "list") (fun xs H Q=>∃ p ys,xs=[.ref p]∧(SqL K H p ys∨SqT K H p ys)∧∀ l,H l=none→Q (.ref l) (upd H l (.lst ys))):=h ▸ wI
theorem qE5 {X:Cx}:vf X (.builtin "len") (fun xs H Q=>∃ (a:Addr) (kvs:List (Key × V)),xs=[V.ref a]∧Rd H a (.dK kvs)∧Q (.int kvs.length) H):=by
 intro pins s σ H xs us Q I r h
 obtain⟨a,kvs,rfl,ha,q⟩:=h
 obtain⟨u,rfl,ru⟩:=qHa r
 cases ru
 exact qOy I ha fun t s' I'=>⟨.int _,H,I',⟨t,rfl⟩,q⟩
end L3
set_option maxRecDepth 100000
namespace L3
open PySem PySem.Spec PyProof.Rows L2
variable {X : Cx}
end L3
namespace L3
open PySem PySem.Spec PyProof.Rows L2 PySem.NumText PySem.Builtin.Str
def qN8 (l:List Nat):List Nat:=if l.head?=some 45 then l.tail else l
def qP0 (c:Nat):Bool:=!(occurrences "0123456789" ⟨#[c]⟩ 0 ("0123456789":Str).length 1).isEmpty
structure Fig (l:List Nat):Prop where
 ne:qN8 l≠[]
 len:(qN8 l).length≤60
 all:(qN8 l).all qP0=true
end L3
namespace L3
open PySem PySem.Spec PyProof.Rows L2 PySem.NumText PySem.Builtin.Str
inductive qKk (l:List Nat):List Str→Prop where
 | none (h:l=[]):qKk l []
 | one {p:Str} (h:l=p.cps.toList) (hf:47 ∉ l):qKk l [p]
 | two {p q:Str} (h:l=p.cps.toList++47::q.cps.toList) (hp:47 ∉ p.cps.toList) (hq:47 ∉ q.cps.toList):qKk l [p,q]
 | more {p q r:Str} {t:List Str} (rest:List Nat) (h:l=p.cps.toList++47::rest) (hp:47 ∉ p.cps.toList) (hq:47∈rest):qKk l (p::q::r::t)
theorem qKr {X:Cx}{K:PySem.W.Frag}{e:Expr}{f:Str}{pos:Pos}{ta:TE}(h:X.K=K)(he:PE X e ta)(hb:attributeBase e f X.env (eval e X.env)=eval e X.env:=by rfl):PE X (.Attribute e f pos) (qNo K ta f):=h ▸ qMo he hb
theorem qR {G:Prop}(k:∀ X:Prop,(G→X)→X):G:=k G id
section
variable {X : Cx}
theorem qP {a:Expr}{ta:TE}{i:Int}{j}{p pos:Pos}(ha:PE X a ta):PE X (.Subscript a (.Constant (.int i) j p) pos) (tOp (qMv X.K) ta (tC (.int i))):=jM vB ha qE (fun _ _=>rfl)
theorem qd (i:Nat){x:Str}{e:Expr}{te:TE}{pos pos':Pos}(hN:X.N.Nodup)(he:PE X e te)(hi:X.N[i]? =some x:=by rfl)(hx:Loc X.env.scope x:=by exact Or.inl rfl)(hs:swapsWith e (some (.Name x pos')) pos.line X.env=pure false:=by rfl)(hf:X.fn x=true∨X.env.scope.names.lookup x=some .local:=by first | exact .inl rfl | exact .inr rfl | assumption):
 PS X (.Assign [.Name x pos'] e pos) (qLz te (vm i)):=qEd hN hi hx he hs hf
end
end L3
set_option maxRecDepth 100000
namespace L3
open PySem PySem.Spec PyProof.Rows L2
def qLt:V→List V→Hp→VK→Prop:=fun x vs H Q=>∃ (l:Addr) (xs:List V) (i:Nat) (j:Int) (y:V),x= .ref l∧vs=[.int j,y]∧j=(i:Int)∧H l=some (.lst xs)∧i≤xs.length∧xs.length < 1000∧Q .non (upd H l (.lst (xs.take i++y::xs.drop i)))
theorem qIt {vs:List V}{us:List Value}(h:Vals vs us):∀ i,Vals (vs.take i) (us.take i):=by
 induction h with
 | nil=>intro i;simp;exact .nil
 | cons r _ ih=>
  intro i
  cases i with
  | zero=>exact .nil
  | succ i=>exact .cons r (ih i)
theorem qIi {vs:List V}{us:List Value}(h:Vals vs us):∀ i,Vals (vs.drop i) (us.drop i):=by
 induction h with
 | nil=>intro i;simp;exact .nil
 | cons r t ih=>
  intro i
  cases i with
  | zero=>exact .cons r t
  | succ i=>exact ih i
theorem qJk {X:Cx}:MtM X "list.insert" qLt:=by
 intro pins s σ H x vs v us Q I rx rv h
 obtain⟨l,xs,i,j,y,rfl,rfl,hj,hH,h1,h2,q⟩:=h
 cases rx
 cases rv with
 | cons r1 rv=>
 cases rv with
 | cons ru rv=>
 cases rv
 obtain⟨t,rfl⟩:=r1
 obtain⟨z,its,n,r,hl,e⟩:=I.lstM hH
 have hli:i≤its.length:=by rw [← hl];exact h1
 have hsz:its.length+1≤sizeLine:=by rw [← hl];exact Nat.le_trans (show xs.length+1≤1000 by omega) (by decide)
 have hfit:¬ (!Builtin.List.listFitsIndex j)=true:=by
  rw [PySem.fitsIndex_both (by omega) (by have:j≤1000:=by omega
                                          omega)]
  decide
 have hz1:its.toArray.size≤sizeLine:=by rw [List.size_toArray];exact Nat.le_of_succ_le hsz
 have M:=fun(x:Int) (y:Value) (hx:¬ (!Builtin.List.listFitsIndex x)=true)=>PySem.AutoSeq1.list_insert_list_int_val_1 l its.toArray n x t y hx hz1
 refine call_meets F.slot_list_insert ⟨_,e,rfl⟩ F.entry_list_insert (F.args_list_insert_3 _ _ _) (M _ _ hfit) ⟨e,?_⟩
 refine⟨.non,_,I.lset (its':=its.take i++_::its.drop i) hH e ?_ ((qIt r i).append (.cons ru (qIi r i))) ?_,rfl,q⟩
 · dsimp only
   rw [if_neg (by omega),hj,Int.toNat_natCast,List.size_toArray,Nat.min_eq_left hli]
   simp
   exact List.take_of_length_le (by rw [List.length_drop];exact Nat.le_refl _)
 · rw [List.length_append,List.length_take,List.length_cons,List.length_drop,Nat.min_eq_left h1]
   have:i+(xs.length - i+1)=its.length+1:=by omega
   rw [this];exact hsz
end L3
set_option maxRecDepth 100000
namespace Lw
open PySem L2 L3 Mt
seal L2.PSs L2.PS L2.PE L2.PA L2.PT L2.PW L2.PC L2.PI L2.PG L2.PGs L2.PO
def top (i:Nat):Stmt:=PySem.Challenge.pw_reelcut_k33_most_of_a_mix.main.body.getD i (.Pass ⟨0,0,0,0⟩)
theorem scA {N P:List Str}{sc:Scope}(h1:sc.kind= .function:=by rfl)(h2:sc.isCoroutine=false:=by rfl)(h3:sc.isGenerator=false:=by rfl)(h4:N.Nodup:=by decide+kernel)(h5:N.take P.length=P:=by rfl)(h6:∀ x∈P,sc.names.lookup x=some .local∨sc.names.lookup x=some .cell:=by decide+kernel)(h7:∀ y∈sc.names,y.2≠ .free:=by decide+kernel):qM N P sc:=⟨h1,h2,h3,h4,h5,h6,h7⟩
abbrev vZ:Stmt:=top 9
abbrev jr:Stmt:=top 10
abbrev x9:Stmt:=top 11
abbrev vx:Stmt:=top 12
abbrev qDc:Stmt:=top 13
abbrev qAv:Stmt:=top 14
abbrev vz:Stmt:=top 15
abbrev vk:Stmt:=top 16
abbrev kZ:Stmt:=top 17
abbrev wC:Stmt:=top 18
abbrev qAl:Stmt:=top 24
abbrev xB:Stmt:=top 25
abbrev v9:Stmt:=top 26
abbrev zh:Stmt:=top 27
abbrev vw:Stmt:=top 28
abbrev zV:Stmt:=top 29
abbrev qAd:Stmt:=top 30
abbrev qDo:Stmt:=top 31
abbrev xC:Stmt:=top 32
abbrev km:Stmt:=top 33
abbrev kX:Stmt:=top 34
abbrev kf:Stmt:=top 36
abbrev xA:Stmt:=top 37
abbrev jQ:Stmt:=top 38
abbrev zf:Stmt:=top 39
abbrev vv:Stmt:=top 40
abbrev ww:Stmt:=top 41
abbrev qAt:Stmt:=top 42
abbrev qAa:Stmt:=top 43
abbrev jw:Stmt:=top 44
abbrev zE:Stmt:=top 45
abbrev kG:Stmt:=top 46
abbrev j8:Stmt:=top 47
abbrev jh:Stmt:=top 48
abbrev vT:Stmt:=top 49
abbrev wq:Stmt:=top 50
abbrev zT:Stmt:=top 51
abbrev zg:Stmt:=top 53
abbrev xu:Stmt:=top 54
abbrev ki:Stmt:=top 55
abbrev jt:Stmt:=top 56
abbrev xT:Stmt:=top 57
abbrev vi:Stmt:=top 58
abbrev kW:Stmt:=top 59
abbrev xy:Stmt:=top 62
abbrev qB1:Stmt:=top 63
abbrev wJ:Stmt:=top 64
abbrev zJ:Stmt:=top 65
abbrev kJ:Stmt:=top 66
abbrev qDu:Stmt:=top 67
abbrev vW:Stmt:=top 68
abbrev qAr:Stmt:=top 69
abbrev qAo:Stmt:=top 70
abbrev qEr:Stmt:=top 71
abbrev xI:Stmt:=top 72
abbrev zn:Stmt:=top 73
abbrev qGu:Stmt:=top 74
abbrev zq:Stmt:=top 80
abbrev qEc:Stmt:=top 81
abbrev kF:Stmt:=top 82
abbrev zI:Stmt:=top 83
abbrev j7:Stmt:=top 84
abbrev vR:Stmt:=top 85
abbrev vI:Stmt:=top 86
abbrev xW:Stmt:=top 87
abbrev kI:Stmt:=top 88
abbrev qBz:Stmt:=top 89
abbrev qGz:Stmt:=top 90
abbrev qF4:Stmt:=top 91
abbrev qE1:Stmt:=top 92
abbrev qG4:Stmt:=top 93
abbrev qD2:Stmt:=top 94
abbrev kT:Stmt:=top 95
abbrev jI:Stmt:=top 100
abbrev xv:Stmt:=top 101
abbrev jU:Stmt:=top 102
abbrev zZ:Stmt:=top 103
abbrev zD:Stmt:=top 104
abbrev wv:Stmt:=top 105
abbrev xq:Stmt:=top 106
abbrev ka:Stmt:=top 107
abbrev zR:Stmt:=top 108
abbrev xx:Stmt:=top 109
abbrev zk:Stmt:=top 110
abbrev xS:Stmt:=top 112
abbrev zB:Stmt:=top 113
abbrev xt:Stmt:=top 114
abbrev xw:Stmt:=top 115
abbrev zv:Stmt:=top 117
abbrev kO:Stmt:=top 119
abbrev kh:Stmt:=top 120
abbrev kn:Stmt:=top 121
abbrev xU:Stmt:=top 122
abbrev v8:Stmt:=top 123
abbrev xo:Stmt:=top 124
abbrev qL0:Stmt:=top 125
theorem wy:qM ["x"] ["x"] (qG vZ):=scA
theorem jT:qM ["one","other","rest"] ["one","other"] (qG jr):=scA
theorem qBk:qM ["x"] ["x"] (qG x9):=scA
theorem kP:qM ["top","bottom","divisor"] ["top","bottom"] (qG vx):=scA
theorem qIx:qM ["one","other"] ["one","other"] (qG qDc):=scA
theorem qHo:qM ["one","other"] ["one","other"] (qG qAv):=scA
theorem qFj:qM ["one","other"] ["one","other"] (qG vz):=scA
theorem qFk:qM ["one","other"] ["one","other"] (qG vk):=scA
theorem qEv:qM ["one","other"] ["one","other"] (qG kZ):=scA
theorem qGb:qM ["one"] ["one"] (qG wC):=scA
theorem qHf:qM ["thing"] ["thing"] (qG qAl):=scA
theorem wW:qM ["item"] ["item"] (qG xB):=scA
theorem qFi:qM ["clip","k"] ["clip","k"] (qG v9):=scA
theorem qCj:qM ["clip","k"] ["clip","k"] (qG zh):=scA
theorem qFs:qM ["picture","many"] ["picture","many"] (qG vw):=scA
theorem vQ:qM ["item","reels","many"] ["item","reels"] (qG zV):=scA
theorem jv:qM ["first","step","many","room"] ["first","step","many"] (qG xC):=scA
theorem qD6:qM ["clip","reels"] ["clip","reels"] (qG km):=scA
theorem qDv:qM ["clip","reels"] ["clip","reels"] (qG kX):=scA
theorem qEm:qM ["thing"] ["thing"] (qG kf):=scA
theorem wO:qM ["item"] ["item"] (qG xA):=scA
theorem zQ:qM ["item"] ["item"] (qG jQ):=scA
theorem qC2:qM ["item"] ["item"] (qG zf):=scA
theorem jd:qM ["some","track","waiting","item"] ["some"] (qG vv):=scA
theorem jy:qM ["track","moment","begin","place","item","end"] ["track","moment"] (qG qAt):=scA
theorem qHi:qM ["track","place"] ["track","place"] (qG qAa):=scA
theorem xl:qM ["track","mixes"] ["track"] (qG jw):=scA
theorem qBr:qM ["track","place"] ["track","place"] (qG zE):=scA
theorem zH:qM ["track","moment","found"] ["track","moment"] (qG j8):=scA
theorem xM:qM ["track","moment","places"] ["track","moment"] (qG jh):=scA
theorem qDa:qM ["length"] ["length"] (qG zg):=scA
theorem qA9:qM ["length"] ["length"] (qG xu):=scA
theorem jo:qM ["track","spans","border","item"] ["track"] (qG ki):=scA
theorem vq:qM ["track","place"] ["track","place"] (qG jt):=scA
theorem qAn:qM ["track","place"] ["track","place"] (qG xT):=scA
theorem jg:qM ["track","moment","reels","places","ahead","behind","most_ahead","most_behind"] ["track","moment","reels"] (qG vi):=scA
theorem qE6:qM ["track","reels"] ["track","reels"] (qG kW):=scA
theorem qBm:qM ["table","number","moment"] ["table","number","moment"] (qG xy):=scA
theorem vN:qM ["table","number","track","tracks"] ["table","number","track"] (qG zn):=scA
theorem sc_stretch_of:qM ["deed"] ["deed"] (qG zq):=scA
theorem wP:qM ["deed"] ["deed"] (qG j7):=scA
theorem sc_check_change:qM ["table","deed","reels"] ["table","deed","reels"] (qG xW):=scA
theorem wa:qM ["table","deed","reels","track","places","most"] ["table","deed","reels"] (qG qF4):=scA
theorem qD0:qM ["table","deed","reels"] ["table","deed","reels"] (qG kT):=scA
theorem xg:qM ["thing"] ["thing"] (qG jI):=scA
theorem xX:qM ["reels","name","many"] ["reels"] (qG xv):=scA
theorem jq:qM ["item","reels"] ["item","reels"] (qG jU):=scA
theorem qCt:qM ["item","room"] ["item","room"] (qG zZ):=scA
theorem kH:qM ["track","room","item"] ["track","room"] (qG zD):=scA
theorem z8:qM ["tied","many","least","number"] ["tied","many"] (qG wv):=scA
theorem kM:qM ["table","room","track"] ["table","room"] (qG xq):=scA
theorem zw:qM ["table","names","track"] ["table"] (qG ka):=scA
theorem qB9:qM ["table","lower"] ["table","lower"] (qG zR):=scA
theorem jY:qM ["tables","lower","layer","found","name"] ["tables"] (qG xx):=scA
theorem xr:qM ["room","name","table"] ["room"] (qG zk):=scA
theorem qA2:qM ["_law_script","_law_k"] ["_law_script","_law_k"] (qG xS):=scA
theorem qv:qM ["_law_cell","_law_size","_law_found","_law_rest","_law_k","_law_number"] ["_law_cell","_law_size"] (qG zB):=scA
theorem jm:qM ["_law_top","_law_bottom","_law_one","_law_other"] ["_law_top","_law_bottom"] (qG xt):=scA
theorem qm:qM ["_law_xs","_law_reels_here","_law_size","_law_reel","_law_length","_law_top","_law_bottom","_law_far","_law_low","_law_rest","_law_start"] ["_law_xs","_law_reels_here","_law_size"] (qG xw):=scA
theorem qB3:qM ["_law_cell"] ["_law_cell"] (qG zv):=scA
theorem wH:qM ["_law_track_here","_law_reels_here"] ["_law_track_here","_law_reels_here"] (qG kO):=scA
theorem zX:qM ["_law_track_here","_law_moment","_law_reels_here","_law_found"] ["_law_track_here","_law_moment","_law_reels_here"] (qG kh):=scA
theorem zY:qM ["_law_track_here","_law_moment","_law_length","_law_reels_here","_law_table","e"] ["_law_track_here","_law_moment","_law_length","_law_reels_here"] (qG kn):=scA
theorem zt:qM ["_law_clip_here","_law_k","_law_reels_here","_law_top"] ["_law_clip_here","_law_k","_law_reels_here"] (qG xU):=scA
theorem jD:qM ["_law_track_here","_law_place","_law_reels_here","_law_ahead","_law_behind","_law_before","_law_after","_law_most_here","_law_new"] ["_law_track_here","_law_place","_law_reels_here"] (qG v8):=scA
theorem jJ:qM ["_law_track_here","_law_place","_law_moment","_law_reels_here","_law_cell","_law_most_here","_law_length","_law_put","_law_due_here"] ["_law_track_here","_law_place","_law_moment","_law_reels_here","_law_cell"] (qG xo):=scA
theorem zu:qM ["_law_script","_law_reels_here","_law_xs","_law_track_here","_law_far","_law_first","_law_most_here","_law_begin","_law_place"] ["_law_script"] (qG qL0):=scA
abbrev kC:Stmt:=qMk (top 7) 0
theorem qH9:qM ["self","most"] ["self","most"] (qG kC):=⟨rfl,rfl,rfl,by decide+kernel,rfl,by decide+kernel,by decide+kernel⟩
set_option genInjectivity false
set_option genSizeOf false
structure Ads where
 A0:Addr
 B0:FuncData
 A1:Addr
 B1:FuncData
 A2:Addr
 B2:FuncData
 A3:Addr
 B3:FuncData
 A4:Addr
 B4:FuncData
 A5:Addr
 B5:FuncData
 A6:Addr
 B6:FuncData
 A7:Addr
 B7:FuncData
 A8:Addr
 B8:FuncData
 A9:Addr
 B9:FuncData
 A10:Addr
 B10:FuncData
 A11:Addr
 B11:FuncData
 A12:Addr
 B12:FuncData
 A13:Addr
 B13:FuncData
 A14:Addr
 B14:FuncData
 A15:Addr
 B15:FuncData
 A16:Addr
 B16:FuncData
 A17:Addr
 B17:FuncData
 A18:Addr
 B18:FuncData
 A19:Addr
 B19:FuncData
 A20:Addr
 B20:FuncData
 A21:Addr
 B21:FuncData
 A22:Addr
 B22:FuncData
 A23:Addr
 B23:FuncData
 A24:Addr
 B24:FuncData
 A25:Addr
 B25:FuncData
 A26:Addr
 B26:FuncData
 A27:Addr
 B27:FuncData
 A28:Addr
 B28:FuncData
 A29:Addr
 B29:FuncData
 A30:Addr
 B30:FuncData
 A31:Addr
 B31:FuncData
 A32:Addr
 B32:FuncData
 A33:Addr
 B33:FuncData
 A34:Addr
 B34:FuncData
 A35:Addr
 B35:FuncData
 A36:Addr
 B36:FuncData
 A37:Addr
 B37:FuncData
 A38:Addr
 B38:FuncData
 A39:Addr
 B39:FuncData
 A40:Addr
 B40:FuncData
 A41:Addr
 B41:FuncData
 A42:Addr
 B42:FuncData
 A43:Addr
 B43:FuncData
 A44:Addr
 B44:FuncData
 A45:Addr
 B45:FuncData
 A46:Addr
 B46:FuncData
 A47:Addr
 B47:FuncData
 A48:Addr
 B48:FuncData
 A49:Addr
 B49:FuncData
 A50:Addr
 B50:FuncData
 A51:Addr
 B51:FuncData
 A52:Addr
 B52:FuncData
 A53:Addr
 B53:FuncData
 A54:Addr
 B54:FuncData
 A55:Addr
 B55:FuncData
 A56:Addr
 B56:FuncData
 A57:Addr
 B57:FuncData
 A58:Addr
 B58:FuncData
 A59:Addr
 B59:FuncData
 A60:Addr
 B60:FuncData
 A61:Addr
 B61:FuncData
 A62:Addr
 B62:FuncData
 A63:Addr
 B63:FuncData
 A64:Addr
 B64:FuncData
 A65:Addr
 B65:FuncData
 A66:Addr
 B66:FuncData
 A67:Addr
 B67:FuncData
 A68:Addr
 B68:FuncData
 A69:Addr
 B69:FuncData
 A70:Addr
 B70:FuncData
 A71:Addr
 B71:FuncData
 A72:Addr
 B72:FuncData
 A73:Addr
 B73:FuncData
 A74:Addr
 B74:FuncData
 A75:Addr
 B75:FuncData
 A76:Addr
 B76:FuncData
 A77:Addr
 B77:FuncData
 A78:Addr
 B78:FuncData
 A79:Addr
 B79:FuncData
 A80:Addr
 B80:FuncData
 A81:Addr
 B81:FuncData
 A82:Addr
 B82:FuncData
 A83:Addr
 B83:FuncData
 A84:Addr
 B84:FuncData
 A85:Addr
 B85:FuncData
 A86:Addr
 B86:FuncData
 A87:Addr
 B87:FuncData
 A88:Addr
 B88:FuncData
 A89:Addr
 B89:FuncData
 A90:Addr
 B90:FuncData
 A91:Addr
 B91:FuncData
 A92:Addr
 B92:FuncData
 A93:Addr
 B93:FuncData
 A94:Addr
 B94:FuncData
 A95:Addr
 B95:FuncData
 k_CutError:Addr
 k_NoNumber:Addr
 k_NoClip:Addr
 k_NoPlace:Addr
 k_Mixed:Addr
 k_NoRoom:Addr
 k_Short:Addr
 t_LETTERS:Tok
 t_LONGEST_NAME:Tok
 t_MOST_ROOM:Tok
 n_NOUGHT:Addr
 t_MOST_BY:Tok
 n_ROLLS:Addr
 n_LAYS:Addr
 n_PUSHES:Addr
 n_CHANGES:Addr
 t_MOST_PICTURES:Tok
 t_MOST_TRACKS:Tok
 t_MOST_DEEP:Tok
 fi_Short:Addr
 gi_Short:FuncData
structure Tx (K:PySem.W.Frag)(mg:Str→Option Value)(a:Ads):Prop where
 D0:L3.Def K mg "is_whole" vZ ["x"] a.A0 a.B0
 D1:L3.Def K mg "common_divisor" jr ["one","other"] a.A1 a.B1
 D2:L3.Def K mg "is_fraction" x9 ["x"] a.A2 a.B2
 D3:L3.Def K mg "fraction" vx ["top","bottom"] a.A3 a.B3
 D4:L3.Def K mg "sum_of" qDc ["one","other"] a.A4 a.B4
 D5:L3.Def K mg "less_by" qAv ["one","other"] a.A5 a.B5
 D6:L3.Def K mg "times_of" vz ["one","other"] a.A6 a.B6
 D7:L3.Def K mg "quotient" vk ["one","other"] a.A7 a.B7
 D8:L3.Def K mg "is_before" kZ ["one","other"] a.A8 a.B8
 D9:L3.Def K mg "floor_of" wC ["one"] a.A9 a.B9
 D10:L3.Def K mg "is_name" qAl ["thing"] a.A10 a.B10
 D11:L3.Def K mg "has_clip_form" xB ["item"] a.A11 a.B11
 D12:L3.Def K mg "place_at" v9 ["clip","k"] a.A12 a.B12
 D13:L3.Def K mg "picture_at" zh ["clip","k"] a.A13 a.B13
 D14:L3.Def K mg "is_there" vw ["picture","many"] a.A14 a.B14
 D15:L3.Def K mg "check_clip" zV ["item","reels"] a.A15 a.B15
 D16:L3.Def K mg "clip_part" qAd ["clip","low","high"] a.A16 a.B16
 D17:L3.Def K mg "goes_on" qDo ["one","other"] a.A17 a.B17
 D18:L3.Def K mg "moments_there" xC ["first","step","many"] a.A18 a.B18
 D19:L3.Def K mg "head_room" km ["clip","reels"] a.A19 a.B19
 D20:L3.Def K mg "tail_room" kX ["clip","reels"] a.A20 a.B20
 D21:L3.Def K mg "is_length" kf ["thing"] a.A21 a.B21
 D22:L3.Def K mg "has_nest_form" xA ["item"] a.A22 a.B22
 D23:L3.Def K mg "has_gap_or_mix_form" jQ ["item"] a.A23 a.B23
 D24:L3.Def K mg "moments_of" zf ["item"] a.A24 a.B24
 D25:L3.Def K mg "one_form" vv ["some"] a.A25 a.B25
 D26:L3.Def K mg "length_of" ww ["track"] a.A26 a.B26
 D27:L3.Def K mg "item_at" qAt ["track","moment"] a.A27 a.B27
 D28:L3.Def K mg "kind_at" qAa ["track","place"] a.A28 a.B28
 D29:L3.Def K mg "is_in_one_form" jw ["track"] a.A29 a.B29
 D30:L3.Def K mg "place_ahead" zE ["track","place"] a.A30 a.B30
 D31:L3.Def K mg "place_behind" kG ["track","place"] a.A31 a.B31
 D32:L3.Def K mg "neighbours_at" j8 ["track","moment"] a.A32 a.B32
 D33:L3.Def K mg "clips_at_border" jh ["track","moment"] a.A33 a.B33
 D34:L3.Def K mg "lies_within" vT ["track","moment"] a.A34 a.B34
 D35:L3.Def K mg "item_part" wq ["item","low","high"] a.A35 a.B35
 D36:L3.Def K mg "part_of_track" zT ["track","low","high"] a.A36 a.B36
 D37:L3.Def K mg "part_ahead" zg ["length"] a.A37 a.B37
 D38:L3.Def K mg "part_behind" xu ["length"] a.A38 a.B38
 D39:L3.Def K mg "mix_spans" ki ["track"] a.A39 a.B39
 D40:L3.Def K mg "taken_at_begin" jt ["track","place"] a.A40 a.B40
 D41:L3.Def K mg "taken_at_end" xT ["track","place"] a.A41 a.B41
 D42:L3.Def K mg "most_mix" vi ["track","moment","reels"] a.A42 a.B42
 D43:L3.Def K mg "mixes_fit" kW ["track","reels"] a.A43 a.B43
 D44:L3.Def K mg "check_place" xy ["table","number","moment"] a.A44 a.B44
 D45:L3.Def K mg "check_by" qB1 ["by"] a.A45 a.B45
 D46:L3.Def K mg "clip_there" wJ ["track","moment"] a.A46 a.B46
 D47:L3.Def K mg "clip_and_sides" zJ ["track","moment"] a.A47 a.B47
 D48:L3.Def K mg "places_named" kJ ["track","deed"] a.A48 a.B48
 D49:L3.Def K mg "has_mix" qDu ["track","place"] a.A49 a.B49
 D50:L3.Def K mg "check_short" vW ["most","by"] a.A50 a.B50
 D51:L3.Def K mg "most_slip" qAr ["clip","by","reels"] a.A51 a.B51
 D52:L3.Def K mg "most_roll" qAo ["left","right","by","reels"] a.A52 a.B52
 D53:L3.Def K mg "slipped" qEr ["track","place","by","reels"] a.A53 a.B53
 D54:L3.Def K mg "with_rolled_ends" xI ["track","first","last","by","reels"] a.A54 a.B54
 D55:L3.Def K mg "table_with" zn ["table","number","track"] a.A55 a.B55
 D56:L3.Def K mg "rolled" qGu ["table","deed","reels"] a.A56 a.B56
 D57:L3.Def K mg "stretch_of" zq ["deed"] a.A57 a.B57
 D58:L3.Def K mg "laid_by" qEc ["deed"] a.A58 a.B58
 D59:L3.Def K mg "laid_on_tied" kF ["deed"] a.A59 a.B59
 D60:L3.Def K mg "tracks_changed" zI ["table","deed"] a.A60 a.B60
 D61:L3.Def K mg "check_numbers" j7 ["deed"] a.A61 a.B61
 D62:L3.Def K mg "touches_mix" vR ["track","low","high"] a.A62 a.B62
 D63:L3.Def K mg "check_mixes" vI ["table","deed"] a.A63 a.B63
 D64:L3.Def K mg "check_change" xW ["table","deed","reels"] a.A64 a.B64
 D65:L3.Def K mg "nest_goes_on" kI ["one","other"] a.A65 a.B65
 D66:L3.Def K mg "can_heal" qBz ["track","places"] a.A66 a.B66
 D67:L3.Def K mg "healed" qGz ["table","deed"] a.A67 a.B67
 D68:L3.Def K mg "mixed" qF4 ["table","deed","reels"] a.A68 a.B68
 D69:L3.Def K mg "unmixed" qE1 ["table","deed"] a.A69 a.B69
 D70:L3.Def K mg "relaid" qG4 ["track","low","high","laid"] a.A70 a.B70
 D71:L3.Def K mg "changed" qD2 ["table","deed"] a.A71 a.B71
 D72:L3.Def K mg "deed_done" kT ["table","deed","reels"] a.A72 a.B72
 D73:L3.Def K mg "is_number_of_pictures" jI ["thing"] a.A73 a.B73
 D74:L3.Def K mg "check_reels" xv ["reels"] a.A74 a.B74
 D75:L3.Def K mg "check_clip_of_room" jU ["item","reels"] a.A75 a.B75
 D76:L3.Def K mg "check_item" zZ ["item","room"] a.A76 a.B76
 D77:L3.Def K mg "check_track" zD ["track","room"] a.A77 a.B77
 D78:L3.Def K mg "is_tied" wv ["tied","many"] a.A78 a.B78
 D79:L3.Def K mg "check_table" xq ["table","room"] a.A79 a.B79
 D80:L3.Def K mg "nested_in" ka ["table"] a.A80 a.B80
 D81:L3.Def K mg "rests_upon" zR ["table","lower"] a.A81 a.B81
 D82:L3.Def K mg "check_depth" xx ["tables"] a.A82 a.B82
 D83:L3.Def K mg "check_room" zk ["room"] a.A83 a.B83
 D84:L3.Def K mg "_law_cell_at" xS ["_law_script","_law_k"] a.A84 a.B84
 D85:L3.Def K mg "_law_stream" zB ["_law_cell","_law_size"] a.A85 a.B85
 D86:L3.Def K mg "_law_lowest" xt ["_law_top","_law_bottom"] a.A86 a.B86
 D87:L3.Def K mg "_law_clip" xw ["_law_xs","_law_reels_here","_law_size"] a.A87 a.B87
 D88:L3.Def K mg "_law_reels" zv ["_law_cell"] a.A88 a.B88
 D89:L3.Def K mg "_law_fits" kO ["_law_track_here","_law_reels_here"] a.A89 a.B89
 D90:L3.Def K mg "_law_most" kh ["_law_track_here","_law_moment","_law_reels_here"] a.A90 a.B90
 D91:L3.Def K mg "_law_deed" kn ["_law_track_here","_law_moment","_law_length","_law_reels_here"] a.A91 a.B91
 D92:L3.Def K mg "_law_in_reel" xU ["_law_clip_here","_law_k","_law_reels_here"] a.A92 a.B92
 D93:L3.Def K mg "_law_due" v8 ["_law_track_here","_law_place","_law_reels_here"] a.A93 a.B93
 D94:L3.Def K mg "_law_border" xo ["_law_track_here","_law_place","_law_moment","_law_reels_here","_law_cell"] a.A94 a.B94
 D95:L3.Def K mg "law" qL0 ["_law_script"] a.A95 a.B95
 c_CutError:mg "CutError"=some (.ref a.k_CutError)
 c_NoNumber:mg "NoNumber"=some (.ref a.k_NoNumber)
 c_NoClip:mg "NoClip"=some (.ref a.k_NoClip)
 c_NoPlace:mg "NoPlace"=some (.ref a.k_NoPlace)
 c_Mixed:mg "Mixed"=some (.ref a.k_Mixed)
 c_NoRoom:mg "NoRoom"=some (.ref a.k_NoRoom)
 c_Short:mg "Short"=some (.ref a.k_Short)
 b_isinstance:mg "isinstance"=none
 b_int:mg "int"=none
 b_bool:mg "bool"=none
 b_abs:mg "abs"=none
 b_tuple:mg "tuple"=none
 b_len:mg "len"=none
 b_all:mg "all"=none
 b_str:mg "str"=none
 b_min:mg "min"=none
 b_sum:mg "sum"=none
 b_enumerate:mg "enumerate"=none
 b_max:mg "max"=none
 b_list:mg "list"=none
 b_any:mg "any"=none
 b_range:mg "range"=none
 b_dict:mg "dict"=none
 g_LETTERS:mg "LETTERS"=some (.str "abcdefghijklmnopqrstuvwxyz" a.t_LETTERS)
 g_LONGEST_NAME:mg "LONGEST_NAME"=some (.int 8 a.t_LONGEST_NAME)
 g_MOST_ROOM:mg "MOST_ROOM"=some (.int 1000000 a.t_MOST_ROOM)
 g_NOUGHT:mg "NOUGHT"=some (.ref a.n_NOUGHT)
 sq_NOUGHT:∀ H,SqT K H a.n_NOUGHT [.int 0,.int 1]
 g_MOST_BY:mg "MOST_BY"=some (.int 1000000 a.t_MOST_BY)
 g_ROLLS:mg "ROLLS"=some (.ref a.n_ROLLS)
 sq_ROLLS:∀ H,SqT K H a.n_ROLLS [.str "roll",.str "slip",.str "slide"]
 g_LAYS:mg "LAYS"=some (.ref a.n_LAYS)
 sq_LAYS:∀ H,SqT K H a.n_LAYS [.str "lay_in",.str "lay_over"]
 g_PUSHES:mg "PUSHES"=some (.ref a.n_PUSHES)
 sq_PUSHES:∀ H,SqT K H a.n_PUSHES [.str "lay_in",.str "open",.str "close"]
 g_CHANGES:mg "CHANGES"=some (.ref a.n_CHANGES)
 sq_CHANGES:∀ H,SqT K H a.n_CHANGES [.str "cut",.str "lay_in",.str "open",.str "close",.str "lift",.str "lay_over"]
 g_MOST_PICTURES:mg "MOST_PICTURES"=some (.int 1000000000 a.t_MOST_PICTURES)
 g_MOST_TRACKS:mg "MOST_TRACKS"=some (.int 8 a.t_MOST_TRACKS)
 g_MOST_DEEP:mg "MOST_DEEP"=some (.int 6 a.t_MOST_DEEP)
 x_NoClip:L3.OwnX K a.k_NoClip
 x_NoPlace:L3.OwnX K a.k_NoPlace
 x_Mixed:L3.OwnX K a.k_Mixed
 x_NoRoom:L3.OwnX K a.k_NoRoom
 yPP:PySem.W.exmOne K (.ref a.k_NoPlace) (.ref a.k_NoPlace)=some true
 ySS:PySem.W.exmOne K (.ref a.k_Short) (.ref a.k_Short)=some true
 yRR:PySem.W.exmOne K (.ref a.k_NoRoom) (.ref a.k_NoRoom)=some true
 e_Short:L3.ExcK K a.k_Short
 f_most:PySem.W.findIn K (.ref a.k_Short) "most"=some none
 i_Short:Fun K "__init__" "Short.__init__" kC a.fi_Short a.gi_Short
 ib_Short:Binds K a.gi_Short ["self","most"] []
 m_Short:L3.XMk K a.k_Short a.k_CutError a.fi_Short
 tk_Short:PySem.W.takerIn K a.k_Short "most"=some none
inductive qKh (K:PySem.W.Frag)(vs:List V)(H:Hp)(Q:VK)(_:XK):Prop
| mk (a:Addr) (ns:List Int) (_:vs=[.ref a]) (_:SqL K H a (ns.map V.int)) (_:ns.length≤63) (_:∀ H',Q (.bl true) H')
def qKf (H:Hp)(Q:VK)(p q:Int):Prop:=∀ z,H z=none→Q (.ref z) (upd H z (.tup [.int p,.int q]))
theorem jV {CX:CXT}{P:Program}{w:World}{K:PySem.W.Frag}{mg:Str→Option Value}{base:Heap}{ns:List Str}{n:Str}{sc:Scope}{ad:Addr}{cdv:Value}{A:Around}{outer:List Env}{s:Shared}{H:Hp}{E:XK}:(qJx CX P w K mg base ns n sc ad cdv A outer s H E).K=K:=rfl
theorem qg {CX:CXT}{P:Program}{w:World}{K:PySem.W.Frag}{mg:Str→Option Value}{base:Heap}{ns:List Str}{n:Str}{sc:Scope}{ad:Addr}{cdv:Value}{A:Around}{outer:List Env}{s:Shared}{H:Hp}{E:XK}:(qJx CX P w K mg base ns n sc ad cdv A outer s H E).nox.K=K:=rfl
theorem sL0:(0:Nat)≤sizeLine:=by decide
theorem sL1:(1:Nat)≤sizeLine:=by decide
theorem sL2:(2:Nat)≤sizeLine:=by decide
theorem sL3:(3:Nat)≤sizeLine:=by decide
theorem sL4:(4:Nat)≤sizeLine:=by decide
theorem sL5:(5:Nat)≤sizeLine:=by decide
theorem glt {α:Type}{xs:List α}{i:Nat}{x:α}(h:xs[i]? =some x):i < xs.length:=(List.getElem?_eq_some_iff.mp h).1
theorem ixT {K:PySem.W.Frag}{σ:St}{H:Hp}{p:Addr}{xs:List V}{i:Int}{v:V}{Q:VK}(h:SqT K H p xs)(a:atI xs i=some v)(q:Q v H):tC (.int i) σ H (fun y H2=>qMv K (.ref p) y H2 Q):=⟨p,xs,i,v,rfl,rfl,h,a,q⟩
theorem kq {K:PySem.W.Frag}{σ:St}{H:Hp}{p:Addr}{xs:List V}{i:Int}{v:V}{Q:VK}{j:Nat}(e:σ[j]? =some (some (.ref p)))(h:SqT K H p xs)(a:atI xs i=some v)(q:Q v H):tOp (qMv K) (qN6 j) (tC (.int i)) σ H Q:=⟨.ref p,e,p,xs,i,v,rfl,rfl,h,a,q⟩
theorem ixO {K:PySem.W.Frag}{σ:St}{H:Hp}{p:Addr}{xs:List V}{i:Int}{v:V}{Q:VK}{j:Nat}(h:H p=some (.tup xs))(a:atI xs i=some v)(q:Q v H)(e:σ[j]? =some (some (.ref p)):=by rfl):tOp (qMv K) (qN6 j) (tC (.int i)) σ H Q:=kq e (SqT.of h) a q
section
variable {P : Program} {w : World} {K : W.Frag} {mg : Str → Option Value} {base : Heap} {a : Ads}
inductive qFl (vs:List V)(H:Hp)(Q:VK)(_:XK):Prop
| mk (i:Int) (_:vs=[.int i]) (_:Q (.bl true) H)
theorem xp (T:Tx K mg a):FnOk P w K mg base CX0 1 a.A0 a.B0 ["x"] qFl:=by
 refine T.D0.F.ok wy (fun vs H Q E h=>?_) (fun cdv A outer s H vs Q E hr h=>?_)
 · obtain⟨i,rfl,_⟩:=h
   rfl
 refine qR fun _ Y=>?_
 obtain⟨i,rfl,q⟩:=h
 apply Y
 refine⟨_,(qD (qN (xL (qQ qZ rfl T.b_isinstance rfl (qA (pv 0) (qA (zG rfl T.b_int rfl) qB))) (zL (qK9 (qQ qZ rfl T.b_isinstance rfl (qA (pv 0) (qA (zG rfl T.b_bool rfl) qB)))))))),?_⟩
 try dsimp only [jV,qg]
 refine⟨_,rfl,_,_,_,true,rfl,.int i,⟨_,.inl ⟨rfl,rfl⟩⟩,true,rfl,jS ?_⟩
 refine⟨_,rfl,_,_,_,false,rfl,.int i,⟨_,.inl ⟨rfl,by kernel_rfl⟩⟩,false,rfl,?_⟩
 exact q
inductive vc (vs:List V)(H:Hp)(Q:VK)(_:XK):Prop
| mk (i j:Int) (_:vs=[.int i,.int j]) (_:Q (.int ((Int.gcd i j:Nat):Int)) H)
theorem xZ (T:Tx K mg a):FnOk P w K mg base CX0 1 a.A1 a.B1 ["one","other"] vc:=by
 refine T.D1.F.ok jT (fun vs H Q E h=>?_) (fun cdv A outer s H vs Q E hr h=>?_)
 · obtain⟨i,j,rfl,_⟩:=h
   rfl
 refine qR fun _ Y=>?_
 obtain⟨i,j,rfl,q⟩:=h
 apply Y
 refine⟨_,(qC (qCn PassesOwn.never (qJ xn (pv 1) qE (qO _)) (qC (qd 2 jT.nd (qK jG (pv 0) (pv 1)))
  (qC (qd 0 jT.nd (pv 1))
  (qD (qd 1 jT.nd (pv 2))))))
  (qD (qN (qQ qCu rfl T.b_abs rfl (qA (pv 0) qB))))),?_⟩
 try dsimp only [jV,qg]
 refine qB4 (fun σ H'=>H'=H∧∃ (x y:Int) (v:Option V),σ=[some (.int x),some (.int y),v]∧Int.gcd x y=Int.gcd i j)
  (fun σ _=>match σ with | [_,some (.int y),_]=>y.natAbs | _=>0) ⟨rfl,i,j,none,rfl,rfl⟩ ?_ ?_
 · rintro σ H1 ⟨rfl,x,y,v,rfl,e⟩
   refine⟨_,rfl,rfl,_,rfl,?_⟩
   refine jx (fun c=>?_) (fun c=>?_)
   · have hy:y≠0:=by simpa using c
     refine⟨_,rfl,_,rfl,_,_,rfl,rfl,hy,_,rfl,_,rfl,⟨rfl,y,x.fmod y,_,rfl,?_⟩,?_⟩
     · rw [qGh];exact e
     · exact qI9 x y hy
   · have hy:y=0:=by simpa using c
     subst hy
     refine⟨_,rfl,x,rfl,?_⟩
     have e2:(if x < 0 then -x else x)=((Int.gcd i j:Nat):Int):=by
      rw [← e,Int.gcd_zero_right]
      split <;> omega
     rw [e2]
     exact q
 · rintro σ H1 Q1 Q2 hq h
   refine qR fun _ Y=>?_
   obtain⟨v,e,s,k,hk,z⟩:=h
   apply Y
   exact⟨v,e,s,k,hk,hq _ _ z⟩
theorem qGn {t b:Int}(h:b≠0)(hb:b.natAbs < 2 ^ 8000):CDivB t (sg t b)∧CDivB b (sg t b):=by
 have h1:=qOk (t:=t) h
 have h2:(sg t b).natAbs < 2 ^ 8000:=by
  rw [qGr]
  exact Nat.lt_of_le_of_lt (Nat.le_of_dvd (by omega) (Int.gcd_dvd_natAbs_right ..)) hb
 exact⟨⟨h1,h2⟩,⟨h1,h2⟩⟩
inductive qFy (vs:List V)(H:Hp)(Q:VK)(_:XK):Prop
| mk (t b:Int) (_:vs=[.int t,.int b]) (_:b≠0) (_:b.natAbs < 2 ^ 8000) (_:qKf H Q (ja t b) (jN t b))
theorem jl (T:Tx K mg a):FnOk P w K mg base CX0 2 a.A3 a.B3 ["top","bottom"] qFy:=by
 refine T.D3.F.ok kP (fun vs H Q E h=>?_) (fun cdv A outer s H vs Q E hr h=>?_)
 · obtain⟨t,b,rfl,_⟩:=h
   rfl
 refine qR fun _ Y=>?_
 obtain⟨t,b,rfl,hb,hs,q⟩:=h
 apply Y
 refine⟨_,(qC (qW (PW.pt (jW (qi (qc (qI T.D0 (xp T) hr rfl (qA (pv 0) qB)))) (jH (qi (qc (qI T.D0 (xp T) hr rfl (qA (pv 1) qB))))))) jX qL)
  (qC (qW (qJ xY (pv 1) qE (qO _)) jX qL)
  (qC (qd 2 kP.nd (qI T.D1 (xZ T) hr rfl (qA (pv 0) (qA (pv 1) qB))))
  (qC (qW (qJ kD (pv 1) qE (qO _)) (qD (qd 2 kP.nd (we zp (pv 2)))) qL)
  (qD (qN (jO (qA (qK qf (pv 0) (pv 2)) (qA (qK qf (pv 1) (pv 2)) qB))))))))),?_⟩
 try dsimp only [jV,qg]
 refine⟨_,rfl,t,rfl,true,rfl,qp ?_⟩
 refine⟨_,rfl,b,rfl,true,rfl,qp ?_⟩
 refine⟨_,rfl,rfl,_,rfl,?_⟩
 refine jx (fun c=>absurd (by simpa using c) hb) (fun _=>?_)
 refine⟨_,rfl,_,rfl,t,b,rfl,?_⟩
 refine⟨_,rfl,_,_,rfl,rfl,_,rfl,?_⟩
 obtain⟨d1,d2⟩:=qGn (t:=t) hb hs
 refine jx (fun c=>?_) (fun c=>?_)
 · have c':b < 0:=by simpa using c
   have e:-((Int.gcd t b:Nat):Int)=sg t b:=by unfold sg;rw [if_pos c']
   have q':qKf H Q (t.fdiv (-((Int.gcd t b:Nat):Int))) (b.fdiv (-((Int.gcd t b:Nat):Int))):=by rw [e];exact q
   exact⟨_,rfl,_,rfl,_,rfl,_,rfl,_,_,rfl,rfl,(by rw [e];exact d1),_,rfl,_,rfl,_,_,rfl,rfl,(by rw [e];exact d2),sL2,q'⟩
 · have c':¬ b < 0:=by simpa using c
   have e:((Int.gcd t b:Nat):Int)=sg t b:=by unfold sg;rw [if_neg c']
   have q':qKf H Q (t.fdiv ((Int.gcd t b:Nat):Int)) (b.fdiv ((Int.gcd t b:Nat):Int)):=by rw [e];exact q
   exact⟨_,rfl,_,rfl,_,_,rfl,rfl,(by rw [e];exact d1),_,rfl,_,rfl,_,_,rfl,rfl,(by rw [e];exact d2),sL2,q'⟩
def Pr (K:W.Frag)(H:Hp)(v:V)(p q:Int):Prop:=∃ z,v= .ref z∧SqT K H z [.int p,.int q]
def Sm (i:Int):Prop:=i.natAbs < 2 ^ 3000
theorem Sm.mul {i j:Int}(h1:Sm i)(h2:Sm j):CMulB i j:=by
 unfold Sm at h1 h2
 have:(2:Nat) ^ 3000≤2 ^ 60000:=Nat.pow_le_pow_right (by decide) (by decide)
 exact .inr ⟨by omega,by omega⟩
theorem Sm.prod {i j:Int}(h1:Sm i)(h2:Sm j):(i*j).natAbs < 2 ^ 8000:=by
 unfold Sm at h1 h2
 rw [Int.natAbs_mul]
 have h3:i.natAbs*j.natAbs < 2 ^ 3000*2 ^ 3000:=Nat.mul_lt_mul'' h1 h2
 rw [← Nat.pow_add] at h3
 exact Nat.lt_of_lt_of_le h3 (Nat.pow_le_pow_right (by decide) (by decide))
theorem at0 {x y:V}:atI [x,y] 0=some x:=rfl
theorem at1 {x y:V}:atI [x,y] 1=some y:=rfl
inductive qJr (K:W.Frag)(vs:List V)(H:Hp)(Q:VK)(_:XK):Prop
| mk (x y:V) (p q r s:Int) (_:vs=[x,y]) (_:Pr K H x p q) (_:Pr K H y r s) (_:q≠0) (_:s≠0) (_:Sm p) (_:Sm q) (_:Sm r) (_:Sm s) (_:qKf H Q (ja (p*s+r*q) (q*s)) (jN (p*s+r*q) (q*s)))
theorem qH5 (T:Tx K mg a):FnOk P w K mg base CX0 3 a.A4 a.B4 ["one","other"] (qJr K):=by
 refine T.D4.F.ok qIx (fun vs H Q E h=>?_) (fun cdv A outer s H vs Q E hr h=>?_)
 · obtain⟨x,y,p,q,r,s,rfl,_⟩:=h
   rfl
 refine qR fun _ Y=>?_
 obtain⟨x,y,p,q,r,s',rfl,⟨z1,rfl,h1⟩,⟨z2,rfl,h2⟩,hq,hs,bp,bq,br,bs,k⟩:=h
 apply Y
 refine⟨_,(qD (qN (qI T.D3 (jl T) hr rfl (qA (qK qh (qK ql (qP (pv 0)) (qP (pv 1))) (qK ql (qP (pv 1)) (qP (pv 0)))) (qA (qK ql (qP (pv 0)) (qP (pv 1))) qB))))),?_⟩
 try dsimp only [jV,qg]
 refine(kq rfl h1 at0 (kq rfl h2 at1 ⟨_,_,rfl,rfl,bp.mul bs,?_⟩))
 refine(kq rfl h2 at0 (kq rfl h1 at1 ⟨_,_,rfl,rfl,br.mul bq,_,_,rfl,rfl,?_⟩))
 refine(kq rfl h1 at1 (kq rfl h2 at1 ⟨_,_,rfl,rfl,bq.mul bs,?_⟩))
 exact⟨_,_,rfl,Int.mul_ne_zero hq hs,bq.prod bs,k⟩
inductive qGf (K:W.Frag)(vs:List V)(H:Hp)(Q:VK)(_:XK):Prop
| mk (x:V) (p q:Int) (_:vs=[x]) (_:Pr K H x p q) (_:q≠0) (_:q.natAbs < 2 ^ 8000) (_:Q (.int (p.fdiv q)) H)
theorem x8 (T:Tx K mg a):FnOk P w K mg base CX0 1 a.A9 a.B9 ["one"] (qGf K):=by
 refine T.D9.F.ok qGb (fun vs H Q E h=>?_) (fun cdv A outer s H vs Q E hr h=>?_)
 · obtain⟨x,p,q,rfl,_⟩:=h
   rfl
 refine qR fun _ Y=>?_
 obtain⟨x,p,q,rfl,⟨z1,rfl,h1⟩,hq,bq,k⟩:=h
 apply Y
 refine⟨_,(qD (qN (qK qf (qP (pv 0)) (qP (pv 0))))),?_⟩
 try dsimp only [jV,qg]
 exact(kq rfl h1 at0 (kq rfl h1 at1 ⟨_,_,rfl,rfl,⟨hq,bq⟩,k⟩))
theorem nz {j:Int}(h:j≠0:=by decide):j≠0:=h
theorem cdB {i j:Int}(h0:j≠0)(h:j.natAbs < 18446744073709551616):CDivB i j:=
 ⟨h0,Nat.lt_of_lt_of_le h (Nat.le_trans (by decide:18446744073709551616≤2 ^ 64) (Nat.pow_le_pow_right (by decide) (by decide)))⟩
theorem cmR {i j:Int}(h1:-(18446744073709551616:Int) < j)(h2:j < 18446744073709551616):CMulB i j:=.inl (.inr ⟨h1,h2⟩)
theorem cmL {i j:Int}(h1:-(18446744073709551616:Int) < i)(h2:i < 18446744073709551616):CMulB i j:=.inl (.inl ⟨h1,h2⟩)
theorem at2 {x y:V}{i:Int}(h0:0≤i)(h1:i < 2):∃ v,atI [x,y] i=some v∧(v=x∨v=y):=by
 have:i=0∨i=1:=by omega
 rcases this with rfl | rfl
 · exact⟨x,rfl,.inl rfl⟩
 · exact⟨y,rfl,.inr rfl⟩
theorem fm (i:Int){j:Int}(h:0 < j):0≤i.fmod j∧i.fmod j < j:=⟨Int.fmod_nonneg_of_pos i h,Int.fmod_lt_of_pos i h⟩
theorem cpw {n:Nat}(h:n≤1000000):qPo 10 (n:Int):=⟨by omega,by omega,by decide⟩
def qJj (n:Nat)(p q:Int):Prop:=0 < q∧Int.gcd p q=1∧p.natAbs < 2 ^ n∧q.natAbs < 2 ^ n
theorem Sm.of200 {i:Int}(h:i.natAbs < 2 ^ 200):Sm i:=Nat.lt_of_lt_of_le h (Nat.pow_le_pow_right (by decide) (by decide))
theorem qG3 {n:Nat}{t b:Int}(hb:0 < b)(h1:t.natAbs < 2 ^ n)(h2:b.natAbs < 2 ^ n):qJj n (ja t b) (jN t b):=
 ⟨jk (by omega),qF9 (by omega),Nat.lt_of_le_of_lt (wY (by omega)) h1,Nat.lt_of_le_of_lt (zC (by omega)) h2⟩
inductive qFw (K:W.Frag)(vs:List V)(H:Hp)(Q:VK)(_:XK):Prop
| mk (x y:V) (p q r s:Int) (_:vs=[x,y]) (_:Pr K H x p q) (_:Pr K H y r s) (_:q≠0) (_:s≠0) (_:Sm p) (_:Sm q) (_:Sm r) (_:Sm s) (_:qKf H Q (ja (p*r) (q*s)) (jN (p*r) (q*s)))
theorem qFn (T:Tx K mg a):FnOk P w K mg base CX0 3 a.A6 a.B6 ["one","other"] (qFw K):=by
 refine T.D6.F.ok qFj (fun vs H Q E h=>?_) (fun cdv A outer s H vs Q E hr h=>?_)
 · obtain⟨x,y,p,q,r,s,rfl,_⟩:=h
   rfl
 refine qR fun _ Y=>?_
 obtain⟨x,y,p,q,r,s',rfl,⟨z1,rfl,h1⟩,⟨z2,rfl,h2⟩,hq,hs,bp,bq,br,bs,k⟩:=h
 apply Y
 refine⟨_,(qD (qN (qI T.D3 (jl T) hr rfl (qA (qK ql (qP (pv 0)) (qP (pv 1))) (qA (qK ql (qP (pv 0)) (qP (pv 1))) qB))))),?_⟩
 try dsimp only [jV,qg]
 refine(kq rfl h1 at0 (kq rfl h2 at0 ⟨_,_,rfl,rfl,bp.mul br,?_⟩))
 refine(kq rfl h1 at1 (kq rfl h2 at1 ⟨_,_,rfl,rfl,bq.mul bs,?_⟩))
 exact⟨_,_,rfl,Int.mul_ne_zero hq hs,bq.prod bs,k⟩
inductive qHl (K:W.Frag)(vs:List V)(H:Hp)(Q:VK)(_:XK):Prop
| mk (x y:V) (p q r s:Int) (_:vs=[x,y]) (_:Pr K H x p q) (_:Pr K H y r s) (_:q≠0) (_:s≠0) (_:Sm p) (_:Sm q) (_:Sm r) (_:Sm s) (_:qKf H Q (ja (p*s - r*q) (q*s)) (jN (p*s - r*q) (q*s)))
theorem wA (T:Tx K mg a):FnOk P w K mg base CX0 3 a.A5 a.B5 ["one","other"] (qHl K):=by
 refine T.D5.F.ok qHo (fun vs H Q E h=>?_) (fun cdv A outer s H vs Q E hr h=>?_)
 · obtain⟨x,y,p,q,r,s,rfl,_⟩:=h
   rfl
 refine qR fun _ Y=>?_
 obtain⟨x,y,p,q,r,s',rfl,⟨z1,rfl,h1⟩,⟨z2,rfl,h2⟩,hq,hs,bp,bq,br,bs,k⟩:=h
 apply Y
 refine⟨_,(qD (qN (qI T.D3 (jl T) hr rfl (qA (qK jA (qK ql (qP (pv 0)) (qP (pv 1))) (qK ql (qP (pv 1)) (qP (pv 0)))) (qA (qK ql (qP (pv 0)) (qP (pv 1))) qB))))),?_⟩
 try dsimp only [jV,qg]
 refine(kq rfl h1 at0 (kq rfl h2 at1 ⟨_,_,rfl,rfl,bp.mul bs,?_⟩))
 refine(kq rfl h2 at0 (kq rfl h1 at1 ⟨_,_,rfl,rfl,br.mul bq,_,_,rfl,rfl,?_⟩))
 refine(kq rfl h1 at1 (kq rfl h2 at1 ⟨_,_,rfl,rfl,bq.mul bs,?_⟩))
 exact⟨_,_,rfl,Int.mul_ne_zero hq hs,bq.prod bs,k⟩
inductive qFo (K:W.Frag)(vs:List V)(H:Hp)(Q:VK)(_:XK):Prop
| mk (x y:V) (p q r s:Int) (_:vs=[x,y]) (_:Pr K H x p q) (_:Pr K H y r s) (_:q≠0) (_:r≠0) (_:Sm p) (_:Sm q) (_:Sm r) (_:Sm s) (_:qKf H Q (ja (p*s) (q*r)) (jN (p*s) (q*r)))
theorem qAf (T:Tx K mg a):FnOk P w K mg base CX0 3 a.A7 a.B7 ["one","other"] (qFo K):=by
 refine T.D7.F.ok qFk (fun vs H Q E h=>?_) (fun cdv A outer s H vs Q E hr h=>?_)
 · obtain⟨x,y,p,q,r,s,rfl,_⟩:=h
   rfl
 refine qR fun _ Y=>?_
 obtain⟨x,y,p,q,r,s',rfl,⟨z1,rfl,h1⟩,⟨z2,rfl,h2⟩,hq,hr',bp,bq,br,bs,k⟩:=h
 apply Y
 refine⟨_,(qD (qN (qI T.D3 (jl T) hr rfl (qA (qK ql (qP (pv 0)) (qP (pv 1))) (qA (qK ql (qP (pv 0)) (qP (pv 1))) qB))))),?_⟩
 try dsimp only [jV,qg]
 refine(kq rfl h1 at0 (kq rfl h2 at1 ⟨_,_,rfl,rfl,bp.mul bs,?_⟩))
 refine(kq rfl h1 at1 (kq rfl h2 at0 ⟨_,_,rfl,rfl,bq.mul br,?_⟩))
 exact⟨_,_,rfl,Int.mul_ne_zero hq hr',bq.prod br,k⟩
inductive NoW (H:Hp):V→Prop where
 | non:NoW H .non
 | bl (b:Bool):NoW H (.bl b)
 | str (z:Str):NoW H (.str z)
 | lst {a:Addr} {xs:List V} (e:H a=some (.lst xs)):NoW H (.ref a)
 | tup {a:Addr} {xs:List V} (e:H a=some (.tup xs)):NoW H (.ref a)
theorem NoW.same {H H':Hp}{x:V}(s:Same H H'):NoW H x→NoW H' x
 | .non=>.non
 | .bl b=>.bl b
 | .str z=>.str z
 | .lst e=>.lst (s _ _ e)
 | .tup e=>.tup (s _ _ e)
def WhB (H:Hp)(x:V)(b:Bool):Prop:=(∃ i:Int,x= .int i∧b=true)∨(NoW H x∧b=false)
theorem WhB.int {H:Hp}(i:Int):WhB H (.int i) true:=.inl ⟨i,rfl,rfl⟩
theorem WhB.no {H:Hp}{x:V}(h:NoW H x):WhB H x false:=.inr ⟨h,rfl⟩
theorem WhB.ty {H:Hp}{x:V}{b:Bool}(h:WhB H x b):∃ t i c,qBw K H x t∧W.kitOne K t (.type "int")=some i∧W.kitOne K t (.type "bool")=some c∧b=(i && !c):=by
 rcases h with ⟨i,rfl,rfl⟩ | ⟨h,rfl⟩
 · exact⟨_,true,false,.int i,by kernel_rfl,by kernel_rfl,rfl⟩
 · cases h with
   | non=>exact⟨_,false,false,.non,by kernel_rfl,by kernel_rfl,rfl⟩
   | bl b=>exact⟨_,true,true,.bl b,by kernel_rfl,by kernel_rfl,rfl⟩
   | str z=>exact⟨_,false,false,.str z,by kernel_rfl,by kernel_rfl,rfl⟩
   | lst e=>exact⟨_,false,false,.lst e,by kernel_rfl,by kernel_rfl,rfl⟩
   | tup e=>exact⟨_,false,false,.tup e,by kernel_rfl,by kernel_rfl,rfl⟩
inductive qCl (vs:List V)(H:Hp)(Q:VK)(_:XK):Prop
| mk (x:V) (b:Bool) (_:vs=[x]) (_:WhB H x b) (_:Q (.bl b) H)
theorem qt (T:Tx K mg a):FnOk P w K mg base CX0 1 a.A0 a.B0 ["x"] qCl:=by
 refine T.D0.F.ok wy (fun vs H Q E h=>?_) (fun cdv A outer s H vs Q E hr h=>?_)
 · obtain⟨x,b,rfl,_⟩:=h
   rfl
 refine qR fun _ Y=>?_
 obtain⟨x,b,rfl,hx,q⟩:=h
 apply Y
 refine⟨_,(qD (qN (xL (qQ qZ rfl T.b_isinstance rfl (qA (pv 0) (qA (zG rfl T.b_int rfl) qB))) (zL (qK9 (qQ qZ rfl T.b_isinstance rfl (qA (pv 0) (qA (zG rfl T.b_bool rfl) qB)))))))),?_⟩
 try dsimp only [jV,qg]
 refine qR fun _ Y=>?_
 obtain⟨t,i,c,ty,e1,e2,rfl⟩:=hx.ty (K:=K)
 apply Y
 refine⟨_,rfl,_,_,_,i,rfl,ty,⟨_,.inl ⟨rfl,e1⟩⟩,i,rfl,?_⟩
 cases i with
 | false=>exact qp q
 | true=>exact jS ⟨_,rfl,_,_,_,c,rfl,ty,⟨_,.inl ⟨rfl,e2⟩⟩,c,rfl,q⟩
inductive FrB (K:W.Frag)(H:Hp):V→Bool→Prop where
 | no {x:V} {t:Value} (ty:qBw K H x t) (e:W.kitOne K t (.type "tuple")=some false):FrB K H x false
 | len {z:Addr} {xs:List V} (e:H z=some (.tup xs)) (h:xs.length≠2):FrB K H (.ref z) false
 | one {z:Addr} {x y:V} (e:H z=some (.tup [x,y])) (h:NoW H x):FrB K H (.ref z) false
 | two {z:Addr} {i:Int} {y:V} (e:H z=some (.tup [.int i,y])) (h:NoW H y):FrB K H (.ref z) false
 | nums {z:Addr} {p q:Int} (e:H z=some (.tup [.int p,.int q])):FrB K H (.ref z) (decide (1≤q) && decide (Int.gcd p q=1))
inductive qBc (K:W.Frag)(vs:List V)(H:Hp)(Q:VK)(_:XK):Prop
| mk (x:V) (b:Bool) (_:vs=[x]) (_:FrB K H x b) (_:Q (.bl b) H)
theorem kK (T:Tx K mg a):FnOk P w K mg base CX0 2 a.A2 a.B2 ["x"] (qBc K):=by
 refine T.D2.F.ok qBk (fun vs H Q E h=>?_) (fun cdv A outer s H vs Q E hr h=>?_)
 · obtain⟨x,b,rfl,_⟩:=h
   rfl
 refine qR fun _ Y=>?_
 obtain⟨x,b,rfl,hx,k⟩:=h
 apply Y
 refine⟨_,(qC (qW (PW.pt (jW (qi (qc (qQ qZ rfl T.b_isinstance rfl (qA (pv 0) (qA (zG rfl T.b_tuple rfl) qB))))) (jH (qJ xn (qQ qY rfl T.b_len rfl (qA (pv 0) qB)) qE (qO _))))) (qD (qN jn)) qL)
  (qC (qW (PW.pt (jW (qi (qc (qI T.D0 (qt T) hr rfl (qA (qP (pv 0)) qB)))) (jH (qi (qc (qI T.D0 (qt T) hr rfl (qA (qP (pv 0)) qB))))))) (qD (qN jn)) qL)
  (qD (qN (xL (jK qA6 (qP (pv 0)) qE (qO _)) (zL (jK xY (qI T.D1 (xZ T) hr rfl (qA (qP (pv 0)) (qA (qP (pv 0)) qB))) qE (qO _)))))))),?_⟩
 try dsimp only [jV,qg]
 cases hx with
 | no ty e=>exact⟨_,rfl,_,_,_,false,rfl,ty,⟨_,.inl ⟨rfl,e⟩⟩,false,rfl,jS (jS k)⟩
 | @len z xs e h=>
  refine⟨_,rfl,_,_,_,true,rfl,.tup e,⟨_,.inl ⟨rfl,by kernel_rfl⟩⟩,true,rfl,qp ?_⟩
  refine⟨_,rfl,_,_,rfl,.inr (SqT.of e),rfl,_,rfl,?_⟩
  have d:(!decide (V.int (xs.length:Int)=V.int 2))=true:=by
   have:¬ (V.int (xs.length:Int)=V.int 2):=fun z=>h (by injection z with z;omega)
   simp [this]
  rw [d]
  exact jS k
 | @one z x y e h=>
  refine⟨_,rfl,_,_,_,true,rfl,.tup e,⟨_,.inl ⟨rfl,by kernel_rfl⟩⟩,true,rfl,qp ?_⟩
  refine⟨_,rfl,_,_,rfl,.inr (SqT.of e),rfl,_,rfl,qp ?_⟩
  exact(ixO e at0 ⟨x,false,rfl,.no h,false,rfl,jS (jS k)⟩)
 | @two z i y e h=>
  refine⟨_,rfl,_,_,_,true,rfl,.tup e,⟨_,.inl ⟨rfl,by kernel_rfl⟩⟩,true,rfl,qp ?_⟩
  refine⟨_,rfl,_,_,rfl,.inr (SqT.of e),rfl,_,rfl,qp ?_⟩
  refine(ixO e at0 ⟨_,true,rfl,.int i,true,rfl,qp ?_⟩)
  exact(ixO e at1 ⟨y,false,rfl,.no h,false,rfl,jS k⟩)
 | @nums z p q e=>
  refine⟨_,rfl,_,_,_,true,rfl,.tup e,⟨_,.inl ⟨rfl,by kernel_rfl⟩⟩,true,rfl,qp ?_⟩
  refine⟨_,rfl,_,_,rfl,.inr (SqT.of e),rfl,_,rfl,qp ?_⟩
  refine(ixO e at0 ⟨_,true,rfl,.int p,true,rfl,qp ?_⟩)
  refine(ixO e at1 ⟨_,true,rfl,.int q,true,rfl,qp ?_⟩)
  refine(ixO e at1 ⟨_,_,rfl,rfl,decide (1≤q),rfl,?_⟩)
  by_cases hq:1≤q
  · rw [decide_eq_true hq] at k ⊢
    refine jS (ixO e at0 (ixO e at1 ⟨p,q,rfl,rfl,?_⟩))
    have d:decide (V.int ((Int.gcd p q:Nat):Int)=V.int 1)=(true && decide (Int.gcd p q=1)):=by
     rw [Bool.true_and,Bool.eq_iff_iff,decide_eq_true_eq,decide_eq_true_eq]
     constructor
     · intro z;injection z with z;omega
     · intro z;rw [z];rfl
    rw [d]
    exact k
  · rw [decide_eq_false hq] at k ⊢
    exact qp k
inductive qEl (K:W.Frag)(vs:List V)(H:Hp)(Q:VK)(_:XK):Prop
| mk (x y:V) (p q r s:Int) (_:vs=[x,y]) (_:Pr K H x p q) (_:Pr K H y r s) (_:Sm p) (_:Sm q) (_:Sm r) (_:Sm s) (_:Q (.bl (decide (p*s < r*q))) H)
theorem qD5 (T:Tx K mg a):FnOk P w K mg base CX0 1 a.A8 a.B8 ["one","other"] (qEl K):=by
 refine T.D8.F.ok qEv (fun vs H Q E h=>?_) (fun cdv A outer s H vs Q E hr h=>?_)
 · obtain⟨x,y,p,q,r,s,rfl,_⟩:=h
   rfl
 refine qR fun _ Y=>?_
 obtain⟨x,y,p,q,r,s',rfl,⟨z1,rfl,h1⟩,⟨z2,rfl,h2⟩,bp,bq,br,bs,k⟩:=h
 apply Y
 refine⟨_,(qD (qN (jK kD (qK ql (qP (pv 0)) (qP (pv 1))) (qK ql (qP (pv 1)) (qP (pv 0))) (qO _)))),?_⟩
 try dsimp only [jV,qg]
 refine(kq rfl h1 at0 (kq rfl h2 at1 ⟨_,_,rfl,rfl,bp.mul bs,?_⟩))
 exact(kq rfl h2 at0 (kq rfl h1 at1 ⟨_,_,rfl,rfl,br.mul bq,_,_,rfl,rfl,k⟩))
structure Cp (K:W.Frag)(H:Hp)(v:V)(n:Str)(p q r s len:Int):Prop where
 ex:∃ z z1 z2,v= .ref z∧SqT K H z [.str "clip",.str n,.ref z1,.ref z2,.int len]∧SqT K H z1 [.int p,.int q]∧SqT K H z2 [.int r,.int s]
theorem Cp.same {H H':Hp}{v:V}{n:Str}{p q r s len:Int}(e:Same H H')(h:Cp K H v n p q r s len):Cp K H' v n p q r s len:=
 let ⟨z,z1,z2,h1,h2,h3,h4⟩:=h.ex;⟨z,z1,z2,h1,L3.Same.tup e h2,L3.Same.tup e h3,L3.Same.tup e h4⟩
theorem qKl {x0 x1 x2 x3 x4:V}:atI [x0,x1,x2,x3,x4] 2=some x2:=rfl
theorem qIz {x0 x1 x2 x3 x4:V}:atI [x0,x1,x2,x3,x4] 3=some x3:=rfl
theorem qKy {p q r s k:Int}(hq:0 < q)(hs:0 < s):
 ja (p*jN (k*r) (1*s)+ja (k*r) (1*s)*q) (q*jN (k*r) (1*s))=ja (p*s+k*r*q) (q*s)∧
 jN (p*jN (k*r) (1*s)+ja (k*r) (1*s)*q) (q*jN (k*r) (1*s))=jN (p*s+k*r*q) (q*s):=by
 rw [Int.one_mul]
 have c:=jz (k*r) s
 have n0:=jk (t:=k*r) (b:=s) (by omega)
 generalize ja (k*r) s=m at c ⊢
 generalize jN (k*r) s=n at c n0 ⊢
 have b1:q*s≠0:=Int.mul_ne_zero (by omega) (by omega)
 have b2:q*n≠0:=Int.mul_ne_zero (by omega) (by omega)
 refine qJf b2 (jk b1) (qF9 b1) ?_
 have e:=jz (p*s+k*r*q) (q*s)
 generalize ja (p*s+k*r*q) (q*s)=u at e ⊢
 generalize jN (p*s+k*r*q) (q*s)=v at e ⊢
 have h:(u*(q*n))*s=((p*n+m*q)*v)*s:=by
  calc (u*(q*n))*s=(u*(q*s))*n:=by rw [Int.mul_assoc,Int.mul_assoc,Int.mul_assoc,Int.mul_assoc,Int.mul_comm n s]
   _=((p*s+k*r*q)*v)*n:=by rw [e]
   _=(p*n*s+(k*r*n)*q)*v:=by
    have h1:(p*s+k*r*q)*v*n=(p*s+k*r*q)*n*v:=by rw [Int.mul_assoc,Int.mul_comm v n,← Int.mul_assoc]
    have h2:(p*s+k*r*q)*n=p*n*s+k*r*n*q:=by
     rw [Int.add_mul,Int.mul_assoc p s n,Int.mul_comm s n,← Int.mul_assoc,Int.mul_assoc (k*r) q n,Int.mul_comm q n,← Int.mul_assoc]
    rw [h1,h2]
   _=(p*n*s+(m*s)*q)*v:=by rw [← c]
   _=((p*n+m*q)*v)*s:=by
    have h3:p*n*s+m*s*q=(p*n+m*q)*s:=by rw [Int.add_mul,Int.mul_assoc m s q,Int.mul_comm s q,← Int.mul_assoc]
    rw [h3,Int.mul_assoc,Int.mul_comm s v,← Int.mul_assoc]
 exact Int.eq_of_mul_eq_mul_right (by omega) h
def Sm2 (i:Int):Prop:=i.natAbs < 2 ^ 700
theorem Sm2.sm {i:Int}(h:Sm2 i):Sm i:=Nat.lt_of_lt_of_le h (Nat.pow_le_pow_right (by decide) (by decide))
theorem jF {i j:Int}{n m:Nat}(h1:i.natAbs < 2 ^ n)(h2:j.natAbs < 2 ^ m):(i*j).natAbs < 2 ^ (n+m):=by
 rw [Int.natAbs_mul,Nat.pow_add]
 exact Nat.mul_lt_mul'' h1 h2
inductive qF0 (K:W.Frag)(vs:List V)(H:Hp)(Q:VK)(_:XK):Prop
| mk (v:V) (n:Str) (p q r s len k:Int) (_:vs=[v,.int k]) (_:Cp K H v n p q r s len) (_:0 < q) (_:0 < s) (_:Sm2 p) (_:Sm2 q) (_:Sm2 r) (_:Sm2 s) (_:Sm2 k) (_:∀ z H',Same H H'→H' z=some (.tup [.int (ja (p*s+k*r*q) (q*s)),.int (jN (p*s+k*r*q) (q*s))])→Q (.ref z) H')
theorem ke (T:Tx K mg a):FnOk P w K mg base CX0 4 a.A12 a.B12 ["clip","k"] (qF0 K):=by
 refine T.D12.F.ok qFi (fun vs H Q E h=>?_) (fun cdv A outer s H vs Q E hr h=>?_)
 · obtain⟨v,n,p,q,r,s,len,k,rfl,_⟩:=h
   rfl
 refine qR fun _ Y=>?_
 obtain⟨v,n,p,q,r,s',len,k,rfl,⟨z,z1,z2,rfl,hc,h1,h2⟩,hq,hs,bp,bq,br,bs,bk,kk⟩:=h
 apply Y
 refine⟨_,(qD (qN (qI T.D4 (qH5 T) hr rfl (qA (qP (pv 0)) (qA (qI T.D6 (qFn T) hr rfl (qA (qI T.D3 (jl T) hr rfl (qA (pv 1) (qA qE qB))) (qA (qP (pv 0)) qB))) qB))))),?_⟩
 try dsimp only [jV,qg]
 refine⟨_,rfl,z,_,_,_,rfl,rfl,hc,qKl,_,rfl,k,1,rfl,by decide,Nat.lt_of_lt_of_le (m:=2 ^ 1) (by decide) (Nat.pow_le_pow_right (by decide) (by decide)),fun y hy=>?_⟩
 have s1:=qH hy (.tup [.int (ja k 1),.int (jN k 1)])
 obtain⟨l1,l2⟩:=qGo (p:=k) (q:=1) (by decide) (Int.gcd_one_right ..)
 refine⟨_,rfl,z,_,_,_,rfl,rfl,L3.Same.tup s1 hc,qIz,?_⟩
 have one:Sm 1:=Nat.lt_of_lt_of_le (m:=2 ^ 1) (by decide) (Nat.pow_le_pow_right (by decide) (by decide))
 refine⟨_,_,k,1,r,s',rfl,⟨y,rfl,?_⟩,⟨z2,rfl,L3.Same.tup s1 h2⟩,by decide,by omega,bk.sm,one,br.sm,bs.sm,fun x hx=>?_⟩
 · have e:SqT K (upd H y (.tup [.int (ja k 1),.int (jN k 1)])) y [.int (ja k 1),.int (jN k 1)]:=SqT.of qF
   rw [l1,l2] at e ⊢
   exact e
 have s2:=s1.trans (qH hx (.tup [.int (ja (k*r) (1*s')),.int (jN (k*r) (1*s'))]))
 have b1:(1*s')≠0:=by omega
 have n0:=jk (t:=k*r) b1
 have bm:Sm (ja (k*r) (1*s')):=by
  refine Nat.lt_of_le_of_lt (wY b1) (Nat.lt_of_lt_of_le (jF bk br) (Nat.pow_le_pow_right (by decide) (by decide)))
 have bn:Sm (jN (k*r) (1*s')):=by
  refine Nat.lt_of_le_of_lt (zC b1) ?_
  rw [Int.one_mul]
  exact bs.sm
 refine⟨_,_,p,q,_,_,rfl,⟨z1,rfl,L3.Same.tup s2 h1⟩,⟨x,rfl,SqT.of qF⟩,by omega,by omega,bp.sm,bq.sm,bm,bn,fun u hu=>?_⟩
 obtain⟨e1,e2⟩:=qKy (p:=p) (r:=r) (k:=k) hq hs
 refine kk u _ (s2.trans (qH hu _)) ?_
 rw [qF,e1,e2]
theorem wx {t b:Int}(hb:0 < b):(ja t b).fdiv (jN t b)=t.fdiv b:=by
 have e1:=qKp t b
 have e2:=qIw t b
 have sp:0 < sg t b:=by
  have g:=vh (t:=t) (b:=b) (by omega)
  unfold sg
  rw [if_neg (by omega)]
  omega
 have q0:=jk (t:=t) (b:=b) (by omega)
 obtain⟨h1,h2⟩:=qX (p:=ja t b) q0
 obtain⟨h3,h4⟩:=qX (p:=t) hb
 generalize (ja t b).fdiv (jN t b)=f at h1 h2 ⊢
 generalize t.fdiv b=g at h3 h4 ⊢
 generalize ja t b=u at e1 h1 h2
 generalize jN t b=v at e2 h1 h2 q0
 generalize sg t b=w at e1 e2 sp
 subst e1 e2
 have k1:g*v≤u:=by
  rw [← Int.mul_assoc] at h3
  exact Int.le_of_mul_le_mul_right h3 sp
 have k2:u < (g+1)*v:=by
  rw [← Int.mul_assoc] at h4
  exact Int.lt_of_mul_lt_mul_right h4 (by omega)
 have k3:f < g+1:=Int.lt_of_mul_lt_mul_right (a:=v) (by omega) (by omega)
 have k4:g < f+1:=Int.lt_of_mul_lt_mul_right (a:=v) (by omega) (by omega)
 omega
inductive qCw (K:W.Frag)(vs:List V)(H:Hp)(Q:VK)(_:XK):Prop
| mk (v:V) (n:Str) (p q r s len k:Int) (_:vs=[v,.int k]) (_:Cp K H v n p q r s len) (_:0 < q) (_:0 < s) (_:Sm2 p) (_:Sm2 q) (_:Sm2 r) (_:Sm2 s) (_:Sm2 k) (_:∀ H',Same H H'→Q (.int ((p*s+k*r*q).fdiv (q*s))) H')
theorem vO (T:Tx K mg a):FnOk P w K mg base CX0 5 a.A13 a.B13 ["clip","k"] (qCw K):=by
 refine T.D13.F.ok qCj (fun vs H Q E h=>?_) (fun cdv A outer s H vs Q E hr h=>?_)
 · obtain⟨v,n,p,q,r,s,len,k,rfl,_⟩:=h
   rfl
 refine qR fun _ Y=>?_
 obtain⟨v,n,p,q,r,s',len,k,rfl,hc,hq,hs,bp,bq,br,bs,bk,kk⟩:=h
 apply Y
 refine⟨_,(qD (qN (qI T.D9 (x8 T) hr rfl (qA (qI T.D12 (ke T) hr rfl (qA (pv 0) (qA (pv 1) qB))) qB)))),?_⟩
 try dsimp only [jV,qg]
 refine⟨_,rfl,_,rfl,v,n,p,q,r,s',len,k,rfl,hc,hq,hs,bp,bq,br,bs,bk,fun z H' sH hz=>?_⟩
 have b1:q*s'≠0:=Int.mul_ne_zero (by omega) (by omega)
 refine⟨_,_,_,rfl,⟨z,rfl,SqT.of hz⟩,?_,?_,?_⟩
 · have:=jk (t:=p*s'+k*r*q) b1;omega
 · exact Nat.lt_of_le_of_lt (zC b1) (Nat.lt_of_lt_of_le (jF bq bs) (Nat.pow_le_pow_right (by decide) (by decide)))
 · rw [wx (Int.mul_pos hq hs)]
   exact kk H' sH
theorem qHq {x0 x1 x2 x3 x4:V}:atI [x0,x1,x2,x3,x4] 0=some x0:=rfl
theorem qCy {x0 x1 x2 x3 x4:V}:atI [x0,x1,x2,x3,x4] 1=some x1:=rfl
theorem qF5 {x0 x1 x2 x3 x4:V}:atI [x0,x1,x2,x3,x4] 4=some x4:=rfl
theorem eq2 (a b c d:Int):qIg [.int a,.int b] [.int c,.int d]=(a == c && b == d):=by
 simp [qIg,eqV,List.range_succ]
structure Bn (n:Nat)(p q r s:Int):Prop where
 q0:0 < q
 s0:0 < s
 bp:p.natAbs < 2 ^ n
 bq:q.natAbs < 2 ^ n
 br:r.natAbs < 2 ^ n
 bs:s.natAbs < 2 ^ n
theorem vF {i:Int}{n m:Nat}(h:i.natAbs < 2 ^ n)(l:n≤m:=by decide):i.natAbs < 2 ^ m:=Nat.lt_of_lt_of_le h (Nat.pow_le_pow_right (by decide) l)
theorem Bn.mono {n m:Nat}{p q r s:Int}(h:Bn n p q r s)(l:n≤m:=by decide):Bn m p q r s:=⟨h.q0,h.s0,vF h.bp l,vF h.bq l,vF h.br l,vF h.bs l⟩
theorem Bn.part {p q r s k:Int}(h:Bn 110 p q r s)(hk:k.natAbs < 2 ^ 30):Bn 340 (plP p q r s k) (plQ p q r s k) r s:=by
 obtain⟨hq,hs,bp,bq,br,bs⟩:=h
 refine⟨qLi hq hs,hs,Nat.lt_of_le_of_lt (qLl hq hs) ?_,Nat.lt_of_le_of_lt (qL4 hq hs) (vF (jF bq bs)),vF br,vF bs⟩
 have h1:=jF bp bs
 have h2:=jF (jF hk br) bq
 have e:(2:Nat) ^ (110+110)+2 ^ (30+110+110)≤2 ^ 340:=by decide
 omega
theorem qJ3 {i:Int}{n:Nat}(h:i.natAbs < 2 ^ n)(l:n≤8000:=by decide):i.natAbs < 2 ^ 8000:=vF h l
inductive qAh (K:W.Frag)(vs:List V)(H:Hp)(Q:VK)(_:XK):Prop
| mk (z:Addr) (ns:List Int) (i:Int) (_:vs=[.ref z,.int i]) (_:SqL K H z (ns.map V.int)) (_:ns.length≤63) (_:0≤i) (_:∀ c:Int,Q (.int c) H)
theorem qx (T:Tx K mg a):FnOk P w K mg base CX0 1 a.A84 a.B84 ["_law_script","_law_k"] (qAh K):=by
 refine T.D84.F.ok qA2 (fun vs H Q E h=>?_) (fun cdv A outer s H vs Q E hr h=>?_)
 · obtain⟨z,ns,i,rfl,_⟩:=h
   rfl
 refine qR fun _ Y=>?_
 obtain⟨z,ns,i,rfl,hS,hl,h0,k⟩:=h
 apply Y
 refine⟨_,(qC (qW (qJ kD (pv 1) (qQ qY rfl T.b_len rfl (qA (pv 0) qB)) (qO _)) (qD (qN (jM jE (pv 0) (pv 1) (fun _ _=>rfl)))) qL)
  (qD (qN qE))),?_⟩
 try dsimp only [jV,qg]
 have hml:(ns.map V.int).length=ns.length:=List.length_map _
 refine⟨_,rfl,_,rfl,z,_,rfl,.inl hS,_,_,rfl,rfl,_,rfl,?_⟩
 refine jx (fun c=>?_) (fun _=>?_)
 · have c':i < ((ns.map V.int).length:Int):=of_decide_eq_true c
   rw [hml] at c'
   have hi:i.toNat < ns.length:=by omega
   have e:i=((i.toNat:Nat):Int):=by omega
   have hat:atI (ns.map V.int) ((i.toNat:Nat):Int)=some (.int ns[i.toNat]):=jc (by rw [List.getElem?_map,List.getElem?_eq_getElem hi];rfl)
   rw [← e] at hat
   exact⟨_,rfl,_,rfl,z,_,_,.int ns[i.toNat],rfl,rfl,hS,hat,k _⟩
 · exact k 0
def thB (i m:Int):Bool:=decide (0≤i) && decide (i < m)
theorem qGd {N D m:Int}(hD:0 < D):thB (N.fdiv D) m=true↔InR N D m:=by
 rw [vX hD]
 simp [thB]
inductive qFe (vs:List V)(H:Hp)(Q:VK)(_:XK):Prop
| mk (i m:Int) (_:vs=[.int i,.int m]) (_:Q (.bl (thB i m)) H)
theorem kj (T:Tx K mg a):FnOk P w K mg base CX0 1 a.A14 a.B14 ["picture","many"] qFe:=by
 refine T.D14.F.ok qFs (fun vs H Q E h=>?_) (fun cdv A outer s H vs Q E hr h=>?_)
 · obtain⟨i,m,rfl,_⟩:=h
   rfl
 refine qR fun _ Y=>?_
 obtain⟨i,m,rfl,q⟩:=h
 apply Y
 refine⟨_,(qD (qN (xL (jK qEs qE (pv 0) (qO _)) (zL (jK kD (pv 0) (pv 1) (qO _)))))),?_⟩
 try dsimp only [jV,qg]
 refine⟨_,rfl,_,_,rfl,rfl,_,rfl,?_⟩
 unfold thB at q
 by_cases h0:0≤i
 · rw [decide_eq_true h0] at q ⊢
   exact jS ⟨_,rfl,_,rfl,_,_,rfl,rfl,q⟩
 · rw [decide_eq_false h0] at q ⊢
   exact qp q
def qN9 (c:Nat):Bool:=!(Builtin.Str.occurrences "abcdefghijklmnopqrstuvwxyz" ⟨#[c]⟩ 0 ("abcdefghijklmnopqrstuvwxyz":Str).length 1).isEmpty
def wS (z:Str):Bool:=decide (1≤z.length∧z.length≤8) && z.cps.toList.all qN9
theorem qCo {c d:Int}(hd:0 < d)(g:Int.gcd c d=1):ja (0*d - c*1) (1*d)= -c∧jN (0*d - c*1) (1*d)=d:=by
 refine qJf (by omega) hd (by rw [Int.neg_gcd];exact g) ?_
 grind
inductive wR (K:W.Frag)(vs:List V)(H:Hp)(Q:VK)(_:XK):Prop
| mk (x y:V) (A B c d m:Int) (_:vs=[x,y,.int m]) (_:Pr K H x A B) (_:Pr K H y c d) (_:0 < B) (_:0 < d) (_:Int.gcd c d=1) (_:A.natAbs < 2 ^ 700) (_:B.natAbs < 2 ^ 700) (_:c.natAbs < 2 ^ 700) (_:d.natAbs < 2 ^ 700) (_:m.natAbs < 2 ^ 700) (_:∀ H',Same H H'→Q (.int (xF (A*d) (c*B) (B*d) m)) H')
theorem zK (T:Tx K mg a):FnOk P w K mg base CX0 4 a.A18 a.B18 ["first","step","many"] (wR K):=by
 refine T.D18.F.ok jv (fun vs H Q E h=>?_) (fun cdv A outer s H vs Q E hr h=>?_)
 · obtain⟨x,y,A,B,c,d,m,rfl,_⟩:=h
   rfl
 refine qR fun _ Y=>?_
 obtain⟨x,y,A',B,c,d,m,rfl,⟨z1,rfl,h1⟩,⟨z2,rfl,h2⟩,hB,hd,hg,bA,bB,bc,bd,bm,kk⟩:=h
 apply Y
 have hu:=hr.units0
 refine⟨_,(qC (qW (qJ (qNr hu) (pv 1) (ju (v:=.ref a.n_NOUGHT) rfl T.g_NOUGHT rfl) (qO _)) (qD (qN (ju (v:=.int 1000000) rfl T.g_MOST_ROOM ⟨_,rfl⟩))) qL)
  (qC (qW (qi (qc (qI T.D14 (kj T) hr rfl (qA (qI T.D9 (x8 T) hr rfl (qA (pv 0) qB)) (qA (pv 2) qB))))) (qD (qN qE)) qL)
  (qC (xE (qW (qc (qI T.D8 (qD5 T) hr rfl (qA (pv 1) (qA (ju (v:=.ref a.n_NOUGHT) rfl T.g_NOUGHT rfl) qB)))) (qD (qd 3 jv.nd (qK qh (qI T.D9 (x8 T) hr rfl (qA (qI T.D7 (qAf T) hr rfl (qA (pv 0) (qA (qI T.D5 (wA T) hr rfl (qA (ju (v:=.ref a.n_NOUGHT) rfl T.g_NOUGHT rfl) (qA (pv 1) qB))) qB))) qB)) qE))) (qD (qd 3 jv.nd (we zp (qI T.D9 (x8 T) hr rfl (qA (qI T.D7 (qAf T) hr rfl (qA (qI T.D5 (wA T) hr rfl (qA (pv 0) (qA (qI T.D3 (jl T) hr rfl (qA (pv 2) (qA qE qB))) qB))) (qA (pv 1) qB))) qB)))))))
  (qD (qN (qQ (xk rfl) rfl T.b_min rfl (qA (pv 3) (qA (ju (v:=.int 1000000) rfl T.g_MOST_ROOM ⟨_,rfl⟩) qB)))))))),?_⟩
 try dsimp only [jV,qg]
 have S:∀ {i:Int},i.natAbs < 2 ^ 700→Sm i:=fun h=>vF h
 have one:Sm 1:=Sm.of200 (by decide)
 have nul:Sm 0:=Sm.of200 (by decide)
 have hBd:=Int.mul_pos hB hd
 have H1:∀ {H':Hp},Same H H'→SqT K H' z1 [.int A',.int B]:=fun e=>L3.Same.tup e h1
 have H2:∀ {H':Hp},Same H H'→SqT K H' z2 [.int c,.int d]:=fun e=>L3.Same.tup e h2
 refine⟨_,rfl,_,_,_,_,rfl,rfl,h2,T.sq_NOUGHT _,rfl,rfl,_,rfl,?_⟩
 rw [if_neg (by decide:¬ (false=true)),eq2]
 by_cases hc:c=0
 · have d1:d=1:=by
    subst hc
    rw [Int.gcd_zero_left] at hg
    omega
   rw [show (c == 0 && d == 1)=true by simp [hc,d1]]
   refine jS ?_
   have:=kk H (Same.refl _)
   unfold xF at this
   rw [if_pos (by rw [hc,Int.zero_mul])] at this
   exact this
 rw [show (c == 0 && d == 1)=false by simp [hc]]
 refine qp ?_
 have hcB:¬ (c*B=0):=Int.mul_ne_zero hc (by omega)
 have ef:A'.fdiv B=(A'*d).fdiv (B*d):=vp hB hBd (by grind)
 refine⟨_,rfl,_,A',B,rfl,⟨z1,rfl,h1⟩,by omega,qJ3 bB,_,rfl,_,_,rfl,_,rfl,?_⟩
 by_cases ht:0≤A'.fdiv B∧A'.fdiv B < m
 rotate_left
 · rw [show thB (A'.fdiv B) m=false by unfold thB;rw [Bool.eq_false_iff];simpa using ht]
   refine jS ?_
   have:=kk H (Same.refl _)
   unfold xF at this
   rw [if_neg hcB,if_pos (by rw [← ef];exact ht)] at this
   exact this
 rw [show thB (A'.fdiv B) m=true by simp [thB,ht]]
 refine qp ?_
 have res:∀ H',Same H H'→Q (.int (if 1000000 < (if c*B < 0 then (A'*d).fdiv (-(c*B))+1 else -((A'*d - m*(B*d)).fdiv (c*B))) then 1000000 else (if c*B < 0 then (A'*d).fdiv (-(c*B))+1 else -((A'*d - m*(B*d)).fdiv (c*B))))) H':=fun H' e=>by
  have:=kk H' e
  unfold xF at this
  rw [if_neg hcB,if_neg (by rw [← ef];simpa using ht)] at this
  exact this
 generalize hgg:(if c*B < 0 then (A'*d).fdiv (-(c*B))+1 else -((A'*d - m*(B*d)).fdiv (c*B)))=g at res
 refine⟨fun σ' H'=>σ'=[some (.ref z1),some (.ref z2),some (.int m),some (.int g)]∧Same H H',?_,?_⟩
 · refine⟨_,rfl,_,_,c,d,0,1,rfl,⟨z2,rfl,h2⟩,⟨_,rfl,T.sq_NOUGHT _⟩,S bc,S bd,nul,one,_,rfl,?_⟩
   by_cases hn:c*1 < 0*d
   · rw [decide_eq_true hn]
     refine jS ?_
     have c0:c < 0:=by omega
     refine⟨_,rfl,_,rfl,_,_,0,1,c,d,rfl,⟨_,rfl,T.sq_NOUGHT _⟩,⟨z2,rfl,h2⟩,by decide,by omega,nul,one,S bc,S bd,fun u hu'=>?_⟩
     rw [(qCo hd hg).1,(qCo hd hg).2]
     have w1:=qH hu' (.tup [.int (-c),.int d])
     have bnc:(-c).natAbs < 2 ^ 700:=by rw [Int.natAbs_neg];exact bc
     have hpos:0 < B*(-c):=Int.mul_pos hB (by omega)
     refine⟨_,_,A',B,-c,d,rfl,⟨z1,rfl,H1 w1⟩,⟨u,rfl,SqT.of qF⟩,by omega,by omega,S bA,S bB,S bnc,S bd,fun v hv=>?_⟩
     have w2:=w1.trans (qH hv (.tup [.int (ja (A'*d) (B*(-c))),.int (jN (A'*d) (B*(-c)))]))
     have lq:=jk (t:=A'*d) (b:=B*(-c)) (by omega)
     refine⟨_,_,_,rfl,⟨v,rfl,SqT.of qF⟩,by omega,Nat.lt_of_le_of_lt (zC (by omega)) (qJ3 (jF bB bnc)),?_⟩
     rw [wx hpos]
     refine⟨_,_,rfl,rfl,?_,w2⟩
     have e:g=(A'*d).fdiv (B* -c)+1:=by
      rw [← hgg,if_pos (by have:=Int.mul_neg_of_neg_of_pos c0 hB;exact this)]
      rw [show -(c*B)=B* -c by grind]
     rw [e]
     rfl
   · rw [decide_eq_false hn]
     refine qp ?_
     have c0:0 < c:=by omega
     obtain⟨l1,l2⟩:=qGo (p:=m) (q:=1) (by decide) (Int.gcd_one_right ..)
     refine⟨_,rfl,_,rfl,m,1,rfl,by decide,qJ3 (n:=1) (by decide),fun u hu'=>?_⟩
     rw [l1,l2]
     have w1:=qH hu' (.tup [.int m,.int 1])
     refine⟨_,_,A',B,m,1,rfl,⟨z1,rfl,H1 w1⟩,⟨u,rfl,SqT.of qF⟩,by omega,by decide,S bA,S bB,S bm,one,fun v hv=>?_⟩
     have hb1:B*1≠0:=by omega
     have cr:=jz (A'*1 - m*B) (B*1)
     have lq:=jk (t:=A'*1 - m*B) hb1
     have aP:=wY (t:=A'*1 - m*B) hb1
     have aQ:=zC (t:=A'*1 - m*B) hb1
     have w2:=w1.trans (qH hv (.tup [.int (ja (A'*1 - m*B) (B*1)),.int (jN (A'*1 - m*B) (B*1))]))
     have ev:=qF (H:=upd H u (.tup [.int m,.int 1])) (a:=v) (o:=.tup [.int (ja (A'*1 - m*B) (B*1)),.int (jN (A'*1 - m*B) (B*1))])
     generalize upd (upd H u (.tup [.int m,.int 1])) v (.tup [.int (ja (A'*1 - m*B) (B*1)),.int (jN (A'*1 - m*B) (B*1))])=H3 at w2 ev ⊢
     generalize ja (A'*1 - m*B) (B*1)=P' at cr aP ev ⊢
     generalize jN (A'*1 - m*B) (B*1)=Q' at cr aQ lq ev ⊢
     have sP:Sm P':=by
      have t:=jF bm bB
      have:(A'*1 - m*B).natAbs < 2 ^ 1500:=by
       have e:(2:Nat) ^ 700+2 ^ (700+700)≤2 ^ 1500:=by decide
       rw [Int.mul_one]
       exact Nat.lt_of_lt_of_le (Nat.lt_of_le_of_lt (Int.natAbs_sub_le _ _) (Nat.add_lt_add bA t)) e
      exact Nat.lt_of_le_of_lt aP (vF this)
     have bQ:Q'.natAbs < 2 ^ 700:=by rw [Int.mul_one] at aQ;omega
     refine⟨_,rfl,_,_,P',Q',c,d,rfl,⟨v,rfl,SqT.of ev⟩,⟨z2,rfl,H2 w2⟩,by omega,hc,sP,S bQ,S bc,S bd,fun x hx=>?_⟩
     have hpos:0 < Q'*c:=Int.mul_pos lq c0
     have w3:=w2.trans (qH hx (.tup [.int (ja (P'*d) (Q'*c)),.int (jN (P'*d) (Q'*c))]))
     have lq2:=jk (t:=P'*d) (b:=Q'*c) (by omega)
     refine⟨_,_,_,rfl,⟨x,rfl,SqT.of qF⟩,by omega,Nat.lt_of_le_of_lt (zC (by omega)) (qJ3 (jF bQ bc)),?_⟩
     rw [wx hpos]
     refine⟨_,rfl,?_,w3⟩
     have e:g= -(P'*d).fdiv (Q'*c):=by
      have hcB':=Int.mul_pos c0 hB
      rw [← hgg,if_neg (by omega)]
      rw [vp hcB' hpos (by grind:(A'*d - m*(B*d))*(Q'*c)=P'*d*(c*B))]
     rw [e]
     rfl
 rintro σ' H' ⟨rfl,sH⟩
 exact⟨_,rfl,_,_,rfl,res H' sH⟩
theorem qFd {H H':Hp}(e:Same H H'){a:Addr}{u:HO}(h:Rd H a u):Rd H' a u:=by
 rcases h with h | ⟨o,h⟩
 · exact .inl (e _ _ h)
 · exact .inr ⟨o,e _ _ h⟩
def Reel (H:Hp)(rd:Addr)(n:Str)(m:Int):Prop:=∃ kvs,Rd H rd (.dK kvs)∧qGi kvs (Sum.inr n)=some (.int m)
theorem Reel.same {H H':Hp}{rd:Addr}{n:Str}{m:Int}(e:Same H H')(h:Reel H rd n m):Reel H' rd n m:=let ⟨k,h1,h2⟩:=h;⟨k,qFd e h1,h2⟩
theorem Reel.get {H:Hp}{rd:Addr}{n:Str}{m:Int}(h:Reel H rd n m):DGet H rd (.str n) (some (.int m)):=let ⟨k,h1,h2⟩:=h;.inl ⟨k,Sum.inr n,h1,rfl,h2.symm⟩
def Vk (p q r s k:Int):Int:=p*s+k*r*q
structure Ch (H:Hp)(z:Addr)(n:Str)(p q r s len:Int):Prop where
 ex:∃ z1 z2,H z=some (.tup [.str "clip",.str n,.ref z1,.ref z2,.int len])∧H z1=some (.tup [.int p,.int q])∧H z2=some (.tup [.int r,.int s])
theorem Ch.same {H H':Hp}{z:Addr}{n:Str}{p q r s len:Int}(e:Same H H')(h:Ch H z n p q r s len):Ch H' z n p q r s len:=let ⟨z1,z2,h1,h2,h3⟩:=h.ex;⟨z1,z2,e _ _ h1,e _ _ h2,e _ _ h3⟩
theorem Ch.cp {H:Hp}{z:Addr}{n:Str}{p q r s len:Int}(h:Ch H z n p q r s len):Cp K H (.ref z) n p q r s len:=let ⟨z1,z2,h1,h2,h3⟩:=h.ex;⟨z,z1,z2,rfl,SqT.of h1,SqT.of h2,SqT.of h3⟩
theorem qC0 {p q r s k0 e m:Int}(hq:0 < q)(hs:0 < s)(he:e=1∨e= -1)(h0:r=0→InR (Vk p q r s 0) (q*s) m):
 let g:=xF (plP p q r s k0*s) (e*r*plQ p q r s k0) (plQ p q r s k0*s) m
 0≤g∧g≤1000000∧(∀ j,0≤j→j < g→InR (Vk p q r s (k0+e*j)) (q*s) m)∧(g < 1000000→¬ InR (Vk p q r s (k0+e*g)) (q*s) m)∧(r=0→g=1000000):=by
 intro g
 have c:=qKb p q r s k0
 have hb:=qLi (p:=p) (r:=r) (k:=k0) hq hs
 have hbs:=Int.mul_pos hb hs
 have hqs:=Int.mul_pos hq hs
 have cross:∀ j:Int,InR (plP p q r s k0*s+j*(e*r*plQ p q r s k0)) (plQ p q r s k0*s) m↔InR (Vk p q r s (k0+e*j)) (q*s) m:=fun j=>by
  refine qD8 hbs hqs ?_
  unfold Vk
  generalize plP p q r s k0=u at c ⊢
  generalize plQ p q r s k0=v at c ⊢
  grind
 have key:=qLs (N:=plP p q r s k0*s) (R:=e*r*plQ p q r s k0) (D:=plQ p q r s k0*s) (m:=m) hbs (fun z=>by
  have r0:r=0:=by
   rcases Int.mul_eq_zero.mp z with z | z
   · rcases Int.mul_eq_zero.mp z with z | z
     · omega
     · exact z
   · omega
  have:=h0 r0
  have e0:=(cross 0).mpr (by
   have e:Vk p q r s (k0+e*0)=Vk p q r s 0:=by unfold Vk;rw [r0];grind
   rw [e];exact this)
  rw [Int.zero_mul,Int.add_zero] at e0
  exact e0)
 obtain⟨k1,k2,k3,k4,k5⟩:=key
 refine⟨k1,k2,fun j a b=>(cross j).mp (k3 j a b),fun z w=>k4 z ((cross _).mpr w),fun z=>k5 ?_⟩
 rw [z]
 grind
inductive qDx (K:W.Frag)(vs:List V)(H:Hp)(Q:VK)(_:XK):Prop
| mk (v:V) (n:Str) (p q r s len m:Int) (rd:Addr) (_:vs=[v,.ref rd]) (_:Cp K H v n p q r s len) (_:qJj 110 p q) (_:qJj 110 r s) (_:Reel H rd n m) (_:m.natAbs < 2 ^ 700) (_:∀ H',Same H H'→Q (.int (xF (plP p q r s (-1)*s) (-1*r*plQ p q r s (-1)) (plQ p q r s (-1)*s) m)) H')
theorem qEk (T:Tx K mg a):FnOk P w K mg base CX0 5 a.A19 a.B19 ["clip","reels"] (qDx K):=by
 refine T.D19.F.ok qD6 (fun vs H Q E h=>?_) (fun cdv A outer s H vs Q E hr h=>?_)
 · obtain⟨v,n,p,q,r,s,len,m,rd,rfl,_⟩:=h
   rfl
 refine qR fun _ Y=>?_
 obtain⟨v,n,p,q,r,s',len,m,rd,rfl,hc,g1,g2,hrd,bm,kk⟩:=h
 apply Y
 have hu1:=wu hr
 refine⟨_,(qD (qN (qI T.D18 (zK T) hr rfl (qA (qI T.D12 (ke T) hr rfl (qA (pv 0) (qA (we zp qE) qB))) (qA (qI T.D5 (wA T) hr rfl (qA (ju (v:=.ref a.n_NOUGHT) rfl T.g_NOUGHT rfl) (qA (qP (pv 0)) qB))) (qA (kN hu1 (pv 1) (qP (pv 0)) (fun _ _=>rfl)) qB)))))),?_⟩
 try dsimp only [jV,qg]
 have hb:Bn 110 p q r s':=⟨g1.1,g2.1,g1.2.2.1,g1.2.2.2,g2.2.2.1,g2.2.2.2⟩
 have hb7:=hb.mono (m:=700)
 have hp:=(hb.part (k:=-1) (by decide)).mono (m:=700)
 refine⟨_,rfl,_,rfl,v,n,p,q,r,s',len,-1,rfl,hc,hb7.q0,hb7.s0,hb7.bp,hb7.bq,hb7.br,hb7.bs,vF (n:=30) (by decide),fun y H1 s1 e1=>?_⟩
 refine qR fun _ Y=>?_
 obtain⟨z,z1,z2,e,h0,h1,h2⟩:=(hc.same s1).ex
 subst e
 apply Y
 have S:∀ {i:Int},i.natAbs < 2 ^ 700→Sm i:=fun h=>vF h
 refine(kq rfl h0 qIz ?_)
 refine⟨_,_,0,1,r,s',rfl,⟨_,rfl,T.sq_NOUGHT _⟩,⟨z2,rfl,h2⟩,by decide,by have:=hb.s0;omega,Sm.of200 (by decide),Sm.of200 (by decide),S hb7.br,S hb7.bs,fun u hu'=>?_⟩
 rw [(qCo hb.s0 g2.2.1).1,(qCo hb.s0 g2.2.1).2]
 have w1:=qH hu' (.tup [.int (-r),.int s'])
 refine⟨_,rfl,_,rfl,z,_,_,_,rfl,rfl,L3.Same.tup w1 h0,qCy,rd,_,rfl,(hrd.same (s1.trans w1)).get,?_⟩
 refine⟨_,_,_,_,-r,s',m,rfl,⟨y,rfl,SqT.of (w1 _ _ e1)⟩,⟨u,rfl,SqT.of qF⟩,hp.q0,hb.s0,by rw [Int.neg_gcd];exact g2.2.1,hp.bp,hp.bq,by rw [Int.natAbs_neg];exact hb7.br,hb7.bs,bm,fun H' sH=>?_⟩
 have:=kk H' (s1.trans (w1.trans sH))
 rw [show -1*r*plQ p q r s' (-1)= -r*plQ p q r s' (-1) by grind] at this
 exact this
inductive qEf (K:W.Frag)(vs:List V)(H:Hp)(Q:VK)(_:XK):Prop
| mk (v:V) (n:Str) (p q r s len m:Int) (rd:Addr) (_:vs=[v,.ref rd]) (_:Cp K H v n p q r s len) (_:qJj 110 p q) (_:qJj 110 r s) (_:len.natAbs < 2 ^ 30) (_:Reel H rd n m) (_:m.natAbs < 2 ^ 700) (_:∀ H',Same H H'→Q (.int (xF (plP p q r s len*s) (1*r*plQ p q r s len) (plQ p q r s len*s) m)) H')
theorem qE0 (T:Tx K mg a):FnOk P w K mg base CX0 5 a.A20 a.B20 ["clip","reels"] (qEf K):=by
 refine T.D20.F.ok qDv (fun vs H Q E h=>?_) (fun cdv A outer s H vs Q E hr h=>?_)
 · obtain⟨v,n,p,q,r,s,len,m,rd,rfl,_⟩:=h
   rfl
 refine qR fun _ Y=>?_
 obtain⟨v,n,p,q,r,s',len,m,rd,rfl,hc,g1,g2,bl,hrd,bm,kk⟩:=h
 apply Y
 have hu1:=wu hr
 refine⟨_,(qD (qN (qI T.D18 (zK T) hr rfl (qA (qI T.D12 (ke T) hr rfl (qA (pv 0) (qA (qP (pv 0)) qB))) (qA (qP (pv 0)) (qA (kN hu1 (pv 1) (qP (pv 0)) (fun _ _=>rfl)) qB)))))),?_⟩
 try dsimp only [jV,qg]
 have hb:Bn 110 p q r s':=⟨g1.1,g2.1,g1.2.2.1,g1.2.2.2,g2.2.2.1,g2.2.2.2⟩
 have hb7:=hb.mono (m:=700)
 have hp:=(hb.part (k:=len) bl).mono (m:=700)
 have hc0:=hc
 refine qR fun _ Y=>?_
 obtain⟨z,z1,z2,e,h0,h1,h2⟩:=hc0.ex
 subst e
 apply Y
 refine⟨_,rfl,kq rfl h0 qF5 ⟨_,n,p,q,r,s',len,len,rfl,hc,hb7.q0,hb7.s0,hb7.bp,hb7.bq,hb7.br,hb7.bs,vF bl,fun y H1 s1 e1=>?_⟩⟩
 refine⟨_,rfl,z,_,_,_,rfl,rfl,L3.Same.tup s1 h0,qIz,?_⟩
 refine⟨_,rfl,_,rfl,z,_,_,_,rfl,rfl,L3.Same.tup s1 h0,qCy,rd,_,rfl,(hrd.same s1).get,?_⟩
 refine⟨_,_,_,_,r,s',m,rfl,⟨y,rfl,SqT.of e1⟩,⟨z2,rfl,L3.Same.tup s1 h2⟩,hp.q0,hb.s0,g2.2.1,hp.bp,hp.bq,hb7.br,hb7.bs,bm,fun H' sH=>?_⟩
 have:=kk H' (s1.trans sH)
 rw [Int.one_mul] at this
 exact this
inductive Im where
 | clip (n:Str) (p q r s l:Int)
 | nest (n:Str) (b l:Int)
 | gap (l:Int)
 | mix (l:Int)
def Im.d:Im→D
 | .clip n p q r s l=>.tup [.leaf (.str "clip"),.leaf (.str n),.tup [.leaf (.int p),.leaf (.int q)],.tup [.leaf (.int r),.leaf (.int s)],.leaf (.int l)]
 | .nest n b l=>.tup [.leaf (.str "nest"),.leaf (.str n),.leaf (.int b),.leaf (.int l)]
 | .gap l=>.tup [.leaf (.str "gap"),.leaf (.int l)]
 | .mix l=>.tup [.leaf (.str "mix"),.leaf (.int l)]
def Im.wd:Im→Str
 | .clip .. =>"clip"
 | .nest .. =>"nest"
 | .gap _=>"gap"
 | .mix _=>"mix"
def Im.l:Im→Int
 | .clip _ _ _ _ _ l=>l
 | .nest _ _ l=>l
 | .gap l=>l
 | .mix l=>l
def TS (H H':Hp):Prop:=∀ b xs,H b=some (.tup xs)→H' b=some (.tup xs)
theorem TS.trans {H H1 H2:Hp}(a:TS H H1)(b:TS H1 H2):TS H H2:=fun c o h=>b c o (a c o h)
theorem qr {H H':Hp}(e:Same H H'):TS H H':=fun _ _ h=>e _ _ h
theorem qAg {H:Hp}{l:Addr}{xs:List V}{o:HO}(h:H l=some (.lst xs)):TS H (upd H l o):=fun b ys hb=>by
 rw [qU (qHx hb h (by intro z;cases z))];exact hb
theorem j9 {H H':Hp}{y:Addr}{o:HO}(e:Same H H')(h:H y=none):Same H (upd H' y o):=fun b u hb=>by
 rw [qU (qS hb h)];exact e b u hb
def IsI (H:Hp):Im→V→Prop
 | .clip n p q r s l,v=>∃ z x y:Addr,v= .ref z∧H z=some (.tup [.str "clip",.str n,.ref x,.ref y,.int l])∧H x=some (.tup [.int p,.int q])∧H y=some (.tup [.int r,.int s])
 | .nest n b l,v=>∃ z:Addr,v= .ref z∧H z=some (.tup [.str "nest",.str n,.int b,.int l])
 | .gap l,v=>∃ z:Addr,v= .ref z∧H z=some (.tup [.str "gap",.int l])
 | .mix l,v=>∃ z:Addr,v= .ref z∧H z=some (.tup [.str "mix",.int l])
theorem isG {H:Hp}{z:Addr}{l:Int}(h:H z=some (.tup [.str "gap",.int l])):IsI H (.gap l) (.ref z):=⟨z,rfl,h⟩
theorem isM {H:Hp}{z:Addr}{l:Int}(h:H z=some (.tup [.str "mix",.int l])):IsI H (.mix l) (.ref z):=⟨z,rfl,h⟩
theorem isC {H:Hp}{z x y:Addr}{n:Str}{p q r s l:Int}(h:H z=some (.tup [.str "clip",.str n,.ref x,.ref y,.int l]))(hx:H x=some (.tup [.int p,.int q]))(hy:H y=some (.tup [.int r,.int s])):IsI H (.clip n p q r s l) (.ref z):=⟨z,x,y,rfl,h,hx,hy⟩
theorem IsI.ts {H H':Hp}(e:TS H H'):∀ {m:Im} {v:V},IsI H m v→IsI H' m v
 | .clip ..,_,⟨z,x,y,h,hz,hx,hy⟩=>⟨z,x,y,h,e _ _ hz,e _ _ hx,e _ _ hy⟩
 | .nest ..,_,⟨z,h,hz⟩=>⟨z,h,e _ _ hz⟩
 | .gap _,_,⟨z,h,hz⟩=>⟨z,h,e _ _ hz⟩
 | .mix _,_,⟨z,h,hz⟩=>⟨z,h,e _ _ hz⟩
theorem IsI.opn {H:Hp}{m:Im}{v:V}(h:IsI H m v):∃ (z:Addr) (xs:List V),v= .ref z∧H z=some (.tup xs)∧atI xs 0=some (.str m.wd)∧atI xs (-1)=some (.int m.l):=by
 cases m with
 | clip n p q r s l=>obtain⟨z,x,y,h,hz,_⟩:=h;exact⟨z,_,h,hz,rfl,rfl⟩
 | nest n b l=>obtain⟨z,h,hz⟩:=h;exact⟨z,_,h,hz,rfl,rfl⟩
 | gap l=>obtain⟨z,h,hz⟩:=h;exact⟨z,_,h,hz,rfl,rfl⟩
 | mix l=>obtain⟨z,h,hz⟩:=h;exact⟨z,_,h,hz,rfl,rfl⟩
theorem qG5 {H:Hp}:∀ {xs:List V},xs.all zA=true→Reps K H (xs.map D.leaf) xs
 | [],_=>by simp [Reps]
 | x::xs,h=>by
  rw [List.all_cons,Bool.and_eq_true] at h
  rw [List.map_cons];unfold Reps Rep
  exact⟨⟨rfl,h.1⟩,qG5 h.2⟩
theorem kx {H:Hp}{z:Addr}{xs:List V}(hz:H z=some (.tup xs))(h:xs.all zA=true):Rep K H (.tup (xs.map D.leaf)) (.ref z):=by
 unfold Rep
 exact⟨z,xs,rfl,SqT.of hz,qG5 h⟩
theorem IsI.rep {H:Hp}:∀ {m:Im} {v:V},IsI H m v→Rep K H m.d v
 | .clip n p q r s l,_,⟨z,x,y,h,hz,hx,hy⟩=>by
  subst h
  have h1:Rep K H (.tup [.leaf (.int p),.leaf (.int q)]) (.ref x):=kx hx rfl
  have h2:Rep K H (.tup [.leaf (.int r),.leaf (.int s)]) (.ref y):=kx hy rfl
  unfold Im.d Rep
  refine⟨z,_,rfl,SqT.of hz,?_⟩
  unfold Reps Reps Reps Reps Reps Reps
  refine⟨?_,?_,h1,h2,?_,trivial⟩
  · unfold Rep;exact⟨rfl,rfl⟩
  · unfold Rep;exact⟨rfl,rfl⟩
  · unfold Rep;exact⟨rfl,rfl⟩
 | .nest n b l,_,⟨z,h,hz⟩=>by subst h;exact kx hz rfl
 | .gap l,_,⟨z,h,hz⟩=>by subst h;exact kx hz rfl
 | .mix l,_,⟨z,h,hz⟩=>by subst h;exact kx hz rfl
theorem qJ0 (m:Im):eqD m.d m.d=true:=by
 cases m <;> simp [Im.d,eqD,wc,eqV]
theorem qPe (m:Im):dep m.d≤2:=by
 cases m <;> simp [Im.d,dep,qD3]
def IsIs (H:Hp):List Im→List V→Prop
 | [],[]=>True
 | m::ms,v::vs=>IsI H m v∧IsIs H ms vs
 | _,_=>False
theorem IsIs.len {H:Hp}:∀ {ms:List Im} {vs:List V},IsIs H ms vs→vs.length=ms.length
 | [],[],_=>rfl
 | _::_,_::_,h=>by rw [List.length_cons,List.length_cons,IsIs.len h.2]
 | [],_::_,h=>h.elim
 | _::_,[],h=>h.elim
theorem IsIs.ts {H H':Hp}(e:TS H H'):∀ {ms:List Im} {vs:List V},IsIs H ms vs→IsIs H' ms vs
 | [],[],_=>trivial
 | _::_,_::_,h=>⟨IsI.ts e h.1,IsIs.ts e h.2⟩
 | [],_::_,h=>h.elim
 | _::_,[],h=>h.elim
theorem IsIs.get {H:Hp}:∀ {ms:List Im} {vs:List V} {i:Nat} {v:V},IsIs H ms vs→vs[i]? =some v→∃ m,ms[i]? =some m∧IsI H m v
 | [],[],_,_,_,h=>by simp at h
 | m::_,x::_,0,v,h,e=>by
  have e':x=v:=by simpa using e
  subst e'
  exact⟨m,rfl,h.1⟩
 | _::ms,_::vs,i+1,v,h,e=>by
  obtain⟨m,h1,h2⟩:=IsIs.get (i:=i) h.2 (by simpa using e)
  exact⟨m,by simpa using h1,h2⟩
 | [],_::_,_,_,h,_=>h.elim
 | _::_,[],_,_,h,_=>h.elim
theorem IsIs.get' {H:Hp}{ms:List Im}{vs:List V}{i:Nat}{m:Im}(h:IsIs H ms vs)(e:ms[i]? =some m):∃ v,vs[i]? =some v∧IsI H m v:=by
 have hi:i < vs.length:=by rw [h.len];exact(glt e)
 have ev:vs[i]? =some vs[i]:=List.getElem?_eq_getElem hi
 obtain⟨m',h1,h2⟩:=h.get ev
 rw [e] at h1
 cases h1
 exact⟨_,ev,h2⟩
theorem IsIs.app {H:Hp}:∀ {ms:List Im} {vs:List V} {ms':List Im} {vs':List V},IsIs H ms vs→IsIs H ms' vs'→IsIs H (ms++ms') (vs++vs')
 | [],[],_,_,_,h'=>h'
 | _::_,_::_,_,_,h,h'=>⟨h.1,h.2.app h'⟩
 | [],_::_,_,_,h,_=>h.elim
 | _::_,[],_,_,h,_=>h.elim
theorem IsIs.one {H:Hp}{m:Im}{v:V}(h:IsI H m v):IsIs H [m] [v]:=⟨h,trivial⟩
theorem IsIs.rep {H:Hp}:∀ {ms:List Im} {vs:List V},IsIs H ms vs→Reps K H (ms.map Im.d) vs
 | [],[],_=>by unfold List.map Reps;trivial
 | _::_,_::_,h=>by unfold List.map Reps;exact⟨h.1.rep,h.2.rep⟩
 | [],_::_,h=>h.elim
 | _::_,[],h=>h.elim
theorem qAy:∀ ms:List Im,wc (ms.map Im.d) (ms.map Im.d)=true
 | []=>by simp [wc]
 | m::ms=>by unfold List.map wc;rw [qJ0,qAy ms];rfl
theorem qH8:∀ ms:List Im,qD3 (ms.map Im.d)≤2
 | []=>by simp [qD3]
 | m::ms=>by
  have h1:=qPe m
  have h2:=qH8 ms
  unfold List.map qD3
  omega
def Tr (H:Hp)(z:Addr)(ms:List Im):Prop:=∃ vs,H z=some (.lst vs)∧IsIs H ms vs
theorem Tr.same {H H':Hp}{z:Addr}{ms:List Im}(e:Same H H')(h:Tr H z ms):Tr H' z ms:=let ⟨vs,h1,h2⟩:=h;⟨vs,e _ _ h1,h2.ts (qr e)⟩
theorem Tr.rep {H:Hp}{z:Addr}{ms:List Im}(h:Tr H z ms):Rep K H (.lst (ms.map Im.d)) (.ref z):=by
 obtain⟨vs,h1,h2⟩:=h
 unfold Rep
 exact⟨z,vs,rfl,SqL.of h1,h2.rep⟩
theorem eqTr {H:Hp}{x y:Addr}{ms:List Im}{Q:VK}(h1:Tr H x ms)(h2:Tr H y ms)(q:Q (.bl true) H):qNh K false (.ref x) (.ref y) H Q:=by
 refine⟨_,_,h1.rep,h2.rep,rfl,by have:=qH8 ms;unfold dep;omega,?_⟩
 have e:eqD (.lst (ms.map Im.d)) (.lst (ms.map Im.d))=true:=by unfold eqD;exact qAy ms
 rw [e]
 exact q
theorem qPp {H:Hp}{x y:Addr}{ms:List Im}{Q:VK}(h1:Tr H x ms)(h2:Tr H y ms)(q:Q (.bl false) H):qNh K true (.ref x) (.ref y) H Q:=by
 refine⟨_,_,h1.rep,h2.rep,rfl,by have:=qH8 ms;unfold dep;omega,?_⟩
 have e:eqD (.lst (ms.map Im.d)) (.lst (ms.map Im.d))=true:=by unfold eqD;exact qAy ms
 rw [e]
 exact q
theorem IsIs.dl {H:Hp}:∀ {ms:List Im} {vs:List V},IsIs H ms vs→IsIs H ms.dropLast vs.dropLast
 | [],[],_=>trivial
 | [_],[_],_=>trivial
 | _::_::_,_::_::_,h=>⟨h.1,IsIs.dl h.2⟩
 | [],_::_,h=>h.elim
 | _::_,[],h=>h.elim
 | [_],_::_::_,h=>h.2.elim
 | _::_::_,[_],h=>h.2.elim
theorem IsIs.last {H:Hp}{ms:List Im}{vs:List V}(h:IsIs H ms vs)(hne:ms≠[]):∃ v m,vs[vs.length - 1]? =some v∧ms.getLast?=some m∧m∈ms∧IsI H m v:=by
 have hl:0 < ms.length:=List.length_pos_iff.mpr hne
 have hi:vs.length - 1 < vs.length:=by rw [h.len];omega
 have ev:vs[vs.length - 1]? =some vs[vs.length - 1]:=List.getElem?_eq_getElem hi
 obtain⟨m,h1,h2⟩:=h.get ev
 refine⟨_,m,ev,?_,List.mem_of_getElem? h1,h2⟩
 rw [h.len] at h1
 rw [List.getLast?_eq_getElem?]
 exact h1
theorem qO8 {m:Im}(h:m.wd="gap"):∃ l,m= .gap l:=by
 cases m with
 | gap l=>exact⟨l,rfl⟩
 | clip=>exact absurd (show ("clip":Str)="gap" from h) (by decide+kernel)
 | nest=>exact absurd (show ("nest":Str)="gap" from h) (by decide+kernel)
 | mix=>exact absurd (show ("mix":Str)="gap" from h) (by decide+kernel)
def qBv:Int→List Im→List Im
 | _,[]=>[]
 | w,.gap l::ms=>qBv (w+l) ms
 | w,.clip n p q r s l::ms=>if 0 < w then .gap w:: .clip n p q r s l::qBv 0 ms else .clip n p q r s l::qBv 0 ms
 | w,.nest n b l::ms=>if 0 < w then .gap w:: .nest n b l::qBv 0 ms else .nest n b l::qBv 0 ms
 | w,.mix l::ms=>if 0 < w then .gap w:: .mix l::qBv 0 ms else .mix l::qBv 0 ms
theorem qHw {m:Im}(h:m.wd≠"gap")(w:Int)(ms:List Im):qBv w (m::ms)=if 0 < w then .gap w::m::qBv 0 ms else m::qBv 0 ms:=by
 cases m with
 | gap l=>exact absurd rfl h
 | _=>rw [qBv]
inductive qF6 (vs:List V)(H:Hp)(Q:VK)(_:XK):Prop
| mk (z:Addr) (ms:List Im) (_:vs=[.ref z]) (_:Tr H z ms) (_:ms.length≤300) (_:∀ (y:Addr) (H':Hp),Same H H'→H y=none→Tr H' y (qBv 0 ms)→Q (.ref y) H')
theorem qFb (T:Tx K mg a):FnOk P w K mg base CX0 1 a.A25 a.B25 ["some"] qF6:=by
 refine T.D25.F.ok jd (fun vs H Q E h=>?_) (fun cdv A outer s H vs Q E hr h=>?_)
 · obtain⟨z,ms,rfl,_⟩:=h
   rfl
 refine qR fun _ Y=>?_
 obtain⟨z,ms,rfl,⟨xs,hz,his⟩,hl,kk⟩:=h
 apply Y
 refine⟨_,(qC (qd 1 jd.nd (zM qB))
  (qC (qd 2 jd.nd qE)
  (qC (xD PassesOwn.never rfl (je (pv 0)) (qq (i:=3) jd.nd rfl (Or.inl rfl)) (qD (qW (qJ xY (qP (pv 3)) qV (qO _)) (qD (qd 2 jd.nd (qK qh (pv 2) (qP (pv 3))))) (qC (qW (qJ kU (pv 2) qE (qO _)) (qD (jL (qFm F.plainAttrs_list F.slot_list_append F.type_list_append zU (pv 1) (qA (jO (qA qV (qA (pv 2) qB))) qB)))) qL)
  (qC (qd 2 jd.nd qE)
  (qD (jL (qFm F.plainAttrs_list F.slot_list_append F.type_list_append zU (pv 1) (qA (pv 3) qB)))))))))
  (qD (qN (pv 1)))))),?_⟩
 try dsimp only [jV,qg]
 refine⟨sL0,fun y hy=>?_⟩
 refine⟨_,rfl,z,rfl,⟨_,SqL.of ((qH hy _) _ _ hz)⟩,xK (K:=K) (a:=z) (xs:=xs) (fun i σ H'=>∃ (w:Int) (as:List Im) (o:Option V) (vs:List V),σ=[some (.ref z),some (.ref y),some (.int w),o]∧H' y=some (.lst vs)∧IsIs H' as vs∧as.length≤2*i∧as++qBv w (ms.drop i)=qBv 0 ms∧Same H H')
  ⟨0,[],none,[],rfl,qF,trivial,by simp,rfl,qH hy _⟩ ?_ ?_ ?_⟩
 · rintro i σ H' hi ⟨w,as,o,vs,rfl,_,_,_,_,e⟩
   exact SqL.of (e _ _ hz)
 · rintro i x σ H' hx ⟨w,as,o,vs,rfl,hv,hiv,hal,hap,e⟩
   refine qR fun _ Y=>?_
   obtain⟨m,hm,hIx⟩:=his.get hx
   have hI:=hIx.ts (qr e)
   have hi:i < ms.length:=(glt hm)
   have hd:ms.drop i=m::ms.drop (i+1):=by
    rw [List.drop_eq_getElem_cons hi]
    rw [List.getElem?_eq_getElem hi] at hm
    cases hm
    rfl
   have hvl:vs.length≤2*i:=by rw [hiv.len];exact hal
   obtain⟨zi,xi,rfl,hzi,h0,h1⟩:=hI.opn
   apply Y
   refine⟨_,rfl,zi,xi,_,_,rfl,rfl,SqT.of hzi,h0,rfl,_,rfl,jx (fun c=>?_) (fun c=>?_)⟩
   · obtain⟨l,rfl⟩:=qO8 (by simpa using c)
     refine qR fun _ Y=>?_
     obtain⟨z2,e2,hz2⟩:=hI
     cases e2
     apply Y
     refine⟨_,rfl,ixO hz2 at1 ⟨_,_,rfl,rfl,w+l,as,_,vs,rfl,hv,hiv,by omega,?_,e⟩⟩
     rw [hd,qBv] at hap
     exact hap
   · have hne:m.wd≠"gap":=by simpa using c
     rw [hd,qHw hne] at hap
     refine⟨_,rfl,_,_,rfl,rfl,_,rfl,jx (fun c=>?_) (fun c=>?_)⟩
     · have c':0 < w:=by simpa using c
       rw [if_pos c'] at hap
       refine⟨_,rfl,.inl ⟨rfl,_,SqL.of hv⟩,_,rfl,sL2,fun g hg=>?_⟩
       have w1:=qH hg (.tup [.str "gap",.int w])
       refine⟨y,_,_,rfl,rfl,w1 _ _ hv,qo (by omega),?_⟩
       have t2:TS (upd H' g (.tup [.str "gap",.int w])) (upd (upd H' g (.tup [.str "gap",.int w])) y (.lst (vs++[.ref g]))):=qAg (w1 _ _ hv)
       have k2:IsIs (upd (upd H' g (.tup [.str "gap",.int w])) y (.lst (vs++[.ref g]))) (as++[.gap w]) (vs++[.ref g]):=((hiv.ts (qr w1)).app (.one (isG qF))).ts t2
       have k1:IsI (upd (upd H' g (.tup [.str "gap",.int w])) y (.lst (vs++[.ref g]))) m (.ref zi):=(hI.ts (qr w1)).ts t2
       have e2:Same H (upd (upd H' g (.tup [.str "gap",.int w])) y (.lst (vs++[.ref g]))):=j9 (e.trans w1) hy
       have hv2:(upd (upd H' g (.tup [.str "gap",.int w])) y (.lst (vs++[.ref g]))) y=some (.lst (vs++[.ref g])):=qF
       generalize upd (upd H' g (.tup [.str "gap",.int w])) y (.lst (vs++[.ref g]))=H2 at k1 k2 e2 hv2 ⊢
       refine⟨_,rfl,.inl ⟨rfl,_,SqL.of hv2⟩,_,rfl,y,_,_,rfl,rfl,hv2,qo (by rw [List.length_append];simp;omega),?_⟩
       refine⟨0,as++[.gap w]++[m],_,_,rfl,qF,(k2.app (.one k1)).ts (qAg hv2),by simp;omega,?_,j9 e2 hy⟩
       rw [← hap];simp
     · have c':¬ 0 < w:=by simpa using c
       rw [if_neg c'] at hap
       refine⟨_,rfl,.inl ⟨rfl,_,SqL.of hv⟩,_,rfl,y,_,_,rfl,rfl,hv,qo (by omega),?_⟩
       refine⟨0,as++[m],_,_,rfl,qF,(hiv.app (.one hI)).ts (qAg hv),by simp;omega,?_,j9 e hy⟩
       rw [← hap];simp
 · rintro σ H' ⟨w,as,o,vs,rfl,hv,hiv,_,hap,e⟩
   refine⟨_,rfl,kk y H' e hy ⟨vs,hv,?_⟩⟩
   rw [his.len,List.drop_length,qBv,List.append_nil] at hap
   rw [← hap]
   exact hiv
def Im.mo:Im→Int
 | .mix _=>0
 | .clip _ _ _ _ _ l=>l
 | .nest _ _ l=>l
 | .gap l=>l
theorem qA3 {m:Im}(h:m.wd="mix"):∃ l,m= .mix l:=by
 cases m with
 | mix l=>exact⟨l,rfl⟩
 | clip=>exact absurd (show ("clip":Str)="mix" from h) (by decide+kernel)
 | nest=>exact absurd (show ("nest":Str)="mix" from h) (by decide+kernel)
 | gap=>exact absurd (show ("gap":Str)="mix" from h) (by decide+kernel)
theorem qPz {m:Im}(h:m.wd≠"mix"):m.mo=m.l:=by
 cases m with
 | mix l=>exact absurd rfl h
 | _=>rfl
theorem qP5 {x y:Str}:decide (V.str x=V.str y)=decide (x=y):=by
 rw [Bool.eq_iff_iff];simp
inductive qDd (vs:List V)(H:Hp)(Q:VK)(_:XK):Prop
| mk (v:V) (m:Im) (_:vs=[v]) (_:IsI H m v) (_:Q (.int m.mo) H)
theorem vH (T:Tx K mg a):FnOk P w K mg base CX0 1 a.A24 a.B24 ["item"] qDd:=by
 refine T.D24.F.ok qC2 (fun vs H Q E h=>?_) (fun cdv A outer s H vs Q E hr h=>?_)
 · obtain⟨v,m,rfl,_⟩:=h
   rfl
 refine qR fun _ Y=>?_
 obtain⟨v,m,rfl,hI,kk⟩:=h
 apply Y
 refine⟨_,(qD (qN (qC5 (qJ xY (qP (pv 0)) qV (qO _)) qE (jM vB (pv 0) (we zp qE) (fun _ _=>rfl))))),?_⟩
 try dsimp only [jV,qg]
 refine qR fun _ Y=>?_
 obtain⟨z,xs,rfl,hz,h0,h1⟩:=hI.opn
 apply Y
 refine⟨_,rfl,z,xs,_,_,rfl,rfl,SqT.of hz,h0,rfl,_,rfl,jx (fun c=>?_) (fun c=>?_)⟩
 · obtain⟨l,rfl⟩:=qA3 (by simpa using c)
   exact kk
 · rw [qPz (by simpa using c)] at kk
   exact⟨_,rfl,_,rfl,z,xs,_,_,rfl,rfl,SqT.of hz,h1,kk⟩
def xf:Int→Nat→List Im→Int→Option (Nat × Int)
 | _,_,[],_=>none
 | b,i,m::ms,t=>if b≤t∧t < b+m.mo then some (i,t - b) else xf (b+m.mo) (i+1) ms t
def AtR (H:Hp)(Q:VK)(r:Option (Nat × Int)):Prop:=match r with
 | none=>∀ H',Same H H'→Q .non H'
 | some (i,d)=>∀ (p:Addr) (H':Hp),Same H H'→H' p=some (.tup [.int (i:Int),.int d])→Q (.ref p) H'
theorem zW {α:Type}{xs:List α}{i:Nat}{x:α}(h:xs[i]? =some x):xs.drop i=x::xs.drop (i+1):=by
 have hi:i < xs.length:=(glt h)
 rw [List.drop_eq_getElem_cons hi]
 rw [List.getElem?_eq_getElem hi] at h
 cases h
 rfl
inductive qHc (vs:List V)(H:Hp)(Q:VK)(_:XK):Prop
| mk (z:Addr) (ms:List Im) (t:Int) (_:vs=[.ref z,.int t]) (_:Tr H z ms) (_:AtR H Q (xf 0 0 ms t))
theorem qHy (T:Tx K mg a):FnOk P w K mg base CX0 3 a.A27 a.B27 ["track","moment"] qHc:=by
 refine T.D27.F.ok jy (fun vs H Q E h=>?_) (fun cdv A outer s H vs Q E hr h=>?_)
 · obtain⟨z,ms,t,rfl,_⟩:=h
   rfl
 refine qR fun _ Y=>?_
 obtain⟨z,ms,t,rfl,⟨xs,hz,his⟩,kk⟩:=h
 apply Y
 refine⟨_,(qC (qd 2 jy.nd qE)
  (qC (xD PassesOwn.never rfl (qIr rfl T.b_enumerate (qA (pv 0) qB)) (qG2 rfl (xO (qq (i:=3) jy.nd rfl (Or.inl rfl)) (xO (qq (i:=4) jy.nd rfl (Or.inl rfl)) qCq))) (qC (qd 5 jy.nd (qK qh (pv 2) (qI T.D24 (vH T) hr rfl (qA (pv 4) qB))))
  (qC (qW (PW.pt (xJ (qJ qEs (pv 2) (pv 1) (qO _)) (ji (qJ kD (pv 1) (pv 5) (qO _))))) (qD (qN (jO (qA (pv 3) (qA (qK jA (pv 1) (pv 2)) qB))))) qL)
  (qD (qd 2 jy.nd (pv 5))))))
  (qD (qN qE4)))),?_⟩
 try dsimp only [jV,qg]
 refine⟨_,rfl,z,rfl,⟨_,SqL.of hz⟩,qKn (K:=K) (a:=z) (xs:=xs) (fun i σ H'=>∃ (b:Int) (o1 o2 o3:Option V),σ=[some (.ref z),some (.int t),some (.int b),o1,o2,o3]∧xf b i (ms.drop i) t=xf 0 0 ms t∧Same H H')
  ⟨0,none,none,none,rfl,rfl,Same.refl _⟩ ?_ ?_ ?_⟩
 · rintro i σ H' hi ⟨b,o1,o2,o3,rfl,_,e⟩
   exact SqL.of (e _ _ hz)
 · rintro i x σ H' p hx ⟨b,o1,o2,o3,rfl,hap,e⟩ hp
   refine qR fun _ Y=>?_
   obtain⟨m,hm,hIx⟩:=his.get hx
   apply Y
   have w1:=qH hp (.tup [.int (i:Int),x])
   have e1:=e.trans w1
   have hI:=hIx.ts (qr e1)
   rw [zW hm,xf] at hap
   refine⟨p,_,rfl,SqT.of qF,rfl,_,_,rfl,_,_,rfl,rfl,?_⟩
   generalize upd H' p (.tup [.int (i:Int),x])=H1 at e1 hI ⊢
   refine⟨_,rfl,_,rfl,x,m,rfl,hI,_,_,rfl,rfl,?_⟩
   refine⟨_,rfl,_,rfl,_,_,rfl,rfl,_,rfl,?_⟩
   refine jx (fun c1=>?_) (fun c1=>?_)
   · refine⟨_,rfl,_,rfl,_,_,rfl,rfl,_,rfl,?_⟩
     refine jx (fun c2=>?_) (fun c2=>?_)
     · rw [if_pos ⟨by simpa using c1,by simpa using c2⟩] at hap
       rw [← hap] at kk
       refine⟨_,rfl,_,rfl,_,rfl,_,_,rfl,rfl,sL2,fun q hq=>?_⟩
       exact kk q _ (e1.trans (qH hq _)) qF
     · rw [if_neg (fun c=>c2 (by simpa using c.2))] at hap
       exact⟨_,rfl,_,_,_,_,rfl,hap,e1⟩
   · rw [if_neg (fun c=>c1 (by simpa using c.1))] at hap
     exact qp ⟨_,rfl,_,_,_,_,rfl,hap,e1⟩
 · rintro σ H' ⟨b,o1,o2,o3,rfl,hap,e⟩
   rw [his.len,List.drop_length,xf] at hap
   rw [← hap] at kk
   exact kk H' e
def jp (ms:List Im)(i:Int):Str:=if i < 0 then "" else match ms[i.toNat]? with
 | some m=>m.wd
 | none=>""
theorem jP {ms:List Im}{i:Nat}{m:Im}(h:ms[i]? =some m){k:Int}(hk:k=(i:Int)):jp ms k=m.wd:=by
 subst hk
 unfold jp
 rw [if_neg (by omega)]
 have e:((i:Int)).toNat=i:=by omega
 rw [e,h]
inductive qHh (vs:List V)(H:Hp)(Q:VK)(_:XK):Prop
| mk (z:Addr) (ms:List Im) (i:Int) (_:vs=[.ref z,.int i]) (_:Tr H z ms) (_:Q (.str (jp ms i)) H)
theorem jf (T:Tx K mg a):FnOk P w K mg base CX0 1 a.A28 a.B28 ["track","place"] qHh:=by
 refine T.D28.F.ok qHi (fun vs H Q E h=>?_) (fun cdv A outer s H vs Q E hr h=>?_)
 · obtain⟨z,ms,i,rfl,_⟩:=h
   rfl
 refine qR fun _ Y=>?_
 obtain⟨z,ms,i,rfl,⟨vs,hz,his⟩,q⟩:=h
 apply Y
 refine⟨_,(qC (qW (PW.pt (jW (qJ kD (pv 1) qE (qO _)) (jH (qJ qA6 (pv 1) (qQ qY rfl T.b_len rfl (qA (pv 0) qB)) (qO _))))) (qD (qN qV)) qL)
  (qD (qN (qP (jM jE (pv 0) (pv 1) (fun _ _=>rfl)))))),?_⟩
 try dsimp only [jV,qg]
 have hl:=his.len
 refine⟨_,rfl,_,_,rfl,rfl,_,rfl,?_⟩
 by_cases h0:i < 0
 · rw [decide_eq_true h0]
   have e:jp ms i="":=by unfold jp;rw [if_pos h0]
   rw [e] at q
   exact jS (jS q)
 rw [decide_eq_false h0]
 refine qp ⟨_,rfl,_,rfl,z,_,rfl,.inl (SqL.of hz),_,_,rfl,rfl,_,rfl,?_⟩
 by_cases h1:((vs.length:Nat):Int)≤i
 · rw [decide_eq_true (show i ≥ ((vs.length:Nat):Int) from h1)]
   have e:jp ms i="":=by
    unfold jp
    rw [if_neg h0,List.getElem?_eq_none (by omega)]
   rw [e] at q
   exact jS q
 · rw [decide_eq_false (show ¬ i ≥ ((vs.length:Nat):Int) from h1)]
   refine qp ?_
   have hi:i.toNat < ms.length:=by omega
   have hm:ms[i.toNat]? =some ms[i.toNat]:=List.getElem?_eq_getElem hi
   refine qR fun _ Y=>?_
   obtain⟨v,hv,hI⟩:=his.get' hm
   obtain⟨zi,xi,rfl,hzi,q0,_⟩:=hI.opn
   apply Y
   have ei:i=((i.toNat:Nat):Int):=by omega
   have hat:atI vs i=some (.ref zi):=by
    rw [ei];exact jc hv
   have e:jp ms i=ms[i.toNat].wd:=jP hm ei
   rw [e] at q
   exact⟨_,rfl,_,rfl,z,_,_,_,rfl,rfl,SqL.of hz,hat,zi,xi,_,_,rfl,rfl,SqT.of hzi,q0,q⟩
def jb (ms:List Im)(i:Nat):Int:=((ms.take i).map Im.mo).sum
theorem zr:∀ (xs:List Im) (b:Int) (i0:Nat) (m:Im) (ys:List Im),(∀ x∈xs,0≤x.mo)→0 < m.mo→xf b i0 (xs++m::ys) (b+(xs.map Im.mo).sum)=some (i0+xs.length,0)
 | [],b,i0,m,ys,_,hm=>by
  rw [List.nil_append,xf,if_pos (by simp;omega)]
  simp
 | x::xs,b,i0,m,ys,hx,hm=>by
  have h0:=hx x (by simp)
  have hs:0≤(xs.map Im.mo).sum:=by
   have:∀ (zs:List Im),(∀ z∈zs,0≤z.mo)→0≤(zs.map Im.mo).sum:=fun zs=>by
    induction zs with
    | nil=>intro _;simp
    | cons z zs ih=>intro h;have:=ih fun y hy=>h y (by simp [hy]);have:=h z (by simp);rw [List.map_cons,List.sum_cons];omega
   exact this xs fun y hy=>hx y (by simp [hy])
  have ih:=zr xs (b+x.mo) (i0+1) m ys (fun y hy=>hx y (by simp [hy])) hm
  rw [List.cons_append,xf,List.map_cons,List.sum_cons,if_neg (by omega)]
  have e:b+(x.mo+(xs.map Im.mo).sum)=b+x.mo+(xs.map Im.mo).sum:=by omega
  rw [e,ih,List.length_cons]
  congr 2
  omega
inductive qBg (vs:List V)(H:Hp)(Q:VK)(_:XK):Prop
| mk (z:Addr) (ms:List Im) (i:Int) (_:vs=[.ref z,.int i]) (_:Tr H z ms) (_:Q (.int (if jp ms (i - 1)="mix" then i - 2 else i - 1)) H)
theorem qBs (T:Tx K mg a):FnOk P w K mg base CX0 2 a.A30 a.B30 ["track","place"] qBg:=by
 refine T.D30.F.ok qBr (fun vs H Q E h=>?_) (fun cdv A outer s H vs Q E hr h=>?_)
 · obtain⟨z,ms,i,rfl,_⟩:=h
   rfl
 refine qR fun _ Y=>?_
 obtain⟨z,ms,i,rfl,tT,q⟩:=h
 apply Y
 refine⟨_,(qD (qN (qC5 (qJ xY (qI T.D28 (jf T) hr rfl (qA (pv 0) (qA (qK jA (pv 1) qE) qB))) qV (qO _)) (qK jA (pv 1) qE) (qK jA (pv 1) qE)))),?_⟩
 try dsimp only [jV,qg]
 refine⟨_,rfl,_,rfl,_,_,rfl,rfl,z,ms,_,rfl,tT,rfl,_,rfl,jx (fun c=>?_) (fun c=>?_)⟩
 · rw [if_pos (by simpa using c)] at q
   exact⟨_,rfl,_,_,rfl,rfl,q⟩
 · rw [if_neg (by simpa using c)] at q
   exact⟨_,rfl,_,_,rfl,rfl,q⟩
def nbF (ms:List Im)(t:Int):Option (Int × Int):=match xf 0 0 ms t with
 | some (i,d)=>if d≠0∨(i:Int)=0 then none else some (if jp ms ((i:Int) - 1)="mix" then (i:Int) - 2 else (i:Int) - 1,(i:Int))
 | none=>none
def cbF (ms:List Im)(t:Int):Option (Int × Int):=match nbF ms t with
 | some (i,j)=>if jp ms i="clip"∧jp ms j="clip" then some (i,j) else none
 | none=>none
def PrR (H:Hp)(Q:VK)(r:Option (Int × Int)):Prop:=match r with
 | none=>∀ H',Same H H'→Q .non H'
 | some (i,j)=>∀ (p:Addr) (H':Hp),Same H H'→H' p=some (.tup [.int i,.int j])→Q (.ref p) H'
inductive wQ (vs:List V)(H:Hp)(Q:VK)(_:XK):Prop
| mk (z:Addr) (ms:List Im) (t:Int) (_:vs=[.ref z,.int t]) (_:Tr H z ms) (_:PrR H Q (nbF ms t))
theorem wM (T:Tx K mg a):FnOk P w K mg base CX0 4 a.A32 a.B32 ["track","moment"] wQ:=by
 refine T.D32.F.ok zH (fun vs H Q E h=>?_) (fun cdv A outer s H vs Q E hr h=>?_)
 · obtain⟨z,ms,t,rfl,_⟩:=h
   rfl
 refine qR fun _ Y=>?_
 obtain⟨z,ms,t,rfl,tT,kk⟩:=h
 apply Y
 refine⟨_,(qC (qd 2 zH.nd (qI T.D27 (qHy T) hr rfl (qA (pv 0) (qA (pv 1) qB))))
  (qC (qW (PW.pt (jW (wD (qA4 (pv 2))) (jW (qJ xn (qP (pv 2)) qE (qO _)) (jH (qJ xY (qP (pv 2)) qE (qO _)))))) (qD (qN qE4)) qL)
  (qD (qN (jO (qA (qI T.D30 (qBs T) hr rfl (qA (pv 0) (qA (qP (pv 2)) qB))) (qA (qP (pv 2)) qB))))))),?_⟩
 try dsimp only [jV,qg]
 refine⟨_,rfl,_,rfl,z,ms,_,rfl,tT,?_⟩
 unfold nbF at kk
 cases hit:xf 0 0 ms t with
 | none=>
  rw [hit] at kk
  intro H1 e1
  exact⟨_,rfl,_,rfl,jS (kk H1 e1)⟩
 | some x=>
  obtain⟨i,d⟩:=x
  rw [hit] at kk
  dsimp only at kk
  intro p H1 e1 hp
  refine⟨_,rfl,_,rfl,jx (fun c=>absurd c (by simp)) (fun _=>?_)⟩
  refine(ixO hp at1 ?_)
  refine⟨rfl,_,rfl,jx (fun c=>?_) (fun c=>?_)⟩
  · rw [if_pos (.inl (by simpa using c))] at kk
    exact kk H1 e1
  · refine(ixO hp at0 ?_)
    refine⟨rfl,_,rfl,jx (fun c2=>?_) (fun c2=>?_)⟩
    · rw [if_pos (.inr (by simpa using c2))] at kk
      exact kk H1 e1
    · rw [if_neg (fun z=>z.elim (fun z=>c (by simpa using z)) (fun z=>c2 (by simpa using z)))] at kk
      refine⟨_,rfl,ixO hp at0 ⟨z,ms,_,rfl,tT.same e1,?_⟩⟩
      refine(ixO hp at0 ⟨sL2,fun q hq=>?_⟩)
      exact kk q _ (e1.trans (qH hq _)) qF
inductive kr (vs:List V)(H:Hp)(Q:VK)(_:XK):Prop
| mk (z:Addr) (ms:List Im) (t:Int) (_:vs=[.ref z,.int t]) (_:Tr H z ms) (_:PrR H Q (cbF ms t))
theorem xH (T:Tx K mg a):FnOk P w K mg base CX0 5 a.A33 a.B33 ["track","moment"] kr:=by
 refine T.D33.F.ok xM (fun vs H Q E h=>?_) (fun cdv A outer s H vs Q E hr h=>?_)
 · obtain⟨z,ms,t,rfl,_⟩:=h
   rfl
 refine qR fun _ Y=>?_
 obtain⟨z,ms,t,rfl,tT,kk⟩:=h
 apply Y
 refine⟨_,(qC (qd 2 xM.nd (qI T.D32 (wM T) hr rfl (qA (pv 0) (qA (pv 1) qB))))
  (qC (qW (PW.pt (jW (wD (qA4 (pv 2))) (jW (qJ xn (qI T.D28 (jf T) hr rfl (qA (pv 0) (qA (qP (pv 2)) qB))) qV (qO _)) (jH (qJ xn (qI T.D28 (jf T) hr rfl (qA (pv 0) (qA (qP (pv 2)) qB))) qV (qO _)))))) (qD (qN qE4)) qL)
  (qD (qN (pv 2))))),?_⟩
 try dsimp only [jV,qg]
 refine⟨_,rfl,_,rfl,z,ms,_,rfl,tT,?_⟩
 unfold cbF at kk
 cases hit:nbF ms t with
 | none=>
  rw [hit] at kk
  intro H1 e1
  exact⟨_,rfl,_,rfl,jS (kk H1 e1)⟩
 | some x=>
  obtain⟨i,j⟩:=x
  rw [hit] at kk
  dsimp only at kk
  intro p H1 e1 hp
  refine⟨_,rfl,_,rfl,jx (fun c=>absurd c (by simp)) (fun _=>?_)⟩
  refine⟨_,rfl,ixO hp at0 ⟨z,ms,_,rfl,tT.same e1,?_⟩⟩
  refine⟨rfl,_,rfl,jx (fun c=>?_) (fun c=>?_)⟩
  · rw [if_neg (fun z=>absurd c (by simpa using z.1))] at kk
    exact kk H1 e1
  · refine⟨_,rfl,ixO hp at1 ⟨z,ms,_,rfl,tT.same e1,?_⟩⟩
    refine⟨rfl,_,rfl,jx (fun c2=>?_) (fun c2=>?_)⟩
    · rw [if_neg (fun z=>absurd c2 (by simpa using z.2))] at kk
      exact kk H1 e1
    · rw [if_pos ⟨by simpa using c,by simpa using c2⟩] at kk
      exact⟨_,rfl,kk p H1 e1 hp⟩
def TrsAt (H:Hp):List (List Im)→List V→Prop
 | [],[]=>True
 | ms::r,v::vs=>(∃ z:Addr,v= .ref z∧Tr H z ms)∧TrsAt H r vs
 | _,_=>False
theorem TrsAt.same {H H':Hp}(e:Same H H'):∀ {ts:List (List Im)} {vs:List V},TrsAt H ts vs→TrsAt H' ts vs
 | [],[],_=>trivial
 | _::_,_::_,⟨⟨z,h1,h2⟩,h⟩=>⟨⟨z,h1,h2.same e⟩,TrsAt.same e h⟩
 | [],_::_,h=>h.elim
 | _::_,[],h=>h.elim
theorem TrsAt.len {H:Hp}:∀ {ts:List (List Im)} {vs:List V},TrsAt H ts vs→vs.length=ts.length
 | [],[],_=>rfl
 | _::_,_::_,h=>by rw [List.length_cons,List.length_cons,TrsAt.len h.2]
 | [],_::_,h=>h.elim
 | _::_,[],h=>h.elim
theorem TrsAt.get {H:Hp}:∀ {ts:List (List Im)} {vs:List V} {i:Nat} {v:V},TrsAt H ts vs→vs[i]? =some v→∃ (ms:List Im) (z:Addr),ts[i]? =some ms∧v= .ref z∧Tr H z ms
 | [],[],_,_,_,h=>by simp at h
 | ms::_,u::_,0,v,h,e=>by
  have e':u=v:=by simpa using e
  subst e'
  obtain⟨⟨z,h1,h2⟩,_⟩:=h
  exact⟨ms,z,rfl,h1,h2⟩
 | _::_,_::_,i+1,v,h,e=>by
  obtain⟨ms,z,h1,h2⟩:=TrsAt.get (i:=i) h.2 (by simpa using e)
  exact⟨ms,z,by simpa using h1,h2⟩
 | [],_::_,_,_,h,_=>h.elim
 | _::_,[],_,_,h,_=>h.elim
def qOt (H:Hp)(v:V)(ts:List (List Im)):Prop:=∃ (tt tl ti:Addr) (zs:List V),v= .ref tt∧H tt=some (.tup [.ref tl,.ref ti])∧H tl=some (.lst zs)∧TrsAt H ts zs
theorem qNe {H:Hp}{v:V}{n:Str}{p q r s l:Int}(h:IsI H (.clip n p q r s l) v):Cp K H v n p q r s l:=by
 obtain⟨z,x,y,h0,hz,hx,hy⟩:=h
 exact⟨z,x,y,h0,SqT.of hz,SqT.of hx,SqT.of hy⟩
def TabF (H:Hp)(v:V)(ts:List (List Im))(tie:List Int):Prop:=∃ (tt tl ti:Addr) (zs:List V),v= .ref tt∧H tt=some (.tup [.ref tl,.ref ti])∧H tl=some (.lst zs)∧TrsAt H ts zs∧H ti=some (.lst (tie.map V.int))
theorem TabF.tab {H:Hp}{v:V}{ts:List (List Im)}{tie:List Int}(h:TabF H v ts tie):qOt H v ts:=let ⟨tt,tl,ti,zs,h1,h2,h3,h4,_⟩:=h;⟨tt,tl,ti,zs,h1,h2,h3,h4⟩
theorem TabF.same {H H':Hp}(e:Same H H'){v:V}{ts:List (List Im)}{tie:List Int}(h:TabF H v ts tie):TabF H' v ts tie:=
 let ⟨tt,tl,ti,zs,h1,h2,h3,h4,h5⟩:=h;⟨tt,tl,ti,zs,h1,e _ _ h2,e _ _ h3,h4.same e,e _ _ h5⟩
theorem qId {H:Hp}:∀ {ts:List (List Im)} {vs:List V} {ms:List Im} {z:Addr},TrsAt H ts vs→Tr H z ms→TrsAt H (ts++[ms]) (vs++[.ref z])
 | [],[],_,z,_,h=>⟨⟨z,rfl,h⟩,trivial⟩
 | _::_,_::_,_,_,⟨h1,h2⟩,h=>⟨h1,qId h2 h⟩
 | [],_::_,_,_,h,_=>h.elim
 | _::_,[],_,_,h,_=>h.elim
theorem vK {b:Bool}{A B:Prop}(h:b=false)(q:B):if b=true then A else B:=by subst h;exact q
theorem qBl {b:Bool}{A B:Prop}(h:b=true)(q:A):if b=true then A else B:=by subst h;exact q
theorem qMh {H H':Hp}(s:Same H H'){x:V}{t:Value}(h:qBw K H x t):qBw K H' x t:=by
 cases h with
 | non=>exact .non
 | bl x=>exact .bl x
 | int i=>exact .int i
 | str z=>exact .str z
 | flt x=>exact .flt x
 | lst e=>exact .lst (s _ _ e)
 | frz e=>exact .frz (s _ _ e)
 | tup e=>exact .tup (s _ _ e)
 | dK e=>exact .dK (s _ _ e)
 | dT e=>exact .dT (s _ _ e)
 | ins e cl ha hn htk hm=>exact .ins (s _ _ e) cl ha hn htk hm
theorem FrB.same {H H':Hp}(s:Same H H'){x:V}{b:Bool}(h:FrB K H x b):FrB K H' x b:=by
 cases h with
 | no ty e=>exact .no (qMh s ty) e
 | len e h=>exact .len (s _ _ e) h
 | one e h=>exact .one (s _ _ e) (h.same s)
 | two e h=>exact .two (s _ _ e) (h.same s)
 | nums e=>exact .nums (s _ _ e)
inductive NmB (K:W.Frag)(H:Hp):V→Bool→Prop where
 | str (z:Str) (h:z.length≤1000):NmB K H (.str z) (wS z)
 | no {x:V} {t:Value} (ty:qBw K H x t) (e:W.kitOne K t (.type "str")=some false):NmB K H x false
inductive qDj (K:W.Frag)(vs:List V)(H:Hp)(Q:VK)(_:XK):Prop
| mk (x:V) (b:Bool) (_:vs=[x]) (_:NmB K H x b) (_:∀ H',Same H H'→Q (.bl b) H')
theorem xP (T:Tx K mg a):FnOk P w K mg base CX0 1 a.A10 a.B10 ["thing"] (qDj K):=by
 refine T.D10.F.ok qHf (fun vs H Q E h=>?_) (fun cdv A outer s H vs Q E hr h=>?_)
 · obtain⟨x,b,rfl,_⟩:=h
   rfl
 refine qR fun _ Y=>?_
 obtain⟨x,b,rfl,hx,kk⟩:=h
 apply Y
 refine⟨_,(qC (qW (qi (qc (qQ qZ rfl T.b_isinstance rfl (qA (pv 0) (qA (zG rfl T.b_str rfl) qB))))) (qD (qN jn)) qL)
  (qC (qW (PW.pt (jW (qJ kD (qQ wG rfl T.b_len rfl (qA (pv 0) qB)) qE (qO _)) (jH (qJ kU (qQ wG rfl T.b_len rfl (qA (pv 0) qB)) (ju (v:=.int 8) rfl T.g_LONGEST_NAME ⟨_,rfl⟩) (qO _))))) (qD (qN jn)) qL)
  (qD (qN (qQ (vL rfl) rfl T.b_all rfl (qA (qCe [] [] rfl (qNy (pv 0)) (fun _ _ _ _=>(jK qNu (pv 0) (ju (v:=.str "abcdefghijklmnopqrstuvwxyz") rfl T.g_LETTERS ⟨_,rfl⟩) rfl))) qB)))))),?_⟩
 try dsimp only [jV,qg]
 cases hx with
 | no ty e=>exact⟨_,rfl,_,_,_,false,rfl,ty,⟨_,.inl ⟨rfl,e⟩⟩,false,rfl,jS (kk H (Same.refl _))⟩
 | str z hz=>
  have hsz:z.length≤sizeLine:=Nat.le_of_lt (qo hz)
  refine⟨_,rfl,_,_,_,true,rfl,.str z,⟨_,.inl ⟨rfl,by kernel_rfl⟩⟩,true,rfl,qp ?_⟩
  refine⟨_,rfl,z,rfl,hsz,_,_,rfl,rfl,_,rfl,?_⟩
  by_cases h1:(z.length:Int) < 1
  · rw [decide_eq_true h1]
    have e:wS z=false:=by unfold wS;rw [decide_eq_false (by omega)];rfl
    have:=kk H (Same.refl _)
    rw [e] at this
    exact jS (jS this)
  rw [decide_eq_false h1]
  refine qp ⟨_,rfl,z,rfl,hsz,_,_,rfl,rfl,_,rfl,?_⟩
  by_cases h2:(8:Int) < (z.length:Int)
  · rw [decide_eq_true h2]
    have e:wS z=false:=by unfold wS;rw [decide_eq_false (by omega)];rfl
    have:=kk H (Same.refl _)
    rw [e] at this
    exact jS this
  rw [decide_eq_false h2]
  refine qp ?_
  refine⟨_,rfl,z,rfl,qKu (fun i acc H'=>H'=H∧acc=((z.cps.toList.take i).map qN9).map V.bl) ⟨rfl,rfl⟩ ?_ ?_ ?_⟩
  · rintro i acc H' hi ⟨_,rfl⟩
    rw [List.length_map,List.length_map,List.length_take]
    exact qo (by have:z.cps.size=z.length:=rfl;omega)
  · rintro i c acc H' hi hc ⟨rfl,rfl⟩
    refine⟨_,rfl,_,_,rfl,rfl,Nxt.mk hi ⟨rfl,?_⟩⟩
    have hc':z.cps.toList[i]? =some c:=by simpa using hc
    rw [List.take_succ,hc',List.map_append,List.map_append]
    rfl
  · rintro acc H' ⟨rfl,rfl⟩ D hD
    refine⟨D,_,rfl,SqL.of qF,?_⟩
    have e:((z.cps.toList.take z.cps.size).map qN9).all id=wS z:=by
     rw [List.take_of_length_le (by simp)]
     unfold wS
     rw [decide_eq_true (by omega:1≤z.length∧z.length≤8),Bool.true_and,List.all_map]
     rfl
    rw [e]
    exact kk _ (qH hD _)
inductive LnB (H:Hp):V→Bool→Prop where
 | int (i:Int):LnB H (.int i) (decide (1≤i))
 | no {x:V} (h:NoW H x):LnB H x false
inductive CfB (K:W.Frag)(H:Hp):V→Bool→Prop where
 | no {x:V} {t:Value} (ty:qBw K H x t) (e:W.kitOne K t (.type "tuple")=some false):CfB K H x false
 | len {z:Addr} {xs:List V} (e:H z=some (.tup xs)) (h:xs.length≠5):CfB K H (.ref z) false
 | word {z:Addr} {x0 x1 x2 x3 x4:V} (e:H z=some (.tup [x0,x1,x2,x3,x4])) (hs:qOg x0 (.str "clip")=true) (hn:x0≠ .str "clip"):CfB K H (.ref z) false
 | nm {z:Addr} {x1 x2 x3 x4:V} (e:H z=some (.tup [.str "clip",x1,x2,x3,x4])) (h:NmB K H x1 false):CfB K H (.ref z) false
 | st {z:Addr} {x1 x2 x3 x4:V} (e:H z=some (.tup [.str "clip",x1,x2,x3,x4])) (h1:NmB K H x1 true) (h2:FrB K H x2 false):CfB K H (.ref z) false
 | sp {z:Addr} {x1 x2 x3 x4:V} (e:H z=some (.tup [.str "clip",x1,x2,x3,x4])) (h1:NmB K H x1 true) (h2:FrB K H x2 true) (h3:FrB K H x3 false):CfB K H (.ref z) false
 | ln {z:Addr} {x1 x2 x3 x4:V} {b:Bool} (e:H z=some (.tup [.str "clip",x1,x2,x3,x4])) (h1:NmB K H x1 true) (h2:FrB K H x2 true) (h3:FrB K H x3 true) (h4:LnB H x4 b):CfB K H (.ref z) b
theorem LnB.wh {H:Hp}{x:V}{b:Bool}(h:LnB H x b):(∃ i:Int,x= .int i∧b=decide (1≤i))∨(NoW H x∧b=false):=by
 cases h with
 | int i=>exact .inl ⟨i,rfl,rfl⟩
 | no h=>exact .inr ⟨h,rfl⟩
inductive wU (K:W.Frag)(vs:List V)(H:Hp)(Q:VK)(_:XK):Prop
| mk (v:V) (b:Bool) (_:vs=[v]) (_:CfB K H v b) (_:∀ H',Same H H'→Q (.bl b) H')
theorem wN (T:Tx K mg a):FnOk P w K mg base CX0 3 a.A11 a.B11 ["item"] (wU K):=by
 refine T.D11.F.ok wW (fun vs H Q E h=>?_) (fun cdv A outer s H vs Q E hr h=>?_)
 · obtain⟨v,b,rfl,_⟩:=h
   rfl
 refine qR fun _ Y=>?_
 obtain⟨v,b,rfl,hv,kk⟩:=h
 apply Y
 refine⟨_,(qC (qW (PW.pt (jW (qi (qc (qQ qZ rfl T.b_isinstance rfl (qA (pv 0) (qA (zG rfl T.b_tuple rfl) qB))))) (jH (qJ xn (qQ qY rfl T.b_len rfl (qA (pv 0) qB)) qE (qO _))))) (qD (qN jn)) qL)
  (qC (qW (PW.pt (jW (qJ xn (qP (pv 0)) qV (qO _)) (jH (qi (qc (qI T.D10 (xP T) hr rfl (qA (qP (pv 0)) qB))))))) (qD (qN jn)) qL)
  (qC (qW (PW.pt (jW (qi (qc (qI T.D2 (kK T) hr rfl (qA (qP (pv 0)) qB)))) (jH (qi (qc (qI T.D2 (kK T) hr rfl (qA (qP (pv 0)) qB))))))) (qD (qN jn)) qL)
  (qD (qN (xL (qI T.D0 (qt T) hr rfl (qA (qP (pv 0)) qB)) (zL (jK qA6 (qP (pv 0)) qE (qO _))))))))),?_⟩
 try dsimp only [jV,qg]
 have five:∀ {z:Addr} {x1 x2 x3 x4:V} {H':Hp},H z=some (.tup [.str "clip",x1,x2,x3,x4])→Same H H'→SqT K H' z [.str "clip",x1,x2,x3,x4]:=fun e s=>SqT.of (s _ _ e)
 cases hv with
 | no ty e=>exact⟨_,rfl,_,_,_,false,rfl,ty,⟨_,.inl ⟨rfl,e⟩⟩,false,rfl,jS (jS (kk H (Same.refl _)))⟩
 | @len z xs e h=>
  refine⟨_,rfl,_,_,_,true,rfl,.tup e,⟨_,.inl ⟨rfl,by kernel_rfl⟩⟩,true,rfl,qp ?_⟩
  refine⟨_,rfl,_,_,rfl,.inr (SqT.of e),rfl,_,rfl,?_⟩
  have d:(!decide (V.int (xs.length:Int)=V.int 5))=true:=by
   have:¬ (V.int (xs.length:Int)=V.int 5):=fun z=>h (by injection z with z;omega)
   simp [this]
  rw [d]
  exact jS (kk H (Same.refl _))
 | @word z x0 x1 x2 x3 x4 e hs hn=>
  refine⟨_,rfl,_,_,_,true,rfl,.tup e,⟨_,.inl ⟨rfl,by kernel_rfl⟩⟩,true,rfl,qp ?_⟩
  refine⟨_,rfl,_,_,rfl,.inr (SqT.of e),rfl,_,rfl,qp ?_⟩
  refine(ixO e qHq ⟨hs,_,rfl,?_⟩)
  rw [show (!decide (x0=V.str "clip"))=true by simp [hn]]
  exact jS (jS (kk H (Same.refl _)))
 | @nm z x1 x2 x3 x4 e h=>
  refine⟨_,rfl,_,_,_,true,rfl,.tup e,⟨_,.inl ⟨rfl,by kernel_rfl⟩⟩,true,rfl,qp ?_⟩
  refine⟨_,rfl,_,_,rfl,.inr (SqT.of e),rfl,_,rfl,qp ?_⟩
  refine(ixO e qHq ⟨rfl,_,rfl,qIe rfl ?_⟩)
  exact(ixO e qCy ⟨x1,false,rfl,h,fun H1 s1=>⟨false,rfl,jS (kk H1 s1)⟩⟩)
 | @st z x1 x2 x3 x4 e h1 h2=>
  refine⟨_,rfl,_,_,_,true,rfl,.tup e,⟨_,.inl ⟨rfl,by kernel_rfl⟩⟩,true,rfl,qp ?_⟩
  refine⟨_,rfl,_,_,rfl,.inr (SqT.of e),rfl,_,rfl,qp ?_⟩
  refine(ixO e qHq ⟨rfl,_,rfl,qIe rfl ?_⟩)
  refine(ixO e qCy ⟨x1,true,rfl,h1,fun H1 s1=>⟨true,rfl,qp ?_⟩⟩)
  exact⟨_,rfl,_,_,_,_,rfl,rfl,five e s1,qKl,x2,false,rfl,h2.same s1,false,rfl,jS (jS (kk H1 s1))⟩
 | @sp z x1 x2 x3 x4 e h1 h2 h3=>
  refine⟨_,rfl,_,_,_,true,rfl,.tup e,⟨_,.inl ⟨rfl,by kernel_rfl⟩⟩,true,rfl,qp ?_⟩
  refine⟨_,rfl,_,_,rfl,.inr (SqT.of e),rfl,_,rfl,qp ?_⟩
  refine(ixO e qHq ⟨rfl,_,rfl,qIe rfl ?_⟩)
  refine(ixO e qCy ⟨x1,true,rfl,h1,fun H1 s1=>⟨true,rfl,qp ?_⟩⟩)
  refine⟨_,rfl,_,_,_,_,rfl,rfl,five e s1,qKl,x2,true,rfl,h2.same s1,true,rfl,qp ?_⟩
  exact⟨_,rfl,_,_,_,_,rfl,rfl,five e s1,qIz,x3,false,rfl,h3.same s1,false,rfl,jS (kk H1 s1)⟩
 | @ln z x1 x2 x3 x4 b e h1 h2 h3 h4=>
  refine⟨_,rfl,_,_,_,true,rfl,.tup e,⟨_,.inl ⟨rfl,by kernel_rfl⟩⟩,true,rfl,qp ?_⟩
  refine⟨_,rfl,_,_,rfl,.inr (SqT.of e),rfl,_,rfl,qp ?_⟩
  refine(ixO e qHq ⟨rfl,_,rfl,qIe rfl ?_⟩)
  refine(ixO e qCy ⟨x1,true,rfl,h1,fun H1 s1=>⟨true,rfl,qp ?_⟩⟩)
  refine⟨_,rfl,_,_,_,_,rfl,rfl,five e s1,qKl,x2,true,rfl,h2.same s1,true,rfl,qp ?_⟩
  refine⟨_,rfl,_,_,_,_,rfl,rfl,five e s1,qIz,x3,true,rfl,h3.same s1,true,rfl,qp ?_⟩
  rcases h4.wh with ⟨i,rfl,rfl⟩ | ⟨h5,rfl⟩
  · refine⟨_,rfl,_,_,_,_,rfl,rfl,five e s1,qF5,_,true,rfl,.int i,true,rfl,jS ?_⟩
    exact⟨_,rfl,_,_,_,_,rfl,rfl,five e s1,qF5,_,_,rfl,rfl,kk H1 s1⟩
  · exact⟨_,rfl,_,_,_,_,rfl,rfl,five e s1,qF5,x4,false,rfl,.no (h5.same s1),false,rfl,qp (kk H1 s1)⟩
structure GF (n:Str)(p q r s len:Int):Prop where
 hn:wS n=true
 hl:n.length≤1000
 hb:Bn 700 p q r s
 gq:Int.gcd p q=1
 gs:Int.gcd r s=1
 l1:1≤len
 bl:len.natAbs < 2 ^ 30
theorem Ch.form {H:Hp}{z:Addr}{n:Str}{p q r s len:Int}(h:Ch H z n p q r s len)(g:GF n p q r s len):CfB K H (.ref z) true:=by
 obtain⟨z1,z2,e0,e1,e2⟩:=h.ex
 have d1:(decide (1≤q) && decide (Int.gcd p q=1))=true:=by have:=g.hb.q0;rw [g.gq];simp;omega
 have d2:(decide (1≤s) && decide (Int.gcd r s=1))=true:=by have:=g.hb.s0;rw [g.gs];simp;omega
 have d3:decide (1≤len)=true:=decide_eq_true g.l1
 have f0:=NmB.str (K:=K) (H:=H) n g.hl
 have f1:=FrB.nums (K:=K) e1
 have f2:=FrB.nums (K:=K) e2
 have f3:=LnB.int (H:=H) len
 rw [g.hn] at f0
 rw [d1] at f1
 rw [d2] at f2
 rw [d3] at f3
 exact .ln e0 f0 f1 f2 f3
inductive ItB (K:W.Frag)(H:Hp):V→Addr→Bool→Prop where
 | form {v:V} {rd:Addr} (h:CfB K H v false):ItB K H v rd false
 | reel {z rd:Addr} {kvs:List (Key × V)} {n:Str} {p q r s len:Int} (hc:Ch H z n p q r s len) (g:GF n p q r s len) (hk:H rd=some (.dK kvs)) (hv:qGi kvs (Sum.inr n)=none):ItB K H (.ref z) rd false
 | pics {z rd:Addr} {n:Str} {p q r s len m:Int} {b:Bool} (hc:Ch H z n p q r s len) (g:GF n p q r s len) (hr:Reel H rd n m) (hb:b=true↔InR (Vk p q r s 0) (q*s) m∧InR (Vk p q r s (len - 1)) (q*s) m):ItB K H (.ref z) rd b
inductive qBo (K:W.Frag)(N:Addr)(vs:List V)(H:Hp)(Q:VK)(E:XK):Prop
| mk (v:V) (rd:Addr) (b:Bool) (_:vs=[v,.ref rd]) (_:ItB K H v rd b) (_:(b=true→∀ H',Same H H'→Q .non H')) (_:(b=false→∀ H',Same H H'→E (.ref N) none H'))
theorem qBa (T:Tx K mg a):FnOk P w K mg base (CXR P w) 6 a.A15 a.B15 ["item","reels"] (qBo K a.k_NoClip):=by
 refine okX T.D15.F vQ (fun vs H Q E h=>?_) (fun cdv A outer s H vs Q E hr h=>?_)
 · obtain⟨v,rd,b,rfl,_⟩:=h
   rfl
 refine qR fun _ Y=>?_
 obtain⟨v,rd,b,rfl,hv,kg,kb⟩:=h
 apply Y
 have hu1:=wu hr
 refine⟨_,(qC (qW (qi (qc (qI T.D11 (wN T) hr rfl (qA (pv 0) qB)))) (qD (qz rfl rfl T.c_NoClip T.x_NoClip (qA qV qB))) qL)
  (qC (qW (wD (qEx hu1 (qP (pv 0)) (pv 1))) (qD (qz rfl rfl T.c_NoClip T.x_NoClip (qA qV qB))) qL)
  (qC (qd 2 vQ.nd (kN hu1 (pv 1) (qP (pv 0)) (fun _ _=>rfl)))
  (qD (qW (PW.pt (jW (qi (qc (qI T.D14 (kj T) hr rfl (qA (qI T.D13 (vO T) hr rfl (qA (pv 0) (qA qE qB))) (qA (pv 2) qB))))) (jH (qi (qc (qI T.D14 (kj T) hr rfl (qA (qI T.D13 (vO T) hr rfl (qA (pv 0) (qA (qK jA (qP (pv 0)) qE) qB))) (qA (pv 2) qB)))))))) (qD (qz rfl rfl T.c_NoClip T.x_NoClip (qA qV qB))) qL))))),?_⟩
 try dsimp only [jV,qg]
 have one:(1:Nat)≤sizeLine:=by decide
 cases hv with
 | form h=>exact⟨_,rfl,v,false,rfl,h,fun H1 s1=>⟨false,rfl,jS ⟨one,kb rfl H1 s1⟩⟩⟩
 | @reel z rd kvs n p q r s' len hc g hk hv=>
  refine⟨_,rfl,_,true,rfl,hc.form g,fun H1 s1=>⟨true,rfl,qp ?_⟩⟩
  refine qR fun _ Y=>?_
  obtain⟨z1,z2,e0,_,_⟩:=(hc.same s1).ex
  apply Y
  have t1:SqT K H1 z [.str "clip",.str n,.ref z1,.ref z2,.int len]:=SqT.of e0
  refine⟨_,rfl,z,_,_,_,rfl,rfl,t1,qCy,_,rfl,rd,none,rfl,.inl ⟨kvs,Sum.inr n,.inl (s1 _ _ hk),rfl,hv.symm⟩,_,rfl,jS ?_⟩
  exact⟨one,kb rfl H1 s1⟩
 | @pics z rd n p q r s' len m b hc g hrd hb=>
  have hqs:=Int.mul_pos g.hb.q0 g.hb.s0
  have h0:∀ {H':Hp},Same H H'→∃ z1 z2,SqT K H' z [.str "clip",.str n,.ref z1,.ref z2,.int len]:=fun e=>let ⟨z1,z2,h1,_,_⟩:=(hc.same e).ex;⟨z1,z2,SqT.of h1⟩
  refine⟨_,rfl,_,true,rfl,hc.form g,fun H1 s1=>⟨true,rfl,qp ?_⟩⟩
  refine qR fun _ Y=>?_
  obtain⟨z1,z2,t1⟩:=h0 s1
  apply Y
  refine⟨_,rfl,z,_,_,_,rfl,rfl,t1,qCy,_,rfl,rd,_,rfl,(hrd.same s1).get,_,rfl,qp ?_⟩
  refine⟨_,rfl,_,rfl,z,_,_,_,rfl,rfl,t1,qCy,rd,_,rfl,(hrd.same s1).get,?_⟩
  refine⟨_,rfl,_,n,p,q,r,s',len,0,rfl,(hc.same s1).cp,g.hb.q0,g.hb.s0,g.hb.bp,g.hb.bq,g.hb.br,g.hb.bs,vF (n:=30) (by decide),fun H2 s2=>?_⟩
  have s2:=s1.trans s2
  refine⟨_,rfl,_,m,rfl,_,rfl,?_⟩
  have no:∀ k:Int,¬ InR (Vk p q r s' k) (q*s') m→thB ((p*s'+k*r*q).fdiv (q*s')) m=false:=fun k i0=>by
   rw [Bool.eq_false_iff]
   intro z
   exact i0 ((qGd hqs).mp z)
  by_cases i0:InR (Vk p q r s' 0) (q*s') m
  rotate_left
  · rw [no 0 i0]
    have bf:b=false:=by rw [Bool.eq_false_iff];intro z;exact i0 (hb.mp z).1
    exact jS (jS ⟨one,kb bf H2 s2⟩)
  have e:thB ((p*s'+0*r*q).fdiv (q*s')) m=true:=(qGd hqs).mpr i0
  rw [e]
  refine qp ?_
  refine qR fun _ Y=>?_
  obtain⟨z1,z2,t2⟩:=h0 s2
  apply Y
  have bl1:(len - 1).natAbs < 2 ^ 700:=by
   have e:(2:Nat) ^ 30≤2 ^ 700:=Nat.pow_le_pow_right (by decide) (by decide)
   have:=g.bl
   have:=g.l1
   omega
  refine⟨_,rfl,_,rfl,z,_,_,_,rfl,rfl,t2,qF5,_,_,rfl,rfl,_,n,p,q,r,s',len,len - 1,rfl,(hc.same s2).cp,g.hb.q0,g.hb.s0,g.hb.bp,g.hb.bq,g.hb.br,g.hb.bs,bl1,fun H3 s3=>?_⟩
  have s3:=s2.trans s3
  refine⟨_,rfl,_,m,rfl,_,rfl,?_⟩
  by_cases i1:InR (Vk p q r s' (len - 1)) (q*s') m
  · have e:thB ((p*s'+(len - 1)*r*q).fdiv (q*s')) m=true:=(qGd hqs).mpr i1
    rw [e]
    exact qp (kg (hb.mpr ⟨i0,i1⟩) H3 s3)
  · rw [no _ i1]
    have bf:b=false:=by rw [Bool.eq_false_iff];intro z;exact i1 (hb.mp z).2
    exact jS ⟨one,kb bf H3 s3⟩
abbrev Rls:=Str→Option Int
def ReelsAt (H:Hp)(rd:Addr)(rl:Rls):Prop:=∀ n N,rl n=some N→Reel H rd n N
theorem ReelsAt.same {H H':Hp}{rd:Addr}{rl:Rls}(e:Same H H')(h:ReelsAt H rd rl):ReelsAt H' rd rl:=fun n N q=>(h n N q).same e
theorem qC1 (T:Tx K mg a):FnOk P w K mg base CX0 1 a.fi_Short a.gi_Short ["self","most"] (qF8 a.k_Short "most"):=by
 refine T.i_Short.ok qH9 (fun vs H Q E h=>?_) (fun cdv A outer s H vs Q E hr h=>?_)
 · obtain⟨e,v,rfl,_⟩:=h
   rfl
 refine qR fun _ Y=>?_
 obtain⟨e,v,rfl,he,kk⟩:=h
 apply Y
 refine⟨_,qD (qL1 (pv 0) (pv 1)),?_⟩
 exact⟨_,rfl,_,rfl,e,_,_,rfl,he,T.m_Short.ov,T.m_Short.hd,T.m_Short.sa,T.tk_Short,kk⟩
inductive Nu (H:Hp):V→Option Int→Prop where
 | int (i:Int):Nu H (.int i) (some i)
 | no {x:V} (h:NoW H x):Nu H x none
theorem Nu.same {H H':Hp}(s:Same H H'){x:V}{o:Option Int}:Nu H x o→Nu H' x o
 | .int i=>.int i
 | .no h=>.no (h.same s)
def qJ8 (L:Nat)(n t:Option Int):Bool:=match n,t with
 | some i,some m=>decide (0≤i) && decide (i < L) && decide (0≤m)
 | _,_=>false
inductive wf (N:Addr)(vs:List V)(H:Hp)(Q:VK)(E:XK):Prop
| mk (tz tl td:Addr) (zs:List V) (n t:V) (on ot:Option Int) (_:vs=[.ref tz,n,t]) (_:H tz=some (.tup [.ref tl,.ref td])) (_:H tl=some (.lst zs)) (_:Nu H n on) (_:Nu H t ot) (_:(qJ8 zs.length on ot=false→E (.ref N) none H)) (_:(qJ8 zs.length on ot=true→Q .non H))
theorem qAz (T:Tx K mg a):FnOk P w K mg base (CXR P w) 2 a.A44 a.B44 ["table","number","moment"] (wf a.k_NoPlace):=by
 refine okX T.D44.F qBm (fun vs H Q E h=>?_) (fun cdv A outer s H vs Q E hr h=>?_)
 · obtain⟨tz,tl,td,zs,n,t,on,ot,rfl,_⟩:=h
   rfl
 refine qR fun _ Y=>?_
 obtain⟨tz,tl,td,zs,n,t,on,ot,rfl,htz,htl,hn,ht,kb,kg⟩:=h
 apply Y
 refine⟨_,(qC (qW (PW.pt (jW (qi (qc (qI T.D0 (qt T) hr rfl (qA (pv 1) qB)))) (jW (qJ kD (pv 1) qE (qO _)) (jH (qJ qA6 (pv 1) (qQ qY rfl T.b_len rfl (qA (qP (pv 0)) qB)) (qO _)))))) (qD (qz rfl rfl T.c_NoPlace T.x_NoPlace (qA qV qB))) qL)
  (qD (qW (PW.pt (jW (qi (qc (qI T.D0 (qt T) hr rfl (qA (pv 2) qB)))) (jH (qJ kD (pv 2) qE (qO _))))) (qD (qz rfl rfl T.c_NoPlace T.x_NoPlace (qA qV qB))) qL))),?_⟩
 try dsimp only [jV,qg]
 have one:(1:Nat)≤sizeLine:=by decide
 cases hn with
 | no h=>
  have kb:=kb (by unfold qJ8;cases ot <;> rfl)
  exact⟨_,rfl,n,false,rfl,.no h,false,rfl,jS (jS ⟨one,kb⟩)⟩
 | int n=>
 refine⟨_,rfl,_,true,rfl,.int n,true,rfl,qp ?_⟩
 refine⟨_,rfl,_,_,rfl,rfl,_,rfl,jx (fun c=>?_) (fun c=>?_)⟩
 · have hc:n < 0:=by simpa using c
   have kb:=kb (by
    unfold qJ8
    cases ot with
    | none=>rfl
    | some m=>dsimp only;rw [decide_eq_false (show ¬ 0≤n by omega)];rfl)
   exact jS ⟨one,kb⟩
 have h0:¬ n < 0:=by simpa using c
 refine⟨_,rfl,ixO htz at0 ⟨tl,_,rfl,.inl (SqL.of htl),_,_,rfl,rfl,_,rfl,jx (fun c=>?_) (fun c=>?_)⟩⟩
 · have hc:(zs.length:Int)≤n:=by simpa using c
   have kb:=kb (by
    unfold qJ8
    cases ot with
    | none=>rfl
    | some m=>dsimp only;rw [decide_eq_false (show ¬ n < zs.length by omega),Bool.and_false];rfl)
   exact⟨one,kb⟩
 have h1:¬ (zs.length:Int)≤n:=by simpa using c
 cases ht with
 | no h=>
  have kb:=kb rfl
  exact⟨_,rfl,t,false,rfl,.no h,false,rfl,jS (jS ⟨one,kb⟩)⟩
 | int m=>
 refine⟨_,rfl,_,true,rfl,.int m,true,rfl,qp ?_⟩
 have e:qJ8 zs.length (some n) (some m)=decide (0≤m):=by
  unfold qJ8
  dsimp only
  rw [decide_eq_true (show 0≤n by omega),decide_eq_true (show n < zs.length by omega)]
  rfl
 rw [e] at kb kg
 refine⟨_,rfl,_,_,rfl,rfl,_,rfl,jx (fun c=>?_) (fun c=>?_)⟩
 · have hc:m < 0:=by simpa using c
   exact⟨one,kb (decide_eq_false (by omega))⟩
 · have hc:¬ m < 0:=by simpa using c
   exact kg (decide_eq_true (by omega))
def kz (p q r s l N:Int):Int:=xF (plP p q r s l*s) (1*r*plQ p q r s l) (plQ p q r s l*s) N
def ku (p q r s N:Int):Int:=xF (plP p q r s (-1)*s) (-1*r*plQ p q r s (-1)) (plQ p q r s (-1)*s) N
structure Rc (n:Str)(p q r s l:Int)(rl:Rls)(N:Int):Prop where
 g1:qJj 110 p q
 g2:qJj 110 r s
 bl:l.natAbs < 2 ^ 30
 l1:1≤l
 rn:rl n=some N
 bN:N.natAbs < 2 ^ 700
theorem Rc.bn {n:Str}{p q r s l N:Int}{rl:Rls}(h:Rc n p q r s l rl N):Bn 110 p q r s:=⟨h.g1.1,h.g2.1,h.g1.2.2.1,h.g1.2.2.2,h.g2.2.2.1,h.g2.2.2.2⟩
theorem qMc {n i:Nat}(h:i < n):ixN n (i:Int)=some i:=by
 unfold ixN
 rw [if_pos (by omega),if_pos (by omega)]
 congr 1
structure NewTab (H H':Hp)(t:Addr)(ts:List (List Im))(tie:List Int):Prop where
 ex:∃ (tl ti:Addr) (zs:List V),H' t=some (.tup [.ref tl,.ref ti])∧H' tl=some (.lst zs)∧TrsAt H' ts zs∧H' ti=some (.lst (tie.map V.int))∧H tl=none∧H ti=none∧tl≠ti∧∀ b,V.ref b∈zs→H b=none∧b≠tl∧b≠ti
theorem TrsAt.set {H:Hp}:∀ {ts:List (List Im)} {vs:List V} {i:Nat} {ms:List Im} {z:Addr},TrsAt H ts vs→Tr H z ms→TrsAt H (ts.set i ms) (vs.set i (.ref z))
 | [],[],_,_,_,_,_=>trivial
 | _::_,_::_,0,_,z,h,h'=>⟨⟨z,rfl,h'⟩,h.2⟩
 | _::_,_::_,_+1,_,_,h,h'=>⟨h.1,h.2.set h'⟩
 | [],_::_,_,_,_,h,_=>h.elim
 | _::_,[],_,_,_,h,_=>h.elim
theorem TrsAt.refs {H:Hp}:∀ {ts:List (List Im)} {vs:List V} {b:Addr},TrsAt H ts vs→V.ref b∈vs→∃ xs,H b=some (.lst xs)
 | [],[],_,_,h=>by simp at h
 | _::_,_::_,b,⟨⟨z,h1,⟨xs,h2,_⟩⟩,r⟩,h=>by
  rcases List.mem_cons.mp h with h | h
  · rw [h1] at h
    cases h
    exact⟨xs,h2⟩
  · exact TrsAt.refs r h
 | [],_::_,_,h,_=>h.elim
 | _::_,[],_,h,_=>h.elim
inductive qCz (vs:List V)(H:Hp)(Q:VK)(_:XK):Prop
| mk (tz y:Addr) (n:Nat) (ts:List (List Im)) (tie:List Int) (ms:List Im) (_:vs=[.ref tz,.int (n:Int),.ref y]) (_:TabF H (.ref tz) ts tie) (_:Tr H y ms) (_:n < ts.length) (_:ts.length≤300) (_:∀ (t:Addr) (H':Hp),Same H H'→(∀ H0:Hp,Same H0 H→H0 y=none→NewTab H0 H' t (ts.set n ms) tie)→Q (.ref t) H')
theorem qC6 (T:Tx K mg a):FnOk P w K mg base CX0 1 a.A55 a.B55 ["table","number","track"] qCz:=by
 refine T.D55.F.ok vN (fun vs H Q E h=>?_) (fun cdv A outer s H vs Q E hr h=>?_)
 · obtain⟨tz,y,n,ts,tie,ms,rfl,_⟩:=h
   rfl
 refine qR fun _ Y=>?_
 obtain⟨tz,y,n,ts,tie,ms,rfl,⟨tt,tl,ti,zs,e0,h2,h3,h4,h5⟩,hy,hn,hl,kk⟩:=h
 cases e0
 apply Y
 have hzl:=h4.len
 refine⟨_,(qC (qFg (i:=3) [] [] vN.nd rfl rfl rfl (je (qP (pv 0))) (fun _ _ _ _=>(qAi (vC (K:=K) rfl) rfl T.b_list rfl (qA (pv 0) qB))))
  (qC (qNq (pv 2) (qMy (pv 3) (pv 1) qKc))
  (qD (qN (jO (qA (pv 3) (qA (qAi wI rfl T.b_list rfl (qA (qP (pv 0)) qB)) qB))))))),?_⟩
 try dsimp only [jV,qg]
 refine(ixO h2 at0 ⟨tl,rfl,⟨_,SqL.of h3⟩,vA (K:=K) (a:=tl) (xs:=zs) (fun j acc H2=>TrsAt H2 (ts.take j) acc∧Same H H2∧∀ b,V.ref b∈acc→H b=none) ⟨trivial,Same.refl _,fun b z=>absurd z (by simp)⟩ ?_ ?_ ?_⟩)
 · rintro j acc H2 hj ⟨ht,e2,_⟩
   exact⟨SqL.of (e2 _ _ h3),qo (by rw [ht.len,List.length_take];omega)⟩
 · rintro j x acc H2 hj hx ⟨ht,e2,fr⟩
   refine qR fun _ Y=>?_
   obtain⟨ms1,z,hms,rfl,us,hz,his⟩:=h4.get hx
   apply Y
   refine⟨_,rfl,z,us,rfl,.inl (SqL.of (e2 _ _ hz)),fun l hl'=>Nxt.mk hj ⟨?_,e2.trans (qH hl' _),fun b hb=>?_⟩⟩
   · have w3:=qH hl' (.lst us)
     have etk:ts.take (j+1)=ts.take j++[ms1]:=by rw [List.take_add_one,hms];rfl
     rw [etk]
     exact qId (ht.same w3) ⟨us,qF,his.ts (qr (e2.trans w3))⟩
   · rcases List.mem_append.mp hb with hb | hb
     · exact fr b hb
     · have:b=l:=by simpa using hb
       subst this
       cases q0:H b with
       | none=>rfl
       | some o=>rw [e2 _ _ q0] at hl';cases hl'
 rintro acc H2 ⟨ht,e2,fr⟩ d hd
 rw [hzl,List.take_length] at ht
 have hal:=ht.len
 have w3:=qH hd (.lst acc)
 have e3:=e2.trans w3
 have hd0:H d=none:=by
  cases q0:H d with
  | none=>rfl
  | some o=>rw [e2 _ _ q0] at hd;cases hd
 refine⟨_,rfl,_,rfl,_,rfl,d,acc,_,n,rfl,rfl,qF,qMc (by rw [hal];exact hn),?_⟩
 have uu:upd (upd H2 d (.lst acc)) d (.lst (acc.set n (.ref y)))=upd H2 d (.lst (acc.set n (.ref y))):=by
  funext b
  by_cases hb:b=d
  · rw [hb,qF,qF]
  · rw [qU hb,qU hb,qU hb]
 rw [uu]
 have w4:=qH hd (.lst (acc.set n (.ref y)))
 have e4:=e2.trans w4
 have hd4:upd H2 d (.lst (acc.set n (.ref y))) d=some (.lst (acc.set n (.ref y))):=qF
 have ht4:TrsAt (upd H2 d (.lst (acc.set n (.ref y)))) (ts.set n ms) (acc.set n (.ref y)):=(ht.same w4).set (hy.same e4)
 have nd:∀ b,V.ref b∈acc→b≠d:=fun b hb z=>by
  obtain⟨xs,q0⟩:=ht.refs hb
  rw [z,hd] at q0;cases q0
 have ny:y≠d:=fun z=>by
  obtain⟨us,q0,_⟩:=id hy
  rw [z,hd0] at q0;cases q0
 generalize upd H2 d (.lst (acc.set n (.ref y)))=H4 at w4 e4 hd4 ht4 ⊢
 refine⟨_,rfl,ixO (e4 _ _ h2) at1 ⟨ti,_,rfl,.inl (SqL.of (e4 _ _ h5)),fun l hl'=>?_⟩⟩
 have w5:=qH hl' (.lst (tie.map V.int))
 have e5:=e4.trans w5
 refine⟨sL2,fun t ht'=>?_⟩
 have w6:=qH ht' (.tup [.ref d,.ref l])
 refine kk t _ (e5.trans w6) fun H0 s0 y0=>?_
 have back:∀ b,H b=none→H0 b=none:=fun b hb=>by
  cases q0:H0 b with
  | none=>rfl
  | some o=>rw [s0 _ _ q0] at hb;cases hb
 have hl0:H l=none:=by
  cases q0:H l with
  | none=>rfl
  | some o=>rw [e4 _ _ q0] at hl';cases hl'
 have dl:d≠l:=fun z=>by rw [← z,hd4] at hl';cases hl'
 refine⟨d,l,_,qF,w6 _ _ (w5 _ _ hd4),(ht4.same w5).same w6,w6 _ _ qF,back _ hd0,back _ hl0,dl,fun b hb=>?_⟩
 obtain⟨xs,q0⟩:=ht4.refs hb
 have bl:b≠l:=fun z=>by rw [z,hl'] at q0;cases q0
 rcases List.mem_or_eq_of_mem_set hb with hb | hb
 · exact⟨back _ (fr b hb),nd b hb,bl⟩
 · cases hb
   exact⟨y0,ny,bl⟩
theorem qNj {x0 x1 x2 x3:V}:atI [x0,x1,x2,x3] 1=some x1:=rfl
theorem qNx {x0 x1 x2 x3:V}:atI [x0,x1,x2,x3] 2=some x2:=rfl
theorem qN0 {x0 x1 x2 x3:V}:atI [x0,x1,x2,x3] 3=some x3:=rfl
def Pos (ms:List Im):Prop:=∀ m∈ms,0 < m.mo∧m.wd≠"mix"
def Wd3 (wd:Str):Prop:=wd="roll"∨wd="slip"∨wd="slide"
theorem zo {ms:List Im}{x:Int}(h:jp ms x="clip"):∃ (i:Nat) (n:Str) (p q r s l:Int),x=(i:Int)∧ms[i]? =some (.clip n p q r s l):=by
 unfold jp at h
 split at h
 · exact absurd h (by decide+kernel)
 · rename_i h0
   cases hm:ms[x.toNat]? with
   | none=>rw [hm] at h;exact absurd h (by decide+kernel)
   | some m=>
    rw [hm] at h
    dsimp only at h
    cases m with
    | clip n p q r s l=>exact⟨x.toNat,n,p,q,r,s,l,by omega,hm⟩
    | gap=>exact absurd (show ("gap":Str)="clip" from h) (by decide+kernel)
    | nest=>exact absurd (show ("nest":Str)="clip" from h) (by decide+kernel)
    | mix=>exact absurd (show ("mix":Str)="clip" from h) (by decide+kernel)
def xN (ms:List Im)(x:Int):Im:=(ms[x.toNat]?).getD (.gap 0)
def ItR (rl:Rls)(m:Im):Prop:=∀ n p q r s l,m= .clip n p q r s l→∃ N,Rc n p q r s l rl N
structure RollIn (H:Hp)(tz dz rd:Addr)(ts:List (List Im))(tie:List Int)(wd:Str)(n t b:V)(on ot ob:Option Int)(rl:Rls):Prop where
 tab:TabF H (.ref tz) ts tie
 deed:H dz=some (.tup [.str wd,n,t,b])
 hn:Nu H n on
 ht:Nu H t ot
 hb:Nu H b ob
 w3:Wd3 wd
 tl:ts.length≤300
 it:∀ ms∈ts,ms.length≤300∧∀ m∈ms,ItR rl m
 re:ReelsAt H rd rl
def ImB (m:Im):Prop:=match m with
 | .clip _ p q r s _=>Bn 700 p q r s
 | _=>True
def MsB (ms:List Im):Prop:=(∀ m∈ms,ImB m∧0≤m.mo)∧ms.length≤300
inductive Dk where
 | cut (t:Int)
 | hel (t:Int)
 | opn (t l:Int)
 | cls (t u:Int)
 | lft (t u:Int)
 | lin (t:Int) (m:Im)
 | lov (t:Int) (m:Im)
def Dk.wd:Dk→Str
 | .cut _=>"cut"
 | .hel _=>"heal"
 | .opn .. =>"open"
 | .cls .. =>"close"
 | .lft .. =>"lift"
 | .lin .. =>"lay_in"
 | .lov .. =>"lay_over"
def Dk.hi:Dk→Int
 | .cut t=>t
 | .hel t=>t
 | .opn t _=>t
 | .cls _ u=>u
 | .lft _ u=>u
 | .lin t _=>t
 | .lov t m=>t+m.mo
def Dk.push:Dk→Bool
 | .opn .. =>true
 | .cls .. =>true
 | .lin .. =>true
 | _=>false
theorem qOw {w:Str}{ws:List V}{b:Bool}(h:inV (.str w) ws=b):V.bl (if false=true then !inV (.str w) ws else inV (.str w) ws)=V.bl b:=by
 rw [if_neg (by decide),h]
def chF (tie:List Int)(n:Int)(push:Bool):List Int:=if push=true∧n∈tie then n::tie.filter (fun x=>decide (x≠n)) else [n]
inductive qCg (vs:List V)(H:Hp)(Q:VK)(_:XK):Prop
| mk (l:Int) (_:vs=[.int l]) (_:Q (.int (l.fdiv 2)) H)
theorem vD (T:Tx K mg a):FnOk P w K mg base CX0 1 a.A37 a.B37 ["length"] qCg:=by
 refine T.D37.F.ok qDa (fun vs H Q E h=>?_) (fun cdv A outer s H vs Q E hr h=>?_)
 · obtain⟨l,rfl,_⟩:=h
   rfl
 refine qR fun _ Y=>?_
 obtain⟨l,rfl,kk⟩:=h
 apply Y
 refine⟨_,(qD (qN (qK qf (pv 0) qE))),?_⟩
 try dsimp only [jV,qg]
 exact⟨_,rfl,_,_,rfl,rfl,cdB (by decide) (by decide),kk⟩
inductive qBi (vs:List V)(H:Hp)(Q:VK)(_:XK):Prop
| mk (l:Int) (_:vs=[.int l]) (_:Q (.int (l - l.fdiv 2)) H)
theorem kL (T:Tx K mg a):FnOk P w K mg base CX0 1 a.A38 a.B38 ["length"] qBi:=by
 refine T.D38.F.ok qA9 (fun vs H Q E h=>?_) (fun cdv A outer s H vs Q E hr h=>?_)
 · obtain⟨l,rfl,_⟩:=h
   rfl
 refine qR fun _ Y=>?_
 obtain⟨l,rfl,kk⟩:=h
 apply Y
 refine⟨_,(qD (qN (qK jA (pv 0) (qK qf (pv 0) qE)))),?_⟩
 try dsimp only [jV,qg]
 exact⟨_,rfl,_,rfl,_,_,rfl,rfl,cdB (by decide) (by decide),_,_,rfl,rfl,kk⟩
def j6:Int→List Im→List (Int × Int × Int)
 | _,[]=>[]
 | b,.mix l::ms=>(b - l.fdiv 2,b,b+(l - l.fdiv 2))::j6 b ms
 | b,.clip _ _ _ _ _ l::ms=>j6 (b+l) ms
 | b,.nest _ _ l::ms=>j6 (b+l) ms
 | b,.gap l::ms=>j6 (b+l) ms
theorem zF {m:Im}(h:m.wd≠"mix")(b:Int)(ms:List Im):j6 b (m::ms)=j6 (b+m.mo) ms:=by
 cases m with
 | mix l=>exact absurd rfl h
 | _=>rfl
theorem wt:∀ (b:Int) (ms:List Im),(j6 b ms).length≤ms.length
 | _,[]=>by simp [j6]
 | b,m::ms=>by
  by_cases h:m.wd="mix"
  · obtain⟨l,rfl⟩:=qA3 h
    have:=wt b ms
    rw [j6,List.length_cons,List.length_cons];omega
  · have:=wt (b+m.mo) ms
    rw [zF h,List.length_cons];omega
def jR:Nat→List Im→List Nat
 | _,[]=>[]
 | i,.mix _::ms=>i::jR (i+1) ms
 | i,.clip _ _ _ _ _ _::ms=>jR (i+1) ms
 | i,.nest _ _ _::ms=>jR (i+1) ms
 | i,.gap _::ms=>jR (i+1) ms
theorem xG {m:Im}(h:m.wd≠"mix")(i:Nat)(ms:List Im):jR i (m::ms)=jR (i+1) ms:=by
 cases m with
 | mix l=>exact absurd rfl h
 | _=>rfl
def qO5:List Nat→List (Int × Int × Int)→Int→Option (Nat × Int)
 | p::ps,(x,_,z)::ss,t=>if x≤t∧t < z then some (p,t - x) else qO5 ps ss t
 | _,_,_=>none
def SpAt (H:Hp):List (Int × Int × Int)→List V→Prop
 | [],[]=>True
 | (x,y,z)::ss,v::vs=>(∃ p:Addr,v= .ref p∧H p=some (.tup [.int x,.int y,.int z]))∧SpAt H ss vs
 | _,_=>False
theorem SpAt.len {H:Hp}:∀ {ss:List (Int × Int × Int)} {vs:List V},SpAt H ss vs→vs.length=ss.length
 | [],[],_=>rfl
 | (_,_,_)::_,_::_,h=>by rw [List.length_cons,List.length_cons,SpAt.len h.2]
 | [],_::_,h=>h.elim
 | (_,_,_)::_,[],h=>h.elim
theorem SpAt.ts {H H':Hp}(e:TS H H'):∀ {ss:List (Int × Int × Int)} {vs:List V},SpAt H ss vs→SpAt H' ss vs
 | [],[],_=>trivial
 | (_,_,_)::_,_::_,⟨⟨p,h1,h2⟩,h⟩=>⟨⟨p,h1,e _ _ h2⟩,SpAt.ts e h⟩
 | [],_::_,h=>h.elim
 | (_,_,_)::_,[],h=>h.elim
theorem SpAt.app {H:Hp}:∀ {ss:List (Int × Int × Int)} {vs:List V} {ss':List (Int × Int × Int)} {vs':List V},SpAt H ss vs→SpAt H ss' vs'→SpAt H (ss++ss') (vs++vs')
 | [],[],_,_,_,h'=>h'
 | (_,_,_)::_,_::_,_,_,h,h'=>⟨h.1,h.2.app h'⟩
 | [],_::_,_,_,h,_=>h.elim
 | (_,_,_)::_,[],_,_,h,_=>h.elim
theorem SpAt.one {H:Hp}{x y z:Int}{p:Addr}(h:H p=some (.tup [.int x,.int y,.int z])):SpAt H [(x,y,z)] [.ref p]:=⟨⟨p,rfl,h⟩,trivial⟩
theorem SpAt.get {H:Hp}:∀ {ss:List (Int × Int × Int)} {vs:List V} {i:Nat} {v:V},SpAt H ss vs→vs[i]? =some v→∃ (x y z:Int) (p:Addr),ss[i]? =some (x,y,z)∧v= .ref p∧H p=some (.tup [.int x,.int y,.int z])
 | [],[],_,_,_,h=>by simp at h
 | (x,y,z)::_,u::_,0,v,h,e=>by
  have e':u=v:=by simpa using e
  subst e'
  obtain⟨⟨p,h1,h2⟩,_⟩:=h
  exact⟨x,y,z,p,rfl,h1,h2⟩
 | (_,_,_)::ss,_::vs,i+1,v,h,e=>by
  obtain⟨x,y,z,p,h1,h2⟩:=SpAt.get (i:=i) h.2 (by simpa using e)
  exact⟨x,y,z,p,by simpa using h1,h2⟩
 | [],_::_,_,_,h,_=>h.elim
 | (_,_,_)::_,[],_,_,h,_=>h.elim
inductive qDh (vs:List V)(H:Hp)(Q:VK)(_:XK):Prop
| mk (z:Addr) (ms:List Im) (_:vs=[.ref z]) (_:Tr H z ms) (_:ms.length≤300) (_:∀ (y:Addr) (us:List V) (H':Hp),Same H H'→H y=none→H' y=some (.lst us)→SpAt H' (j6 0 ms) us→Q (.ref y) H')
theorem qDl (T:Tx K mg a):FnOk P w K mg base CX0 2 a.A39 a.B39 ["track"] qDh:=by
 refine T.D39.F.ok jo (fun vs H Q E h=>?_) (fun cdv A outer s H vs Q E hr h=>?_)
 · obtain⟨z,ms,rfl,_⟩:=h
   rfl
 refine qR fun _ Y=>?_
 obtain⟨z,ms,rfl,⟨xs,hz,his⟩,hl,kk⟩:=h
 apply Y
 refine⟨_,(qC (qd 1 jo.nd (zM qB))
  (qC (qd 2 jo.nd qE)
  (qC (xD PassesOwn.never rfl (je (pv 0)) (qq (i:=3) jo.nd rfl (Or.inl rfl)) (qC (qW (qJ xY (qP (pv 3)) qV (qO _)) (qD (jL (qFm F.plainAttrs_list F.slot_list_append F.type_list_append zU (pv 1) (qA (jO (qA (qK jA (pv 2) (qI T.D37 (vD T) hr rfl (qA (qP (pv 3)) qB))) (qA (pv 2) (qA (qK qh (pv 2) (qI T.D38 (kL T) hr rfl (qA (qP (pv 3)) qB))) qB)))) qB)))) qL)
  (qD (qd 2 jo.nd (qK qh (pv 2) (qI T.D24 (vH T) hr rfl (qA (pv 3) qB)))))))
  (qD (qN (pv 1)))))),?_⟩
 try dsimp only [jV,qg]
 refine⟨sL0,fun y hy=>?_⟩
 refine⟨_,rfl,z,rfl,⟨_,SqL.of ((qH hy _) _ _ hz)⟩,xK (K:=K) (a:=z) (xs:=xs) (fun i σ H'=>∃ (b:Int) (as:List (Int × Int × Int)) (o:Option V) (us:List V),σ=[some (.ref z),some (.ref y),some (.int b),o]∧H' y=some (.lst us)∧SpAt H' as us∧as.length≤i∧as++j6 b (ms.drop i)=j6 0 ms∧Same H H')
  ⟨0,[],none,[],rfl,qF,trivial,by simp,rfl,qH hy _⟩ ?_ ?_ ?_⟩
 · rintro i σ H' hi ⟨b,as,o,us,rfl,_,_,_,_,e⟩
   exact SqL.of (e _ _ hz)
 · rintro i x σ H' hx ⟨b,as,o,us,rfl,hv,hsp,hal,hap,e⟩
   refine qR fun _ Y=>?_
   obtain⟨m,hm,hIx⟩:=his.get hx
   have hI:=hIx.ts (qr e)
   have hi:i < ms.length:=(glt hm)
   rw [zW hm] at hap
   obtain⟨zi,xi,rfl,hzi,h0,h1⟩:=hI.opn
   apply Y
   refine⟨_,rfl,zi,xi,_,_,rfl,rfl,SqT.of hzi,h0,rfl,_,rfl,jx (fun c=>?_) (fun c=>?_)⟩
   · obtain⟨l,rfl⟩:=qA3 (by simpa using c)
     refine qR fun _ Y=>?_
     obtain⟨z2,e2,hz2⟩:=id hI
     cases e2
     apply Y
     rw [j6] at hap
     refine⟨_,rfl,.inl ⟨rfl,_,SqL.of hv⟩,_,rfl,ixO hz2 at1 ⟨_,rfl,_,_,rfl,rfl,_,rfl,_,rfl,ixO hz2 at1 ⟨_,rfl,_,_,rfl,rfl,sL3,fun g hg=>?_⟩⟩⟩
     have w1:=qH hg (.tup [.int (b - l.fdiv 2),.int b,.int (b+(l - l.fdiv 2))])
     refine⟨y,_,_,rfl,rfl,w1 _ _ hv,qo (by rw [hsp.len];omega),?_⟩
     have t2:TS (upd H' g (.tup [.int (b - l.fdiv 2),.int b,.int (b+(l - l.fdiv 2))])) (upd (upd H' g (.tup [.int (b - l.fdiv 2),.int b,.int (b+(l - l.fdiv 2))])) y (.lst (us++[.ref g]))):=qAg (w1 _ _ hv)
     refine⟨_,rfl,_,rfl,_,.mix l,rfl,(hI.ts (qr w1)).ts t2,_,_,rfl,rfl,b,as++[(b - l.fdiv 2,b,b+(l - l.fdiv 2))],some (.ref zi),us++[.ref g],?_,qF,((hsp.ts (qr w1)).app (.one qF)).ts t2,by simp;omega,?_,j9 (e.trans w1) hy⟩
     · show [some (V.ref z),some (V.ref y),some (V.int (b+0)),some (V.ref zi)]=_
       rw [Int.add_zero]
     · rw [← hap];simp
   · have hne:m.wd≠"mix":=by simpa using c
     rw [zF hne] at hap
     exact⟨_,rfl,_,rfl,_,m,rfl,hI,_,_,rfl,rfl,_,as,_,us,rfl,hv,hsp,by omega,hap,e⟩
 · rintro σ H' ⟨b,as,o,us,rfl,hv,hsp,hal,hap,e⟩
   rw [his.len,List.drop_length,j6,List.append_nil] at hap
   rw [hap] at hsp
   exact⟨_,rfl,kk y us H' e hy hv hsp⟩
def lnO (o:Option Int):Bool:=match o with
 | some i=>decide (1≤i)
 | none=>false
inductive qDm (vs:List V)(H:Hp)(Q:VK)(_:XK):Prop
| mk (v:V) (o:Option Int) (_:vs=[v]) (_:Nu H v o) (_:Q (.bl (lnO o)) H)
theorem zc (T:Tx K mg a):FnOk P w K mg base CX0 2 a.A21 a.B21 ["thing"] qDm:=by
 refine T.D21.F.ok qEm (fun vs H Q E h=>?_) (fun cdv A outer s H vs Q E hr h=>?_)
 · obtain⟨v,o,rfl,_⟩:=h
   rfl
 refine qR fun _ Y=>?_
 obtain⟨v,o,rfl,hv,q⟩:=h
 apply Y
 refine⟨_,(qD (qN (xL (qI T.D0 (qt T) hr rfl (qA (pv 0) qB)) (zL (jK qA6 (pv 0) qE (qO _)))))),?_⟩
 try dsimp only [jV,qg]
 cases hv with
 | no h=>exact⟨_,rfl,v,false,rfl,.no h,false,rfl,qp q⟩
 | int i=>exact⟨_,rfl,_,true,rfl,.int i,true,rfl,jS ⟨_,rfl,_,_,rfl,rfl,q⟩⟩
inductive NsB (K:W.Frag)(H:Hp):V→Bool→Prop where
 | no {x:V} {t:Value} (ty:qBw K H x t) (e:W.kitOne K t (.type "tuple")=some false):NsB K H x false
 | len {z:Addr} {xs:List V} (e:H z=some (.tup xs)) (h:xs.length≠4):NsB K H (.ref z) false
 | word {z:Addr} {w:Str} {x1 x2 x3:V} (e:H z=some (.tup [.str w,x1,x2,x3])) (hn:w≠"nest"):NsB K H (.ref z) false
 | nums {z:Addr} {n:Str} {b l:Int} {c:Bool} (e:H z=some (.tup [.str "nest",.str n,.int b,.int l])) (hn:wS n=true) (hl:n.length≤1000) (hc:c=(decide (0≤b) && decide (1≤l))):NsB K H (.ref z) c
inductive wV (K:W.Frag)(vs:List V)(H:Hp)(Q:VK)(_:XK):Prop
| mk (v:V) (b:Bool) (_:vs=[v]) (_:NsB K H v b) (_:∀ H',Same H H'→Q (.bl b) H')
theorem wT (T:Tx K mg a):FnOk P w K mg base CX0 3 a.A22 a.B22 ["item"] (wV K):=by
 refine T.D22.F.ok wO (fun vs H Q E h=>?_) (fun cdv A outer s H vs Q E hr h=>?_)
 · obtain⟨v,b,rfl,_⟩:=h
   rfl
 refine qR fun _ Y=>?_
 obtain⟨v,b,rfl,hv,kk⟩:=h
 apply Y
 refine⟨_,(qC (qW (PW.pt (jW (qi (qc (qQ qZ rfl T.b_isinstance rfl (qA (pv 0) (qA (zG rfl T.b_tuple rfl) qB))))) (jH (qJ xn (qQ qY rfl T.b_len rfl (qA (pv 0) qB)) qE (qO _))))) (qD (qN jn)) qL)
  (qC (qW (PW.pt (jW (qJ xn (qP (pv 0)) qV (qO _)) (jH (qi (qc (qI T.D10 (xP T) hr rfl (qA (qP (pv 0)) qB))))))) (qD (qN jn)) qL)
  (qD (qN (xL (qI T.D0 (qt T) hr rfl (qA (qP (pv 0)) qB)) (xL (jK qA6 (qP (pv 0)) qE (qO _)) (zL (qI T.D21 (zc T) hr rfl (qA (qP (pv 0)) qB))))))))),?_⟩
 try dsimp only [jV,qg]
 cases hv with
 | no ty e=>exact⟨_,rfl,_,_,_,false,rfl,ty,⟨_,.inl ⟨rfl,e⟩⟩,false,rfl,jS (jS (kk H (Same.refl _)))⟩
 | @len z xs e h=>
  refine⟨_,rfl,_,_,_,true,rfl,.tup e,⟨_,.inl ⟨rfl,by kernel_rfl⟩⟩,true,rfl,qp ?_⟩
  refine⟨_,rfl,_,_,rfl,.inr (SqT.of e),rfl,_,rfl,?_⟩
  have d:(!decide (V.int (xs.length:Int)=V.int 4))=true:=by
   have:¬ (V.int (xs.length:Int)=V.int 4):=fun z=>h (by injection z with z;omega)
   simp [this]
  rw [d]
  exact jS (kk H (Same.refl _))
 | @word z w x1 x2 x3 e hn=>
  refine⟨_,rfl,_,_,_,true,rfl,.tup e,⟨_,.inl ⟨rfl,by kernel_rfl⟩⟩,true,rfl,qp ?_⟩
  refine⟨_,rfl,_,_,rfl,.inr (SqT.of e),rfl,_,rfl,qp ?_⟩
  have a0:atI [V.str w,x1,x2,x3] 0=some (.str w):=rfl
  refine(ixO e a0 ⟨rfl,_,rfl,?_⟩)
  have d:(!decide (V.str w=V.str "nest"))=true:=by
   rw [qP5,decide_eq_false hn];rfl
  rw [d]
  exact jS (jS (kk H (Same.refl _)))
 | @nums z n b l c e h1 h2 hc=>
  subst hc
  have a0:atI [V.str "nest",.str n,.int b,.int l] 0=some (.str "nest"):=rfl
  have a1:atI [V.str "nest",.str n,.int b,.int l] 1=some (.str n):=rfl
  have a2:atI [V.str "nest",.str n,.int b,.int l] 2=some (.int b):=rfl
  have a3:atI [V.str "nest",.str n,.int b,.int l] 3=some (.int l):=rfl
  have fn:=NmB.str (K:=K) (H:=H) n h2
  rw [h1] at fn
  refine⟨_,rfl,_,_,_,true,rfl,.tup e,⟨_,.inl ⟨rfl,by kernel_rfl⟩⟩,true,rfl,qp ?_⟩
  refine⟨_,rfl,_,_,rfl,.inr (SqT.of e),rfl,_,rfl,qp ?_⟩
  refine(ixO e a0 ⟨rfl,_,rfl,qIe rfl ?_⟩)
  refine(ixO e a1 ⟨_,true,rfl,fn,fun H1 s1=>⟨true,rfl,qp ?_⟩⟩)
  have e1:=SqT.of (K:=K) (s1 _ _ e)
  refine⟨_,rfl,_,_,_,_,rfl,rfl,e1,a2,_,true,rfl,.int b,true,rfl,jS ?_⟩
  have k1:=kk H1 s1
  refine⟨_,rfl,_,_,_,_,rfl,rfl,e1,a2,_,_,rfl,rfl,_,rfl,?_⟩
  by_cases hb:0≤b
  · rw [decide_eq_true hb,Bool.true_and] at k1
    rw [decide_eq_true hb]
    exact jS ⟨_,rfl,_,_,_,_,rfl,rfl,e1,a3,_,some l,rfl,.int l,k1⟩
  · rw [decide_eq_false hb,Bool.false_and] at k1
    rw [decide_eq_false hb]
    exact qp k1
def qH4 (w:Str)(t:Int)(o:Option Int):Bool:=if w="open"∨w="mix" then lnO o else if w="close"∨w="lift" then (match o with | some u=>decide (t < u) | none=>false) else true
def qPt (H:Hp)(xs:List V)(w:Str)(t:Int)(o:Option Int):Prop:=atI xs 0=some (.str w)∧atI xs 2=some (.int t)∧((w="open"∨w="mix"∨w="close"∨w="lift")→∃ v,atI xs 3=some v∧Nu H v o)
theorem qO4 {w:Str}:inV (.str w) [.str "open",.str "mix"]=decide (w="open"∨w="mix"):=by
 unfold inV
 rw [Bool.eq_iff_iff]
 simp [eqV]
 constructor
 · rintro (h | h)
   · exact .inl h.symm
   · exact .inr h.symm
 · rintro (h | h)
   · exact .inl h.symm
   · exact .inr h.symm
theorem qNw {w:Str}:inV (.str w) [.str "close",.str "lift"]=decide (w="close"∨w="lift"):=by
 unfold inV
 rw [Bool.eq_iff_iff]
 simp [eqV]
 constructor
 · rintro (h | h)
   · exact .inl h.symm
   · exact .inr h.symm
 · rintro (h | h)
   · exact .inl h.symm
   · exact .inr h.symm
inductive vn (N:Addr)(vs:List V)(H:Hp)(Q:VK)(E:XK):Prop
| mk (dz:Addr) (xs:List V) (w:Str) (t:Int) (o:Option Int) (_:vs=[.ref dz]) (_:H dz=some (.tup xs)) (_:qPt H xs w t o) (_:(qH4 w t o=false→∀ H',Same H H'→E (.ref N) none H')) (_:(qH4 w t o=true→∀ H',Same H H'→Q .non H'))
theorem wB (T:Tx K mg a):FnOk P w K mg base (CXR P w) 3 a.A61 a.B61 ["deed"] (vn a.k_NoPlace):=by
 refine okX T.D61.F wP (fun vs H Q E h=>?_) (fun cdv A outer s H vs Q E hr h=>?_)
 · obtain⟨dz,xs,w,t,o,rfl,_⟩:=h
   rfl
 refine qR fun _ Y=>?_
 obtain⟨dz,xs,w,t,o,rfl,hd,⟨a0,a2,a3⟩,kb,kg⟩:=h
 apply Y
 refine⟨_,(qC (qW (PW.pt (xJ (qJ vP (qP (pv 0)) (jO (qA qV (qA qV qB))) rfl) (ji (qi (qc (qI T.D21 (zc T) hr rfl (qA (qP (pv 0)) qB))))))) (qD (qz rfl rfl T.c_NoPlace T.x_NoPlace (qA qV qB))) qL)
  (qD (qW (PW.pt (xJ (qJ vP (qP (pv 0)) (jO (qA qV (qA qV qB))) rfl) (ji (PW.pt (jW (qi (qc (qI T.D0 (qt T) hr rfl (qA (qP (pv 0)) qB)))) (jH (qJ qA6 (qP (pv 0)) (qP (pv 0)) (qO _)))))))) (qD (qz rfl rfl T.c_NoPlace T.x_NoPlace (qA qV qB))) qL))),?_⟩
 try dsimp only [jV,qg]
 have one:(1:Nat)≤sizeLine:=by decide
 have two:(2:Nat)≤sizeLine:=by decide
 refine(ixO hd a0 ⟨two,fun q hq=>⟨q,_,rfl,.inr (SqT.of qF),rfl,rfl,_,rfl,?_⟩⟩)
 rw [qO4]
 have w1:=qH hq (.tup [.str "open",.str "mix"])
 have hd1:=w1 _ _ hd
 generalize upd H q (.tup [.str "open",.str "mix"])=H1 at w1 hd1 ⊢
 by_cases h1:w="open"∨w="mix"
 · have eb:qH4 w t o=lnO o:=by unfold qH4;rw [if_pos h1]
   rw [eb] at kb kg
   refine qBl (decide_eq_true h1) ?_
   refine qR fun _ Y=>?_
   obtain⟨v,a3,hv⟩:=a3 (by rcases h1 with h | h;exact .inl h;exact .inr (.inl h))
   apply Y
   refine(ixO hd1 a3 ⟨v,o,rfl,hv.same w1,_,rfl,?_⟩)
   cases hb:lnO o with
   | false=>exact jS ⟨one,kb hb _ w1⟩
   | true=>
    refine qp ?_
    refine(ixO hd1 a0 ⟨two,fun q2 hq2=>⟨q2,_,rfl,.inr (SqT.of qF),rfl,rfl,_,rfl,?_⟩⟩)
    rw [qNw]
    have h2:¬ (w="close"∨w="lift"):=by
     rcases h1 with rfl | rfl
     · rintro (h | h) <;> exact absurd h (by decide+kernel)
     · rintro (h | h) <;> exact absurd h (by decide+kernel)
    exact vK (decide_eq_false h2) (qp (kg hb _ (w1.trans (qH hq2 _))))
 · refine vK (decide_eq_false h1) (qp ?_)
   refine(ixO hd1 a0 ⟨two,fun q2 hq2=>⟨q2,_,rfl,.inr (SqT.of qF),rfl,rfl,_,rfl,?_⟩⟩)
   rw [qNw]
   have w2:=qH hq2 (.tup [.str "close",.str "lift"])
   have w12:=w1.trans w2
   have hd2:=w2 _ _ hd1
   generalize upd H1 q2 (.tup [.str "close",.str "lift"])=H2 at w2 w12 hd2 ⊢
   by_cases h2:w="close"∨w="lift"
   · refine qBl (decide_eq_true h2) ?_
     refine qR fun _ Y=>?_
     obtain⟨v,b3,hv⟩:=a3 (by rcases h2 with h | h;exact .inr (.inr (.inl h));exact .inr (.inr (.inr h)))
     apply Y
     clear a3
     cases hv with
     | no h=>
      have eb:qH4 w t none=false:=by unfold qH4;rw [if_neg h1,if_pos h2]
      exact⟨_,rfl,dz,_,_,_,rfl,rfl,SqT.of hd2,b3,v,false,rfl,.no (h.same w12),false,rfl,jS (jS ⟨one,kb eb _ w12⟩)⟩
     | int u=>
      have eb:qH4 w t (some u)=decide (t < u):=by unfold qH4;rw [if_neg h1,if_pos h2]
      rw [eb] at kb kg
      refine⟨_,rfl,dz,_,_,_,rfl,rfl,SqT.of hd2,b3,_,true,rfl,.int u,true,rfl,qp ?_⟩
      refine(ixO hd2 a2 ⟨_,rfl,dz,_,_,_,rfl,rfl,SqT.of hd2,b3,_,_,rfl,rfl,_,rfl,jx (fun c=>?_) (fun c=>?_)⟩)
      · have hc:u≤t:=by simpa using c
        exact⟨one,kb (decide_eq_false (by omega)) _ w12⟩
      · have hc:¬ u≤t:=by simpa using c
        exact kg (decide_eq_true (by omega)) _ w12
   · have eb:qH4 w t o=true:=by unfold qH4;rw [if_neg h1,if_neg h2]
     exact vK (decide_eq_false h2) (qp (kg eb _ w12))
structure TabG (H:Hp)(tz:Addr)(ts:List (List Im))(tie:List Int)(n:Nat):Prop where
 tab:TabF H (.ref tz) ts tie
 ok:∀ ms∈ts,MsB ms∧ms.length≤100
 nt:n < ts.length
 len:ts.length≤8
 tl:tie.length≤8
 tin:∀ x∈tie,∃ k:Nat,x=(k:Int)∧k < ts.length
theorem TabG.same {H H':Hp}{tz:Addr}{ts:List (List Im)}{tie:List Int}{n:Nat}(e:Same H H')(h:TabG H tz ts tie n):TabG H' tz ts tie n:=⟨h.tab.same e,h.ok,h.nt,h.len,h.tl,h.tin⟩
theorem TabG.ch {H:Hp}{tz:Addr}{ts:List (List Im)}{tie:List Int}{n:Nat}(h:TabG H tz ts tie n)(push:Bool):(chF tie (n:Int) push).length≤10∧∀ x∈chF tie (n:Int) push,∃ k:Nat,x=(k:Int)∧k < ts.length:=by
 unfold chF
 split
 · refine⟨?_,fun x hx=>?_⟩
   · rw [List.length_cons]
     have:=List.length_filter_le (fun x=>decide (x≠(n:Int))) tie
     have:=h.tl
     omega
   · rcases List.mem_cons.mp hx with rfl | hx
     · exact⟨n,rfl,h.nt⟩
     · exact h.tin x (List.mem_filter.mp hx).1
 · refine⟨by show 1≤10;decide,fun x hx=>?_⟩
   have:x=(n:Int):=by simpa using hx
   exact⟨n,this,h.nt⟩
def Dk.lay:Dk→Option Im
 | .lin _ m=>some m
 | .lov _ m=>some m
 | _=>none
theorem Dk.lay_in (d:Dk):inV (.str d.wd) [.str "lay_in",.str "lay_over"]=d.lay.isSome:=by
 cases d with
 | cut t=>show inV (.str "cut") _=false;decide+kernel
 | hel t=>show inV (.str "heal") _=false;decide+kernel
 | opn t l=>show inV (.str "open") _=false;decide+kernel
 | cls t u=>show inV (.str "close") _=false;decide+kernel
 | lft t u=>show inV (.str "lift") _=false;decide+kernel
 | lin t m=>show inV (.str "lay_in") _=true;decide+kernel
 | lov t m=>show inV (.str "lay_over") _=true;decide+kernel
theorem qG7 (vs:List V)(i:Nat):qLb vs none (some (i:Int))=vs.take i:=by
 unfold qLb
 rw [HT.sIx_none,HT.sIx_nat,List.drop_zero,Nat.sub_zero]
 by_cases h:i≤vs.length
 · rw [Nat.min_eq_left h]
 · rw [Nat.min_eq_right (by omega),List.take_of_length_le (Nat.le_refl _),List.take_of_length_le (by omega)]
theorem qGw (vs:List V)(i:Nat):qLb vs (some (i:Int)) none=vs.drop i:=by
 unfold qLb
 rw [HT.sIx_none,HT.sIx_nat]
 by_cases h:i≤vs.length
 · rw [Nat.min_eq_left h,List.take_of_length_le (by rw [List.length_drop];omega)]
 · rw [Nat.min_eq_right (by omega),List.drop_of_length_le (by omega),List.drop_of_length_le (by omega)]
   simp
theorem IsIs.take {H:Hp}:∀ {ms:List Im} {vs:List V} {i:Nat},IsIs H ms vs→IsIs H (ms.take i) (vs.take i)
 | [],[],_,_=>by simp [IsIs]
 | _::_,_::_,0,_=>trivial
 | _::_,_::_,_+1,h=>⟨h.1,h.2.take⟩
 | [],_::_,_,h=>h.elim
 | _::_,[],_,h=>h.elim
theorem IsIs.drop {H:Hp}:∀ {ms:List Im} {vs:List V} {i:Nat},IsIs H ms vs→IsIs H (ms.drop i) (vs.drop i)
 | [],[],_,_=>by simp [IsIs]
 | _::_,_::_,0,h=>h
 | _::_,_::_,_+1,h=>h.2.drop (i:=_)
 | [],_::_,_,h=>h.elim
 | _::_,[],_,h=>h.elim
def qO3 (ms:List Im)(t:Int):Prop:=cbF ms t=none∨∃ i j:Int,cbF ms t=some (i,j)∧j≠i+1
structure TabD (H:Hp)(tz rd:Addr)(rl:Rls)(ts:List (List Im))(tie:List Int):Prop where
 tab:TabF H (.ref tz) ts tie
 ok:∀ ms∈ts,MsB ms∧ms.length≤100∧∀ m∈ms,ItR rl m
 len:ts.length≤8
 tl:tie.length≤8
 tin:∀ x∈tie,∃ k:Nat,x=(k:Int)∧k < ts.length
 re:ReelsAt H rd rl
theorem TabD.g {H:Hp}{tz rd:Addr}{rl:Rls}{ts:List (List Im)}{tie:List Int}{n:Nat}(h:TabD H tz rd rl ts tie)(hn:n < ts.length):TabG H tz ts tie n:=⟨h.tab,fun ms hm=>⟨(h.ok ms hm).1,(h.ok ms hm).2.1⟩,hn,h.len,h.tl,h.tin⟩
instance (w:Str):Decidable (Wd3 w):=by unfold Wd3;infer_instance
theorem qKm {w:Str}:inV (.str w) [.str "roll",.str "slip",.str "slide"]=decide (Wd3 w):=by
 by_cases h1:w="roll"
 · subst h1;decide+kernel
 by_cases h2:w="slip"
 · subst h2;decide+kernel
 by_cases h3:w="slide"
 · subst h3;decide+kernel
 have:¬ Wd3 w:=by rintro (h | h | h);exact h1 h;exact h2 h;exact h3 h
 rw [decide_eq_false this]
 simp [inV,eqV,h1,h2,h3,Ne.symm h1,Ne.symm h2,Ne.symm h3]
def tbF (ms:List Im)(k:Nat):Int:=if k=0 then 0 else match ms[k - 1]? with
 | some (.mix l)=>l - l.fdiv 2
 | _=>0
def teF (ms:List Im)(k:Nat):Int:=match ms[k+1]? with
 | some (.mix l)=>l.fdiv 2
 | _=>0
theorem qEp {ms:List Im}{k:Int}(h:jp ms k="mix"):∃ l,0≤k∧ms[k.toNat]? =some (.mix l):=by
 unfold jp at h
 by_cases h0:k < 0
 · rw [if_pos h0] at h
   exact absurd h (by decide+kernel)
 · rw [if_neg h0] at h
   cases hm:ms[k.toNat]? with
   | none=>rw [hm] at h;exact absurd h (by decide+kernel)
   | some m=>
    rw [hm] at h
    obtain⟨l,rfl⟩:=qA3 h
    exact⟨l,by omega,rfl⟩
inductive vo (vs:List V)(H:Hp)(Q:VK)(_:XK):Prop
| mk (z:Addr) (ms:List Im) (k:Nat) (_:vs=[.ref z,.int (k:Int)]) (_:Tr H z ms) (_:Q (.int (tbF ms k)) H)
theorem vt (T:Tx K mg a):FnOk P w K mg base CX0 2 a.A40 a.B40 ["track","place"] vo:=by
 refine T.D40.F.ok vq (fun vs H Q E h=>?_) (fun cdv A outer s H vs Q E hr h=>?_)
 · obtain⟨z,ms,k,rfl,_⟩:=h
   rfl
 refine qR fun _ Y=>?_
 obtain⟨z,ms,k,rfl,tT,q⟩:=h
 apply Y
 refine⟨_,(qC (qW (qJ xn (qI T.D28 (jf T) hr rfl (qA (pv 0) (qA (qK jA (pv 1) qE) qB))) qV (qO _)) (qD (qN qE)) qL)
  (qD (qN (qI T.D38 (kL T) hr rfl (qA (qP (jM jE (pv 0) (qK jA (pv 1) qE) (fun _ _=>rfl))) qB))))),?_⟩
 try dsimp only [jV,qg]
 refine⟨_,rfl,_,rfl,_,_,rfl,rfl,z,ms,_,rfl,tT,rfl,_,rfl,jx (fun c=>?_) (fun c=>?_)⟩
 · have hn:jp ms ((k:Int) - 1)≠"mix":=by simpa using c
   have e:tbF ms k=0:=by
    unfold tbF
    by_cases k0:k=0
    · rw [if_pos k0]
    · rw [if_neg k0]
      split
      · next l hl=>exact absurd (jP hl (by omega)) hn
      · rfl
   rw [e] at q
   exact q
 · have hk:jp ms ((k:Int) - 1)="mix":=by simpa using c
   refine qR fun _ Y=>?_
   obtain⟨l,k1,hl⟩:=qEp hk
   have ek:((k:Int) - 1).toNat=k - 1:=by omega
   rw [ek] at hl
   have e:tbF ms k=l - l.fdiv 2:=by
    unfold tbF
    rw [if_neg (by omega),hl]
   rw [e] at q
   obtain⟨vs,hz,his⟩:=tT
   obtain⟨v,hv,hI⟩:=his.get' hl
   obtain⟨zi,rfl,hzi⟩:=hI
   apply Y
   have hat:atI vs ((k:Int) - 1)=some (.ref zi):=by
    have e:(k:Int) - 1=((k - 1:Nat):Int):=by omega
    rw [e];exact jc hv
   exact⟨_,rfl,_,rfl,_,_,rfl,rfl,z,_,_,_,rfl,rfl,SqL.of hz,hat,ixT (SqT.of hzi) at1 ⟨l,rfl,q⟩⟩
inductive wj (vs:List V)(H:Hp)(Q:VK)(_:XK):Prop
| mk (z:Addr) (ms:List Im) (k:Nat) (_:vs=[.ref z,.int (k:Int)]) (_:Tr H z ms) (_:Q (.int (teF ms k)) H)
theorem qAu (T:Tx K mg a):FnOk P w K mg base CX0 2 a.A41 a.B41 ["track","place"] wj:=by
 refine T.D41.F.ok qAn (fun vs H Q E h=>?_) (fun cdv A outer s H vs Q E hr h=>?_)
 · obtain⟨z,ms,k,rfl,_⟩:=h
   rfl
 refine qR fun _ Y=>?_
 obtain⟨z,ms,k,rfl,tT,q⟩:=h
 apply Y
 refine⟨_,(qC (qW (qJ xn (qI T.D28 (jf T) hr rfl (qA (pv 0) (qA (qK qh (pv 1) qE) qB))) qV (qO _)) (qD (qN qE)) qL)
  (qD (qN (qI T.D37 (vD T) hr rfl (qA (qP (jM jE (pv 0) (qK qh (pv 1) qE) (fun _ _=>rfl))) qB))))),?_⟩
 try dsimp only [jV,qg]
 refine⟨_,rfl,_,rfl,_,_,rfl,rfl,z,ms,_,rfl,tT,rfl,_,rfl,jx (fun c=>?_) (fun c=>?_)⟩
 · have hn:jp ms ((k:Int)+1)≠"mix":=by simpa using c
   have e:teF ms k=0:=by
    unfold teF
    split
    · next l hl=>exact absurd (jP hl (by omega)) hn
    · rfl
   rw [e] at q
   exact q
 · have hk:jp ms ((k:Int)+1)="mix":=by simpa using c
   refine qR fun _ Y=>?_
   obtain⟨l,k1,hl⟩:=qEp hk
   have ek:((k:Int)+1).toNat=k+1:=by omega
   rw [ek] at hl
   have e:teF ms k=l.fdiv 2:=by
    unfold teF
    rw [hl]
   rw [e] at q
   obtain⟨vs,hz,his⟩:=tT
   obtain⟨v,hv,hI⟩:=his.get' hl
   obtain⟨zi,rfl,hzi⟩:=hI
   apply Y
   have hat:atI vs ((k:Int)+1)=some (.ref zi):=by
    have e:(k:Int)+1=((k+1:Nat):Int):=by omega
    rw [e];exact jc hv
   exact⟨_,rfl,_,rfl,_,_,rfl,rfl,z,_,_,_,rfl,rfl,SqL.of hz,hat,ixT (SqT.of hzi) at1 ⟨l,rfl,q⟩⟩
def vV (x y:Int):Int:=if y < x then y else x
def qMu (x y:Int):Int:=if y > x then y else x
def mmV (A B:Int):Int:=if B > A then qMu (2*A+1) 0 else qMu (2*B) 0
def mmF (rl:Rls)(ms:List Im)(t:Int):Option Int:=match cbF ms t with
 | none=>none
 | some (i,j)=>match xN ms i,xN ms j with
  | .clip n p q r s l,.clip n' p' q' r' s' l'=>(match rl n,rl n' with
   | some N,some N'=>some (mmV (vV (l - tbF ms i.toNat) (ku p' q' r' s' N')) (vV (l' - teF ms j.toNat) (kz p q r s l N)))
   | _,_=>none)
  | _,_=>none
theorem qCk {ms:List Im}{t:Int}{i j:Int}(h:cbF ms t=some (i,j)):jp ms i="clip"∧jp ms j="clip":=by
 unfold cbF at h
 cases hn:nbF ms t with
 | none=>rw [hn] at h;cases h
 | some r=>
  obtain⟨x,y⟩:=r
  rw [hn] at h
  dsimp only at h
  split at h
  · rename_i c;cases h;exact c
  · cases h
inductive qEe (N:Addr)(vs:List V)(H:Hp)(Q:VK)(E:XK):Prop
| mk (z rd:Addr) (ms:List Im) (t:V) (ot:Option Int) (rl:Rls) (_:vs=[.ref z,t,.ref rd]) (_:Tr H z ms) (_:(∀ m∈ms,ItR rl m)) (_:ReelsAt H rd rl) (_:Nu H t ot) (_:(ot.bind (mmF rl ms)=none→∀ H',Same H H'→E (.ref N) none H')) (_:∀ M,ot.bind (mmF rl ms)=some M→∀ H',Same H H'→Q (.int M) H')
theorem ze (T:Tx K mg a):FnOk P w K mg base (CXR P w) 6 a.A42 a.B42 ["track","moment","reels"] (qEe a.k_NoPlace):=by
 refine okX T.D42.F jg (fun vs H Q E h=>?_) (fun cdv A outer s H vs Q E hr h=>?_)
 · obtain⟨z,rd,ms,t,ot,rl,rfl,_⟩:=h
   rfl
 refine qR fun _ Y=>?_
 obtain⟨z,rd,ms,t,ot,rl,rfl,tT,hit,hrl,ht,kb,kg⟩:=h
 apply Y
 refine⟨_,(qC (qd 3 jg.nd (qC5 (qc (qI T.D0 (qt T) hr rfl (qA (pv 1) qB))) (qI T.D33 (xH T) hr rfl (qA (pv 0) (qA (pv 1) qB))) qE4))
  (qC (qW (wD (qA4 (pv 3))) (qD (qz rfl rfl T.c_NoPlace T.x_NoPlace (qA qV qB))) qL)
  (qC (qd 4 jg.nd (jM jE (pv 0) (qP (pv 3)) (fun _ _=>rfl)))
  (qC (qd 5 jg.nd (jM jE (pv 0) (qP (pv 3)) (fun _ _=>rfl)))
  (qC (qd 6 jg.nd (qQ (xk rfl) rfl T.b_min rfl (qA (qK jA (qP (pv 4)) (qI T.D40 (vt T) hr rfl (qA (pv 0) (qA (qP (pv 3)) qB)))) (qA (qI T.D19 (qEk T) hr rfl (qA (pv 5) (qA (pv 2) qB))) qB))))
  (qC (qd 7 jg.nd (qQ (xk rfl) rfl T.b_min rfl (qA (qK jA (qP (pv 5)) (qI T.D41 (qAu T) hr rfl (qA (pv 0) (qA (qP (pv 3)) qB)))) (qA (qI T.D20 (qE0 T) hr rfl (qA (pv 4) (qA (pv 2) qB))) qB))))
  (qC (qW (qJ kU (pv 7) (pv 6) (qO _)) (qD (qN (qQ (qAk rfl) rfl T.b_max rfl (qA (qK qh (qK ql qE (pv 6)) qE) (qA qE qB))))) qL)
  (qD (qN (qQ (qAk rfl) rfl T.b_max rfl (qA (qK ql qE (pv 7)) (qA qE qB)))))))))))),?_⟩
 try dsimp only [jV,qg]
 have one:(1:Nat)≤sizeLine:=by decide
 cases ht with
 | no h=>exact⟨_,rfl,t,false,rfl,.no h,false,rfl,qp ⟨_,rfl,_,rfl,qBl (by decide) ⟨one,kb rfl H (Same.refl _)⟩⟩⟩
 | int t=>
 replace kb:mmF rl ms t=none→∀ H',Same H H'→E (.ref a.k_NoPlace) none H':=kb
 replace kg:∀ M,mmF rl ms t=some M→∀ H',Same H H'→Q (.int M) H':=kg
 refine⟨_,rfl,_,true,rfl,.int t,true,rfl,jS ?_⟩
 refine⟨_,rfl,_,rfl,z,ms,_,rfl,tT,?_⟩
 unfold mmF at kb kg
 cases hcb:cbF ms t with
 | none=>
  rw [hcb] at kb
  intro H1 e1
  exact⟨_,rfl,_,rfl,qBl (by decide) ⟨one,kb rfl H1 e1⟩⟩
 | some r=>
 refine qR fun _ Y=>?_
 obtain⟨ii,jj⟩:=r
 rw [hcb] at kg
 obtain⟨hk1,hk2⟩:=qCk hcb
 obtain⟨i,n,p,q,r,s1,l,rfl,hi⟩:=zo hk1
 obtain⟨j,n',p',q',r',s2,l',rfl,hj⟩:=zo hk2
 obtain⟨N,c1⟩:=hit _ (List.mem_of_getElem? hi) _ _ _ _ _ _ rfl
 obtain⟨N',c2⟩:=hit _ (List.mem_of_getElem? hj) _ _ _ _ _ _ rfl
 apply Y
 have ei:xN ms (i:Int)= .clip n p q r s1 l:=by unfold xN;rw [Int.toNat_natCast,hi];rfl
 have ej:xN ms (j:Int)= .clip n' p' q' r' s2 l':=by unfold xN;rw [Int.toNat_natCast,hj];rfl
 dsimp only at kg
 rw [ei,ej] at kg
 dsimp only at kg
 rw [c1.rn,c2.rn,Int.toNat_natCast,Int.toNat_natCast] at kg
 have kg:=kg _ rfl
 intro pp H1 e1 hpp
 refine⟨_,rfl,_,rfl,jx (fun c=>absurd c (by simp)) (fun _=>?_)⟩
 refine qR fun _ Y=>?_
 obtain⟨vs,hz,his⟩:=tT.same e1
 obtain⟨va,hva,Ia⟩:=his.get' hi
 obtain⟨vb,hvb,Ib⟩:=his.get' hj
 apply Y
 refine⟨_,rfl,ixO hpp at0 ⟨z,_,_,_,rfl,rfl,SqL.of hz,jc hva,?_⟩⟩
 refine⟨_,rfl,ixO hpp at1 ⟨z,_,_,_,rfl,rfl,SqL.of hz,jc hvb,?_⟩⟩
 refine qR fun _ Y=>?_
 obtain⟨za,xa,ya,rfl,hza,hxa,hya⟩:=id Ia
 obtain⟨zb,xb,yb,rfl,hzb,hxb,hyb⟩:=id Ib
 apply Y
 have tT1:Tr H1 z ms:=⟨vs,hz,his⟩
 refine(ixO hza qF5 ⟨_,rfl,ixO hpp at0 ⟨z,ms,i,rfl,tT1,_,_,rfl,rfl,?_⟩⟩)
 refine⟨_,rfl,_,rfl,_,n',p',q',r',s2,l',N',rd,rfl,qNe Ib,c2.g1,c2.g2,(hrl _ _ c2.rn).same e1,c2.bN,fun H2 e2=>?_⟩
 refine⟨_,_,rfl,?_⟩
 refine(ixO (e2 _ _ hzb) qF5 ⟨_,rfl,ixO (e2 _ _ hpp) at1 ⟨z,ms,j,rfl,tT1.same e2,_,_,rfl,rfl,?_⟩⟩)
 refine⟨_,rfl,_,rfl,_,n,p,q,r,s1,l,N,rd,rfl,qNe (Ia.ts (qr e2)),c1.g1,c1.g2,c1.bl,(hrl _ _ c1.rn).same (e1.trans e2),c1.bN,fun H3 e3=>?_⟩
 refine⟨_,_,rfl,?_⟩
 have kk':=kg H3 ((e1.trans e2).trans e3)
 unfold mmV vV at kk'
 unfold ku kz at kk'
 dsimp only
 generalize (if xF (plP p' q' r' s2 (-1)*s2) (-1*r'*plQ p' q' r' s2 (-1)) (plQ p' q' r' s2 (-1)*s2) N' < l - tbF ms i then xF (plP p' q' r' s2 (-1)*s2) (-1*r'*plQ p' q' r' s2 (-1)) (plQ p' q' r' s2 (-1)*s2) N' else l - tbF ms i)=MA at kk' ⊢
 generalize (if xF (plP p q r s1 l*s1) (1*r*plQ p q r s1 l) (plQ p q r s1 l*s1) N < l' - teF ms j then xF (plP p q r s1 l*s1) (1*r*plQ p q r s1 l) (plQ p q r s1 l*s1) N else l' - teF ms j)=MB at kk' ⊢
 refine⟨_,rfl,_,rfl,_,_,rfl,rfl,_,rfl,jx (fun c=>?_) (fun c=>?_)⟩
 · have c':MB > MA:=by simpa using c
   rw [if_pos c'] at kk'
   exact⟨_,rfl,_,_,rfl,rfl,cmL (by decide) (by decide),_,_,rfl,rfl,_,_,rfl,kk'⟩
 · have c':¬ MB > MA:=by simpa using c
   rw [if_neg c'] at kk'
   exact⟨_,rfl,_,_,rfl,rfl,cmL (by decide) (by decide),_,_,rfl,kk'⟩
inductive qGe (N S:Addr)(vs:List V)(H:Hp)(Q:VK)(E:XK):Prop
| mk (tz dz rd:Addr) (ts:List (List Im)) (tie:List Int) (n0:Nat) (ms:List Im) (t l:Int) (rl:Rls) (_:vs=[.ref tz,.ref dz,.ref rd]) (_:TabG H tz ts tie n0) (_:ts[n0]? =some ms) (_:H dz=some (.tup [.str "mix",.int (n0:Int),.int t,.int l])) (_:(∀ m∈ms,ItR rl m)) (_:ReelsAt H rd rl) (_:(qO3 ms t→∀ H',Same H H'→E (.ref N) none H')) (_:(∀ (i:Nat) (M:Int),cbF ms t=some ((i:Int),((i+1:Nat):Int))→mmF rl ms t=some M→(M < l→∀ (dx:Addr) (H':Hp),Same H H'→H' dx=some (.xd [("most",.int M)])→E (.ref S) (some dx) H')∧(l≤M→∀ (t':Addr) (H':Hp),Same H H'→NewTab H H' t' (ts.set n0 (ms.take (i+1)++[.mix l]++ms.drop (i+1))) tie→Q (.ref t') H')))
theorem qI3 {rl:Rls}{ms:List Im}{t i j:Int}(hit:∀ m∈ms,ItR rl m)(h:cbF ms t=some (i,j)):∃ M,mmF rl ms t=some M:=by
 obtain⟨hk1,hk2⟩:=qCk h
 obtain⟨i,n,p,q,r,s1,l,rfl,hi⟩:=zo hk1
 obtain⟨j,n',p',q',r',s2,l',rfl,hj⟩:=zo hk2
 obtain⟨N,c1⟩:=hit _ (List.mem_of_getElem? hi) _ _ _ _ _ _ rfl
 obtain⟨N',c2⟩:=hit _ (List.mem_of_getElem? hj) _ _ _ _ _ _ rfl
 have ei:xN ms (i:Int)= .clip n p q r s1 l:=by unfold xN;rw [Int.toNat_natCast,hi];rfl
 have ej:xN ms (j:Int)= .clip n' p' q' r' s2 l':=by unfold xN;rw [Int.toNat_natCast,hj];rfl
 unfold mmF
 rw [h]
 dsimp only
 rw [ei,ej]
 dsimp only
 rw [c1.rn,c2.rn]
 exact⟨_,rfl⟩
theorem qGc (T:Tx K mg a):FnOk P w K mg base (CXR P w) 7 a.A68 a.B68 ["table","deed","reels"] (qGe a.k_NoPlace a.k_Short):=by
 refine okX T.D68.F wa (fun vs H Q E h=>?_) (fun cdv A outer s H vs Q E hr h=>?_)
 · obtain⟨tz,dz,rd,ts,tie,n0,ms,t,l,rl,rfl,_⟩:=h
   rfl
 refine qR fun _ Y=>?_
 obtain⟨tz,dz,rd,ts,tie,n0,ms,t,l,rl,rfl,hP,hms,hd,hit,hrl,kb,kk⟩:=h
 apply Y
 refine⟨_,(qC (qd 3 wa.nd (jM jE (qP (pv 0)) (qP (pv 1)) (fun _ _=>rfl)))
  (qC (qd 4 wa.nd (qI T.D33 (xH T) hr rfl (qA (pv 3) (qA (qP (pv 1)) qB))))
  (qC (qW (PW.pt (jW (wD (qA4 (pv 4))) (jH (qJ xn (qP (pv 4)) (qK qh (qP (pv 4)) qE) (qO _))))) (qD (qz rfl rfl T.c_NoPlace T.x_NoPlace (qA qV qB))) qL)
  (qC (qd 5 wa.nd (xV T.D42 (ze T) hr rfl (qA (pv 3) (qA (qP (pv 1)) (qA (pv 2) qB)))))
  (qC (qW (qJ kU (qP (pv 1)) (pv 5) (qO _)) (qD (qIh T.m_Short (qC1 T) T.ib_Short (hr.mono (by decide)) rfl rfl T.c_Short (qA (pv 5) qB))) qL)
  (qD (qN (qI T.D55 (qC6 T) hr rfl (qA (pv 0) (qA (qP (pv 1)) (qA (qK qG6 (qK qG6 (wX qC9 (pv 3) qCv (qAm (qP (pv 4)))) (zM (qA (jO (qA qV (qA (qP (pv 1)) qB))) qB))) (wX qC9 (pv 3) (qAm (qP (pv 4))) qCv)) qB))))))))))),?_⟩
 try dsimp only [jV,qg]
 have one:(1:Nat)≤sizeLine:=by decide
 refine qR fun _ Y=>?_
 obtain⟨tt,tl,ti,zs,e0,g2,g3,g4,g5⟩:=id hP.tab
 cases e0
 have hzl:=g4.len
 have hnt:=hP.nt
 have ez:zs[n0]? =some (zs[n0]'(by omega)):=List.getElem?_eq_getElem (by omega)
 obtain⟨ms',z,hms',ezz,tT⟩:=g4.get ez
 rw [hms] at hms'
 cases hms'
 rw [ezz] at ez
 obtain⟨hMB,hM1⟩:=hP.ok ms (List.mem_of_getElem? hms)
 apply Y
 have sm:∀ j:Nat,j≤1000→j≤sizeLine:=fun j h=>by have:=qo (n:=j) (by omega);omega
 refine(ixO g2 at0 (ixO hd qNj ⟨tl,_,_,_,rfl,rfl,SqL.of g3,jc ez,?_⟩))
 refine⟨_,rfl,ixO hd qNx ⟨z,ms,_,rfl,tT,?_⟩⟩
 cases hcb:cbF ms t with
 | none=>
  intro H1 e1
  exact⟨_,rfl,_,rfl,qBl (by decide) (jS ⟨one,kb (.inl hcb) H1 e1⟩)⟩
 | some rr=>
 obtain⟨ii,jj⟩:=rr
 intro pz H1 e1 hpz
 refine⟨_,rfl,_,rfl,jx (fun c=>absurd c (by simp)) (fun _=>?_)⟩
 refine(ixO hpz at1 (ixO hpz at0 ⟨_,_,rfl,rfl,rfl,_,rfl,?_⟩))
 by_cases hij:jj=ii+1
 case neg=>
  have hne:(!decide (V.int jj=V.int (ii+1)))=true:=by
   rw [decide_eq_false (fun z=>hij (V.int.inj z))];rfl
  exact qBl hne ⟨one,kb (.inr ⟨ii,jj,hcb,hij⟩) H1 e1⟩
 have hne:(!decide (V.int jj=V.int (ii+1)))=false:=by rw [hij];simp
 refine vK hne ?_
 refine qR fun _ Y=>?_
 obtain⟨hk1,_⟩:=qCk hcb
 obtain⟨i,n,p,q,r,s1,l1,rfl,hi⟩:=zo hk1
 apply Y
 obtain rfl:jj=((i+1:Nat):Int):=by omega
 refine qR fun _ Y=>?_
 obtain⟨M,hM⟩:=qI3 hit hcb
 obtain⟨kS,kQ⟩:=kk i M hcb hM
 apply Y
 refine⟨_,rfl,ixO (e1 _ _ hd) qNx ⟨_,rfl,z,rd,ms,_,some t,rl,rfl,tT.same e1,hit,hrl.same e1,.int t,fun h=>(by have h':mmF rl ms t=none:=h;rw [hM] at h';cases h'),fun M' h H2 e2=>?_⟩⟩
 obtain rfl:M'=M:=by
  have h':mmF rl ms t=some M':=h
  rw [hM] at h'
  exact(Option.some.inj h').symm
 have e12:=e1.trans e2
 refine(ixO (e12 _ _ hd) qN0 ⟨_,rfl,_,_,rfl,rfl,_,rfl,jx (fun c=>?_) (fun c=>?_)⟩)
 · have hc:M' < l:=by simpa using c
   exact⟨_,rfl,_,rfl,fun dx hdx=>kS hc dx _ (e12.trans (qH hdx _)) qF⟩
 have hc:l≤M':=by have:¬ M' < l:=by simpa using c
                  omega
 refine⟨_,rfl,ixO (e12 _ _ hd) qNj ?_⟩
 refine qR fun _ Y=>?_
 obtain⟨vs,hz,his⟩:=tT.same e12
 apply Y
 have hvl:=his.len
 have hpz2:=e2 _ _ hpz
 refine⟨_,rfl,ixO hpz2 at1 ⟨_,rfl,z,_,rfl,SqL.of hz,fun a1' ha1=>?_⟩⟩
 rw [qG7]
 have v1:=qH ha1 (.lst (vs.take (i+1)))
 refine(kq rfl (SqT.of ((e12.trans v1) _ _ hd)) qN0 ⟨sL2,fun g hg=>⟨sL1,fun a2' ha2=>?_⟩⟩)
 have vg:=qH hg (.tup [.str "mix",.int l])
 have v2:=qH ha2 (.lst [.ref g])
 refine⟨a1',a2',_,_,rfl,rfl,v2 _ _ (vg _ _ qF),qF,sm _ (by rw [List.length_take];show min (i+1) _+1≤1000;omega),fun a3 ha3=>?_⟩
 have v3:=qH ha3 (.lst (vs.take (i+1)++[.ref g]))
 have v13:=((v1.trans vg).trans v2).trans v3
 have kg:(upd (upd (upd (upd H2 a1' (.lst (vs.take (i+1)))) g (.tup [.str "mix",.int l])) a2' (.lst [.ref g])) a3 (.lst (vs.take (i+1)++[.ref g]))) g=some (.tup [.str "mix",.int l]):=(v2.trans v3) _ _ qF
 have k3:(upd (upd (upd (upd H2 a1' (.lst (vs.take (i+1)))) g (.tup [.str "mix",.int l])) a2' (.lst [.ref g])) a3 (.lst (vs.take (i+1)++[.ref g]))) a3=some (.lst (vs.take (i+1)++[.ref g])):=qF
 change _
 generalize upd (upd (upd (upd H2 a1' (.lst (vs.take (i+1)))) g (.tup [.str "mix",.int l])) a2' (.lst [.ref g])) a3 (.lst (vs.take (i+1)++[.ref g]))=H3 at v13 kg k3
 refine⟨_,rfl,ixO (v13 _ _ hpz2) at1 ⟨_,rfl,z,_,rfl,SqL.of (v13 _ _ hz),fun a4 ha4=>?_⟩⟩
 rw [qGw]
 have v4:=qH ha4 (.lst (vs.drop (i+1)))
 refine⟨a3,a4,_,_,rfl,rfl,v4 _ _ k3,qF,sm _ (by rw [List.length_append,List.length_take,List.length_drop];show min (i+1) _+1+_≤1000;omega),fun a5 ha5=>?_⟩
 have v5:=qH ha5 (.lst (vs.take (i+1)++[.ref g]++vs.drop (i+1)))
 have v45:=v4.trans v5
 have e5:=(e12.trans v13).trans v45
 have hisE:=(his.ts (qr v13)).ts (qr v45)
 exact⟨tz,a5,n0,ts,tie,ms.take (i+1)++[.mix l]++ms.drop (i+1),rfl,hP.tab.same e5,⟨_,qF,(hisE.take.app (.one (isM (v45 _ _ kg)))).app hisE.drop⟩,hnt,by have:=hP.len;omega,fun t' H6 e6 hN=>kQ hc t' H6 (e5.trans e6) (hN H e5 (((e12.trans v13).trans v4).free ha5))⟩
inductive qA7 (vs:List V)(H:Hp)(Q:VK)(_:XK):Prop
| mk (c n:Int) (_:vs=[.int c,.int n]) (_:0≤n) (_:n≤400) (_:∀ (z:Addr) (xs:List Int) (H':Hp),Same H H'→H z=none→H' z=some (.lst (xs.map V.int))→xs.length=n.toNat→(∀ x∈xs,0≤x∧x < 10000000019)→Q (.ref z) H')
theorem qBn (T:Tx K mg a):FnOk P w K mg base CX0 1 a.A85 a.B85 ["_law_cell","_law_size"] qA7:=by
 refine T.D85.F.ok qv (fun vs H Q E h=>?_) (fun cdv A outer s H vs Q E hr h=>?_)
 · obtain⟨c,n,rfl,_⟩:=h
   rfl
 refine qR fun _ Y=>?_
 obtain⟨c,n,rfl,n0,n1,kk⟩:=h
 apply Y
 refine⟨_,(qC (qd 2 qv.nd (zM qB))
  (qC (qW (qJ qA6 (pv 0) (qK qDt qE qE) (qO _)) (qC (qd 3 qv.nd (qK qf (pv 0) qE))
  (qC (xD PassesOwn.never rfl (xc rfl T.b_range (qA (pv 1) qB)) (qq (i:=4) qv.nd rfl (Or.inl rfl)) (qC (jL (qFm F.plainAttrs_list F.slot_list_append F.type_list_append zU (pv 2) (qA (qK jG (pv 3) qE) qB)))
  (qD (qd 3 qv.nd (qK qf (pv 3) qE)))))
  (qD (qN (qNn (pv 2)))))) qL)
  (qC (qd 5 qv.nd (qK jG (qK ql (qK qh (qK jG (pv 0) qE) qE) qE) qE))
  (qC (xD PassesOwn.never rfl (xc rfl T.b_range (qA (pv 1) qB)) (qq (i:=4) qv.nd rfl (Or.inl rfl)) (qC (qd 5 qv.nd (qK qh (qK qh (qK jG (qK ql (pv 5) (qK qh (qK qf (pv 5) qE) qE)) qE) (pv 4)) qE))
  (qD (jL (qFm F.plainAttrs_list F.slot_list_append F.type_list_append zU (pv 2) (qA (pv 5) qB))))))
  (qD (qN (pv 2))))))),?_⟩
 try dsimp only [jV,qg]
 refine⟨sL0,fun z hz=>?_⟩
 have wz:∀ (xs:List Int),Same H (upd H z (.lst (xs.map V.int))):=fun xs=>qH hz _
 refine⟨_,rfl,_,_,rfl,rfl,cpw (n:=40) (by decide),_,_,rfl,rfl,_,rfl,jx (fun _=>?_) (fun _=>?_)⟩
 · refine⟨_,rfl,_,_,rfl,rfl,cdB (by decide) (by decide),?_⟩
   refine⟨_,rfl,n,rfl,by omega,by omega,vE (n:=n.toNat) (fun i σ H'=>∃ (xs:List Int) (r:Int) (o p:Option V),σ=[some (.int c),some (.int n),some (.ref z),some (.int r),o,p]∧H'=upd H z (.lst (xs.map V.int))∧xs.length=i∧(∀ x∈xs,0≤x∧x < 10000000019))
    ⟨[],_,none,none,rfl,rfl,rfl,(by simp)⟩ ?_ ?_⟩
   · rintro i σ H' hi ⟨xs,r,o,p,rfl,rfl,hl,hx⟩
     have f:=fm r (show (0:Int) < 10000000019 by decide)
     refine⟨_,rfl,.inl ⟨rfl,_,SqL.of qF⟩,_,rfl,_,_,rfl,rfl,nz,z,_,_,rfl,rfl,qF,(by rw [List.length_map];exact qo (by omega)),?_⟩
     refine⟨_,rfl,_,_,rfl,rfl,cdB (by decide) (by decide),xs++[r.fmod 10000000019],_,_,_,rfl,?_,?_,?_⟩
     · rw [qF1,List.map_append];rfl
     · rw [List.length_append,hl];rfl
     · intro y hy
       rcases List.mem_append.mp hy with hy | hy
       · exact hx y hy
       · have e:y=r.fmod 10000000019:=by simpa using hy
         rw [e];exact f
   · rintro σ H' ⟨xs,r,o,p,rfl,rfl,hl,hx⟩
     refine⟨_,rfl,z,_,rfl,SqL.of qF,fun y hy=>?_⟩
     rw [← List.map_reverse]
     exact kk y xs.reverse _ ((wz xs).trans (qH hy _)) ((wz xs).free hy) qF (by rw [List.length_reverse];exact hl) (fun x hx'=>hx x (List.mem_reverse.mp hx'))
 · have f0:=fm c (show (0:Int) < 2147483647 by decide)
   refine⟨_,rfl,_,_,rfl,rfl,nz,_,_,rfl,rfl,_,_,rfl,rfl,cmR (by decide) (by decide),_,_,rfl,rfl,nz,?_⟩
   have f1:=fm ((c.fmod 2147483647+1)*48271) (show (0:Int) < 2147483647 by decide)
   refine⟨_,rfl,n,rfl,by omega,by omega,vE (n:=n.toNat) (fun i σ H'=>∃ (xs:List Int) (r:Int) (o p:Option V),σ=[some (.int c),some (.int n),some (.ref z),o,p,some (.int r)]∧H'=upd H z (.lst (xs.map V.int))∧xs.length=i∧(∀ x∈xs,0≤x∧x < 10000000019)∧0≤r∧r < 2147484647)
    ⟨[],_,none,none,rfl,rfl,rfl,(by simp),f1.1,by omega⟩ ?_ ?_⟩
   · rintro i σ H' hi ⟨xs,r,o,p,rfl,rfl,hl,hx,r0,r1⟩
     have f:=fm (r*(r.fdiv 1009+69621)) (show (0:Int) < 2147483647 by decide)
     refine⟨_,rfl,_,rfl,_,_,rfl,rfl,cdB (by decide) (by decide),_,_,rfl,rfl,_,_,rfl,rfl,cmL (by omega) (by omega),_,_,rfl,rfl,nz,_,rfl,_,_,rfl,rfl,_,_,rfl,rfl,?_⟩
     refine⟨_,rfl,.inl ⟨rfl,_,SqL.of qF⟩,_,rfl,z,_,_,rfl,rfl,qF,(by rw [List.length_map];exact qo (by omega)),?_⟩
     refine⟨xs++[(r*(r.fdiv 1009+69621)).fmod 2147483647+(0+(i:Int))+1],_,_,_,rfl,?_,?_,?_,by omega,by omega⟩
     · rw [qF1,List.map_append];rfl
     · rw [List.length_append,hl];rfl
     · intro y hy
       rcases List.mem_append.mp hy with hy | hy
       · exact hx y hy
       · have e:y=(r*(r.fdiv 1009+69621)).fmod 2147483647+(0+(i:Int))+1:=by simpa using hy
         rw [e];omega
   · rintro σ H' ⟨xs,r,o,p,rfl,rfl,hl,hx,_,_⟩
     exact⟨_,rfl,kk z xs _ (wz xs) hz qF hl hx⟩
def SB (z:Addr)(H H':Hp):Prop:=∀ b u,b≠z→H b=some u→H' b=some u
theorem SB.refl (z:Addr)(H:Hp):SB z H H:=fun _ _ _ h=>h
theorem SB.trans {z:Addr}{H H1 H2:Hp}(a:SB z H H1)(b:SB z H1 H2):SB z H H2:=fun c u n h=>b c u n (a c u n h)
theorem xQ {z:Addr}{H H':Hp}(e:Same H H'):SB z H H':=fun b u _ h=>e b u h
theorem qGl {z:Addr}{H:Hp}{o:HO}:SB z H (upd H z o):=fun b u n h=>by rw [qU n];exact h
theorem SB.ts {z:Addr}{H H':Hp}{xs:List V}(e:SB z H H')(h:H z=some (.lst xs)):TS H H':=fun b ys hb=>e b _ (qHx hb h (by intro q;cases q)) hb
inductive qBf (vs:List V)(H:Hp)(Q:VK)(_:XK):Prop
| mk (t b:Int) (_:vs=[.int t,.int b]) (_:0 < b) (_:b.natAbs < 2 ^ 8000) (_:qKf H Q (ja t b) (jN t b))
theorem kE (T:Tx K mg a):FnOk P w K mg base CX0 1 a.A86 a.B86 ["_law_top","_law_bottom"] qBf:=by
 refine T.D86.F.ok jm (fun vs H Q E h=>?_) (fun cdv A outer s H vs Q E hr h=>?_)
 · obtain⟨t,b,rfl,_⟩:=h
   rfl
 refine qR fun _ Y=>?_
 obtain⟨t,b,rfl,hb,hb2,k⟩:=h
 apply Y
 refine⟨_,(qC (qd 2 jm.nd (qQ qCu rfl T.b_abs rfl (qA (pv 0) qB)))
  (qC (qd 3 jm.nd (pv 1))
  (qC (qCn PassesOwn.never (qJ xn (pv 3) qE (qO _)) (qD (qM0 (i:=2) (j:=3) rfl jm.nd rfl rfl (by decide) rfl rfl (qA (pv 3) (qA (qK jG (pv 2) (pv 3)) qB)) rfl)))
  (qD (qN (jO (qA (qK qf (pv 0) (pv 2)) (qA (qK qf (pv 1) (pv 2)) qB)))))))),?_⟩
 try dsimp only [jV,qg]
 refine⟨_,rfl,t,rfl,_,rfl,?_⟩
 refine qB4 (fun σ H'=>H'=H∧∃ x y:Int,σ=[some (.int t),some (.int b),some (.int x),some (.int y)]∧0≤x∧0≤y∧Int.gcd x y=Int.gcd t b)
  (fun σ _=>match σ with | [_,_,_,some (.int y)]=>y.natAbs | _=>0) ⟨rfl,_,_,rfl,?_,by omega,?_⟩ ?_ ?_
 · split <;> omega
 · have e1:(if t < 0 then -t else t)=((t.natAbs:Nat):Int):=by split <;> omega
   rw [e1]
   rfl
 · rintro σ H1 ⟨rfl,x,y,rfl,h0,h1,e⟩
   refine⟨_,rfl,rfl,_,rfl,?_⟩
   refine jx (fun c=>?_) (fun c=>?_)
   · have hy:y≠0:=by simpa using c
     refine⟨_,rfl,_,rfl,_,rfl,_,_,rfl,rfl,hy,_,_,rfl,⟨rfl,y,x.fmod y,rfl,h1,Int.fmod_nonneg_of_pos x (by omega),?_⟩,?_⟩
     · rw [qGh];exact e
     · exact qI9 x y hy
   · have hy:y=0:=by simpa using c
     refine qR fun _ Y=>?_
     subst hy
     have e2:x=sg t b:=by
      unfold sg
      rw [if_neg (by omega),← e,Int.gcd_zero_right]
      omega
     obtain⟨d1,d2⟩:=qGn (t:=t) (b:=b) (by omega) hb2
     apply Y
     have q':qKf H1 Q (t.fdiv x) (b.fdiv x):=by rw [e2];exact k
     exact⟨_,rfl,_,rfl,_,_,rfl,rfl,(by rw [e2];exact d1),_,rfl,_,rfl,_,_,rfl,rfl,(by rw [e2];exact d2),sL2,q'⟩
 · rintro σ H1 Q1 Q2 hq h
   refine qR fun _ Y=>?_
   obtain⟨v,e,s,k,hk,z⟩:=h
   apply Y
   exact⟨v,e,s,k,hk,hq _ _ z⟩
theorem qL3 {H:Hp}{zx:Addr}{ys:List Int}{x:Int}{Q:VK}(h:H zx=some (.lst ((ys++[x]).map V.int)))(q:∀ H',SB zx H H'→H' zx=some (.lst (ys.map V.int))→(∀ b,b≠zx→H' b=H b)→Q (.int x) H'):qPq (.ref zx) [] H Q:=by
 refine⟨zx,_,.int x,rfl,rfl,h,?_,?_⟩
 · rw [List.map_append,List.length_append,List.length_map]
   simp
 · have e:((ys++[x]).map V.int).dropLast=ys.map V.int:=by rw [List.map_append];simp
   rw [e]
   exact q _ qGl qF fun b hb=>qU hb
theorem wo {α:Type}{xs:List α}{n:Nat}(h:xs.length=n+1):∃ ys x,xs=ys++[x]∧ys.length=n:=by
 have hne:xs≠[]:=by intro q;rw [q] at h;simp at h
 exact⟨xs.dropLast,xs.getLast hne,(List.dropLast_concat_getLast hne).symm,by rw [List.length_dropLast,h];rfl⟩
def RE (H:Hp)(re:Addr)(A:Int):Prop:=Rd H re (.dK [(Sum.inr "a",.int A),(Sum.inr "reelb",.int 1000000000)])∧60≤A∧A < 360
theorem qNt {z:Addr}{H H':Hp}(e:SB z H H'){a:Addr}{u:HO}(n:a≠z)(h:Rd H a u):Rd H' a u:=by
 rcases h with h | ⟨o,h⟩
 · exact .inl (e _ _ n h)
 · exact .inr ⟨o,e _ _ n h⟩
theorem RE.ne {H:Hp}{re z:Addr}{A:Int}{xs:List V}(h:RE H re A)(hz:H z=some (.lst xs)):re≠z:=by
 rcases h.1 with q | ⟨o,q⟩
 · exact qHx q hz (by intro q;cases q)
 · exact qHx q hz (by intro q;cases q)
theorem RE.sb {z:Addr}{H H':Hp}(e:SB z H H'){re:Addr}{A:Int}(n:re≠z)(h:RE H re A):RE H' re A:=⟨qNt e n h.1,h.2⟩
theorem RE.same {H H':Hp}(e:Same H H'){re:Addr}{A:Int}(h:RE H re A):RE H' re A:=⟨qFd e h.1,h.2⟩
theorem RE.ga {H:Hp}{re:Addr}{A:Int}(h:RE H re A):DGet H re (.str "a") (some (.int A)):=.inl ⟨_,Sum.inr "a",h.1,rfl,rfl⟩
theorem RE.gb {H:Hp}{re:Addr}{A:Int}(h:RE H re A):DGet H re (.str "reelb") (some (.int 1000000000)):=.inl ⟨_,Sum.inr "reelb",h.1,rfl,rfl⟩
def stF (lo rs to bo len:Int):Int:=if to < 0 then lo*7*bo+rs*bo - 7*(len - 1)*to else lo*7*bo+rs*bo
def wF (i:Int):Int:=if i < 0 then -i else i
def CF (A:Int)(m:Im):Prop:=∃ (nm:Str) (N lo rs to bo len:Int),((nm="a"∧N=A)∨(nm="reelb"∧N=1000000000))∧1≤len∧len≤12∧-6≤to∧to≤6∧1≤bo∧bo≤5∧0≤lo∧lo+(((len - 1)*wF to).fdiv bo+1) < N∧0≤rs∧rs < 7∧
 m= .clip nm (ja (stF lo rs to bo len) (7*bo)) (jN (stF lo rs to bo len) (7*bo)) (ja to bo) (jN to bo) len
theorem qG0 {x y X Y:Int}(hx:-X≤x∧x≤X)(hy:-Y≤y∧y≤Y)(hX:0≤X)(hY:0≤Y):-(X*Y)≤x*y∧x*y≤X*Y:=by
 have h1:(x*y).natAbs≤X.natAbs*Y.natAbs:=by
  rw [Int.natAbs_mul]
  exact Nat.mul_le_mul (by omega) (by omega)
 have h2:((X.natAbs*Y.natAbs:Nat):Int)=X*Y:=by
  rw [Int.natCast_mul]
  have e1:(X.natAbs:Int)=X:=by omega
  have e2:(Y.natAbs:Int)=Y:=by omega
  rw [e1,e2]
 omega
theorem qNc {lo rs to bo len:Int}(l0:0≤lo)(l1:lo≤1000000000)(r0:0≤rs)(r1:rs < 7)(t0:-6≤to)(t1:to≤6)(b0:1≤bo)(b1:bo≤5)(n0:1≤len)(n1:len≤12):(stF lo rs to bo len).natAbs < 2 ^ 60:=by
 have h1:=qG0 (x:=lo*7) (y:=bo) (X:=7000000000) (Y:=5) ⟨by omega,by omega⟩ ⟨by omega,by omega⟩ (by decide) (by decide)
 have h2:=qG0 (x:=rs) (y:=bo) (X:=7) (Y:=5) ⟨by omega,by omega⟩ ⟨by omega,by omega⟩ (by decide) (by decide)
 have h3:=qG0 (x:=7*(len - 1)) (y:=to) (X:=77) (Y:=6) ⟨by omega,by omega⟩ ⟨by omega,by omega⟩ (by decide) (by decide)
 unfold stF
 split <;> omega
def rlE (A:Int):Rls:=fun n=>if n="a" then some A else if n="reelb" then some 1000000000 else none
theorem CF.it {A:Int}{m:Im}(h:CF A m)(hA0:60≤A)(hA:A < 360):ItR (rlE A) m∧ImB m∧1≤m.mo∧m.mo≤12:=by
 obtain⟨nm,N,lo,rs,to,bo,len,hn,n0,n1,t0,t1,b0,b1,l0,l1,r0,r1,rfl⟩:=h
 have hf:0≤((len - 1)*wF to).fdiv bo:=by
  have:=qX (p:=(len - 1)*wF to) (q:=bo) (by omega)
  have h0:0≤(len - 1)*wF to:=Int.mul_nonneg (by omega) (by unfold wF;split <;> omega)
  have:¬ (((len - 1)*wF to).fdiv bo+1≤0):=fun q=>by
   have:=Int.mul_le_mul_of_nonneg_right (c:=bo) q (by omega)
   omega
  omega
 have lo1:lo≤1000000000:=by rcases hn with ⟨_,rfl⟩ | ⟨_,rfl⟩ <;> omega
 have hs:=qNc l0 lo1 r0 r1 t0 t1 b0 b1 n0 n1
 have p110:∀ {i:Int},i.natAbs < 2 ^ 60→i.natAbs < 2 ^ 110:=fun h=>Nat.lt_of_lt_of_le h (Nat.pow_le_pow_right (by decide) (by decide))
 have e60:(100:Nat) < 2 ^ 60:=by decide
 have g1:qJj 110 (ja (stF lo rs to bo len) (7*bo)) (jN (stF lo rs to bo len) (7*bo)):=qG3 (by omega) (p110 hs) (p110 (by omega))
 have g2:qJj 110 (ja to bo) (jN to bo):=qG3 (by omega) (p110 (by omega)) (p110 (by omega))
 have hr:rlE A nm=some N:=by
  unfold rlE
  rcases hn with ⟨rfl,rfl⟩ | ⟨rfl,rfl⟩
  · rw [if_pos rfl]
  · rw [if_neg (by decide+kernel),if_pos rfl]
 have hc:Rc nm (ja (stF lo rs to bo len) (7*bo)) (jN (stF lo rs to bo len) (7*bo)) (ja to bo) (jN to bo) len (rlE A) N:=⟨g1,g2,Nat.lt_of_le_of_lt (show len.natAbs≤12 by omega) (by decide),n0,hr,Nat.lt_of_le_of_lt (show N.natAbs≤1000000000 by rcases hn with ⟨_,rfl⟩ | ⟨_,rfl⟩ <;> omega) (by decide)⟩
 refine⟨fun n p q r s l e=>?_,hc.bn.mono (m:=700),n0,n1⟩
 cases e
 exact⟨N,hc⟩
inductive qEy (vs:List V)(H:Hp)(Q:VK)(_:XK):Prop
| mk (zx re:Addr) (xs:List Int) (A sz:Int) (_:vs=[.ref zx,.ref re,.int sz]) (_:H zx=some (.lst (xs.map V.int))) (_:6≤xs.length) (_:RE H re A) (_:1≤sz) (_:sz≤12) (_:∀ (v:V) (m:Im) (xs':List Int) (H':Hp),SB zx H H'→H' zx=some (.lst (xs'.map V.int))→xs'.length+6=xs.length→CF A m→IsI H' m v→Q v H')
theorem qEt (T:Tx K mg a):FnOk P w K mg base CX0 2 a.A87 a.B87 ["_law_xs","_law_reels_here","_law_size"] qEy:=by
 refine T.D87.F.ok qm (fun vs H Q E h=>?_) (fun cdv A outer s H vs Q E hr h=>?_)
 · obtain⟨zx,re,xs,A',sz,rfl,_⟩:=h
   rfl
 refine qR fun _ Y=>?_
 obtain⟨zx,re,xs,A',sz,rfl,hz,hl,hre,hs1,hs2,kk⟩:=h
 have hu:=hr.units
 have hu1:(A.deeper (PyProof.Rows.envOfC (Str.ofString "_law_clip") (qG xw) s.heap.objs.size a.A87 cdv)).units+1 < cLine:=by omega
 obtain⟨n,hn⟩:∃ n,xs.length=n+6:=⟨xs.length - 6,by omega⟩
 obtain⟨y1,x1,rfl,l1⟩:=wo (n:=n+5) (by omega)
 obtain⟨y2,x2,rfl,l2⟩:=wo (n:=n+4) l1
 obtain⟨y3,x3,rfl,l3⟩:=wo (n:=n+3) l2
 obtain⟨y4,x4,rfl,l4⟩:=wo (n:=n+2) l3
 obtain⟨y5,x5,rfl,l5⟩:=wo (n:=n+1) l4
 obtain⟨y6,x6,rfl,l6⟩:=wo (n:=n) l5
 apply Y
 have nre:=hre.ne hz
 refine⟨_,(qC (qd 3 qm.nd (jM jE (zM (qA qV (qA qV qB))) (qK jG (qK qf (qAj F.plainAttrs_list F.slot_list_pop F.type_list_pop wl (pv 0)) qE) qE) (fun _ _=>rfl)))
  (qC (qd 4 qm.nd (qK qh qE (qK jG (qK qf (qAj F.plainAttrs_list F.slot_list_pop F.type_list_pop wl (pv 0)) qE) (pv 2))))
  (qC (qd 5 qm.nd (qK jA (qK jG (qK qf (qAj F.plainAttrs_list F.slot_list_pop F.type_list_pop wl (pv 0)) qE) qE) qE))
  (qC (qd 6 qm.nd (qK qh qE (qK jG (qK qf (qAj F.plainAttrs_list F.slot_list_pop F.type_list_pop wl (pv 0)) qE) qE)))
  (qC (qd 7 qm.nd (qK qh (qK qf (qK ql (qK jA (pv 4) qE) (qQ qCu rfl T.b_abs rfl (qA (pv 5) qB))) (pv 6)) qE))
  (qC (xE (qW (qJ qA6 (pv 7) (kN hu1 (pv 1) (pv 3) (fun _ _=>rfl)) (qO _)) (qC (qd 5 qm.nd qE)
  (qD (qd 7 qm.nd qE))) qL))
  (qC (qd 8 qm.nd (qK jG (qAj F.plainAttrs_list F.slot_list_pop F.type_list_pop wl (pv 0)) (qK jA (kN hu1 (pv 1) (pv 3) (fun _ _=>rfl)) (pv 7))))
  (qC (qd 9 qm.nd (qK jG (qK qf (qAj F.plainAttrs_list F.slot_list_pop F.type_list_pop wl (pv 0)) qE) qE))
  (qC (qd 10 qm.nd (qK qh (qK ql (qK ql (pv 8) qE) (pv 6)) (qK ql (pv 9) (pv 6))))
  (qC (xE (qW (qJ kD (pv 5) qE (qO _)) (qD (qd 10 qm.nd (qK jA (pv 10) (qK ql (qK ql qE (qK jA (pv 4) qE)) (pv 5))))) qL))
  (qD (qN (jO (qA qV (qA (pv 3) (qA (qI T.D86 (kE T) hr rfl (qA (pv 10) (qA (qK ql qE (pv 6)) qB))) (qA (qI T.D86 (kE T) hr rfl (qA (pv 5) (qA (pv 6) qB))) (qA (pv 4) qB)))))))))))))))))),?_⟩
 try dsimp only [jV,qg]
 refine⟨sL2,fun ld hld=>?_⟩
 have w0:=qH hld (.lst [.str "a",.str "reelb"])
 have hz0:=w0 _ _ hz
 have nld:ld≠zx:=(qS hz hld).symm
 refine⟨_,rfl,.inl ⟨rfl,_,SqL.of hz0⟩,qL3 hz0 fun H1 s1 hz1 k1=>?_⟩
 have f1:=fm (x1.fdiv 3) (show (0:Int) < 2 by decide)
 refine qR fun _ Y=>?_
 obtain⟨v,hv,hor⟩:=at2 (x:=V.str "a") (y:=.str "reelb") f1.1 f1.2
 apply Y
 refine⟨_,_,rfl,rfl,cdB (by decide) (by decide),_,_,rfl,rfl,nz,ld,_,_,v,rfl,rfl,SqL.of (s1 _ _ nld qF),hv,?_⟩
 have sb1:SB zx H H1:=(xQ w0).trans s1
 have re1:=hre.sb sb1 nre
 refine qR fun _ Y=>?_
 obtain⟨nm,N,rfl,hnm,hget⟩:∃ (nm:Str) (N:Int),v= .str nm∧((nm="a"∧N=A')∨(nm="reelb"∧N=1000000000))∧∀ {H':Hp},RE H' re A'→DGet H' re (.str nm) (some (.int N)):=by
  rcases hor with rfl | rfl
  · exact⟨"a",A',rfl,.inl ⟨rfl,rfl⟩,fun h=>h.ga⟩
  · exact⟨"reelb",1000000000,rfl,.inr ⟨rfl,rfl⟩,fun h=>h.gb⟩
 apply Y
 have hN:60≤N∧N≤1000000000:=by
  have:=hre.2
  rcases hnm with ⟨_,rfl⟩ | ⟨_,rfl⟩ <;> omega
 refine⟨_,rfl,.inl ⟨rfl,_,SqL.of hz1⟩,qL3 hz1 fun H2 s2 hz2 k2=>?_⟩
 have f2:=fm (x2.fdiv 3) (show (0:Int) < sz by omega)
 refine⟨_,_,rfl,rfl,cdB (by decide) (by decide),_,rfl,_,_,rfl,rfl,(by omega),_,_,rfl,rfl,?_⟩
 refine⟨_,rfl,.inl ⟨rfl,_,SqL.of hz2⟩,qL3 hz2 fun H3 s3 hz3 k3=>?_⟩
 have f3:=fm (x3.fdiv 3) (show (0:Int) < 13 by decide)
 refine⟨_,_,rfl,rfl,cdB (by decide) (by decide),_,_,rfl,rfl,nz,_,_,rfl,rfl,?_⟩
 refine⟨_,rfl,.inl ⟨rfl,_,SqL.of hz3⟩,qL3 hz3 fun H4 s4 hz4 k4=>?_⟩
 have f4:=fm (x4.fdiv 3) (show (0:Int) < 5 by decide)
 refine⟨_,_,rfl,rfl,cdB (by decide) (by decide),_,_,rfl,rfl,nz,_,_,rfl,rfl,?_⟩
 have sb4:SB zx H H4:=((sb1.trans s2).trans s3).trans s4
 dsimp only
 generalize hlen:1+(x2.fdiv 3).fmod sz=len
 generalize hto:(x3.fdiv 3).fmod 13 - 6=to
 generalize hbo:1+(x4.fdiv 3).fmod 5=bo
 have n0:1≤len:=by omega
 have n1:len≤12:=by omega
 have t0:-6≤to:=by omega
 have t1:to≤6:=by omega
 have b0:1≤bo:=by omega
 have b1:bo≤5:=by omega
 refine⟨_,rfl,_,_,rfl,rfl,_,rfl,_,rfl,_,_,rfl,rfl,cmL (by omega) (by omega),_,rfl,_,_,rfl,rfl,cdB (by omega) (by omega),_,_,rfl,rfl,?_⟩
 have ha:(if to < 0 then -to else to)=wF to:=rfl
 rw [ha]
 have pos:∀ i:Int,0≤i→0≤((len - 1)*i).fdiv bo:=fun i hi=>by
  have h1:=qX (p:=(len - 1)*i) (q:=bo) (by omega)
  have h0:0≤(len - 1)*i:=Int.mul_nonneg (by omega) hi
  have:¬ (((len - 1)*i).fdiv bo+1≤0):=fun q=>by
   have:=Int.mul_le_mul_of_nonneg_right (c:=bo) q (by omega)
   omega
  omega
 have abs0:∀ i:Int,0≤wF i:=fun i=>by unfold wF;split <;> omega
 refine⟨fun σ' H'=>H'=H4∧∃ to:Int,σ'=[some (.ref zx),some (.ref re),some (.int sz),some (.str nm),some (.int len),some (.int to),some (.int bo),some (.int (((len - 1)*wF to).fdiv bo+1)),none,none,none]∧-6≤to∧to≤6∧((len - 1)*wF to).fdiv bo+1 < N,?_,?_⟩
 · refine⟨_,rfl,_,rfl,_,rfl,re,_,rfl,hget (hre.sb sb4 nre),_,_,rfl,rfl,_,rfl,jx (fun _=>?_) (fun c=>?_)⟩
   · have ez:((len - 1)*wF 0).fdiv bo+1=1:=by
      have:wF 0=0:=rfl
      rw [this,Int.mul_zero,Int.zero_fdiv];rfl
     refine⟨rfl,0,?_,by decide,by decide,by rw [ez];omega⟩
     rw [ez]
     rfl
   · exact⟨rfl,to,rfl,t0,t1,by simpa using c⟩
 rintro σ' H' ⟨rfl,to,rfl,t0,t1,hfar⟩
 have hf0:=pos (wF to) (abs0 to)
 refine⟨_,rfl,.inl ⟨rfl,_,SqL.of hz4⟩,qL3 hz4 fun H5 s5 hz5 k5=>?_⟩
 have sb5:=sb4.trans s5
 refine⟨_,rfl,_,rfl,re,_,rfl,hget (hre.sb sb5 nre),_,rfl,_,_,rfl,rfl,_,_,rfl,rfl,(by omega),?_⟩
 have f5:=fm x5 (show (0:Int) < N - (((len - 1)*wF to).fdiv bo+1) by omega)
 dsimp only
 generalize x5.fmod (N - (((len - 1)*wF to).fdiv bo+1))=lo at f5 ⊢
 refine⟨_,rfl,.inl ⟨rfl,_,SqL.of hz5⟩,qL3 hz5 fun H6 s6 hz6 k6=>?_⟩
 have sb6:=sb5.trans s6
 have f6:=fm (x6.fdiv 3) (show (0:Int) < 7 by decide)
 refine⟨_,_,rfl,rfl,cdB (by decide) (by decide),_,_,rfl,rfl,nz,?_⟩
 dsimp only
 generalize (x6.fdiv 3).fmod 7=rs at f6 ⊢
 have m1:=qG0 (x:=lo*7) (y:=bo) (X:=7000000000) (Y:=5) ⟨by omega,by omega⟩ ⟨by omega,by omega⟩ (by decide) (by decide)
 refine⟨_,rfl,_,_,rfl,rfl,cmR (by decide) (by decide),_,rfl,_,_,rfl,rfl,cmR (by omega) (by omega),_,rfl,_,rfl,_,_,rfl,rfl,cmR (by omega) (by omega),_,_,rfl,rfl,?_⟩
 refine⟨fun σ' H'=>H'=H6∧∃ st:Int,σ'=[some (.ref zx),some (.ref re),some (.int sz),some (.str nm),some (.int len),some (.int to),some (.int bo),some (.int (((len - 1)*wF to).fdiv bo+1)),some (.int lo),some (.int rs),some (.int st)]∧st=stF lo rs to bo len,?_,?_⟩
 · refine⟨_,rfl,_,_,rfl,rfl,_,rfl,jx (fun c=>?_) (fun c=>?_)⟩
   · have c':to < 0:=by simpa using c
     refine⟨_,rfl,_,rfl,_,_,rfl,rfl,_,_,rfl,rfl,cmL (by decide) (by decide),_,rfl,_,_,rfl,rfl,cmR (by omega) (by omega),_,_,rfl,rfl,rfl,_,rfl,?_⟩
     unfold stF;rw [if_pos c']
   · have c':¬ to < 0:=by simpa using c
     refine⟨rfl,_,rfl,?_⟩
     unfold stF;rw [if_neg c']
 rintro σ' H' ⟨rfl,st,rfl,hst⟩
 refine⟨_,rfl,_,rfl,_,rfl,_,_,rfl,rfl,cmL (by decide) (by decide),st,7*bo,rfl,by omega,?_,fun p hp=>?_⟩
 · have:(7*bo).natAbs < 2 ^ 6:=by omega
   exact Nat.lt_of_lt_of_le this (Nat.pow_le_pow_right (by decide) (by decide))
 have w7:=qH hp (.tup [.int (ja st (7*bo)),.int (jN st (7*bo))])
 refine⟨_,rfl,_,rfl,to,bo,rfl,by omega,?_,fun q hq=>?_⟩
 · have:bo.natAbs < 2 ^ 6:=by omega
   exact Nat.lt_of_lt_of_le this (Nat.pow_le_pow_right (by decide) (by decide))
 have w8:=qH hq (.tup [.int (ja to bo),.int (jN to bo)])
 refine⟨_,rfl,sL5,fun u hu'=>?_⟩
 have w9:=qH hu' (.tup [.str "clip",.str nm,.ref p,.ref q,.int len])
 have w79:=(w7.trans w8).trans w9
 refine kk _ (.clip nm (ja st (7*bo)) (jN st (7*bo)) (ja to bo) (jN to bo) len) y6 _ (sb6.trans (xQ w79)) (w79 _ _ hz6) (by simp) ?_ (isC qF (w9 _ _ (w8 _ _ qF)) (w9 _ _ qF))
 exact⟨nm,N,lo,rs,to,bo,len,hnm,n0,n1,t0,t1,b0,b1,f5.1,by omega,f6.1,f6.2,by rw [hst]⟩
theorem kY:∀ (i:Nat) (ms:List Im) (m:Im),jR i (ms++[m])=jR i ms++(if m.wd="mix" then [i+ms.length] else [])
 | i,[],m=>by
  by_cases h:m.wd="mix"
  · obtain⟨l,rfl⟩:=qA3 h
    rfl
  · rw [List.nil_append,xG h,if_neg h];rfl
 | i,x::ms,m=>by
  have ih:=kY (i+1) ms m
  have e:i+1+ms.length=i+(x::ms).length:=by rw [List.length_cons];omega
  rw [e] at ih
  by_cases h:x.wd="mix"
  · obtain⟨l,rfl⟩:=qA3 h
    rw [List.cons_append,jR,jR,ih];rfl
  · rw [List.cons_append,xG h,xG h,ih]
theorem vd:∀ {i:Nat} {ms:List Im} {p:Nat},p∈jR i ms→i≤p∧∃ l,ms[p - i]? =some (.mix l)
 | _,[],_,h=>by simp [jR] at h
 | i,m::ms,p,h=>by
  by_cases hm:m.wd="mix"
  · obtain⟨l,rfl⟩:=qA3 hm
    rw [jR] at h
    rcases List.mem_cons.mp h with rfl | h
    · exact⟨Nat.le_refl _,l,by simp⟩
    · obtain⟨h1,l',h2⟩:=vd h
      have e:p - i=(p - (i+1))+1:=by omega
      exact⟨by omega,l',by rw [e,List.getElem?_cons_succ];exact h2⟩
  · rw [xG hm] at h
    obtain⟨h1,l',h2⟩:=vd h
    have e:p - i=(p - (i+1))+1:=by omega
    exact⟨by omega,l',by rw [e,List.getElem?_cons_succ];exact h2⟩
def qKs (ms:List Im):Prop:=∀ (i:Nat) (l:Int),ms[i]? =some (.mix l)→1≤i∧(∃ n p q r s k,ms[i - 1]? =some (.clip n p q r s k))∧∃ n p q r s k,ms[i+1]? =some (.clip n p q r s k)
def OkC (rl:Rls):Im→Prop
 | .clip n p q r s l=>∃ N,rl n=some N∧GF n p q r s l∧InR (Vk p q r s 0) (q*s) N∧InR (Vk p q r s (l - 1)) (q*s) N
 | .mix l=>1≤l
 | .nest _ _ _=>False
 | .gap _=>False
structure CTr (rl:Rls)(ms:List Im):Prop where
 len:ms.length≤100
 ok:∀ m∈ms,OkC rl m
 it:∀ m∈ms,ItR rl m
 mx:qKs ms
theorem qLg {rl:Rls}:∀ (ms:List Im),(∀ m∈ms,OkC rl m)→qBv 0 ms=ms
 | [],_=>rfl
 | m::ms,h=>by
  have ih:=qLg ms fun x hx=>h x (by simp [hx])
  have hm:=h m (by simp)
  cases m with
  | clip=>rw [qBv,if_neg (by decide),ih]
  | mix=>rw [qBv,if_neg (by decide),ih]
  | nest=>exact hm.elim
  | gap=>exact hm.elim
theorem OkC.mo {rl:Rls}{m:Im}(h:OkC rl m):0≤m.mo:=by
 cases m with
 | clip n p q r s l=>obtain⟨N,_,g,_⟩:=h;have:=g.l1;show 0≤l;omega
 | mix=>exact Int.le_refl 0
 | nest=>exact h.elim
 | gap=>exact h.elim
inductive zP (vs:List V)(H:Hp)(Q:VK)(_:XK):Prop
| mk (z:Addr) (l:Int) (_:vs=[.ref z]) (_:H z=some (.tup [.str "mix",.int l])) (_:1≤l) (_:∀ H',Same H H'→Q (.bl true) H')
theorem zO (T:Tx K mg a):FnOk P w K mg base CX0 3 a.A23 a.B23 ["item"] zP:=by
 refine T.D23.F.ok zQ (fun vs H Q E h=>?_) (fun cdv A outer s H vs Q E hr h=>?_)
 · obtain⟨z,l,rfl,_⟩:=h
   rfl
 refine qR fun _ Y=>?_
 obtain⟨z,l,rfl,hz,hl,kk⟩:=h
 apply Y
 refine⟨_,(qC (qW (PW.pt (jW (qi (qc (qQ qZ rfl T.b_isinstance rfl (qA (pv 0) (qA (zG rfl T.b_tuple rfl) qB))))) (jH (qJ xn (qQ qY rfl T.b_len rfl (qA (pv 0) qB)) qE (qO _))))) (qD (qN jn)) qL)
  (qD (qN (xL (jK vP (qP (pv 0)) (jO (qA qV (qA qV qB))) rfl) (zL (qI T.D21 (zc T) hr rfl (qA (qP (pv 0)) qB))))))),?_⟩
 try dsimp only [jV,qg]
 refine⟨_,rfl,_,_,_,true,rfl,.tup hz,⟨_,.inl ⟨rfl,by kernel_rfl⟩⟩,true,rfl,qp ?_⟩
 refine⟨_,rfl,_,_,rfl,.inr (SqT.of hz),rfl,_,rfl,qp ?_⟩
 refine(ixO hz at0 ⟨sL2,fun t ht=>?_⟩)
 have w1:=qH ht (.tup [.str "gap",.str "mix"])
 refine⟨t,_,rfl,.inr (SqT.of qF),rfl,rfl,true,(by decide+kernel),jS ?_⟩
 refine(ixO (w1 _ _ hz) at1 ⟨_,some l,rfl,.int l,?_⟩)
 have e:lnO (some l)=true:=decide_eq_true hl
 rw [e]
 exact kk _ w1
inductive xh (vs:List V)(H:Hp)(Q:VK)(_:XK):Prop
| mk (i:Int) (_:vs=[.int i]) (_:1≤i) (_:i≤1000000000) (_:Q (.bl true) H)
theorem xm (T:Tx K mg a):FnOk P w K mg base CX0 2 a.A73 a.B73 ["thing"] xh:=by
 refine T.D73.F.ok xg (fun vs H Q E h=>?_) (fun cdv A outer s H vs Q E hr h=>?_)
 · obtain⟨i,rfl,_⟩:=h
   rfl
 refine qR fun _ Y=>?_
 obtain⟨i,rfl,i1,i2,q⟩:=h
 apply Y
 refine⟨_,(qD (qN (xL (qI T.D0 (xp T) hr rfl (qA (pv 0) qB)) (xL (jK qA6 (pv 0) qE (qO _)) (zL (jK qEs (pv 0) (ju (v:=.int 1000000000) rfl T.g_MOST_PICTURES ⟨_,rfl⟩) (qO _))))))),?_⟩
 try dsimp only [jV,qg]
 rw [← decide_eq_true i2] at q
 exact⟨_,rfl,i,rfl,true,rfl,jS ⟨_,rfl,_,_,rfl,rfl,true,congrArg V.bl (decide_eq_true i1),jS ⟨_,rfl,_,_,rfl,rfl,q⟩⟩⟩
def qPs (ar:List (Key × V)):Prop:=∀ p∈ar,∃ (n:Str) (N:Int),p=(Sum.inr n,.int N)∧wS n=true∧n.length≤1000∧1≤N∧N≤1000000000
theorem qIn {H:Hp}{d:Addr}{kvs:List (Key × V)}{R:Obj→Hp→Prop}(h:Rd H d (.dK kvs))(k:∀ o H',H' d=some (.frz o (.dK kvs))→SB d H H'→R o H'):Frz H d kvs R:=by
 rcases h with h | ⟨o,h⟩
 · exact .inr ⟨h,fun o=>k o _ qF qGl⟩
 · exact .inl ⟨o,h,k o H h (SB.refl _ _)⟩
inductive qA8 (vs:List V)(H:Hp)(Q:VK)(_:XK):Prop
| mk (rd:Addr) (ar:List (Key × V)) (_:vs=[.ref rd]) (_:Rd H rd (.dK ar)) (_:qPs ar) (_:ar.length≤100) (_:∀ (o:Obj) (H':Hp),SB rd H H'→H' rd=some (.frz o (.dK ar))→Q .non H')
theorem qBb (T:Tx K mg a):FnOk P w K mg base CX0 3 a.A74 a.B74 ["reels"] qA8:=by
 refine T.D74.F.ok xX (fun vs H Q E h=>?_) (fun cdv A outer s H vs Q E hr h=>?_)
 · obtain⟨rd,ar,rfl,_⟩:=h
   rfl
 refine qR fun _ Y=>?_
 obtain⟨rd,ar,rfl,hrd,hok,hal,kk⟩:=h
 apply Y
 refine⟨_,(qD (xD PassesOwn.never rfl (qGq (pv 0)) (qG2 rfl (xO (qq (i:=1) xX.nd rfl (Or.inl rfl)) (xO (qq (i:=2) xX.nd rfl (Or.inl rfl)) qCq))) (qD (qW (PW.pt (jW (qi (qc (qI T.D10 (xP T) hr rfl (qA (pv 1) qB)))) (jH (qi (qc (qI T.D73 (xm T) hr rfl (qA (pv 2) qB))))))) jX qL)))),?_⟩
 try dsimp only [jV,qg]
 refine⟨_,rfl,rd,ar,rfl,qIn hrd fun o H0 h0 s0=>?_⟩
 refine qEb (d:=rd) (o:=o) (kvs:=ar) (fun i σ H'=>∃ (o1 o2:Option V),σ=[some (.ref rd),o1,o2]∧Same H0 H') ⟨none,none,rfl,Same.refl _⟩ ?_ ?_ ?_
 · rintro i σ H' hi ⟨o1,o2,rfl,e⟩
   exact e _ _ h0
 · rintro i k v σ H' p hkv ⟨o1,o2,rfl,e⟩ hp
   refine qR fun _ Y=>?_
   obtain⟨n,N,ekv,h1,h2,h3,h4⟩:=hok _ (List.mem_of_getElem? hkv)
   cases ekv
   apply Y
   have w1:=qH hp (.tup [kV (Sum.inr n),.int N])
   refine⟨p,_,rfl,SqT.of qF,rfl,_,_,rfl,_,_,rfl,rfl,?_⟩
   have hnm:=NmB.str (K:=K) (H:=upd H' p (.tup [kV (Sum.inr n),.int N])) n h2
   rw [h1] at hnm
   exact⟨_,rfl,_,true,rfl,hnm,fun H2 e2=>⟨true,rfl,qp ⟨_,rfl,N,rfl,h3,h4,true,rfl,qp ⟨_,_,rfl,(e.trans w1).trans e2⟩⟩⟩⟩
 · rintro σ H' ⟨o1,o2,rfl,e⟩
   exact kk o H' (s0.trans (xQ e)) (e _ _ h0)
inductive zm (K:W.Frag)(vs:List V)(H:Hp)(Q:VK)(_:XK):Prop
| mk (v:V) (rd:Addr) (_:vs=[v,.ref rd]) (_:ItB K H v rd true) (_:∀ H',Same H H'→Q .non H')
theorem z6 (T:Tx K mg a):FnOk P w K mg base CX0 7 a.A75 a.B75 ["item","reels"] (zm K):=by
 refine T.D75.F.ok jq (fun vs H Q E h=>?_) (fun cdv A outer s H vs Q E hr h=>?_)
 · obtain⟨v,rd,rfl,_⟩:=h
   rfl
 refine qR fun _ Y=>?_
 obtain⟨v,rd,rfl,hI,kk⟩:=h
 apply Y
 refine⟨_,(qD (qJc (fun _ _ _=>False) .none jq.nd rfl T.c_NoClip (fun _=>(qD (jL (xV T.D15 (qBa T) hr rfl (qA (pv 0) (qA (pv 1) qB)))))) (fun _ _=>jX))),?_⟩
 try dsimp only [jV,qg]
 refine⟨⟨_,rfl,_,rfl,v,rd,true,rfl,hI,fun _=>kk,fun h=>(by cases h)⟩,?_⟩
 rintro ea B σ' H' h
 exact h.elim
inductive qB5 (vs:List V)(H:Hp)(Q:VK)(_:XK):Prop
| mk (v:V) (m:Im) (rz re td:Addr) (rl:Rls) (_:vs=[v,.ref rz]) (_:IsI H m v) (_:H rz=some (.tup [.ref re,.ref td])) (_:ReelsAt H re rl) (_:OkC rl m) (_:∀ H',Same H H'→Q .non H')
theorem qB6 (T:Tx K mg a):FnOk P w K mg base CX0 8 a.A76 a.B76 ["item","room"] qB5:=by
 refine T.D76.F.ok qCt (fun vs H Q E h=>?_) (fun cdv A outer s H vs Q E hr h=>?_)
 · obtain⟨v,m,rz,re,td,rl,rfl,_⟩:=h
   rfl
 refine qR fun _ Y=>?_
 obtain⟨v,m,rz,re,td,rl,rfl,hI,hz0,hre,hN,kk⟩:=h
 apply Y
 have hu1:=wu hr
 refine⟨_,(qD (qW (PW.pt (xJ (qc (qQ qZ rfl T.b_isinstance rfl (qA (pv 0) (qA (zG rfl T.b_tuple rfl) qB)))) (xJ (qJ kU (qQ qY rfl T.b_len rfl (qA (pv 0) qB)) qE (qO _)) (ji (qJ xY (qP (pv 0)) qV (qO _)))))) (qD (jL (qI T.D75 (z6 T) hr rfl (qA (pv 0) (qA (qP (pv 1)) qB))))) (qD (qW (qc (qI T.D22 (wT T) hr rfl (qA (pv 0) qB))) (qD (qW (wD (qEx hu1 (qP (pv 0)) (qP (pv 1)))) jX qL)) (qD (qW (qi (qc (qI T.D23 (zO T) hr rfl (qA (pv 0) qB)))) jX qL)))))),?_⟩
 try dsimp only [jV,qg]
 cases m with
 | clip n p q r s1 l=>
  refine qR fun _ Y=>?_
  obtain⟨z,x,y,rfl,hz,hx,hy⟩:=hI
  obtain⟨N,h1,h2,h3,h4⟩:=hN
  apply Y
  refine⟨_,rfl,_,_,_,true,rfl,.tup hz,⟨_,.inl ⟨rfl,by kernel_rfl⟩⟩,true,rfl,jS ?_⟩
  refine⟨_,rfl,z,_,rfl,.inr (SqT.of hz),_,_,rfl,rfl,_,rfl,jS ?_⟩
  refine(ixO hz qHq ⟨rfl,_,rfl,qBl (by decide+kernel) ?_⟩)
  exact⟨_,rfl,ixO hz0 at0 ⟨_,re,rfl,.pics ⟨⟨x,y,hz,hx,hy⟩⟩ h2 (hre n N h1) ⟨fun _=>⟨h3,h4⟩,fun _=>rfl⟩,kk⟩⟩
 | nest=>exact hN.elim
 | gap=>exact hN.elim
 | mix l=>
  refine qR fun _ Y=>?_
  obtain⟨z,rfl,hz⟩:=id hI
  apply Y
  refine⟨_,rfl,_,_,_,true,rfl,.tup hz,⟨_,.inl ⟨rfl,by kernel_rfl⟩⟩,true,rfl,jS ?_⟩
  refine⟨_,rfl,z,_,rfl,.inr (SqT.of hz),_,_,rfl,rfl,_,rfl,jS ?_⟩
  refine(ixO hz at0 ⟨rfl,_,rfl,vK (by decide+kernel) ?_⟩)
  refine⟨_,rfl,_,false,rfl,.len hz (by show (2:Nat)≠4;decide),fun H1 e1=>⟨false,rfl,qp ?_⟩⟩
  exact⟨_,rfl,z,l,rfl,e1 _ _ hz,hN,fun H2 e2=>⟨true,rfl,qp (kk H2 (e1.trans e2))⟩⟩
inductive vY (vs:List V)(H:Hp)(Q:VK)(_:XK):Prop
| mk (z:Addr) (ms:List Im) (_:vs=[.ref z]) (_:Tr H z ms) (_:ms.length≤100) (_:qBv 0 ms=ms) (_:qKs ms) (_:∀ H',Same H H'→Q (.bl true) H')
theorem ve (T:Tx K mg a):FnOk P w K mg base CX0 3 a.A29 a.B29 ["track"] vY:=by
 refine T.D29.F.ok xl (fun vs H Q E h=>?_) (fun cdv A outer s H vs Q E hr h=>?_)
 · obtain⟨z,ms,rfl,_⟩:=h
   rfl
 refine qR fun _ Y=>?_
 obtain⟨z,ms,rfl,tT,hml,hof,hmx,kk⟩:=h
 apply Y
 have hu:=hr.units
 refine⟨_,(qC (qW (qJ (qLa hu) (qI T.D25 (qFb T) hr rfl (qA (pv 0) qB)) (pv 0) (qO _)) (qD (qN jn)) qL)
  (qC (qKw (i:=1) [] [] xl.nd rfl rfl rfl (qIr rfl T.b_enumerate (qA (pv 0) qB)) (fun _ _ _ _=>(qJ xY (jM (v6 (K:=K) rfl) (pv 1) qE (fun _ _=>rfl)) qV (qO _))) (fun _ _ _ _=>(pv 0)))
  (qD (qN (qQ (vL rfl) rfl T.b_all rfl (qA (qCe ["track"] [0] rfl (je (pv 1)) (fun _ _ _ _=>(xL (jK xY (qI T.D28 (jf T) hr rfl (qA (pv 1) (qA (qK jA (pv 0) qE) qB))) qV (qO _)) (zL (jK xY (qI T.D28 (jf T) hr rfl (qA (pv 1) (qA (qK qh (pv 0) qE) qB))) qV (qO _)))))) qB)))))),?_⟩
 try dsimp only [jV,qg]
 refine⟨_,rfl,z,ms,rfl,tT,(by omega),fun y H1 e1 _ tY=>?_⟩
 rw [hof] at tY
 refine⟨_,rfl,qPp tY (tT.same e1) ⟨_,rfl,qp ?_⟩⟩
 refine qR fun _ Y=>?_
 obtain⟨xs,hz,his⟩:=tT.same e1
 apply Y
 have hxl:=his.len
 refine⟨_,rfl,z,rfl,⟨_,SqL.of hz⟩,qHs (K:=K) (a:=z) (xs:=xs) (fun i acc H'=>Same H1 H'∧acc=(jR 0 (ms.take i)).map (fun(n:Nat)=>V.int (n:Int))∧acc.length≤i) ⟨Same.refl _,rfl,by simp⟩ ?_ ?_ ?_⟩
 · rintro i acc H' hi ⟨e,rfl,hal⟩
   exact⟨SqL.of (e _ _ hz),qo (by omega)⟩
 · rintro i x acc H' p hi hx ⟨e,rfl,hal⟩ hp
   refine qR fun _ Y=>?_
   obtain⟨m,hm,hIx⟩:=his.get hx
   have w1:=qH hp (.tup [.int (i:Int),x])
   have hI:=hIx.ts (qr (e.trans w1))
   obtain⟨zi,xi,rfl,hzi,h0,h1⟩:=hI.opn
   apply Y
   have htk:ms.take (i+1)=ms.take i++[m]:=by rw [List.take_add_one,hm];rfl
   have hlt:(ms.take i).length=i:=by rw [List.length_take];omega
   refine⟨_,rfl,zi,xi,_,_,rfl,rfl,SqT.of hzi,h0,rfl,_,rfl,jx (fun c=>?_) (fun c=>?_)⟩
   · have hw:m.wd="mix":=by simpa using c
     refine⟨_,rfl,Nxt.mk hi ⟨e.trans w1,?_,by simp at hal ⊢;omega⟩⟩
     rw [htk,kY,if_pos hw,hlt,List.map_append,Nat.zero_add];rfl
   · have hw:¬ m.wd="mix":=by simpa using c
     refine Nxt.mk hi ⟨e.trans w1,?_,by omega⟩
     rw [htk,kY,if_neg hw,List.append_nil]
 rintro acc H2 ⟨e2,rfl,hal⟩ pl hpl
 rw [hxl,List.take_length] at*
 have w3:=qH hpl (.lst ((jR 0 ms).map fun(n:Nat)=>V.int (n:Int)))
 have hP:(upd H2 pl (.lst ((jR 0 ms).map fun(n:Nat)=>V.int (n:Int)))) pl=some (.lst ((jR 0 ms).map fun(n:Nat)=>V.int (n:Int))):=qF
 have e3:=e2.trans w3
 generalize upd H2 pl (.lst ((jR 0 ms).map fun(n:Nat)=>V.int (n:Int)))=H3 at hP e3 ⊢
 have tr3:Tr H3 z ms:=⟨xs,e3 _ _ hz,his.ts (qr e3)⟩
 have hpln:(jR 0 ms).length≤100:=by simp at hal;omega
 refine⟨_,rfl,pl,rfl,⟨_,SqL.of hP⟩,vA (K:=K) (a:=pl) (xs:=(jR 0 ms).map fun(n:Nat)=>V.int (n:Int)) (fun i acc H'=>H'=H3∧acc=(List.replicate i true).map V.bl) ⟨rfl,rfl⟩ ?_ ?_ ?_⟩
 · rintro i acc H' hi ⟨rfl,rfl⟩
   exact⟨SqL.of hP,qo (by simp at hi ⊢;omega)⟩
 · rintro i x acc H' hi hx ⟨rfl,rfl⟩
   refine qR fun _ Y=>?_
   obtain⟨n,hn,rfl⟩:∃ n:Nat,(jR 0 ms)[i]? =some n∧x= .int (n:Int):=by
    rw [List.getElem?_map] at hx
    cases e:(jR 0 ms)[i]? with
    | none=>rw [e] at hx;cases hx
    | some m=>rw [e] at hx;exact⟨m,rfl,(Option.some.inj hx).symm⟩
   obtain⟨_,l,hl⟩:=vd (List.mem_of_getElem? hn)
   rw [Nat.sub_zero] at hl
   obtain⟨n1,⟨a1,a2,a3,a4,a5,a6,ha⟩,b1,b2,b3,b4,b5,b6,hb⟩:=hmx n l hl
   apply Y
   have k1:jp ms ((n:Int) - 1)="clip":=jP ha (by omega)
   have k2:jp ms ((n:Int)+1)="clip":=jP hb (by omega)
   refine⟨_,rfl,_,rfl,_,_,rfl,rfl,z,ms,_,rfl,tr3,?_⟩
   rw [k1]
   refine⟨rfl,true,(by decide+kernel),jS ?_⟩
   refine⟨_,rfl,_,rfl,_,_,rfl,rfl,z,ms,_,rfl,tr3,?_⟩
   rw [k2]
   refine⟨rfl,Nxt.mk hi ⟨rfl,?_⟩⟩
   rw [List.replicate_succ',List.map_append]
   have e:decide (V.str "clip"=V.str "clip")=true:=by simp
   rw [e]
   rfl
 · rintro acc H' ⟨rfl,rfl⟩ d hd
   refine⟨d,_,rfl,SqL.of qF,?_⟩
   have eall:(List.replicate ((jR 0 ms).map fun(n:Nat)=>V.int (n:Int)).length true).all id=true:=by simp
   rw [eall]
   exact kk _ ((e1.trans e3).trans (qH hd _))
theorem qPc {P:Program}{w:World}{K:W.Frag}{mg:Str→Option Value}{base:Heap}{k:Nat}{f:Addr}{fd:FuncData}{ps:List Str}{sp:Sp}(F:FnOk P w K mg base (CXR P w) k f fd ps sp):FnOk P w K mg base CX0 k f fd ps (fun vs H Q _=>sp vs H Q fun _ _ _=>False):=by
 refine⟨fun vs H Q E h=>F.len _ _ _ _ h,fun A outer s H args us vs Q E hr he hb hv hs=>codeAny_mono (F.run A outer s H args us vs Q (fun _ _ _=>False) hr he hb hv hs) fun r s' hq=>?_⟩
 cases r with
 | error e=>
  refine qR fun _ Y=>?_
  obtain⟨_,_,_,_,_,_,_,_,_,q⟩:=hq
  apply Y
  exact q.elim
 | ok fl=>cases fl <;> exact hq
inductive qGa (vs:List V)(H:Hp)(Q:VK)(_:XK):Prop
| mk (z rd:Addr) (ms:List Im) (t M:Int) (rl:Rls) (_:vs=[.ref z,.int t,.ref rd]) (_:Tr H z ms) (_:(∀ m∈ms,ItR rl m)) (_:ReelsAt H rd rl) (_:mmF rl ms t=some M) (_:∀ H',Same H H'→Q (.int M) H')
theorem qFf (T:Tx K mg a):FnOk P w K mg base CX0 6 a.A42 a.B42 ["track","moment","reels"] qGa:=
 (qPc (ze T)).imp fun vs H Q E h=>by
   refine qR fun _ Y=>?_
   obtain⟨z,rd,ms,t,M,rl,rfl,tT,hit,hrl,hM,kk⟩:=h
   apply Y
   refine⟨z,rd,ms,_,some t,rl,rfl,tT,hit,hrl,.int t,fun h=>?_,fun M' h=>?_⟩
   · have h':mmF rl ms t=none:=h
     rw [hM] at h';cases h'
   · have h':mmF rl ms t=some M':=h
     rw [hM] at h';cases h';exact kk
theorem vM:∀ {b:Int} {ms:List Im} {x y z:Int},(x,y,z)∈j6 b ms→∃ i l,ms[i]? =some (.mix l)∧y=b+jb ms i∧x=y - l.fdiv 2∧z=y+(l - l.fdiv 2)
 | _,[],_,_,_,h=>by simp [j6] at h
 | b,m::ms,x,y,z,h=>by
  by_cases hm:m.wd="mix"
  · obtain⟨l,rfl⟩:=qA3 hm
    rw [j6] at h
    rcases List.mem_cons.mp h with h | h
    · obtain⟨e1,e2,e3⟩:x=b - l.fdiv 2∧y=b∧z=b+(l - l.fdiv 2):=by
       have e:=Prod.mk.inj h
       have e':=Prod.mk.inj e.2
       exact⟨e.1,e'.1,e'.2⟩
      exact⟨0,l,rfl,by rw [e2];simp [jb],by omega,by omega⟩
    · obtain⟨i,l',h1,h2,h3,h4⟩:=vM h
      refine⟨i+1,l',by rw [List.getElem?_cons_succ];exact h1,?_,h3,h4⟩
      rw [h2]
      unfold jb
      rw [List.take_succ_cons,List.map_cons,List.sum_cons]
      show _=b+((0:Int)+_)
      omega
  · rw [zF hm] at h
    obtain⟨i,l',h1,h2,h3,h4⟩:=vM h
    refine⟨i+1,l',by rw [List.getElem?_cons_succ];exact h1,?_,h3,h4⟩
    rw [h2]
    unfold jb
    rw [List.take_succ_cons,List.map_cons,List.sum_cons]
    omega
theorem qD1 {rl:Rls}{ms:List Im}{i:Nat}{l:Int}(hok:∀ m∈ms,OkC rl m)(hmx:qKs ms)(hm:ms[i]? =some (.mix l)):cbF ms (jb ms i)=some ((i:Int) - 1,(i:Int)+1):=by
 obtain⟨i1,⟨n,p,q,r,s,k,ha⟩,n',p',q',r',s',k',hb⟩:=hmx i l hm
 have hi1:i+1 < ms.length:=(glt hb)
 have h0:0 < k':=by
  obtain⟨N,_,g,_⟩:=hok _ (List.mem_of_getElem? hb)
  have:=g.l1;omega
 have hit:xf 0 0 ms (jb ms i)=some (i+1,0):=by
  have es:ms=ms.take (i+1)++ .clip n' p' q' r' s' k'::ms.drop (i+2):=by
   have:=zW hb
   rw [← this,List.take_append_drop]
  have key:=zr (ms.take (i+1)) 0 0 (.clip n' p' q' r' s' k') (ms.drop (i+2)) (fun x hx=>(hok x (List.mem_of_mem_take hx)).mo) h0
  rw [← es,Nat.zero_add,List.length_take,Nat.min_eq_left (by omega)] at key
  have eb:(0:Int)+((ms.take (i+1)).map Im.mo).sum=jb ms i:=by
   unfold jb
   rw [List.take_add_one,hm,List.map_append,List.sum_append]
   show (0:Int)+(_+(0+0))=_
   omega
  rw [eb] at key
  exact key
 have nb:nbF ms (jb ms i)=some ((i:Int) - 1,(i:Int)+1):=by
  unfold nbF
  rw [hit]
  dsimp only
  have k1:jp ms (((i+1:Nat):Int) - 1)="mix":=jP hm (by omega)
  simp only [k1]
  simp
  omega
 unfold cbF
 rw [nb]
 dsimp only
 rw [if_pos ⟨jP ha (by omega),jP hb (by omega)⟩]
def qMr (rl:Rls)(ms:List Im)(s:Int × Int × Int):Bool:=match mmF rl ms s.2.1 with
 | some M=>decide (s.2.2 - s.1≤M)
 | none=>false
def qDe (rl:Rls)(ms:List Im):Bool:=(j6 0 ms).all (qMr rl ms)
inductive qDn (vs:List V)(H:Hp)(Q:VK)(_:XK):Prop
| mk (z rd:Addr) (ms:List Im) (rl:Rls) (_:vs=[.ref z,.ref rd]) (_:Tr H z ms) (_:CTr rl ms) (_:ReelsAt H rd rl) (_:∀ H',Same H H'→Q (.bl (qDe rl ms)) H')
theorem qEu (T:Tx K mg a):FnOk P w K mg base CX0 8 a.A43 a.B43 ["track","reels"] qDn:=by
 refine T.D43.F.ok qE6 (fun vs H Q E h=>?_) (fun cdv A outer s H vs Q E hr h=>?_)
 · obtain⟨z,rd,ms,rl,rfl,_⟩:=h
   rfl
 refine qR fun _ Y=>?_
 obtain⟨z,rd,ms,rl,rfl,tT,hct,hrl,kk⟩:=h
 apply Y
 refine⟨_,(qD (qN (qQ (vL rfl) rfl T.b_all rfl (qA (qCe ["track","reels"] [0,1] rfl (je (qI T.D39 (qDl T) hr rfl (qA (pv 0) qB))) (fun _ _ _ _=>(jK qEs (qK jA (jM (v6 (K:=K) rfl) (pv 0) qE (fun _ _=>rfl)) (jM (v6 (K:=K) rfl) (pv 0) qE (fun _ _=>rfl))) (qI T.D42 (qFf T) hr rfl (qA (pv 1) (qA (jM (v6 (K:=K) rfl) (pv 0) qE (fun _ _=>rfl)) (qA (pv 2) qB)))) (qO _)))) qB)))),?_⟩
 try dsimp only [jV,qg]
 refine⟨_,rfl,z,ms,rfl,tT,(by have:=hct.len;omega),fun sp us H1 e1 _ hsp hus=>?_⟩
 have hul:=hus.len
 have hsl:=wt 0 ms
 have hcl:=hct.len
 refine⟨sp,rfl,⟨_,SqL.of hsp⟩,vA (K:=K) (a:=sp) (xs:=us) (fun i acc H'=>Same H1 H'∧acc=(((j6 0 ms).take i).map (qMr rl ms)).map V.bl) ⟨Same.refl _,rfl⟩ ?_ ?_ ?_⟩
 · rintro i acc H' hi ⟨e,rfl⟩
   exact⟨SqL.of (e _ _ hsp),qo (by simp;omega)⟩
 · rintro i x acc H' hi hx ⟨e,rfl⟩
   refine qR fun _ Y=>?_
   obtain⟨x0,y0,z0,q,hs,rfl,hq⟩:=hus.get hx
   obtain⟨j,l,hm,ey,ex,ez⟩:=vM (List.mem_of_getElem? hs)
   rw [Int.zero_add] at ey
   have hq':=e _ _ hq
   have a0:atI [V.int x0,.int y0,.int z0] 0=some (.int x0):=rfl
   have a1:atI [V.int x0,.int y0,.int z0] 1=some (.int y0):=rfl
   have a2:atI [V.int x0,.int y0,.int z0] 2=some (.int z0):=rfl
   have e01:=e1.trans e
   obtain⟨M,hM⟩:=qI3 hct.it (qD1 hct.ok hct.mx hm)
   apply Y
   rw [← ey] at hM
   refine(ixO hq' a2 (ixO hq' a0 ⟨_,_,rfl,rfl,?_⟩))
   refine⟨_,rfl,ixO hq' a1 ⟨_,rfl,z,rd,ms,y0,M,rl,rfl,tT.same e01,hct.it,hrl.same e01,hM,fun H2 e2=>?_⟩⟩
   refine⟨_,_,rfl,rfl,Nxt.mk hi ⟨e.trans e2,?_⟩⟩
   have es:qMr rl ms (x0,y0,z0)=decide (z0 - x0≤M):=by
    unfold qMr
    dsimp only
    rw [hM]
   rw [List.take_add_one,hs,List.map_append,List.map_append]
   simp only [Option.toList,List.map_cons,List.map_nil,es]
 · rintro acc H' ⟨e,rfl⟩ d hd
   refine⟨d,_,rfl,SqL.of qF,?_⟩
   have eall:(((j6 0 ms).take us.length).map (qMr rl ms)).all id=qDe rl ms:=by
    rw [hul,List.take_length,List.all_map];rfl
   rw [eall]
   exact kk _ ((e1.trans e).trans (qH hd _))
inductive wp (N:Addr)(vs:List V)(H:Hp)(Q:VK)(E:XK):Prop
| mk (z rz re td:Addr) (ms:List Im) (rl:Rls) (_:vs=[.ref z,.ref rz]) (_:Tr H z ms) (_:H rz=some (.tup [.ref re,.ref td])) (_:ReelsAt H re rl) (_:CTr rl ms) (_:(qDe rl ms=true→∀ H',Same H H'→Q .non H')) (_:(qDe rl ms=false→∀ H',Same H H'→E (.ref N) none H'))
theorem wm (T:Tx K mg a):FnOk P w K mg base (CXR P w) 9 a.A77 a.B77 ["track","room"] (wp a.k_NoRoom):=by
 refine okX T.D77.F kH (fun vs H Q E h=>?_) (fun cdv A outer s H vs Q E hr h=>?_)
 · obtain⟨z,rz,re,td,ms,rl,rfl,_⟩:=h
   rfl
 refine qR fun _ Y=>?_
 obtain⟨z,rz,re,td,ms,rl,rfl,tT,hrz,hrl,hct,kk,kb⟩:=h
 apply Y
 refine⟨_,(qC (qW (qi (qc (qQ qZ rfl T.b_isinstance rfl (qA (pv 0) (qA (zG rfl T.b_list rfl) qB))))) (qD (qz rfl rfl T.c_NoRoom T.x_NoRoom (qA qV qB))) qL)
  (qC (xD (qMn rfl rfl rfl rfl) rfl (je (pv 0)) (qq (i:=2) kH.nd rfl (Or.inl rfl)) (qD (jL (qI T.D76 (qB6 T) hr rfl (qA (pv 2) (qA (pv 1) qB))))))
  (qC (qW (qi (qc (qI T.D29 (ve T) hr rfl (qA (pv 0) qB)))) (qD (qz rfl rfl T.c_NoRoom T.x_NoRoom (qA qV qB))) qL)
  (qD (qW (qi (qc (qI T.D43 (qEu T) hr rfl (qA (pv 0) (qA (qP (pv 1)) qB))))) (qD (qz rfl rfl T.c_NoRoom T.x_NoRoom (qA qV qB))) qL))))),?_⟩
 try dsimp only [jV,qg]
 have one:(1:Nat)≤sizeLine:=by decide
 refine qR fun _ Y=>?_
 obtain⟨vs,hz,his⟩:=id tT
 apply Y
 refine⟨_,rfl,_,_,_,true,rfl,.lst hz,⟨_,.inl ⟨rfl,by kernel_rfl⟩⟩,true,rfl,qp ?_⟩
 refine⟨_,rfl,z,rfl,⟨_,SqL.of hz⟩,xK (K:=K) (a:=z) (xs:=vs) (fun i σ H'=>∃ o:Option V,σ=[some (.ref z),some (.ref rz),o]∧Same H H') ⟨none,rfl,Same.refl _⟩ ?_ ?_ ?_⟩
 · rintro i σ H' hi ⟨o,rfl,e⟩
   exact SqL.of (e _ _ hz)
 · rintro i x σ H' hx ⟨o,rfl,e⟩
   refine qR fun _ Y=>?_
   obtain⟨m,hm,hI⟩:=his.get hx
   apply Y
   exact⟨_,rfl,_,rfl,x,m,rz,re,td,rl,rfl,hI.ts (qr e),e _ _ hrz,hrl.same e,hct.ok m (List.mem_of_getElem? hm),fun H2 e2=>⟨_,rfl,e.trans e2⟩⟩
 · rintro σ H1 ⟨o,rfl,e1⟩
   refine⟨_,rfl,z,ms,rfl,tT.same e1,hct.len,qLg ms hct.ok,hct.mx,fun H2 e2=>⟨true,rfl,qp ?_⟩⟩
   have e12:=e1.trans e2
   refine⟨_,rfl,ixO (e12 _ _ hrz) at0 ⟨z,re,ms,rl,rfl,tT.same e12,hct,hrl.same e12,fun H3 e3=>⟨_,rfl,?_⟩⟩⟩
   cases hf:qDe rl ms with
   | true=>exact qp (kk hf H3 (e12.trans e3))
   | false=>exact jS ⟨one,kb hf H3 (e12.trans e3)⟩
inductive qH3 (vs:List V)(H:Hp)(Q:VK)(_:XK):Prop
| mk (z:Addr) (n:Int) (_:vs=[.ref z,.int n]) (_:H z=some (.lst [])) (_:Q (.bl true) H)
theorem qHg (T:Tx K mg a):FnOk P w K mg base CX0 2 a.A78 a.B78 ["tied","many"] qH3:=by
 refine T.D78.F.ok z8 (fun vs H Q E h=>?_) (fun cdv A outer s H vs Q E hr h=>?_)
 · obtain⟨z,n,rfl,_⟩:=h
   rfl
 refine qR fun _ Y=>?_
 obtain⟨z,n,rfl,hz,kk⟩:=h
 apply Y
 refine⟨_,(qC (qW (qi (qc (qQ qZ rfl T.b_isinstance rfl (qA (pv 0) (qA (zG rfl T.b_list rfl) qB))))) (qD (qN jn)) qL)
  (qC (qd 2 z8.nd qE)
  (qC (xD PassesOwn.never rfl (je (pv 0)) (qq (i:=3) z8.nd rfl (Or.inl rfl)) (qC (qW (PW.pt (jW (qi (qc (qI T.D0 (xp T) hr rfl (qA (pv 3) qB)))) (jW (qJ kD (pv 3) (pv 2) (qO _)) (jH (qJ qA6 (pv 3) (pv 1) (qO _)))))) (qD (qN jn)) qL)
  (qD (qd 2 z8.nd (qK qh (pv 3) qE)))))
  (qD (qN jn))))),?_⟩
 try dsimp only [jV,qg]
 refine⟨_,rfl,_,_,_,true,rfl,.lst hz,⟨_,.inl ⟨rfl,by kernel_rfl⟩⟩,true,rfl,qp ?_⟩
 refine⟨_,rfl,z,rfl,⟨_,SqL.of hz⟩,xK (K:=K) (a:=z) (xs:=[]) (fun i σ H'=>H'=H∧∃ (l:Int) (o:Option V),σ=[some (.ref z),some (.int n),some (.int l),o]) ⟨rfl,0,none,rfl⟩ ?_ ?_ ?_⟩
 · rintro i σ H' hi ⟨rfl,_⟩
   exact SqL.of hz
 · rintro i x σ H' hx
   simp at hx
 · rintro σ H' ⟨rfl,l,o,rfl⟩
   exact kk
inductive wn (N:Addr)(vs:List V)(H:Hp)(Q:VK)(E:XK):Prop
| mk (tt tl ti z rz re td:Addr) (ms:List Im) (rl:Rls) (_:vs=[.ref tt,.ref rz]) (_:H tt=some (.tup [.ref tl,.ref ti])) (_:H tl=some (.lst [.ref z])) (_:H ti=some (.lst [])) (_:Tr H z ms) (_:H rz=some (.tup [.ref re,.ref td])) (_:ReelsAt H re rl) (_:CTr rl ms) (_:(qDe rl ms=true→∀ H',Same H H'→Q .non H')) (_:(qDe rl ms=false→∀ H',Same H H'→E (.ref N) none H'))
theorem qA0 (T:Tx K mg a):FnOk P w K mg base (CXR P w) 10 a.A79 a.B79 ["table","room"] (wn a.k_NoRoom):=by
 refine okX T.D79.F kM (fun vs H Q E h=>?_) (fun cdv A outer s H vs Q E hr h=>?_)
 · obtain⟨tt,tl,ti,z,rz,re,td,ms,rl,rfl,_⟩:=h
   rfl
 refine qR fun _ Y=>?_
 obtain⟨tt,tl,ti,z,rz,re,td,ms,rl,rfl,h2,h3,h5,tT,hrz,hrl,hct,kk,kb⟩:=h
 apply Y
 refine⟨_,(qC (qW (PW.pt (jW (qi (qc (qQ qZ rfl T.b_isinstance rfl (qA (pv 0) (qA (zG rfl T.b_tuple rfl) qB))))) (jW (qJ xn (qQ qY rfl T.b_len rfl (qA (pv 0) qB)) qE (qO _)) (jH (qi (qc (qQ qZ rfl T.b_isinstance rfl (qA (qP (pv 0)) (qA (zG rfl T.b_list rfl) qB))))))))) (qD (qz rfl rfl T.c_NoRoom T.x_NoRoom (qA qV qB))) qL)
  (qC (qW (PW.pt (jW (qJ kD (qQ qY rfl T.b_len rfl (qA (qP (pv 0)) qB)) qE (qO _)) (jH (qJ kU (qQ qY rfl T.b_len rfl (qA (qP (pv 0)) qB)) (ju (v:=.int 8) rfl T.g_MOST_TRACKS ⟨_,rfl⟩) (qO _))))) (qD (qz rfl rfl T.c_NoRoom T.x_NoRoom (qA qV qB))) qL)
  (qC (xD (qMn rfl rfl rfl rfl) rfl (je (qP (pv 0))) (qq (i:=2) kM.nd rfl (Or.inl rfl)) (qD (jL (xV T.D77 (wm T) hr rfl (qA (pv 2) (qA (pv 1) qB))))))
  (qD (qW (qi (qc (qI T.D78 (qHg T) hr rfl (qA (qP (pv 0)) (qA (qQ qY rfl T.b_len rfl (qA (qP (pv 0)) qB)) qB))))) (qD (qz rfl rfl T.c_NoRoom T.x_NoRoom (qA qV qB))) qL))))),?_⟩
 try dsimp only [jV,qg]
 refine⟨_,rfl,_,_,_,true,rfl,.tup h2,⟨_,.inl ⟨rfl,by kernel_rfl⟩⟩,true,rfl,qp ?_⟩
 refine⟨_,rfl,_,_,rfl,.inr (SqT.of h2),rfl,_,rfl,qp ?_⟩
 refine(ixO h2 at0 ⟨_,_,_,true,rfl,.lst h3,⟨_,.inl ⟨rfl,by kernel_rfl⟩⟩,true,rfl,qp ?_⟩)
 refine(ixO h2 at0 ⟨tl,_,rfl,.inl (SqL.of h3),_,_,rfl,rfl,_,rfl,qp ?_⟩)
 refine(ixO h2 at0 ⟨tl,_,rfl,.inl (SqL.of h3),_,_,rfl,rfl,_,rfl,qp ?_⟩)
 refine(ixO h2 at0 ⟨tl,rfl,⟨_,SqL.of h3⟩,xK (K:=K) (a:=tl) (xs:=[.ref z]) (fun i σ H'=>∃ o:Option V,σ=[some (.ref tt),some (.ref rz),o]∧Same H H'∧(i=1→qDe rl ms=true)) ⟨none,rfl,Same.refl _,fun h=>(by cases h)⟩ ?_ ?_ ?_⟩)
 · rintro i σ H' hi ⟨o,rfl,e,_⟩
   exact SqL.of (e _ _ h3)
 · rintro i x σ H' hx ⟨o,rfl,e,_⟩
   obtain rfl:x= .ref z:=by
    cases i with
    | zero=>exact(Option.some.inj hx).symm
    | succ i=>simp at hx
   exact⟨_,rfl,_,rfl,z,rz,re,td,ms,rl,rfl,tT.same e,e _ _ hrz,hrl.same e,hct,fun hf H2 e2=>⟨_,rfl,e.trans e2,fun _=>hf⟩,fun hf H2 e2=>kb hf H2 (e.trans e2)⟩
 · rintro σ H1 ⟨o,rfl,e,hf⟩
   exact(ixO (e _ _ h2) at1 (ixO (e _ _ h2) at0 ⟨tl,_,rfl,.inl (SqL.of (e _ _ h3)),ti,_,rfl,e _ _ h5,true,rfl,qp (kk (hf rfl) H1 e)⟩))
inductive qEn (vs:List V)(H:Hp)(Q:VK)(_:XK):Prop
| mk (tt tl ti z:Addr) (ms:List Im) (_:vs=[.ref tt]) (_:H tt=some (.tup [.ref tl,.ref ti])) (_:H tl=some (.lst [.ref z])) (_:Tr H z ms) (_:ms.length≤100) (_:(∀ m∈ms,m.wd≠"nest")) (_:∀ (y:Addr) (H':Hp),Same H H'→H' y=some (.lst [])→Q (.ref y) H')
theorem qEa (T:Tx K mg a):FnOk P w K mg base CX0 1 a.A80 a.B80 ["table"] qEn:=by
 refine T.D80.F.ok zw (fun vs H Q E h=>?_) (fun cdv A outer s H vs Q E hr h=>?_)
 · obtain⟨tt,tl,ti,z,ms,rfl,_⟩:=h
   rfl
 refine qR fun _ Y=>?_
 obtain⟨tt,tl,ti,z,ms,rfl,h2,h3,tT,hml,hnn,kk⟩:=h
 apply Y
 refine⟨_,(qC (qd 1 zw.nd (zM qB))
  (qC (xD PassesOwn.never rfl (je (qP (pv 0))) (qq (i:=2) zw.nd rfl (Or.inl rfl)) (qD (jL (qFm F.plainAttrs_list F.slot_list_extend F.type_list_extend qJv (pv 1) (qA (qK0 [] [] rfl (je (pv 2)) (fun _ _ _ _=>(qJ xY (jM (v6 (K:=K) rfl) (pv 0) qE (fun _ _=>rfl)) qV (qO _))) (fun _ _ _ _=>(jM (v6 (K:=K) rfl) (pv 0) qE (fun _ _=>rfl)))) qB)))))
  (qD (qN (pv 1))))),?_⟩
 try dsimp only [jV,qg]
 refine⟨sL0,fun y hy=>?_⟩
 have w0:=qH hy (.lst [])
 refine(ixO (w0 _ _ h2) at0 ⟨tl,rfl,⟨_,SqL.of (w0 _ _ h3)⟩,xK (K:=K) (a:=tl) (xs:=[.ref z]) (fun i σ H'=>∃ o:Option V,σ=[some (.ref tt),some (.ref y),o]∧H' y=some (.lst [])∧Same H H') ⟨none,rfl,qF,w0⟩ ?_ ?_ ?_⟩)
 · rintro i σ H' hi ⟨o,rfl,_,e⟩
   exact SqL.of (e _ _ h3)
 · rintro i x σ H' hx ⟨o,rfl,hyv,e⟩
   obtain rfl:x= .ref z:=by
    cases i with
    | zero=>exact(Option.some.inj hx).symm
    | succ i=>simp at hx
   refine qR fun _ Y=>?_
   obtain⟨us,hz,his⟩:=id tT
   apply Y
   have hul:=his.len
   refine⟨_,rfl,.inl ⟨rfl,_,SqL.of hyv⟩,_,rfl,z,rfl,⟨_,SqL.of (e _ _ hz)⟩,qHk (K:=K) (a:=z) (xs:=us) (fun j acc H''=>H''=H'∧acc=[]) ⟨rfl,rfl⟩ ?_ ?_ ?_⟩
   · rintro j acc H'' hj ⟨rfl,rfl⟩
     exact⟨SqL.of (e _ _ hz),by show 0 < sizeLine;decide⟩
   · rintro j v acc H'' hj hv ⟨rfl,rfl⟩
     refine qR fun _ Y=>?_
     obtain⟨m,hm,hI⟩:=his.get hv
     have hI':=hI.ts (qr e)
     obtain⟨zi,xi,rfl,hzi,h0,h1⟩:=hI'.opn
     apply Y
     refine⟨_,rfl,zi,xi,_,_,rfl,rfl,SqT.of hzi,h0,rfl,_,rfl,jx (fun c=>?_) (fun c=>Nxt.mk hj ⟨rfl,rfl⟩)⟩
     exact absurd (by simpa using c) (hnn m (List.mem_of_getElem? hm))
   · rintro acc H'' ⟨rfl,rfl⟩ d hd
     have w1:=qH hd (.lst [])
     refine⟨y,d,_,_,rfl,rfl,w1 _ _ hyv,qF,sL0,_,rfl,qF,j9 (e.trans w1) hy⟩
 · rintro σ H' ⟨o,rfl,hyv,e⟩
   exact⟨_,rfl,kk y H' e hyv⟩
inductive qC8 (vs:List V)(H:Hp)(Q:VK)(_:XK):Prop
| mk (tt tl ti z lo:Addr) (ms:List Im) (_:vs=[.ref tt,.ref lo]) (_:H tt=some (.tup [.ref tl,.ref ti])) (_:H tl=some (.lst [.ref z])) (_:Tr H z ms) (_:ms.length≤100) (_:(∀ m∈ms,m.wd≠"nest")) (_:∀ H',Same H H'→Q (.bl true) H')
theorem qCp (T:Tx K mg a):FnOk P w K mg base CX0 3 a.A81 a.B81 ["table","lower"] qC8:=by
 refine T.D81.F.ok qB9 (fun vs H Q E h=>?_) (fun cdv A outer s H vs Q E hr h=>?_)
 · obtain⟨tt,tl,ti,z,lo,ms,rfl,_⟩:=h
   rfl
 refine qR fun _ Y=>?_
 obtain⟨tt,tl,ti,z,lo,ms,rfl,h2,h3,tT,hml,hnn,kk⟩:=h
 apply Y
 have hu1:=wu hr
 refine⟨_,(qD (qN (qQ (vL rfl) rfl T.b_all rfl (qA (qCe ["lower"] [1] rfl (je (qI T.D80 (qEa T) hr rfl (qA (pv 0) qB))) (fun _ _ _ _=>(qI0 (qNf hu1 (pv 0) (pv 1))))) qB)))),?_⟩
 try dsimp only [jV,qg]
 refine⟨_,rfl,tt,tl,ti,z,ms,rfl,h2,h3,tT,hml,hnn,fun y H1 e1 hy=>?_⟩
 refine⟨y,rfl,⟨_,SqL.of hy⟩,vA (K:=K) (a:=y) (xs:=[]) (fun i acc H'=>H'=H1∧acc=[]) ⟨rfl,rfl⟩ ?_ ?_ ?_⟩
 · rintro i acc H' hi ⟨rfl,rfl⟩
   exact⟨SqL.of hy,by show 0 < sizeLine;decide⟩
 · rintro i x acc H' hi hx ⟨rfl,rfl⟩
   simp at hx
 · rintro acc H' ⟨rfl,rfl⟩ d hd
   exact⟨d,[],rfl,SqL.of qF,kk _ (e1.trans (qH hd _))⟩
def lkF (i:Nat):List (Key × V):=if i=0 then [] else [(Sum.inr "top",.bl true)]
inductive qBj (vs:List V)(H:Hp)(Q:VK)(_:XK):Prop
| mk (td tt tl ti z:Addr) (ms:List Im) (_:vs=[.ref td]) (_:Rd H td (.dK [(Sum.inr "top",.ref tt)])) (_:H tt=some (.tup [.ref tl,.ref ti])) (_:H tl=some (.lst [.ref z])) (_:Tr H z ms) (_:ms.length≤100) (_:(∀ m∈ms,m.wd≠"nest")) (_:∀ H',SB td H H'→Q .non H')
theorem qBe (T:Tx K mg a):FnOk P w K mg base CX0 4 a.A82 a.B82 ["tables"] qBj:=by
 refine T.D82.F.ok jY (fun vs H Q E h=>?_) (fun cdv A outer s H vs Q E hr h=>?_)
 · obtain⟨td,tt,tl,ti,z,ms,rfl,_⟩:=h
   rfl
 refine qR fun _ Y=>?_
 obtain⟨td,tt,tl,ti,z,ms,rfl,hrd,h2,h3,tT,hml,hnn,kk⟩:=h
 apply Y
 have hu1:=wu hr
 refine⟨_,(qC (qEd (i:=1) jY.nd rfl (Or.inr rfl) qKe)
  (qC (xD PassesOwn.never rfl (xc rfl T.b_range (qA (ju (v:=.int 6) rfl T.g_MOST_DEEP ⟨_,rfl⟩) qB)) (qq (i:=2) jY.nd rfl (Or.inl rfl)) (qC (qKz (i:=3) ["tables","lower"] [0,1] jY.nd rfl rfl rfl (qMi (pv 0)) (fun _ _ _ _=>(qc (qI T.D81 (qCp T) hr rfl (qA (kN hu1 (pv 1) (pv 0) (fun _ _=>rfl)) (qA (pv 2) qB))))) (fun _ _ _ _=>(pv 0)))
  (qD (xD PassesOwn.never rfl (je (pv 3)) (qq (i:=4) jY.nd rfl (Or.inl rfl)) (qD (qLy hu1 (pv 1) (pv 4) jn rfl))))))
  (qD (qW (qJ kD (qQ qE5 rfl T.b_len rfl (qA (pv 1) qB)) (qQ qE5 rfl T.b_len rfl (qA (pv 0) qB)) (qO _)) jX qL)))),?_⟩
 try dsimp only [jV,qg]
 refine fun lo hlo=>?_
 have w0:=qH hlo (.dK [])
 have nlo:td≠lo:=by
  rcases hrd with h | ⟨o,h⟩
  · exact qS h hlo
  · exact qS h hlo
 refine qR fun _ Y=>?_
 obtain⟨us,hz,his⟩:=id tT
 apply Y
 have nq:∀ {b:Addr} {u:HO},H b=some u→(∀ xs,u= .lst xs∨u= .tup xs→b≠td):=fun {b u} hb xs hu=>by
  rintro rfl
  rcases hrd with h | ⟨o,h⟩ <;> · rw [hb] at h;cases h;rcases hu with q | q <;> cases q
 have n1:tt≠td:=nq h2 _ (.inr rfl)
 have n2:tl≠td:=nq h3 _ (.inl rfl)
 have nz:z≠td:=nq hz _ (.inl rfl)
 refine⟨_,rfl,by decide,by decide,vE (n:=6) (fun i σ H'=>∃ (o1 o2 o3:Option V),σ=[some (.ref td),some (.ref lo),o1,o2,o3]∧SB td H H'∧Rd H' td (.dK [(Sum.inr "top",.ref tt)])∧H' lo=some (.dK (lkF i))) ⟨none,none,none,rfl,xQ w0,qFd w0 hrd,qF⟩ ?_ ?_⟩
 · rintro i σ H1 hi ⟨o1,o2,o3,rfl,sb1,hr1,hl1⟩
   refine⟨_,rfl,td,_,rfl,qIn hr1 fun o H2 h2' hc=>?_⟩
   have sb2:=sb1.trans hc
   have hl2:H2 lo=some (.dK (lkF i)):=hc _ _ nlo.symm hl1
   have ts2:TS H H2:=fun b ys hb=>sb2 b _ (nq hb _ (.inr rfl)) hb
   have tr2:Tr H2 z ms:=⟨us,sb2 _ _ nz hz,his.ts ts2⟩
   refine qHm (d:=td) (o:=o) (kvs:=[(Sum.inr "top",.ref tt)]) (fun j acc H3=>Same H2 H3∧acc=(List.replicate j (V.str "top"))) ⟨Same.refl _,rfl⟩ ?_ ?_ ?_
   · rintro j acc H3 hj ⟨e3,rfl⟩
     exact⟨e3 _ _ h2',qo (by simp at hj ⊢;omega)⟩
   · rintro j k v acc H3 hj hkv ⟨e3,rfl⟩
     obtain rfl:j=0:=by simp at hj;omega
     cases hkv
     refine⟨_,rfl,_,rfl,td,.ref tt,rfl,.inl ⟨_,Sum.inr "top",.inr ⟨o,e3 _ _ h2'⟩,rfl,rfl⟩,_,rfl,tt,tl,ti,z,lo,ms,rfl,e3 _ _ (sb2 _ _ n1 h2),e3 _ _ (sb2 _ _ n2 h3),tr2.same e3,hml,hnn,fun H4 e4=>⟨_,rfl,jS ?_⟩⟩
     exact⟨_,rfl,Nxt.mk hj ⟨e3.trans e4,rfl⟩⟩
   · rintro acc H3 ⟨e3,rfl⟩ fd hfd
     have w1:=qH hfd (.lst [.str "top"])
     have hf4:(upd H3 fd (.lst [.str "top"])) fd=some (.lst [.str "top"]):=qF
     have e4:=e3.trans w1
     have h4:=e4 _ _ h2'
     have hl4:=e4 _ _ hl2
     have sb4:=sb2.trans (xQ e4)
     show qPn _ _ _ _ (upd H3 fd (.lst [.str "top"]))
     generalize upd H3 fd (.lst [.str "top"])=H4 at hf4 h4 hl4 sb4 ⊢
     have nfl:fd≠lo:=by intro q;rw [q,hl4] at hf4;cases hf4
     refine⟨_,rfl,fd,rfl,⟨_,SqL.of hf4⟩,xK (K:=K) (a:=fd) (xs:=[.str "top"]) (fun j σ H5=>∃ (o3:Option V),σ=[some (.ref td),some (.ref lo),some (.int (0+i)),some (.ref fd),o3]∧SB lo H4 H5∧H5 lo=some (.dK (lkF (i+j)))) ⟨_,rfl,SB.refl _ _,hl4⟩ ?_ ?_ ?_⟩
     · rintro j σ H5 hj ⟨o3,rfl,e5,_⟩
       exact SqL.of (e5 _ _ nfl hf4)
     · rintro j x σ H5 hx ⟨o3,rfl,e5,hl5⟩
       obtain⟨rfl,rfl⟩:j=0∧x= .str "top":=by
        cases j with
        | zero=>exact⟨rfl,(Option.some.inj hx).symm⟩
        | succ j=>simp at hx
       refine⟨_,rfl,_,rfl,lo,_,rfl,DPut.k (k:=Sum.inr "top") hl5 (by unfold lkF;split <;> decide),_,rfl,e5.trans qGl,?_⟩
       rw [qF]
       have e:qE9 (lkF (i+0)) (Sum.inr "top") (V.bl true)=lkF (i+(0+1)):=by
        unfold lkF
        rw [if_neg (show ¬ i+(0+1)=0 by omega)]
        split <;> decide+kernel
       rw [e]
     · rintro σ H5 ⟨o3,rfl,e5,hl5⟩
       exact⟨_,_,_,rfl,fun b u nb hb=>e5 _ _ (qS hb hlo) (sb4 _ _ nb hb),.inr ⟨o,e5 _ _ nlo h4⟩,hl5⟩
 · rintro σ H1 ⟨o1,o2,o3,rfl,sb1,hr1,hl1⟩
   exact⟨_,rfl,lo,_,rfl,.inl hl1,_,rfl,td,_,rfl,hr1,_,_,rfl,rfl,_,rfl,qp (kk H1 sb1)⟩
inductive qBh (N:Addr)(vs:List V)(H:Hp)(Q:VK)(E:XK):Prop
| mk (rz re td tt tl ti z:Addr) (A:Int) (ms:List Im) (_:vs=[.ref rz]) (_:H rz=some (.tup [.ref re,.ref td])) (_:RE H re A) (_:Rd H td (.dK [(Sum.inr "top",.ref tt)])) (_:re≠td) (_:H tt=some (.tup [.ref tl,.ref ti])) (_:H tl=some (.lst [.ref z])) (_:H ti=some (.lst [])) (_:Tr H z ms) (_:CTr (rlE A) ms) (_:(∀ H',(∀ b u,b≠re→b≠td→H b=some u→H' b=some u)→RE H' re A→(qDe (rlE A) ms=true→Q .non H')∧(qDe (rlE A) ms=false→E (.ref N) none H')))
theorem RE.at {H:Hp}{re:Addr}{A:Int}(h:RE H re A):ReelsAt H re (rlE A):=by
 intro n N e
 unfold rlE at e
 split at e
 · rename_i hn;cases e;subst hn;exact⟨_,h.1,rfl⟩
 · split at e
   · rename_i hn;cases e;subst hn;exact⟨_,h.1,rfl⟩
   · cases e
theorem qBd (T:Tx K mg a):FnOk P w K mg base (CXR P w) 11 a.A83 a.B83 ["room"] (qBh a.k_NoRoom):=by
 refine okX T.D83.F xr (fun vs H Q E h=>?_) (fun cdv A outer s H vs Q E hr h=>?_)
 · obtain⟨rz,re,td,tt,tl,ti,z,A,ms,rfl,_⟩:=h
   rfl
 refine qR fun _ Y=>?_
 obtain⟨rz,re,td,tt,tl,ti,z,A',ms,rfl,hz,hre,htd,ne,h2,h3,h5,tT,hct,kk⟩:=h
 apply Y
 have hu1:=wu hr
 refine⟨_,(qC (qW (PW.pt (jW (qi (qc (qQ qZ rfl T.b_isinstance rfl (qA (pv 0) (qA (zG rfl T.b_tuple rfl) qB))))) (jH (qJ xn (qQ qY rfl T.b_len rfl (qA (pv 0) qB)) qE (qO _))))) (qD (qz rfl rfl T.c_NoRoom T.x_NoRoom (qA qV qB))) qL)
  (qC (qW (PW.pt (jW (qi (qc (qQ wE rfl T.b_isinstance rfl (qA (qP (pv 0)) (qA (zG rfl T.b_dict rfl) qB))))) (jH (qi (qc (qQ wE rfl T.b_isinstance rfl (qA (qP (pv 0)) (qA (zG rfl T.b_dict rfl) qB)))))))) (qD (qz rfl rfl T.c_NoRoom T.x_NoRoom (qA qV qB))) qL)
  (qC (jL (qI T.D74 (qBb T) hr rfl (qA (qP (pv 0)) qB)))
  (qC (xD (qMn rfl rfl rfl rfl) rfl (qGq (qP (pv 0))) (qG2 rfl (xO (qq (i:=1) xr.nd rfl (Or.inl rfl)) (xO (qq (i:=2) xr.nd rfl (Or.inl rfl)) qCq))) (qC (qW (qi (qc (qI T.D10 (xP T) hr rfl (qA (pv 1) qB)))) (qD (qz rfl rfl T.c_NoRoom T.x_NoRoom (qA qV qB))) qL)
  (qD (jL (xV T.D79 (qA0 T) hr rfl (qA (pv 2) (qA (pv 0) qB)))))))
  (qD (jL (qI T.D82 (qBe T) hr rfl (qA (qP (pv 0)) qB)))))))),?_⟩
 try dsimp only [jV,qg]
 have hA:=hre.2
 refine⟨_,rfl,_,_,_,true,rfl,.tup hz,⟨_,.inl ⟨rfl,by kernel_rfl⟩⟩,true,rfl,qp ?_⟩
 refine⟨_,rfl,_,_,rfl,.inr (SqT.of hz),rfl,_,rfl,qp ?_⟩
 refine(ixO hz at0 ⟨re,_,_,true,rfl,.inr ⟨_,hre.1,rfl⟩,rfl,true,rfl,qp ?_⟩)
 refine(ixO hz at1 ⟨td,_,_,true,rfl,.inr ⟨_,htd,rfl⟩,rfl,true,rfl,qp ?_⟩)
 have rok:qPs [(Sum.inr "a",.int A'),(Sum.inr "reelb",.int 1000000000)]:=by
  intro p hp
  rcases List.mem_cons.mp hp with rfl | hp
  · exact⟨"a",A',rfl,by decide+kernel,by decide+kernel,by omega,by omega⟩
  · obtain rfl:p=((Sum.inr ("reelb":Str):Key),V.int 1000000000):=by simpa using hp
    exact⟨"reelb",1000000000,rfl,by decide+kernel,by decide+kernel,by decide,by decide⟩
 have nsq:∀ {H:Hp} {d:Addr} {kvs:List (Key × V)} {b:Addr} {u:HO},Rd H d (.dK kvs)→H b=some u→(∀ xs,u= .lst xs∨u= .tup xs→b≠d):=fun {H d kvs b u} hrd hb xs hu=>by
  rintro rfl
  rcases hrd with h | ⟨o,h⟩ <;> · rw [hb] at h;cases h;rcases hu with q | q <;> cases q
 refine(ixO hz at0 ⟨re,_,rfl,hre.1,rok,(by show 2≤100;decide),fun o1 H1 sb1 h1=>?_⟩)
 refine qR fun _ Y=>?_
 obtain⟨us,hzs,his⟩:=id tT
 have htd1:Rd H1 td (.dK [(Sum.inr "top",.ref tt)]):=qNt sb1 ne.symm htd
 have hz1:=sb1 _ _ (nsq hre.1 hz _ (.inr rfl)) hz
 have g2:=sb1 _ _ (nsq hre.1 h2 _ (.inr rfl)) h2
 have g3:=sb1 _ _ (nsq hre.1 h3 _ (.inl rfl)) h3
 have g5:=sb1 _ _ (nsq hre.1 h5 _ (.inl rfl)) h5
 have tr1:Tr H1 z ms:=⟨us,sb1 _ _ (nsq hre.1 hzs _ (.inl rfl)) hzs,his.ts fun b ys hb=>sb1 _ _ (nsq hre.1 hb _ (.inr rfl)) hb⟩
 clear h2 h3 h5 tT hz hzs his
 obtain⟨us,hzs,his⟩:=id tr1
 apply Y
 refine(ixO hz1 at1 ⟨td,_,rfl,qIn htd1 fun o2 H2 h2 sb2=>?_⟩)
 have hz2:=sb2 _ _ (nsq htd1 hz1 _ (.inr rfl)) hz1
 have f2:=sb2 _ _ (nsq htd1 g2 _ (.inr rfl)) g2
 have f3:=sb2 _ _ (nsq htd1 g3 _ (.inl rfl)) g3
 have f5:=sb2 _ _ (nsq htd1 g5 _ (.inl rfl)) g5
 have tr2:Tr H2 z ms:=⟨us,sb2 _ _ (nsq htd1 hzs _ (.inl rfl)) hzs,his.ts fun b ys hb=>sb2 _ _ (nsq htd1 hb _ (.inr rfl)) hb⟩
 have re2:RE H2 re A':=⟨.inr ⟨o1,sb2 _ _ ne h1⟩,hA⟩
 have sb02:∀ b u,b≠re→b≠td→H b=some u→H2 b=some u:=fun b u n1 n2 hb=>sb2 _ _ n2 (sb1 _ _ n1 hb)
 refine qEb (d:=td) (o:=o2) (kvs:=[(Sum.inr "top",.ref tt)]) (fun i σ H'=>∃ (p1 p2:Option V),σ=[some (.ref rz),p1,p2]∧Same H2 H'∧(i=1→qDe (rlE A') ms=true)) ⟨none,none,rfl,Same.refl _,fun h=>(by cases h)⟩ ?_ ?_ ?_
 · rintro i σ H' hi ⟨p1,p2,rfl,e,_⟩
   exact e _ _ h2
 · rintro i k v σ H' p hkv ⟨p1,p2,rfl,e,_⟩ hp
   have w1:=qH hp (.tup [kV k,v])
   have e1:=e.trans w1
   obtain⟨rfl,rfl⟩:k=(Sum.inr ("top":Str):Key)∧v=V.ref tt:=by
    cases i with
    | zero=>cases hkv;exact⟨rfl,rfl⟩
    | succ i=>simp at hkv
   refine⟨p,_,rfl,SqT.of qF,rfl,_,_,rfl,_,_,rfl,rfl,?_⟩
   have hnm:=NmB.str (K:=K) (H:=upd H' p (.tup [kV (Sum.inr "top"),.ref tt])) "top" (by decide+kernel)
   rw [show wS "top"=true by decide+kernel] at hnm
   refine⟨_,rfl,_,true,rfl,hnm,fun H3 e3=>⟨true,rfl,qp ?_⟩⟩
   have e13:=e1.trans e3
   exact⟨_,rfl,_,rfl,tt,tl,ti,z,rz,re,td,ms,rlE A',rfl,e13 _ _ f2,e13 _ _ f3,e13 _ _ f5,tr2.same e13,e13 _ _ hz2,(re2.same e13).at,hct,fun hf H4 e4=>⟨_,_,rfl,e13.trans e4,fun _=>hf⟩,fun hf H4 e4=>(kk H4 (fun b u n1 n2 hb=>e4 _ _ (e13 _ _ (sb02 b u n1 n2 hb))) (re2.same (e13.trans e4))).2 hf⟩
 · rintro σ H' ⟨p1,p2,rfl,e,hf⟩
   have hnn:∀ m∈ms,m.wd≠"nest":=fun m hm=>by
    have:=hct.ok m hm
    cases m with
    | nest=>exact this.elim
    | gap=>exact this.elim
    | clip=>show ("clip":Str)≠"nest";decide+kernel
    | mix=>show ("mix":Str)≠"nest";decide+kernel
   refine(ixO (e _ _ hz2) at1 ⟨td,tt,tl,ti,z,ms,rfl,.inr ⟨_,e _ _ h2⟩,e _ _ f2,e _ _ f3,tr2.same e,hct.len,hnn,fun H3 sb3=>?_⟩)
   exact(kk H3 (fun b u n1 n2 hb=>sb3 _ _ n2 (e _ _ (sb02 b u n1 n2 hb))) ((re2.same e).sb sb3 ne)).1 (hf rfl)
inductive wr (N S:Addr)(vs:List V)(H:Hp)(Q:VK)(E:XK):Prop
| mk (tz dz rd:Addr) (rl:Rls) (ts:List (List Im)) (tie:List Int) (n i:Nat) (t l M:Int) (ms:List Im) (_:vs=[.ref tz,.ref dz,.ref rd]) (_:TabD H tz rd rl ts tie) (_:H dz=some (.tup [.str "mix",.int (n:Int),.int t,.int l])) (_:ts[n]? =some ms) (_:0≤t) (_:1≤l) (_:cbF ms t=some ((i:Int),((i+1:Nat):Int))) (_:mmF rl ms t=some M) (_:(M < l→∀ (dx:Addr) (H':Hp),Same H H'→H' dx=some (.xd [("most",.int M)])→E (.ref S) (some dx) H')) (_:(l≤M→∀ (t':Addr) (H':Hp),Same H H'→NewTab H H' t' (ts.set n (ms.take (i+1)++[.mix l]++ms.drop (i+1))) tie→Q (.ref t') H'))
theorem NewTab.back {H H1 H':Hp}(e1:Same H H1){t:Addr}{ts:List (List Im)}{tie:List Int}(h:NewTab H1 H' t ts tie):NewTab H H' t ts tie:=
 let ⟨tl,ti,zs,q1,q2,q3,q4,q5,q6,q7,q8⟩:=h.ex
 ⟨tl,ti,zs,q1,q2,q3,q4,e1.free q5,e1.free q6,q7,fun b hb=>⟨e1.free (q8 b hb).1,(q8 b hb).2⟩⟩
theorem qAs (T:Tx K mg a):FnOk P w K mg base (CXR P w) 10 a.A72 a.B72 ["table","deed","reels"] (wr a.k_NoPlace a.k_Short):=by
 refine okX T.D72.F qD0 (fun vs H Q E h=>?_) (fun cdv A outer s H vs Q E hr h=>?_)
 · obtain⟨tz,dz,rd,rl,ts,tie,n,i,t,l,M,ms,rfl,_⟩:=h
   rfl
 refine qR fun _ Y=>?_
 obtain⟨tz,dz,rd,rl,ts,tie,n,i,t,l,M,ms,rfl,hP,hd,hm,h0,hl,hc,hM,k4,k2⟩:=h
 apply Y
 refine⟨_,(qC (qW (qJ vP (qP (pv 1)) (ju (v:=.ref a.n_ROLLS) rfl T.g_ROLLS rfl) rfl) jX qL)
  (qC (jL (xV T.D44 (qAz T) hr rfl (qA (pv 0) (qA (qP (pv 1)) (qA (qP (pv 1)) qB)))))
  (qC (jL (xV T.D61 (wB T) hr rfl (qA (pv 1) qB)))
  (qC (qW (qJ xY (qP (pv 1)) qV (qO _)) jX qL)
  (qC (qW (qJ xY (qP (pv 1)) qV (qO _)) (qD (qN (xV T.D68 (qGc T) hr rfl (qA (pv 0) (qA (pv 1) (qA (pv 2) qB)))))) qL)
  jX))))),?_⟩
 try dsimp only [jV,qg]
 refine qR fun _ Y=>?_
 obtain⟨tt,tl,ti,zs,e0,g2,g3,g4,g5⟩:=id hP.tab
 cases e0
 apply Y
 have hzl:=g4.len
 have pl:qJ8 zs.length (some (n:Int)) (some t)=true:=by
  have h1:=(glt hm)
  unfold qJ8
  dsimp only
  rw [hzl,decide_eq_true (show (0:Int)≤(n:Int) by omega),decide_eq_true (show (n:Int) < ts.length by omega),decide_eq_true h0]
  rfl
 have a0:atI [V.str "mix",.int (n:Int),.int t,.int l] 0=some (.str "mix"):=rfl
 have a1:atI [V.str "mix",.int (n:Int),.int t,.int l] 1=some (.int (n:Int)):=rfl
 have a2:atI [V.str "mix",.int (n:Int),.int t,.int l] 2=some (.int t):=rfl
 have hw:¬ Wd3 "mix":=by decide+kernel
 have hnb:qH4 "mix" t (some l)=true:=by
  unfold qH4
  rw [if_pos (.inr rfl)]
  exact decide_eq_true hl
 refine(ixO hd a0 ⟨a.n_ROLLS,_,rfl,.inr (T.sq_ROLLS _),rfl,rfl,false,qOw (by rw [qKm];exact decide_eq_false hw),qp ?_⟩)
 refine⟨_,rfl,ixO hd a1 (ixO hd a2 ⟨tz,tl,ti,zs,_,_,some ((n:Int)),some t,rfl,g2,g3,.int _,.int _,fun hf=>(by rw [pl] at hf;cases hf),fun _=>?_⟩)⟩
 refine⟨_,rfl,dz,_,"mix",t,some l,rfl,hd,⟨a0,a2,fun _=>⟨_,rfl,.int l⟩⟩,fun z=>(by rw [hnb] at z;cases z),fun _ H1 e1=>?_⟩
 have hG:=(hP.g (glt hm)).same e1
 have hit:=(hP.ok ms (List.mem_of_getElem? hm)).2.2
 refine(ixO (e1 _ _ hd) a0 ⟨rfl,_,rfl,vK (by decide+kernel) ?_⟩)
 refine(ixO (e1 _ _ hd) a0 ⟨rfl,_,rfl,qBl (by decide+kernel) ?_⟩)
 refine⟨_,rfl,_,rfl,_,rfl,tz,dz,rd,ts,tie,n,ms,t,l,rl,rfl,hG,hm,e1 _ _ hd,hit,hP.re.same e1,fun h H2 e2=>?_,fun i' M' hc' hM'=>?_⟩
 · rcases h with h | ⟨x,y,h,hxy⟩
   · rw [hc] at h;cases h
   · rw [hc] at h
     cases h
     exact absurd (by omega) hxy
 · rw [hc] at hc'
   rw [hM] at hM'
   refine qR fun _ Y=>?_
   cases hM'
   have ei:i'=i:=by
    have:=congrArg Prod.fst (Option.some.inj hc')
    dsimp only at this
    omega
   subst ei
   apply Y
   exact⟨fun hlt dx H2 e2 hx=>k4 hlt dx H2 (e1.trans e2) hx,fun hle t' H2 e2 hN=>k2 hle t' H2 (e1.trans e2) (hN.back e1)⟩
def mmO:Option Int→V
 | none=>.non
 | some M=>.int M
inductive qD7 (vs:List V)(H:Hp)(Q:VK)(_:XK):Prop
| mk (z rd:Addr) (ms:List Im) (t:Int) (rl:Rls) (_:vs=[.ref z,.int t,.ref rd]) (_:Tr H z ms) (_:(∀ m∈ms,ItR rl m)) (_:ReelsAt H rd rl) (_:∀ H',Same H H'→Q (mmO (mmF rl ms t)) H')
theorem jZ (T:Tx K mg a):FnOk P w K mg base CX0 7 a.A90 a.B90 ["_law_track_here","_law_moment","_law_reels_here"] qD7:=by
 refine T.D90.F.ok zX (fun vs H Q E h=>?_) (fun cdv A outer s H vs Q E hr h=>?_)
 · obtain⟨z,rd,ms,t,rl,rfl,_⟩:=h
   rfl
 refine qR fun _ Y=>?_
 obtain⟨z,rd,ms,t,rl,rfl,tT,hit,hrl,kk⟩:=h
 apply Y
 refine⟨_,(qC (qJc (fun C od H'=>C= .ref a.k_NoPlace∧od=none∧Same H H'∧mmF rl ms t=none) .none zX.nd rfl T.c_NoPlace (fun _=>(qD (qd 3 zX.nd (xV T.D42 (ze T) hr rfl (qA (pv 0) (qA (pv 1) (qA (pv 2) qB))))))) (fun _ _=>(qD (qN qE4))))
  (qD (qN (pv 3)))),?_⟩
 try dsimp only [jV,qg]
 refine⟨⟨_,rfl,_,rfl,_,rfl,z,rd,ms,_,some t,rl,rfl,tT,hit,hrl,.int t,fun h H' e=>⟨rfl,rfl,e,h⟩,fun M h H' e=>?_⟩,?_⟩
 · have h':mmF rl ms t=some M:=h
   rw [h'] at kk
   exact⟨_,rfl,kk H' e⟩
 · rintro ea ⟨B1,B2⟩ σ' H' ⟨hB,rfl,e,hn⟩ hea hlen
   have hB':B1= .ref a.k_NoPlace:=hB
   subst hB'
   rw [hn] at kk
   exact⟨T.yPP,kk _ (e.trans (qH hea _))⟩
def DdR (H:Hp)(Q:VK)(ms:List Im)(i:Nat)(l M:Int):Prop:=∀ (y:Addr) (H':Hp),Same H H'→(if M < l then H' y=some (.tup [.str "short",.int M]) else Tr H' y (ms.take (i+1)++[.mix l]++ms.drop (i+1)))→Q (.ref y) H'
inductive qEh (vs:List V)(H:Hp)(Q:VK)(_:XK):Prop
| mk (z rd:Addr) (ms:List Im) (i:Nat) (t l M:Int) (rl:Rls) (_:vs=[.ref z,.int t,.int l,.ref rd]) (_:Tr H z ms) (_:MsB ms) (_:ms.length≤100) (_:(∀ m∈ms,ItR rl m)) (_:ReelsAt H rd rl) (_:0≤t) (_:1≤l) (_:cbF ms t=some ((i:Int),((i+1:Nat):Int))) (_:mmF rl ms t=some M) (_:DdR H Q ms i l M)
theorem qDz (T:Tx K mg a):FnOk P w K mg base CX0 11 a.A91 a.B91 ["_law_track_here","_law_moment","_law_length","_law_reels_here"] qEh:=by
 refine T.D91.F.ok zY (fun vs H Q E h=>?_) (fun cdv A outer s H vs Q E hr h=>?_)
 · obtain⟨z,rd,ms,i,t,l,M,rl,rfl,_⟩:=h
   rfl
 refine qR fun _ Y=>?_
 obtain⟨z,rd,ms,i,t,l,M,rl,rfl,tT,hms,hml,hit,hrl,h0,hl,hc,hM,kk⟩:=h
 apply Y
 have hu1:=wu hr
 refine⟨_,(qC (qJc (fun C od H'=>C= .ref a.k_Short∧M < l∧Same H H'∧∃ dx,od=some dx∧H' dx=some (.xd [("most",.int M)])) (.some (i:=5) rfl rfl) zY.nd rfl T.c_Short (fun _=>(qD (qd 4 zY.nd (xV T.D72 (qAs T) hr rfl (qA (jO (qA (zM (qA (qAi (vC (K:=K) rfl) rfl T.b_list rfl (qA (pv 0) qB)) qB)) (qA (zM qB) qB))) (qA (jO (qA qV (qA qE (qA (pv 1) (qA (pv 2) qB))))) (qA (pv 3) qB))))))) (fun _ _=>(qD (qN (jO (qA qV (qA (qKr (K:=K) rfl (pv 5)) qB)))))))
  (qD (qN (jM jE (qP (pv 4)) qE (fun _ _=>rfl))))),?_⟩
 try dsimp only [jV,qg]
 refine qR fun _ Y=>?_
 obtain⟨us,hz,his⟩:=id tT
 apply Y
 refine⟨?_,?_⟩
 · refine⟨_,rfl,z,_,rfl,.inl (SqL.of hz),fun y hy=>?_⟩
   have w1:=qH hy (.lst us)
   have ty:Tr (upd H y (.lst us)) y ms:=⟨us,qF,his.ts (qr w1)⟩
   generalize upd H y (.lst us)=H1 at w1 ty ⊢
   refine⟨sL1,fun tl htl=>?_⟩
   have w2:=qH htl (.lst [.ref y])
   have g3:(upd H1 tl (.lst [.ref y])) tl=some (.lst [.ref y]):=qF
   generalize upd H1 tl (.lst [.ref y])=H2 at w2 g3 ⊢
   refine⟨sL0,fun ti hti=>?_⟩
   have w3:=qH hti (.lst [])
   have g4:(upd H2 ti (.lst [])) ti=some (.lst []):=qF
   generalize upd H2 ti (.lst [])=H3 at w3 g4 ⊢
   refine⟨sL2,fun tz htz=>?_⟩
   have w4:=qH htz (.tup [.ref tl,.ref ti])
   have g5:(upd H3 tz (.tup [.ref tl,.ref ti])) tz=some (.tup [.ref tl,.ref ti]):=qF
   generalize upd H3 tz (.tup [.ref tl,.ref ti])=H4 at w4 g5 ⊢
   refine⟨_,rfl,_,rfl,sL4,fun dz hdz=>?_⟩
   have w5:=qH hdz (.tup [.str "mix",.int 0,.int t,.int l])
   have g6:(upd H4 dz (.tup [.str "mix",.int 0,.int t,.int l])) dz=some (.tup [.str "mix",.int 0,.int t,.int l]):=qF
   generalize upd H4 dz (.tup [.str "mix",.int 0,.int t,.int l])=H5 at w5 g6 ⊢
   have w25:=((w2.trans w3).trans w4).trans w5
   have w15:=w1.trans w25
   have hok:∀ m∈[ms],MsB m∧m.length≤100∧∀ x∈m,ItR rl x:=fun m hm=>by
    have e:m=ms:=by simpa using hm
    rw [e];exact⟨hms,hml,hit⟩
   have hP:TabD H5 tz rd rl [ms] []:=⟨⟨tz,tl,ti,[.ref y],rfl,w5 _ _ g5,w5 _ _ (w4 _ _ (w3 _ _ g3)),⟨⟨y,rfl,ty.same w25⟩,trivial⟩,w5 _ _ (w4 _ _ g4)⟩,hok,(by show 1≤8;decide),(by show 0≤8;decide),fun x hx=>(by simp at hx),hrl.same w15⟩
   refine⟨_,rfl,tz,dz,rd,rl,[ms],[],0,i,t,l,M,ms,rfl,hP,g6,rfl,h0,hl,hc,hM,fun hlt dx H' e hx=>⟨rfl,hlt,w15.trans e,dx,rfl,hx⟩,fun hle t' H' e hN=>?_⟩
   refine qR fun _ Y=>?_
   obtain⟨tl',ti',zs',q1,q2,q3,q4,q5,q6,q7,q8⟩:=hN.ex
   apply Y
   replace q3:TrsAt H' [ms.take (i+1)++[.mix l]++ms.drop (i+1)] zs':=q3
   refine qR fun _ Y=>?_
   obtain⟨y',rfl,try'⟩:∃ y',zs'=[.ref y']∧Tr H' y' (ms.take (i+1)++[.mix l]++ms.drop (i+1)):=by
    cases zs' with
    | nil=>exact q3.elim
    | cons v vs=>
     obtain⟨⟨y',e,h⟩,r⟩:=q3
     cases vs with
     | nil=>exact⟨y',by rw [e],h⟩
     | cons=>exact r.elim
   apply Y
   exact(ixO q1 at0 ⟨tl',_,_,_,rfl,rfl,SqL.of q2,(show atI [V.ref y'] 0=some (.ref y') from rfl),kk y' H' (w15.trans e) (by rw [if_neg (by omega)];exact try')⟩)
 · rintro ea ⟨B1,B2⟩ σ' H' ⟨hB,hlt,e,dx,hdx,hx⟩ hea hlen
   have hB':B1= .ref a.k_Short:=hB
   have hB2:B2=some dx:=hdx
   refine qR fun _ Y=>?_
   subst hB' hB2
   have w1:=qH hea (qCd ea (.ref a.k_Short,some dx))
   obtain⟨o1,o2,o3,o4,o5,o6,rfl⟩:∃ o1 o2 o3 o4 o5 o6,σ'=[o1,o2,o3,o4,o5,o6]:=by
    match σ',hlen with
    | [o1,o2,o3,o4,o5,o6],_=>exact⟨o1,o2,o3,o4,o5,o6,rfl⟩
   apply Y
   have hE:(upd H' ea (qCd ea (.ref a.k_Short,some dx))) ea=some (qCd ea (.ref a.k_Short,some dx)):=qF
   refine⟨T.ySS,_,rfl,ea,_,dx,_,_,rfl,hE,w1 _ _ hx,rfl,T.e_Short,T.m_Short.hd,T.f_most,sL2,fun t2 ht2=>?_⟩
   exact kk t2 _ ((e.trans w1).trans (qH ht2 _)) (by rw [if_pos hlt];exact qF)
inductive qDq (vs:List V)(H:Hp)(Q:VK)(_:XK):Prop
| mk (z re:Addr) (ms:List Im) (A:Int) (_:vs=[.ref z,.ref re]) (_:Tr H z ms) (_:RE H re A) (_:CTr (rlE A) ms) (_:∀ H',SB re H H'→RE H' re A→Q (.bl (qDe (rlE A) ms)) H')
theorem qDf (T:Tx K mg a):FnOk P w K mg base CX0 12 a.A89 a.B89 ["_law_track_here","_law_reels_here"] qDq:=by
 refine T.D89.F.ok wH (fun vs H Q E h=>?_) (fun cdv A outer s H vs Q E hr h=>?_)
 · obtain⟨z,re,ms,A',rfl,_⟩:=h
   rfl
 refine qR fun _ Y=>?_
 obtain⟨z,re,ms,A',rfl,tT,hre,hct,kk⟩:=h
 apply Y
 have hu1:=wu hr
 refine⟨_,(qD (qJu (fun C od H'=>C= .ref a.k_NoRoom∧od=none∧qDe (rlE A') ms=false∧(∀ b u,b≠re→H b=some u→H' b=some u)∧RE H' re A') .none wH.nd rfl T.c_NoRoom (fun _=>(qD (jL (xV T.D83 (qBd T) hr rfl (qA (jO (qA (pv 1) (qA (qJs (qC4 qV (jO (qA (zM (qA (pv 0) qB)) (qA (zM qB) qB))) qIb) rfl rfl (by simp) (by decide)) qB))) qB))))) (fun _ _=>(qD (qN jn))) (qD (qN jn)))),?_⟩
 try dsimp only [jV,qg]
 refine⟨?_,?_⟩
 · refine⟨_,rfl,fun td htd=>⟨_,rfl,sL1,fun l1 h1=>?_⟩⟩
   have v0:=qH htd (.dK [])
   have m0:upd H td (.dK []) td=some (.dK []):=qF
   generalize upd H td (.dK [])=I0 at v0 m0 h1 ⊢
   have v1:=qH h1 (.lst [.ref z])
   have m1:upd I0 l1 (.lst [.ref z]) l1=some (.lst [.ref z]):=qF
   generalize upd I0 l1 (.lst [.ref z])=I1 at v1 m1 ⊢
   refine⟨sL0,fun l0 h0=>?_⟩
   have v2:=qH h0 (.lst [])
   have m2:upd I1 l0 (.lst []) l0=some (.lst []):=qF
   generalize upd I1 l0 (.lst [])=I2 at v2 m2 ⊢
   refine⟨sL2,fun t4 h4=>?_⟩
   have v3:=qH h4 (.tup [.ref l1,.ref l0])
   have m3:upd I2 t4 (.tup [.ref l1,.ref l0]) t4=some (.tup [.ref l1,.ref l0]):=qF
   generalize upd I2 t4 (.tup [.ref l1,.ref l0])=I3 at v3 m3 ⊢
   have v13:=v1.trans (v2.trans v3)
   have k3:=v13 _ _ m0
   refine⟨k3,[(Sum.inr "top",.ref t4)],rfl,(by show 1≤15;decide),?_⟩
   have em:∀ x:V,qAc [] [((Sum.inr ("top":Str):Key),x)]=[(Sum.inr ("top":Str),x)]:=fun x=>by rfl
   rw [em]
   have S5:Same H (upd I3 td (.dK [(Sum.inr "top",.ref t4)])):=j9 (v0.trans v13) htd
   have kd:upd I3 td (.dK [(Sum.inr "top",.ref t4)]) td=some (.dK [(Sum.inr "top",.ref t4)]):=qF
   have n1:l1≠td:=(qS m0 h1).symm
   have n0:l0≠td:=(qS (v1 _ _ m0) h0).symm
   have n4:t4≠td:=(qS ((v1.trans v2) _ _ m0) h4).symm
   have d1:upd I3 td (.dK [(Sum.inr "top",.ref t4)]) l1=some (.lst [.ref z]):=by rw [qU n1];exact(v2.trans v3) _ _ m1
   have d2:upd I3 td (.dK [(Sum.inr "top",.ref t4)]) l0=some (.lst []):=by rw [qU n0];exact v3 _ _ m2
   have d3:upd I3 td (.dK [(Sum.inr "top",.ref t4)]) t4=some (.tup [.ref l1,.ref l0]):=by rw [qU n4];exact m3
   generalize upd I3 td (.dK [(Sum.inr "top",.ref t4)])=H7 at S5 kd d1 d2 d3 ⊢
   refine⟨sL2,fun rz hrz=>?_⟩
   have w8:=qH hrz (.tup [.ref re,.ref td])
   have k8:upd H7 rz (.tup [.ref re,.ref td]) rz=some (.tup [.ref re,.ref td]):=qF
   generalize upd H7 rz (.tup [.ref re,.ref td])=H8 at w8 k8 ⊢
   have S8:=S5.trans w8
   have nrt:re≠td:=by
    rintro rfl
    rcases hre.1 with h | ⟨o,h⟩ <;> · rw [htd] at h;cases h
   refine⟨rz,re,td,t4,l1,l0,z,A',ms,rfl,k8,hre.same S8,.inl (w8 _ _ kd),nrt,w8 _ _ d3,w8 _ _ d1,w8 _ _ d2,tT.same S8,hct,fun H' sb' re'=>?_⟩
   have sb:∀ b u,b≠re→H b=some u→H' b=some u:=fun b u n hb=>sb' b u n (qS hb htd) (S8 _ _ hb)
   refine⟨fun hf=>?_,fun hf=>⟨rfl,rfl,hf,sb,re'⟩⟩
   rw [hf] at kk
   exact kk H' sb re'
 · rintro ea ⟨B1,B2⟩ σ' H' ⟨hB,hB2,hf,sb,re'⟩ hea hlen
   have hB':B1= .ref a.k_NoRoom:=hB
   subst hB'
   have w1:=qH hea (qCd ea (.ref a.k_NoRoom,B2))
   rw [hf] at kk
   exact⟨T.yRR,kk _ (fun b u n hb=>w1 _ _ (sb b u n hb)) (re'.same w1)⟩
structure KC (A:Int)(n:Str)(p q r s l N:Int):Prop where
 rc:Rc n p q r s l (rlE A) N
 gf:GF n p q r s l
 i0:InR (Vk p q r s 0) (q*s) N
 i1:InR (Vk p q r s (l - 1)) (q*s) N
def inB (X D N:Int):Bool:=decide (0≤X) && decide (X.fdiv D < N)
theorem qCm {X D N:Int}(hD:0 < D):inB X D N=true↔InR X D N:=by
 unfold inB
 rw [Bool.and_eq_true,decide_eq_true_iff,decide_eq_true_iff,vX hD]
 constructor
 · rintro ⟨a,b⟩
   exact⟨Int.fdiv_nonneg a (by omega),b⟩
 · rintro ⟨a,b⟩
   have:=qX (p:=X) hD
   have h:=Int.mul_nonneg a (by omega:0≤D)
   exact⟨by omega,b⟩
theorem qFq {a b l:Int}(ha:0≤a)(hb:0≤b)(hl:0≤l):l≤mmV a b↔l.fdiv 2≤a∧l - l.fdiv 2≤b:=by
 have f:=qX (p:=l) (q:=2) (by decide)
 generalize l.fdiv 2=h at f ⊢
 unfold mmV qMu
 split <;> split <;> omega
theorem qK8 {a b l:Int}(h:l≤mmV a b)(h1:1≤l):l.fdiv 2≤a∧l - l.fdiv 2≤b:=by
 have f:=qX (p:=l) (q:=2) (by decide)
 unfold mmV qMu at h
 split at h
 · split at h <;> omega
 · split at h <;> omega
theorem minV_iff {a b x:Int}:x≤vV a b↔x≤a∧x≤b:=by
 unfold vV
 split <;> omega
theorem qI8 (a b:Int):0≤mmV a b:=by
 unfold mmV qMu
 split <;> split <;> omega
theorem qN2 {a b:Int}(ha:0≤a)(hb:0≤b):vV (2*a+1) (2*b)=mmV a b:=by
 unfold vV mmV qMu
 split <;> split <;> split <;> omega
inductive qAp (vs:List V)(H:Hp)(Q:VK)(_:XK):Prop
| mk (v:V) (re:Addr) (n:Str) (p q r s l k N A:Int) (_:vs=[v,.int k,.ref re]) (_:IsI H (.clip n p q r s l) v) (_:KC A n p q r s l N) (_:RE H re A) (_:-(2 ^ 60) < k) (_:k < 2 ^ 60) (_:Q (.bl (inB (Vk p q r s k) (q*s) N)) H)
theorem zl (T:Tx K mg a):FnOk P w K mg base CX0 2 a.A92 a.B92 ["_law_clip_here","_law_k","_law_reels_here"] qAp:=by
 refine T.D92.F.ok zt (fun vs H Q E h=>?_) (fun cdv A outer s H vs Q E hr h=>?_)
 · obtain⟨v,re,n,p,q,r,s,l,k,N,A',rfl,_⟩:=h
   rfl
 refine qR fun _ Y=>?_
 obtain⟨v,re,n,p,q,r,s1,l,k,N,A',rfl,⟨z,x,y,rfl,hz,hx,hy⟩,hK,hre,k1,k2,kk⟩:=h
 apply Y
 have hu1:=wu hr
 refine⟨_,(qC (qd 3 zt.nd (qK qh (qK ql (qP (qP (pv 0))) (qP (qP (pv 0)))) (qK ql (qK ql (pv 1) (qP (qP (pv 0)))) (qP (qP (pv 0))))))
  (qD (qN (xL (jK qEs qE (pv 3) (qO _)) (zL (jK kD (qK qf (pv 3) (qK ql (qP (qP (pv 0))) (qP (qP (pv 0))))) (kN hu1 (pv 2) (qP (pv 0)) (fun _ _=>rfl)) (qO _))))))),?_⟩
 try dsimp only [jV,qg]
 have e110:(2:Nat) ^ 110 < 2 ^ 3000:=Nat.pow_lt_pow_right (by decide) (by decide)
 have bp:Sm p:=Nat.lt_trans hK.rc.g1.2.2.1 e110
 have bq:Sm q:=Nat.lt_trans hK.rc.g1.2.2.2 e110
 have bs:Sm s1:=Nat.lt_trans hK.rc.g2.2.2.2 e110
 have q0:=hK.rc.g1.1
 have s0:=hK.rc.g2.1
 have hqs:=Int.mul_pos q0 s0
 have bkr:Sm (k*r):=by
  have h1:k.natAbs < 2 ^ 60:=by omega
  have:=jF h1 hK.rc.g2.2.2.1
  exact Nat.lt_trans this (Nat.pow_lt_pow_right (by decide) (by decide))
 have bqs:(q*s1).natAbs < 2 ^ 8000:=Nat.lt_trans (jF hK.rc.g1.2.2.2 hK.rc.g2.2.2.2) (Nat.pow_lt_pow_right (by decide) (by decide))
 have hX:=SqT.of (K:=K) hz
 have x2:atI [V.str "clip",.str n,.ref x,.ref y,.int l] 2=some (.ref x):=rfl
 have x3:atI [V.str "clip",.str n,.ref x,.ref y,.int l] 3=some (.ref y):=rfl
 have x1:atI [V.str "clip",.str n,.ref x,.ref y,.int l] 1=some (.str n):=rfl
 refine⟨_,rfl,z,_,_,_,rfl,rfl,hX,x2,ixT (SqT.of hx) at0 ⟨_,rfl,z,_,_,_,rfl,rfl,hX,x3,ixT (SqT.of hy) at1 ⟨_,_,rfl,rfl,bp.mul bs,?_⟩⟩⟩
 refine⟨_,rfl,_,rfl,z,_,_,_,rfl,rfl,hX,x3,ixT (SqT.of hy) at0 ⟨_,_,rfl,rfl,cmL (by omega) (by omega),?_⟩⟩
 refine⟨_,rfl,z,_,_,_,rfl,rfl,hX,x2,ixT (SqT.of hx) at1 ⟨_,_,rfl,rfl,bkr.mul bq,_,_,rfl,rfl,?_⟩⟩
 refine⟨_,rfl,_,_,rfl,rfl,_,rfl,?_⟩
 have eV:p*s1+k*r*q=Vk p q r s1 k:=rfl
 dsimp only
 rw [eV]
 generalize Vk p q r s1 k=X at kk ⊢
 unfold inB at kk
 by_cases h0:0≤X
 · rw [decide_eq_true h0,Bool.true_and] at kk
   rw [decide_eq_true h0]
   refine jS ?_
   refine qR fun _ Y=>?_
   obtain⟨ar,hrd,hv⟩:=hre.at n N hK.rc.rn
   apply Y
   refine⟨_,rfl,_,rfl,z,_,_,_,rfl,rfl,hX,x2,ixT (SqT.of hx) at1 ⟨_,rfl,z,_,_,_,rfl,rfl,hX,x3,ixT (SqT.of hy) at1 ⟨_,_,rfl,rfl,bq.mul bs,_,_,rfl,rfl,⟨by omega,bqs⟩,?_⟩⟩⟩
   exact⟨_,rfl,_,rfl,z,_,_,_,rfl,rfl,hX,x1,re,_,rfl,.inl ⟨ar,Sum.inr n,hrd,rfl,hv.symm⟩,_,_,rfl,rfl,kk⟩
 · rw [decide_eq_false h0,Bool.false_and] at kk
   rw [decide_eq_false h0]
   exact qp kk
inductive qFt (vs:List V)(H:Hp)(Q:VK)(_:XK):Prop
| mk (z re:Addr) (ms:List Im) (i:Nat) (A:Int) (n n':Str) (p q r s l N p' q' r' s' l' N':Int) (_:vs=[.ref z,.int ((i+1:Nat):Int),.ref re]) (_:Tr H z ms) (_:RE H re A) (_:ms.length≤100) (_:ms[i]? =some (.clip n p q r s l)) (_:ms[i+1]? =some (.clip n' p' q' r' s' l')) (_:KC A n p q r s l N) (_:KC A n' p' q' r' s' l' N') (_:(∀ k,ms[i+2]?≠some (.mix k))) (_:0≤l - tbF ms i) (_:(100 < l - tbF ms i→r=0∧r'=0)) (_:Q (.int (mmV (vV (l - tbF ms i) (ku p' q' r' s' N')) (vV l' (kz p q r s l N)))) H)
theorem qA1 (T:Tx K mg a):FnOk P w K mg base CX0 3 a.A93 a.B93 ["_law_track_here","_law_place","_law_reels_here"] qFt:=by
 refine T.D93.F.ok jD (fun vs H Q E h=>?_) (fun cdv A outer s H vs Q E hr h=>?_)
 · obtain⟨z,re,ms,i,A',n,n',p,q,r,s,l,N,p',q',r',s',l',N',rfl,_⟩:=h
   rfl
 refine qR fun _ Y=>?_
 obtain⟨z,re,ms,i,A',n,n',p,q,r,s1,l,N,p',q',r',s2,l',N',rfl,tT,hre,hml,hi,hj,c1,c2,hnm,hbf,hst,kk⟩:=h
 apply Y
 have hu1:=wu hr
 refine⟨_,(qC (qd 3 jD.nd (jM jE (pv 0) (qK jA (pv 1) qE) (fun _ _=>rfl)))
  (qC (qd 4 jD.nd (jM jE (pv 0) (pv 1) (fun _ _=>rfl)))
  (qC (qd 5 jD.nd (jM vB (pv 3) (we zp qE) (fun _ _=>rfl)))
  (qC (qd 6 jD.nd (jM vB (pv 4) (we zp qE) (fun _ _=>rfl)))
  (qC (xE (qW (PW.pt (xJ (qJ kU (pv 1) qE (qO _)) (ji (qJ xY (qP (jM jE (pv 0) (qK jA (pv 1) qE) (fun _ _=>rfl))) qV (qO _))))) (qD (qd 5 jD.nd (qK qh (qK jA (pv 5) (qP (jM jE (pv 0) (qK jA (pv 1) qE) (fun _ _=>rfl)))) (qK qf (qP (jM jE (pv 0) (qK jA (pv 1) qE) (fun _ _=>rfl))) qE)))) qL))
  (qC (xE (qW (PW.pt (xJ (qJ kD (qK qh (pv 1) qE) (qQ qY rfl T.b_len rfl (qA (pv 0) qB)) (qO _)) (ji (qJ xY (qP (jM jE (pv 0) (qK qh (pv 1) qE) (fun _ _=>rfl))) qV (qO _))))) (qD (qd 6 jD.nd (qK jA (pv 6) (qK qf (qP (jM jE (pv 0) (qK qh (pv 1) qE) (fun _ _=>rfl))) qE)))) qL))
  (qC (qW (qJ kU (pv 5) qE (qO _)) (qD (qN (qQ (xk rfl) rfl T.b_min rfl (qA (qK qh (qK ql qE (qQ (xk rfl) rfl T.b_min rfl (qA (pv 5) (qA (qK qDt qE qE) qB)))) qE) (qA (qK ql qE (qQ (xk rfl) rfl T.b_min rfl (qA (pv 6) (qA (qK qDt qE qE) qB)))) qB))))) qL)
  (qC (qd 7 jD.nd qE)
  (qC (qCn PassesOwn.never (PW.pt (xJ (qJ qEs (qK qf (qK qh (pv 7) qE) qE) (pv 5) (qO _)) (ji (qJ qEs (qK jA (qK qh (pv 7) qE) (qK qf (qK qh (pv 7) qE) qE)) (pv 6) (qO _))))) (qC (qd 8 jD.nd (qK qh (pv 7) qE))
  (qC (qW (qi (qc (qI T.D92 (zl T) hr rfl (qA (pv 3) (qA (qK jA (qK jA (qK qh (jM vB (pv 3) (we zp qE) (fun _ _=>rfl)) (pv 8)) (qK qf (pv 8) qE)) qE) (qA (pv 2) qB)))))) (qD (qN (pv 7))) qL)
  (qC (qW (PW.pt (xJ (qJ kU (pv 8) qE (qO _)) (ji (qi (qc (qI T.D92 (zl T) hr rfl (qA (pv 4) (qA (qK jA qE (qK qf (pv 8) qE)) (qA (pv 2) qB))))))))) (qD (qN (pv 7))) qL)
  (qD (qd 7 jD.nd (pv 8)))))))
  (qD (qN (pv 7)))))))))))),?_⟩
 try dsimp only [jV,qg]
 refine qR fun _ Y=>?_
 obtain⟨us,hz,his⟩:=id tT
 have hul:=his.len
 obtain⟨va,hva,Ia⟩:=his.get' hi
 obtain⟨vb,hvb,Ib⟩:=his.get' hj
 obtain⟨za,xa,ya,rfl,hza,hxa,hya⟩:=id Ia
 obtain⟨zb,xb,yb,rfl,hzb,hxb,hyb⟩:=id Ib
 apply Y
 have m1:atI [V.str "clip",.str n,.ref xa,.ref ya,.int l] (-1)=some (.int l):=rfl
 have m2:atI [V.str "clip",.str n',.ref xb,.ref yb,.int l'] (-1)=some (.int l'):=rfl
 have ai:atI us (((i+1:Nat):Int) - 1)=some (.ref za):=by
  have e:((i+1:Nat):Int) - 1=(i:Int):=by omega
  rw [e];exact jc hva
 refine⟨_,rfl,_,rfl,_,_,rfl,rfl,z,_,_,_,rfl,rfl,SqL.of hz,ai,?_⟩
 refine⟨_,rfl,_,rfl,z,_,_,_,rfl,rfl,SqL.of hz,jc hvb,?_⟩
 refine⟨_,rfl,_,rfl,za,_,_,_,rfl,rfl,SqT.of hza,m1,?_⟩
 refine⟨_,rfl,_,rfl,zb,_,_,_,rfl,rfl,SqT.of hzb,m2,?_⟩
 refine⟨fun σ' H'=>H'=H∧σ'=[some (.ref z),some (.int ((i+1:Nat):Int)),some (.ref re),some (.ref za),some (.ref zb),some (.int (l - tbF ms i)),some (.int l'),none,none],?_,?_⟩
 · refine⟨_,rfl,_,_,rfl,rfl,_,rfl,?_⟩
   cases i with
   | zero=>
    refine vK (by decide) (qp ⟨rfl,?_⟩)
    have e:tbF ms 0=0:=rfl
    rw [e,Int.sub_zero]
    rfl
   | succ i=>
    have hi':i < ms.length:=by have:=(glt hi);omega
    refine qR fun _ Y=>?_
    obtain⟨v,hv,Iv⟩:=his.get' (List.getElem?_eq_getElem hi')
    have hav:atI us (((i+1+1:Nat):Int) - 2)=some v:=by
     have e:((i+1+1:Nat):Int) - 2=(i:Int):=by omega
     rw [e];exact jc hv
    obtain⟨zi,xi,rfl,hzi,h0,h1⟩:=Iv.opn
    apply Y
    refine qBl (decide_eq_true (by omega)) ?_
    refine⟨_,rfl,_,rfl,_,_,rfl,rfl,z,_,_,_,rfl,rfl,SqL.of hz,hav,?_⟩
    refine⟨zi,xi,_,_,rfl,rfl,SqT.of hzi,h0,rfl,_,rfl,jx (fun c=>?_) (fun c=>?_)⟩
    · obtain⟨k,hk⟩:=qA3 (show (ms[i]).wd="mix" by simpa using c)
      have e:tbF ms (i+1)=k - k.fdiv 2:=by
       unfold tbF
       rw [if_neg (by omega),Nat.add_sub_cancel,List.getElem?_eq_getElem hi',hk]
      rw [hk] at Iv
      refine qR fun _ Y=>?_
      obtain⟨zi',e2,hzi'⟩:=Iv
      cases e2
      apply Y
      refine⟨_,rfl,_,rfl,_,rfl,_,_,rfl,rfl,z,_,_,_,rfl,rfl,SqL.of hz,hav,?_⟩
      refine(ixT (SqT.of hzi') at1 ⟨_,_,rfl,rfl,_,rfl,_,rfl,_,_,rfl,rfl,z,_,_,_,rfl,rfl,SqL.of hz,hav,?_⟩)
      refine(ixT (SqT.of hzi') at1 ⟨_,_,rfl,rfl,cdB (by decide) (by decide),_,_,rfl,rfl,rfl,?_⟩)
      have e3:l - tbF ms (i+1)=l - k+k.fdiv 2:=by rw [e];omega
      rw [e3]
      rfl
    · have hw:(ms[i]).wd≠"mix":=by simpa using c
      have e:tbF ms (i+1)=0:=by
       unfold tbF
       rw [if_neg (by omega),Nat.add_sub_cancel,List.getElem?_eq_getElem hi']
       cases hm:ms[i] with
       | mix k=>rw [hm] at hw;exact absurd rfl hw
       | _=>rfl
      refine⟨rfl,?_⟩
      rw [e,Int.sub_zero]
      rfl
 rintro σ' H' ⟨rfl,rfl⟩
 refine⟨fun σ' H1=>H1=H'∧σ'=[some (.ref z),some (.int ((i+1:Nat):Int)),some (.ref re),some (.ref za),some (.ref zb),some (.int (l - tbF ms i)),some (.int l'),none,none],?_,?_⟩
 · refine⟨_,rfl,_,_,rfl,rfl,_,rfl,z,_,rfl,.inl (SqL.of hz),_,_,rfl,rfl,_,rfl,jx (fun c=>?_) (fun c=>qp ⟨rfl,rfl⟩)⟩
   have c':((i+1:Nat):Int)+1 < (us.length:Int):=by simpa using c
   have hi':i+2 < ms.length:=by omega
   refine qR fun _ Y=>?_
   obtain⟨v,hv,Iv⟩:=his.get' (List.getElem?_eq_getElem hi')
   have hav:atI us (((i+1:Nat):Int)+1)=some v:=by
    have e:((i+1:Nat):Int)+1=((i+2:Nat):Int):=by omega
    rw [e];exact jc hv
   obtain⟨zi,xi,rfl,hzi,h0,h1⟩:=Iv.opn
   apply Y
   refine⟨_,rfl,_,rfl,_,_,rfl,rfl,z,_,_,_,rfl,rfl,SqL.of hz,hav,?_⟩
   refine⟨zi,xi,_,_,rfl,rfl,SqT.of hzi,h0,rfl,_,rfl,jx (fun c=>?_) (fun c=>⟨rfl,rfl⟩)⟩
   obtain⟨k,hk⟩:=qA3 (show (ms[i+2]).wd="mix" by simpa using c)
   exact absurd (by rw [List.getElem?_eq_getElem hi',hk]) (hnm k)
 rintro σ' H1 ⟨rfl,rfl⟩
 refine qR fun _ Y=>?_
 obtain⟨t0,t1,t2,t3,t4⟩:=qC0 (k0:=l) (e:=1) c1.rc.g1.1 c1.rc.g2.1 (.inl rfl) (fun _=>c1.i0)
 obtain⟨d0,d1,d2,d3,d4⟩:=qC0 (k0:=-1) (e:=-1) c2.rc.g1.1 c2.rc.g2.1 (.inr rfl) (fun _=>c2.i0)
 apply Y
 have hl1:=c2.rc.l1
 have et:xF (plP p q r s1 l*s1) (1*r*plQ p q r s1 l) (plQ p q r s1 l*s1) N=kz p q r s1 l N:=rfl
 have ed:xF (plP p' q' r' s2 (-1)*s2) (-1*r'*plQ p' q' r' s2 (-1)) (plQ p' q' r' s2 (-1)*s2) N'=ku p' q' r' s2 N':=rfl
 rw [et] at t0 t1 t2 t3 t4
 rw [ed] at d0 d1 d2 d3 d4
 generalize kz p q r s1 l N=tB at t0 t1 t2 t3 t4 kk
 generalize ku p' q' r' s2 N'=hB at d0 d1 d2 d3 d4 kk
 generalize hbq:l - tbF ms i=bf at hbf hst kk ⊢
 have fit:∀ x:Int,0≤x→(x≤mmV (vV bf hB) (vV l' tB)↔(x.fdiv 2≤bf∧x.fdiv 2≤hB)∧x - x.fdiv 2≤l'∧x - x.fdiv 2≤tB):=fun x hx=>by
  rw [qFq (minV_iff.mpr ⟨hbf,d0⟩) (minV_iff.mpr ⟨by omega,t0⟩) hx,minV_iff,minV_iff]
 refine⟨_,rfl,_,_,rfl,rfl,_,rfl,jx (fun c=>?_) (fun c=>?_)⟩
 · have hb1:100 < bf:=by simpa using c
   obtain⟨r0,r0'⟩:=hst hb1
   rw [t4 r0,d4 r0'] at kk
   rw [← qN2 (minV_iff.mpr ⟨hbf,by decide⟩) (minV_iff.mpr ⟨by omega,by decide⟩)] at kk
   exact⟨_,rfl,_,_,rfl,rfl,cpw (n:=6) (by decide),_,_,rfl,_,_,rfl,rfl,cmL (by decide) (by decide),_,_,rfl,rfl,_,rfl,_,_,rfl,rfl,cpw (n:=6) (by decide),_,_,rfl,_,_,rfl,rfl,cmL (by decide) (by decide),_,_,rfl,kk⟩
 have hb1:bf≤100:=by have:¬ bf > 100:=by simpa using c
                     omega
 generalize hMq:mmV (vV bf hB) (vV l' tB)=M at kk fit
 have M0:0≤M:=by rw [← hMq];exact qI8 _ _
 have hqs:=Int.mul_pos c1.rc.g1.1 c1.rc.g2.1
 have hqs':=Int.mul_pos c2.rc.g1.1 c2.rc.g2.1
 have bl1:=c1.rc.bl
 have stop:∀ m:Int,0≤m→m≤M→¬ m+1≤M→m=M:=fun m _ h1 h2=>by omega
 refine qB4 (fun σ H'=>H'=H1∧∃ (m:Int) (o:Option V),σ=[some (.ref z),some (.int ((i+1:Nat):Int)),some (.ref re),some (.ref za),some (.ref zb),some (.int bf),some (.int l'),some (.int m),o]∧0≤m∧m≤201∧m≤M)
  (fun σ _=>match σ with | [_,_,_,_,_,_,_,some (.int m),_]=>(202 - m).toNat | _=>0) ⟨rfl,0,none,rfl,by decide,by decide,M0⟩ ?_ ?_
 · rintro σ H2 ⟨rfl,m,o,rfl,m0,m1',mM⟩
   have f:=qX (p:=m+1) (q:=2) (by decide)
   have fm':=qX (p:=m) (q:=2) (by decide)
   refine⟨_,rfl,_,_,rfl,rfl,_,_,rfl,rfl,cdB (by decide) (by decide),_,rfl,_,_,rfl,rfl,_,rfl,jx (fun ca=>?_) (fun ca=>?_)⟩
   · have ca':(m+1).fdiv 2≤bf:=by simpa using ca
     refine⟨_,rfl,_,_,rfl,rfl,_,rfl,_,_,rfl,rfl,_,_,rfl,rfl,cdB (by decide) (by decide),_,_,rfl,rfl,_,rfl,_,_,rfl,rfl,_,rfl,jx (fun cb=>?_) (fun cb=>?_)⟩
     · have cb':m+1 - (m+1).fdiv 2≤l':=by simpa using cb
       have ft:=fit (m+1) (by omega)
       have ftm:=(fit m m0).mp mM
       refine⟨_,rfl,_,_,rfl,rfl,?_⟩
       refine⟨_,rfl,_,rfl,_,rfl,za,_,_,_,rfl,rfl,SqT.of hza,m1,_,rfl,_,_,rfl,rfl,_,rfl,_,_,rfl,rfl,cdB (by decide) (by decide),_,_,rfl,rfl,_,_,rfl,rfl,_,rfl,?_⟩
       refine⟨_,re,n,p,q,r,s1,l,_,N,A',rfl,Ia,c1,hre,(by omega),(by omega),_,rfl,?_⟩
       have ek:l+(m+1) - (m+1).fdiv 2 - 1=l+1*((m+1) - (m+1).fdiv 2 - 1):=by omega
       rw [ek]
       cases hin:inB (Vk p q r s1 (l+1*((m+1) - (m+1).fdiv 2 - 1))) (q*s1) N with
       | false=>
        refine jS ⟨_,rfl,?_⟩
        have hn:¬ (m+1 - (m+1).fdiv 2≤tB):=fun h=>by
         have:=(qCm hqs).mpr (t2 ((m+1) - (m+1).fdiv 2 - 1) (by omega) (by omega))
         rw [hin] at this;cases this
        have e:=stop m m0 mM (fun h=>hn (ft.mp h).2.2)
        rw [e];exact kk
       | true=>
        refine qp ?_
        have hn:m+1 - (m+1).fdiv 2≤tB:=Decidable.byContradiction fun h=>by
         have e:(m+1) - (m+1).fdiv 2 - 1=tB:=by omega
         rw [e] at hin
         exact t3 (by omega) ((qCm hqs).mp hin)
        refine⟨_,rfl,_,_,rfl,rfl,_,rfl,jx (fun cc=>?_) (fun cc=>?_)⟩
        · have cc':1 < m+1:=by simpa using cc
          refine⟨_,rfl,_,rfl,_,_,rfl,rfl,cdB (by decide) (by decide),_,_,rfl,rfl,_,rfl,?_⟩
          refine⟨_,re,n',p',q',r',s2,l',_,N',A',rfl,Ib,c2,hre,(by omega),(by omega),_,rfl,?_⟩
          have ek:0 - (m+1).fdiv 2= -1+ -1*((m+1).fdiv 2 - 1):=by omega
          rw [ek]
          cases hin2:inB (Vk p' q' r' s2 (-1+ -1*((m+1).fdiv 2 - 1))) (q'*s2) N' with
          | false=>
           refine jS ⟨_,rfl,?_⟩
           have hn2:¬ ((m+1).fdiv 2≤hB):=fun h=>by
            have:=(qCm hqs').mpr (d2 ((m+1).fdiv 2 - 1) (by omega) (by omega))
            rw [hin2] at this;cases this
           have e:=stop m m0 mM (fun h=>hn2 (ft.mp h).1.2)
           rw [e];exact kk
          | true=>
           refine qp ?_
           have hn2:(m+1).fdiv 2≤hB:=Decidable.byContradiction fun h=>by
            have e:(m+1).fdiv 2 - 1=hB:=by omega
            rw [e] at hin2
            exact d3 (by omega) ((qCm hqs').mp hin2)
           refine⟨_,rfl,⟨rfl,m+1,_,rfl,by omega,by omega,ft.mpr ⟨⟨ca',hn2⟩,cb',hn⟩⟩,?_⟩
           show (202 - (m+1)).toNat < (202 - m).toNat
           omega
        · have cc':m=0:=by have:¬ 1 < m+1:=by simpa using cc
                           omega
          refine qp ⟨_,rfl,⟨rfl,m+1,_,rfl,by omega,by omega,ft.mpr ⟨⟨ca',by omega⟩,cb',hn⟩⟩,?_⟩
          show (202 - (m+1)).toNat < (202 - m).toNat
          omega
     · have cb':¬ m+1 - (m+1).fdiv 2≤l':=by simpa using cb
       have e:=stop m m0 mM (fun h=>cb' ((fit (m+1) (by omega)).mp h).2.1)
       exact⟨_,rfl,by rw [e];exact kk⟩
   · have ca':¬ (m+1).fdiv 2≤bf:=by simpa using ca
     have e:=stop m m0 mM (fun h=>ca' ((fit (m+1) (by omega)).mp h).1.1)
     exact qp ⟨_,rfl,by rw [e];exact kk⟩
 · rintro σ H2 Q1 Q2 hq h
   refine qR fun _ Y=>?_
   obtain⟨v1,e1,i1,j1,a1,b1,i2,j2,a2,b2,g2,v3,e3,i3,j3,a3,b3,k,hk,zz⟩:=h
   apply Y
   refine⟨v1,e1,i1,j1,a1,b1,i2,j2,a2,b2,g2,v3,e3,i3,j3,a3,b3,k,hk,?_⟩
   cases k with
   | false=>exact qp (hq _ _ (by simpa using zz))
   | true=>
    refine jS ?_
    rw [if_pos rfl] at zz
    refine qR fun _ Y=>?_
    obtain⟨v1,e1,i1,j1,a1,b1,v2,e2,i2,j2,a2,b2,i3,j3,a3,b3,g3,i4,j4,a4,b4,v5,e5,i5,j5,a5,b5,k,hk,z2⟩:=zz
    apply Y
    exact⟨v1,e1,i1,j1,a1,b1,v2,e2,i2,j2,a2,b2,i3,j3,a3,b3,g3,i4,j4,a4,b4,v5,e5,i5,j5,a5,b5,k,hk,hq _ _ z2⟩
def IsK (A:Int)(m:Im):Prop:=∃ n p q r s l N,m= .clip n p q r s l∧KC A n p q r s l N
theorem IsK.ok {A:Int}{m:Im}(h:IsK A m):OkC (rlE A) m∧ItR (rlE A) m∧ImB m∧1≤m.mo:=by
 obtain⟨n,p,q,r,s,l,N,rfl,c⟩:=h
 refine⟨⟨N,c.rc.rn,c.gf,c.i0,c.i1⟩,fun n' p' q' r' s' l' e=>?_,c.gf.hb,c.rc.l1⟩
 cases e
 exact⟨N,c.rc⟩
theorem IsK.wd {A:Int}{m:Im}(h:IsK A m):m.wd="clip":=by
 obtain⟨n,p,q,r,s,l,N,rfl,c⟩:=h
 rfl
structure KT (A:Int)(ms:List Im):Prop where
 l2:2≤ms.length
 l5:ms.length≤5
 it:∀ (j:Nat) (m:Im),ms[j]? =some m→IsK A m∨(j=1∧∃ l,m= .mix l∧1≤l)
 st:(∀ m∈ms,m.mo≤100)∨(∀ n p q r s l,Im.clip n p q r s l∈ms→r=0)
 fit:∀ l,ms[1]? =some (.mix l)→3≤ms.length∧∃ M,mmF (rlE A) ms (jb ms 1)=some M∧l≤M
theorem KT.mx {A:Int}{ms:List Im}(h:KT A ms):qKs ms:=by
 intro j l hj
 rcases h.it j _ hj with ⟨n,p,q,r,s,l',N,e,_⟩ | ⟨rfl,_⟩
 · cases e
 have h3:=(h.fit l hj).1
 have g:∀ k:Nat,k≠1→k < ms.length→∃ n p q r s k',ms[k]? =some (.clip n p q r s k'):=fun k k1 hk=>by
  rcases h.it k _ (List.getElem?_eq_getElem hk) with ⟨n,p,q,r,s,l',N,e,_⟩ | ⟨e,_⟩
  · exact⟨n,p,q,r,s,l',by rw [List.getElem?_eq_getElem hk,e]⟩
  · exact absurd e k1
 exact⟨Nat.le_refl _,g 0 (by decide) (by omega),g 2 (by decide) (by omega)⟩
theorem KT.ok {A:Int}{ms:List Im}(h:KT A ms):∀ m∈ms,OkC (rlE A) m∧ItR (rlE A) m∧ImB m∧0≤m.mo:=fun m hm=>by
 obtain⟨j,hj,e⟩:=List.mem_iff_getElem.mp hm
 rcases h.it j m (by rw [List.getElem?_eq_getElem hj,e]) with k | ⟨_,l,rfl,hl⟩
 · obtain⟨q1,q2,q3,q4⟩:=k.ok
   exact⟨q1,q2,q3,by omega⟩
 · exact⟨hl,fun n p q r s l e=>(by cases e),trivial,Int.le_refl 0⟩
theorem KT.ctr {A:Int}{ms:List Im}(h:KT A ms):CTr (rlE A) ms:=⟨by have:=h.l5;omega,fun m hm=>(h.ok m hm).1,fun m hm=>(h.ok m hm).2.1,h.mx⟩
theorem KT.msb {A:Int}{ms:List Im}(h:KT A ms):MsB ms:=⟨fun m hm=>(h.ok m hm).2.2,by have:=h.l5;omega⟩
theorem qE7 {rl:Rls}{ms:List Im}{i:Nat}{m:Im}(hok:∀ m∈ms,OkC rl m)(hb:ms[i]? =some m)(h0:0 < m.mo):xf 0 0 ms (jb ms i)=some (i,0):=by
 have hi:=(glt hb)
 have es:ms=ms.take i++m::ms.drop (i+1):=by
  rw [← zW hb,List.take_append_drop]
 have key:=zr (ms.take i) 0 0 m (ms.drop (i+1)) (fun x hx=>(hok x (List.mem_of_mem_take hx)).mo) h0
 rw [← es,Nat.zero_add,List.length_take,Nat.min_eq_left (by omega),Int.zero_add] at key
 exact key
theorem qB2 {rl:Rls}{ms:List Im}{i:Nat}{n n':Str}{p q r s l p' q' r' s' l':Int}(hok:∀ m∈ms,OkC rl m)(ha:ms[i]? =some (.clip n p q r s l))(hb:ms[i+1]? =some (.clip n' p' q' r' s' l')):cbF ms (jb ms (i+1))=some ((i:Int),((i+1:Nat):Int)):=by
 have h0:0 < l':=by
  obtain⟨N,_,g,_⟩:=hok _ (List.mem_of_getElem? hb)
  have:=g.l1;omega
 have hit:=qE7 hok hb h0
 have k1:jp ms (((i+1:Nat):Int) - 1)="clip":=jP ha (by omega)
 have nb:nbF ms (jb ms (i+1))=some ((i:Int),((i+1:Nat):Int)):=by
  unfold nbF
  rw [hit]
  dsimp only
  simp only [k1]
  rw [if_neg (by simp;omega),if_neg (by decide+kernel)]
  simp
 unfold cbF
 rw [nb]
 dsimp only
 rw [if_pos ⟨jP ha rfl,jP hb rfl⟩]
theorem qE2 {A:Int}{ms:List Im}{t:Int}{i j:Nat}{n n':Str}{p q r s l N p' q' r' s' l' N':Int}(hc:cbF ms t=some ((i:Int),(j:Int)))(ha:ms[i]? =some (.clip n p q r s l))(hb:ms[j]? =some (.clip n' p' q' r' s' l'))(c1:KC A n p q r s l N)(c2:KC A n' p' q' r' s' l' N'):
 mmF (rlE A) ms t=some (mmV (vV (l - tbF ms i) (ku p' q' r' s' N')) (vV (l' - teF ms j) (kz p q r s l N))):=by
 have ei:xN ms (i:Int)= .clip n p q r s l:=by unfold xN;rw [Int.toNat_natCast,ha];rfl
 have ej:xN ms (j:Int)= .clip n' p' q' r' s' l':=by unfold xN;rw [Int.toNat_natCast,hb];rfl
 unfold mmF
 rw [hc]
 dsimp only
 rw [ei,ej]
 dsimp only
 rw [c1.rc.rn,c2.rc.rn,Int.toNat_natCast,Int.toNat_natCast]
def ins (ms:List Im)(i:Nat)(L:Int):List Im:=ms.take (i+1)++[.mix L]++ms.drop (i+1)
theorem zN {ms:List Im}{i j:Nat}(L:Int)(hi:i < ms.length)(hj:j≤i):(ins ms i L)[j]? =ms[j]?:=by
 unfold ins
 rw [List.append_assoc,List.getElem?_append_left (by rw [List.length_take];omega),List.getElem?_take_of_lt (by omega)]
theorem qBu {ms:List Im}{i:Nat}(L:Int)(hi:i < ms.length):(ins ms i L)[i+1]? =some (.mix L):=by
 unfold ins
 have e:(ms.take (i+1)).length=i+1:=by rw [List.length_take];omega
 rw [List.append_assoc,List.getElem?_append_right (by omega),e,Nat.sub_self]
 rfl
theorem wK {ms:List Im}{i j:Nat}(L:Int)(hi:i < ms.length)(hj:i+1≤j):(ins ms i L)[j+1]? =ms[j]?:=by
 unfold ins
 have e:(ms.take (i+1)++[Im.mix L]).length=i+2:=by rw [List.length_append,List.length_take];show min (i+1) _+1=_;omega
 rw [List.getElem?_append_right (by omega),e,List.getElem?_drop]
 congr 1
 omega
theorem qCh {ms:List Im}{i j:Nat}(L:Int)(hi:i < ms.length)(hj:j≤i+1):jb (ins ms i L) j=jb ms j:=by
 unfold jb ins
 rw [List.append_assoc,List.take_append_of_le_length (by rw [List.length_take];omega),List.take_take,Nat.min_eq_left (by omega)]
theorem qAx {ms:List Im}{i:Nat}{L:Int}{m:Im}(h:m∈ins ms i L):m∈ms∨m= .mix L:=by
 unfold ins at h
 rcases List.mem_append.mp h with h | h
 · rcases List.mem_append.mp h with h | h
   · exact .inl (List.mem_of_mem_take h)
   · exact .inr (by simpa using h)
 · exact .inl (List.mem_of_mem_drop h)
theorem qCf {ms:List Im}{i:Nat}{L:Int}(hi:i < ms.length):(ins ms i L).length=ms.length+1:=by
 unfold ins
 rw [List.length_append,List.length_append,List.length_take,List.length_drop]
 show min (i+1) _+1+_=_
 omega
theorem qF2 {rl:Rls}{ms:List Im}{i:Nat}{L:Int}{n n':Str}{p q r s l p' q' r' s' l':Int}(h:CTr rl ms)(h9:ms.length≤90)(ha:ms[i]? =some (.clip n p q r s l))(hb:ms[i+1]? =some (.clip n' p' q' r' s' l'))(hL:1≤L):CTr rl (ins ms i L):=by
 have hi:=(glt ha)
 refine⟨by rw [qCf hi];omega,fun m hm=>?_,fun m hm=>?_,fun k l0 hk=>?_⟩
 · rcases qAx hm with hm | rfl
   · exact h.ok m hm
   · exact hL
 · rcases qAx hm with hm | rfl
   · exact h.it m hm
   · exact fun n p q r s l e=>(by cases e)
 · by_cases k1:k≤i
   · rw [zN L hi k1] at hk
     obtain⟨q1,q2,q3⟩:=h.mx k l0 hk
     have kne:k≠i:=by rintro rfl;rw [ha] at hk;cases hk
     rw [zN L hi (show k - 1≤i by omega),zN L hi (show k+1≤i by omega)]
     exact⟨q1,q2,q3⟩
   · by_cases k2:k=i+1
     · subst k2
       refine⟨by omega,⟨n,p,q,r,s,l,?_⟩,n',p',q',r',s',l',?_⟩
       · rw [Nat.add_sub_cancel,zN L hi (Nat.le_refl _)];exact ha
       · rw [wK L hi (Nat.le_refl _)];exact hb
     · obtain⟨j,rfl⟩:∃ j,k=j+1:=⟨k - 1,by omega⟩
       rw [wK L hi (by omega)] at hk
       have jne:j≠i+1:=by rintro rfl;rw [hb] at hk;cases hk
       obtain⟨q1,q2,q3⟩:=h.mx j l0 hk
       refine⟨by omega,?_,?_⟩
       · rw [Nat.add_sub_cancel]
         obtain⟨j',rfl⟩:∃ j',j=j'+1:=⟨j - 1,by omega⟩
         rw [wK L hi (by omega)]
         rw [Nat.add_sub_cancel] at q2
         exact q2
       · rw [wK L hi (by omega)]
         exact q3
theorem qB8:∀ (b:Int) (ms:List Im) (i:Nat) (l:Int),ms[i]? =some (.mix l)→(b+jb ms i - l.fdiv 2,b+jb ms i,b+jb ms i+(l - l.fdiv 2))∈j6 b ms
 | _,[],_,_,h=>by simp at h
 | b,m::ms,0,l,h=>by
  obtain rfl:m= .mix l:=Option.some.inj h
  rw [j6]
  have e:jb (.mix l::ms) 0=0:=rfl
  rw [e,Int.add_zero]
  exact List.mem_cons_self
 | b,m::ms,i+1,l,h=>by
  have h':ms[i]? =some (.mix l):=by rw [List.getElem?_cons_succ] at h;exact h
  have e:jb (m::ms) (i+1)=m.mo+jb ms i:=by
   unfold jb
   rw [List.take_succ_cons,List.map_cons,List.sum_cons]
  rw [e]
  by_cases hm:m.wd="mix"
  · obtain⟨l',rfl⟩:=qA3 hm
    rw [j6]
    have:=qB8 b ms i l h'
    have e0:Im.mo (.mix l')=0:=rfl
    rw [e0,Int.zero_add]
    exact List.mem_cons_of_mem _ this
  · rw [zF hm]
    have:=qB8 (b+m.mo) ms i l h'
    rw [Int.add_assoc] at this
    exact this
theorem qJz {rl:Rls}{ms:List Im}:qDe rl ms=true↔∀ (i:Nat) (l:Int),ms[i]? =some (.mix l)→∃ M,mmF rl ms (jb ms i)=some M∧l≤M:=by
 unfold qDe
 rw [List.all_eq_true]
 constructor
 · intro h i l hi
   have:=h _ (qB8 0 ms i l hi)
   unfold qMr at this
   dsimp only at this
   rw [Int.zero_add] at this
   cases hM:mmF rl ms (jb ms i) with
   | none=>rw [hM] at this;cases this
   | some M=>
    rw [hM] at this
    have h2:jb ms i+(l - l.fdiv 2) - (jb ms i - l.fdiv 2)≤M:=of_decide_eq_true this
    exact⟨M,rfl,by omega⟩
 · rintro h ⟨x,y,z⟩ hm
   obtain⟨i,l,hi,e1,e2,e3⟩:=vM hm
   obtain⟨M,hM,hl⟩:=h i l hi
   rw [Int.zero_add] at e1
   unfold qMr
   dsimp only
   rw [e1,hM]
   exact decide_eq_true (by omega)
theorem qJh {ms:List Im}{i j:Nat}(L:Int)(hi:i < ms.length)(hj:j≤i):tbF (ins ms i L) j=tbF ms j:=by
 unfold tbF
 by_cases h0:j=0
 · rw [if_pos h0,if_pos h0]
 · rw [if_neg h0,if_neg h0,zN L hi (by omega)]
theorem qK2 {A:Int}{ms:List Im}{i:Nat}{L:Int}{n n':Str}{p q r s l N p' q' r' s' l' N':Int}(h:CTr (rlE A) ms)(h9:ms.length≤90)(ha:ms[i]? =some (.clip n p q r s l))(hb:ms[i+1]? =some (.clip n' p' q' r' s' l'))(c1:KC A n p q r s l N)(c2:KC A n' p' q' r' s' l' N')(hL:1≤L):
 mmF (rlE A) (ins ms i L) (jb ms (i+1))=mmF (rlE A) ms (jb ms (i+1)):=by
 have hi:=(glt ha)
 have hC:=qF2 h h9 ha hb hL
 have hcb:=qD1 hC.ok hC.mx (qBu L hi)
 have e1:((i+1:Nat):Int) - 1=(i:Int):=by omega
 have e2:((i+1:Nat):Int)+1=((i+2:Nat):Int):=by omega
 rw [e1,e2,qCh L hi (Nat.le_refl _)] at hcb
 have g1:(ins ms i L)[i]? =some (.clip n p q r s l):=by rw [zN L hi (Nat.le_refl _)];exact ha
 have g2:(ins ms i L)[i+2]? =some (.clip n' p' q' r' s' l'):=by rw [wK L hi (Nat.le_refl _)];exact hb
 rw [qE2 hcb g1 g2 c1 c2,qE2 (qB2 h.ok ha hb) ha hb c1 c2,qJh L hi (Nat.le_refl _)]
 have et:teF (ins ms i L) (i+2)=teF ms (i+1):=by
  unfold teF
  rw [wK L hi (by omega)]
 rw [et]
theorem qMf {A:Int}{ms:List Im}{i:Nat}{L M:Int}{n n':Str}{p q r s l p' q' r' s' l':Int}(h:KT A ms)(ha:ms[i]? =some (.clip n p q r s l))(hb:ms[i+1]? =some (.clip n' p' q' r' s' l'))(hM:mmF (rlE A) ms (jb ms (i+1))=some M)(hL:1≤L):qDe (rlE A) (ins ms i L)=decide (L≤M):=by
 have hi:=(glt ha)
 have kc:∀ {j:Nat} {n:Str} {p q r s l:Int},ms[j]? =some (.clip n p q r s l)→∃ N,KC A n p q r s l N:=fun {j n p q r s l} hj=>by
  rcases h.it j _ hj with ⟨n1,p1,q1,r1,s1,l1,N,e,c⟩ | ⟨_,l1,e,_⟩
  · cases e;exact⟨N,c⟩
  · cases e
 obtain⟨N,c1⟩:=kc ha
 obtain⟨N',c2⟩:=kc hb
 have h9:ms.length≤90:=by have:=h.l5;omega
 have hmi:=qK2 (L:=L) h.ctr h9 ha hb c1 c2 hL
 rw [hM] at hmi
 have hb1:jb (ins ms i L) (i+1)=jb ms (i+1):=qCh L hi (Nat.le_refl _)
 have key:qDe (rlE A) (ins ms i L)=true↔L≤M:=by
  rw [qJz]
  constructor
  · intro hf
    obtain⟨M',q1,q2⟩:=hf (i+1) L (qBu L hi)
    rw [hb1,hmi] at q1
    cases q1
    exact q2
  · intro hle k l0 hk
    by_cases k1:k≤i
    · rw [zN L hi k1] at hk
      have kne:k≠i:=by rintro rfl;rw [ha] at hk;cases hk
      rcases h.it k _ hk with ⟨n1,p1,q1,r1,s1,l1,N1,e,_⟩ | ⟨rfl,_,e,hl0⟩
      · cases e
      cases e
      obtain⟨h3,M0,hM0,hle0⟩:=h.fit l0 hk
      obtain⟨_,⟨na,pa,qa,ra,sa,la,g0⟩,nb,pb,qb,rb,sb,lb,g2⟩:=h.mx 1 l0 hk
      obtain⟨Na,ca⟩:=kc g0
      obtain⟨Nb,cb⟩:=kc g2
      have hi2:2≤i:=by omega
      have hC:=qF2 h.ctr h9 ha hb hL
      have g1':(ins ms i L)[1]? =some (.mix l0):=by rw [zN L hi (by omega)];exact hk
      have hcb':=qD1 hC.ok hC.mx g1'
      have hcb:=qD1 h.ctr.ok h.ctr.mx hk
      have e0:((1:Nat):Int) - 1=((0:Nat):Int):=rfl
      have e2:((1:Nat):Int)+1=((2:Nat):Int):=rfl
      rw [e0,e2] at hcb hcb'
      rw [qE2 hcb g0 g2 ca cb] at hM0
      have g0':(ins ms i L)[0]? =some (.clip na pa qa ra sa la):=by rw [zN L hi (by omega)];exact g0
      have g2':(ins ms i L)[2]? =some (.clip nb pb qb rb sb lb):=by rw [zN L hi hi2];exact g2
      rw [qE2 hcb' g0' g2' ca cb]
      refine⟨_,rfl,?_⟩
      cases hM0
      rw [qJh L hi (by omega)]
      have t0:tbF ms 0=0:=rfl
      rw [t0] at hle0 ⊢
      have a0:0≤ku pb qb rb sb Nb:=by
       have:=qC0 (k0:=-1) (e:=-1) cb.rc.g1.1 cb.rc.g2.1 (.inr rfl) (fun _=>cb.i0)
       exact this.1
      have b0:0≤kz pa qa ra sa la Na:=by
       have:=qC0 (k0:=la) (e:=1) ca.rc.g1.1 ca.rc.g2.1 (.inl rfl) (fun _=>ca.i0)
       exact this.1
      have la1:=ca.rc.l1
      have lb1:=cb.rc.l1
      have te2:teF ms 2=0:=by
       unfold teF
       by_cases h4:3 < ms.length
       · rcases h.it 3 _ (List.getElem?_eq_getElem h4) with ⟨n1,p1,q1,r1,s1,l1,N1,e,_⟩ | ⟨e,_⟩
         · rw [List.getElem?_eq_getElem h4,e]
         · cases e
       · rw [List.getElem?_eq_none (by omega)]
      rw [te2] at hle0
      have hA0:0≤vV (la - 0) (ku pb qb rb sb Nb):=minV_iff.mpr ⟨by omega,a0⟩
      have hB0:0≤vV (lb - 0) (kz pa qa ra sa la Na):=minV_iff.mpr ⟨by omega,b0⟩
      rw [qFq hA0 hB0 (by omega),minV_iff,minV_iff] at hle0
      obtain⟨⟨z1,z2⟩,z3,z4⟩:=hle0
      have hte:0≤lb - teF (ins ms i L) 2∧l0 - l0.fdiv 2≤lb - teF (ins ms i L) 2:=by
       by_cases hi3:i=2
       · subst hi3
         rw [g2] at ha
         cases ha
         have e:teF (ins ms 2 L) 2=L.fdiv 2:=by
          unfold teF
          rw [qBu L hi]
         have e':tbF ms 2=l0 - l0.fdiv 2:=by
          unfold tbF
          rw [if_neg (by decide),hk]
         rw [qE2 (qB2 h.ctr.ok g2 hb) g2 hb c1 c2,e'] at hM
         cases hM
         rw [e]
         have f1:=qX (p:=L) (q:=2) (by decide)
         have f2:=qX (p:=l0) (q:=2) (by decide)
         have:=(qK8 hle hL).1
         have:=(minV_iff.mp this).1
         omega
       · have e:teF (ins ms i L) 2=0:=by
          have:=te2
          unfold teF at this ⊢
          rw [zN L hi (show 2+1≤i by omega)]
          exact this
         rw [e]
         omega
      rw [qFq hA0 (minV_iff.mpr ⟨hte.1,b0⟩) (by omega),minV_iff,minV_iff]
      exact⟨⟨z1,z2⟩,hte.2,z4⟩
    · by_cases k2:k=i+1
      · subst k2
        rw [qBu L hi] at hk
        cases hk
        rw [hb1,hmi]
        exact⟨M,rfl,hle⟩
      · obtain⟨j,rfl⟩:∃ j,k=j+1:=⟨k - 1,by omega⟩
        rw [wK L hi (by omega)] at hk
        rcases h.it j _ hk with ⟨n1,p1,q1,r1,s1,l1,N1,e,_⟩ | ⟨e,_⟩
        · cases e
        · have e':j=i+1:=by omega
          rw [e',hb] at hk
          cases hk
 by_cases hle:L≤M
 · rw [decide_eq_true hle];exact key.mpr hle
 · rw [decide_eq_false hle]
   cases hf:qDe (rlE A) (ins ms i L) with
   | false=>rfl
   | true=>exact absurd (key.mp hf) hle
theorem qGm:∀ (xs:List Im) (b:Int) (i0:Nat) (m:Im) (ys:List Im) (d:Int),(∀ x∈xs,0≤x.mo)→0≤d→d < m.mo→xf b i0 (xs++m::ys) (b+(xs.map Im.mo).sum+d)=some (i0+xs.length,d)
 | [],b,i0,m,ys,d,_,h0,hd=>by
  rw [List.nil_append,xf,if_pos (by simp;omega)]
  simp
  omega
 | x::xs,b,i0,m,ys,d,hx,h0,hd=>by
  have hx0:=hx x (by simp)
  have hs:0≤(xs.map Im.mo).sum:=by
   have:∀ (zs:List Im),(∀ z∈zs,0≤z.mo)→0≤(zs.map Im.mo).sum:=fun zs=>by
    induction zs with
    | nil=>intro _;simp
    | cons z zs ih=>intro h;have:=ih fun y hy=>h y (by simp [hy]);have:=h z (by simp);rw [List.map_cons,List.sum_cons];omega
   exact this xs fun y hy=>hx y (by simp [hy])
  have ih:=qGm xs (b+x.mo) (i0+1) m ys d (fun y hy=>hx y (by simp [hy])) h0 hd
  rw [List.cons_append,xf,List.map_cons,List.sum_cons,if_neg (by omega)]
  have e:b+(x.mo+(xs.map Im.mo).sum)+d=b+x.mo+(xs.map Im.mo).sum+d:=by omega
  rw [e,ih,List.length_cons]
  congr 2
  omega
theorem qPg {rl rl':Rls}{ms:List Im}{i:Nat}{m:Im}(hok:∀ m∈ms,OkC rl m)(hb:ms[i]? =some m)(h1:1 < m.mo):mmF rl' ms (jb ms i+1)=none:=by
 have hit:xf 0 0 ms (jb ms i+1)=some (i,1):=by
  have hi:=(glt hb)
  have es:ms=ms.take i++m::ms.drop (i+1):=by
   rw [← zW hb,List.take_append_drop]
  have key:=qGm (ms.take i) 0 0 m (ms.drop (i+1)) 1 (fun x hx=>(hok x (List.mem_of_mem_take hx)).mo) (by decide) h1
  rw [← es,Nat.zero_add,List.length_take,Nat.min_eq_left (by omega),Int.zero_add] at key
  exact key
 have nb:nbF ms (jb ms i+1)=none:=by
  unfold nbF
  rw [hit]
  simp
 unfold mmF cbF
 rw [nb]
theorem qLq {rl rl':Rls}{ms:List Im}{m:Im}(hok:∀ m∈ms,OkC rl m)(hb:ms[0]? =some m)(h1:0 < m.mo):mmF rl' ms 0=none:=by
 have hit:=qE7 hok hb h1
 have e:jb ms 0=0:=rfl
 rw [e] at hit
 have nb:nbF ms 0=none:=by
  unfold nbF
  rw [hit]
  simp
 unfold mmF cbF
 rw [nb]
theorem qJm:∀ (zs:List Im),(∀ z∈zs,0≤z.mo)→0≤(zs.map Im.mo).sum
 | [],_=>by simp
 | z::zs,h=>by
  have:=qJm zs fun y hy=>h y (by simp [hy])
  have:=h z (by simp)
  rw [List.map_cons,List.sum_cons];omega
theorem qGt:∀ (xs:List Im) (b:Int) (i0:Nat),(∀ x∈xs,0≤x.mo)→xf b i0 xs (b+(xs.map Im.mo).sum)=none
 | [],b,i0,_=>rfl
 | x::xs,b,i0,hx=>by
  have h0:=hx x (by simp)
  have hs:=qJm xs fun y hy=>hx y (by simp [hy])
  have ih:=qGt xs (b+x.mo) (i0+1) fun y hy=>hx y (by simp [hy])
  rw [xf,List.map_cons,List.sum_cons,if_neg (by omega)]
  rw [show b+(x.mo+(xs.map Im.mo).sum)=b+x.mo+(xs.map Im.mo).sum by omega]
  exact ih
theorem qM9 {rl rl':Rls}{ms:List Im}(hok:∀ m∈ms,OkC rl m):mmF rl' ms (jb ms ms.length)=none:=by
 have hit:xf 0 0 ms (jb ms ms.length)=none:=by
  have:=qGt ms 0 0 fun m hm=>(hok m hm).mo
  unfold jb
  rw [List.take_length]
  rw [Int.zero_add] at this
  exact this
 have nb:nbF ms (jb ms ms.length)=none:=by
  unfold nbF
  rw [hit]
 unfold mmF cbF
 rw [nb]
theorem RE.nd {H:Hp}{re b:Addr}{A:Int}{u:HO}(h:RE H re A)(hb:H b=some u)(hu:(∃ xs,u= .lst xs)∨∃ xs,u= .tup xs):b≠re:=by
 rintro rfl
 rcases h.1 with q | ⟨o,q⟩ <;> · rw [hb] at q;cases q;rcases hu with ⟨xs,q⟩ | ⟨xs,q⟩ <;> cases q
theorem RE.ts {H H':Hp}{re:Addr}{A:Int}(h:RE H re A)(e:SB re H H'):TS H H':=fun b ys hb=>e b _ (h.nd hb (.inr ⟨ys,rfl⟩)) hb
theorem RE.tr {H H':Hp}{re z:Addr}{A:Int}{ms:List Im}(h:RE H re A)(e:SB re H H')(t:Tr H z ms):Tr H' z ms:=
 let ⟨vs,h1,h2⟩:=t;⟨vs,e _ _ (h.nd h1 (.inl ⟨vs,rfl⟩)) h1,h2.ts (h.ts e)⟩
theorem qLk {H:Hp}{x y:Addr}{M:Int}{Q:VK}(h1:H x=some (.tup [.str "short",.int M]))(h2:H y=some (.tup [.str "short",.int M]))(q:Q (.bl false) H):qNh K true (.ref x) (.ref y) H Q:=by
 have rp:∀ {z:Addr},H z=some (.tup [.str "short",.int M])→Rep K H (.tup [.leaf (.str "short"),.leaf (.int M)]) (.ref z):=fun {z} h=>by
  unfold Rep
  refine⟨z,_,rfl,SqT.of h,?_⟩
  simp [Reps,Rep,zA]
 refine⟨_,_,rp h1,rp h2,rfl,by simp [dep,qD3],?_⟩
 have e:eqD (.tup [.leaf (.str "short"),.leaf (.int M)]) (.tup [.leaf (.str "short"),.leaf (.int M)])=true:=by simp [eqD,wc,eqV]
 rw [e]
 exact q
inductive qBp (vs:List V)(H:Hp)(Q:VK)(_:XK):Prop
| mk (z re:Addr) (ms:List Im) (i:Nat) (A c:Int) (n n':Str) (p q r s l p' q' r' s' l':Int) (_:vs=[.ref z,.int ((i+1:Nat):Int),.int (jb ms (i+1)),.ref re,.int c]) (_:Tr H z ms) (_:RE H re A) (_:KT A ms) (_:ms[i]? =some (.clip n p q r s l)) (_:ms[i+1]? =some (.clip n' p' q' r' s' l')) (_:∀ H',SB re H H'→RE H' re A→Q (.bl true) H')
theorem qBq (T:Tx K mg a):FnOk P w K mg base CX0 13 a.A94 a.B94 ["_law_track_here","_law_place","_law_moment","_law_reels_here","_law_cell"] qBp:=by
 refine T.D94.F.ok jJ (fun vs H Q E h=>?_) (fun cdv A outer s H vs Q E hr h=>?_)
 · obtain⟨z,re,ms,i,A',c,n,n',p,q,r,s,l,p',q',r',s',l',rfl,_⟩:=h
   rfl
 refine qR fun _ Y=>?_
 obtain⟨z,re,ms,i,A',c,n,n',p,q,r,s1,l,p',q',r',s2,l',rfl,tT,hre,hK,ha,hb,kk⟩:=h
 apply Y
 have hu:=hr.units
 refine⟨_,(qC (qd 5 jJ.nd (qI T.D90 (jZ T) hr rfl (qA (pv 0) (qA (pv 2) (qA (pv 3) qB)))))
  (qC (qW (qJ xn (pv 5) (qI T.D93 (qA1 T) hr rfl (qA (pv 0) (qA (pv 1) (qA (pv 3) qB)))) (qO _)) (qD (qN jn)) qL)
  (qC (qW (PW.pt (jW (qi (qc (qQ qZ rfl T.b_isinstance rfl (qA (pv 5) (qA (zG rfl T.b_int rfl) qB))))) (jW (qc (qQ qZ rfl T.b_isinstance rfl (qA (pv 5) (qA (zG rfl T.b_bool rfl) qB)))) (jH (qJ kD (pv 5) qE (qO _)))))) (qD (qN jn)) qL)
  (qC (xD PassesOwn.never rfl (je (zM (qA qE (qA (qK qh qE (qK jG (pv 4) (qQ (qAk rfl) rfl T.b_max rfl (qA qE (qA (pv 5) qB))))) (qA (pv 5) (qA (qK qh (pv 5) qE) qB)))))) (qq (i:=6) jJ.nd rfl (Or.inl rfl)) (qC (qd 7 jJ.nd (qK qG6 (qK qG6 (wX qC9 (pv 0) qCv (qAm (pv 1))) (zM (qA (jO (qA qV (qA (pv 6) qB))) qB))) (wX qC9 (pv 0) (qAm (pv 1)) qCv)))
  (qC (xE (qW (PW.pt (xJ (qJ kU (pv 6) qE (qO _)) (ji (qJ xn (qI T.D89 (qDf T) hr rfl (qA (pv 7) (qA (pv 3) qB))) (jK qEs (pv 6) (pv 5) (qO _)) (qO _))))) (qD (qN jn)) qL))
  (qC (qd 8 jJ.nd (pv 7))
  (qC (xE (qW (qJ kU (pv 6) (pv 5) (qO _)) (qD (qd 8 jJ.nd (jO (qA qV (qA (pv 5) qB))))) qL))
  (qD (qW (PW.pt (xJ (qJ kU (pv 6) qE (qO _)) (ji (qJ (qLa hu) (qI T.D91 (qDz T) hr rfl (qA (pv 0) (qA (pv 2) (qA (pv 6) (qA (pv 3) qB))))) (pv 8) (qO _))))) (qD (qN jn)) qL)))))))
  (qD (qN jn)))))),?_⟩
 try dsimp only [jV,qg]
 have kc:∀ {j:Nat} {n:Str} {p q r s l:Int},ms[j]? =some (.clip n p q r s l)→∃ N,KC A' n p q r s l N:=fun {j n p q r s l} hj=>by
  rcases hK.it j _ hj with ⟨n1,p1,q1,r1,s1,l1,N,e,c⟩ | ⟨_,l1,e,_⟩
  · cases e;exact⟨N,c⟩
  · cases e
 refine qR fun _ Y=>?_
 obtain⟨N,c1⟩:=kc ha
 obtain⟨N',c2⟩:=kc hb
 apply Y
 have hi:=(glt ha)
 have hct:=hK.ctr
 have l5:=hK.l5
 have hcb:=qB2 hct.ok ha hb
 have hnm:∀ k,ms[i+2]?≠some (.mix k):=fun k e=>by
  rcases hK.it (i+2) _ e with ⟨n1,p1,q1,r1,s1,l1,N,e,c⟩ | ⟨e,_⟩
  · cases e
  · omega
 have hte:teF ms (i+1)=0:=by
  unfold teF
  cases hm:ms[i+1+1]? with
  | none=>rfl
  | some m=>
   cases m with
   | mix k=>exact absurd hm (hnm k)
   | _=>rfl
 have hM:=qE2 hcb ha hb c1 c2
 rw [hte,Int.sub_zero] at hM
 have tb0:0≤tbF ms i∧tbF ms i≤l:=by
  unfold tbF
  have:=c1.rc.l1
  by_cases h0:i=0
  · rw [if_pos h0];omega
  · rw [if_neg h0]
    cases hm:ms[i - 1]? with
    | none=>dsimp only;omega
    | some m=>
     cases m with
     | mix k=>
      dsimp only
      rcases hK.it (i - 1) _ hm with ⟨n1,p1,q1,r1,s1,l1,N,e,c⟩ | ⟨e1,k',e,hk⟩
      · cases e
      cases e
      have ei:i=2:=by omega
      subst ei
      obtain⟨_,M0,hM0,hle0⟩:=hK.fit k hm
      obtain⟨_,⟨na,pa,qa,ra,sa,la,g0⟩,nb,pb,qb,rb,sb,lb,g2⟩:=hK.mx 1 k hm
      obtain⟨Na,ca⟩:=kc g0
      obtain⟨Nb,cb⟩:=kc g2
      have hcm:=qD1 hct.ok hct.mx hm
      have e0:((1:Nat):Int) - 1=((0:Nat):Int):=rfl
      have e2:((1:Nat):Int)+1=((2:Nat):Int):=rfl
      rw [e0,e2] at hcm
      rw [qE2 hcm g0 g2 ca cb] at hM0
      cases hM0
      have z1:=(minV_iff.mp (qK8 hle0 hk).2).1
      have g2':ms[2]? =some (.clip n p q r s1 l):=ha
      rw [g2] at g2'
      cases g2'
      have te0:0≤teF ms (1+1):=by
       unfold teF
       have e3:ms[1+1+1]? =some (.clip n' p' q' r' s2 l'):=hb
       rw [e3]
       exact Int.le_refl 0
      have f:=qX (p:=k) (q:=2) (by decide)
      have z1':k - k.fdiv 2≤l - teF ms (1+1):=z1
      omega
     | _=>dsimp only;omega
 have hst:100 < l - tbF ms i→r=0∧r'=0:=fun h=>by
  rcases hK.st with q1 | q1
  · have:l≤100:=q1 _ (List.mem_of_getElem? ha)
    omega
  · exact⟨q1 _ _ _ _ _ _ (List.mem_of_getElem? ha),q1 _ _ _ _ _ _ (List.mem_of_getElem? hb)⟩
 have M0:=qI8 (vV (l - tbF ms i) (ku p' q' r' s2 N')) (vV l' (kz p q r s1 l N))
 have hbs:0≤jb ms (i+1):=qJm _ fun m hm=>(hct.ok m (List.mem_of_mem_take hm)).mo
 refine⟨_,rfl,_,rfl,_,rfl,z,re,ms,_,rlE A',rfl,tT,hct.it,hre.at,fun H1 e1=>?_⟩
 have em:∀ M:Int,mmO (some M)= .int M:=fun _=>rfl
 rw [hM,em]
 refine⟨_,rfl,_,rfl,_,rfl,_,rfl,z,re,ms,i,A',n,n',p,q,r,s1,l,N,p',q',r',s2,l',N',rfl,tT.same e1,hre.same e1,(by omega),ha,hb,c1,c2,hnm,(by omega),hst,rfl,_,rfl,vK (by simp) ?_⟩
 generalize hMq:mmV (vV (l - tbF ms i) (ku p' q' r' s2 N')) (vV l' (kz p q r s1 l N))=M at hM M0 ⊢
 refine⟨_,rfl,_,_,_,true,rfl,.int M,⟨_,.inl ⟨rfl,by kernel_rfl⟩⟩,true,rfl,qp ?_⟩
 refine⟨_,rfl,_,_,_,false,rfl,.int M,⟨_,.inl ⟨rfl,by kernel_rfl⟩⟩,false,rfl,qp ?_⟩
 refine⟨_,rfl,_,_,rfl,rfl,_,rfl,vK (decide_eq_false (by omega)) ?_⟩
 have hm1:(if M > 1 then M else 1)≠0:=by split <;> omega
 refine⟨_,rfl,_,rfl,_,_,rfl,_,_,rfl,rfl,hm1,_,_,rfl,rfl,_,rfl,_,rfl,_,_,rfl,rfl,sL4,fun ld hld=>?_⟩
 dsimp only
 generalize 1+c.fmod (if M > 1 then M else 1)=x2
 have w1:=qH hld (.lst [.int 1,.int x2,.int M,.int (M+1)])
 have kl:upd H1 ld (.lst [.int 1,.int x2,.int M,.int (M+1)]) ld=some (.lst [.int 1,.int x2,.int M,.int (M+1)]):=qF
 generalize upd H1 ld (.lst [.int 1,.int x2,.int M,.int (M+1)])=H2 at w1 kl ⊢
 have e2:=e1.trans w1
 have hre2:=hre.same e2
 have tT2:=tT.same e2
 have nld:ld≠re:=hre2.nd kl (.inl ⟨_,rfl⟩)
 refine⟨ld,rfl,⟨_,SqL.of kl⟩,xK (D:={nx:=qPl (tC (V.bl true)) {nx:=fun _ H'=>Q V.non H',rt:=Q},rt:=Q}) (K:=K) (a:=ld) (xs:=[.int 1,.int x2,.int M,.int (M+1)]) (fun k σ H'=>∃ (o1 o2 o3:Option V),σ=[some (.ref z),some (.int ((i+1:Nat):Int)),some (.int (jb ms (i+1))),some (.ref re),some (.int c),some (.int M),o1,o2,o3]∧SB re H2 H'∧RE H' re A') ⟨none,none,none,rfl,SB.refl _ _,hre2⟩ ?_ ?_ ?_⟩
 · rintro k σ H' hk ⟨o1,o2,o3,rfl,sb,_⟩
   exact SqL.of (sb _ _ nld kl)
 · rintro k v σ H3 hv ⟨o1,o2,o3,rfl,sb3,re3⟩
   refine qR fun _ Y=>?_
   obtain⟨x,rfl⟩:∃ x:Int,v= .int x:=by
    match k,hv with
    | 0,hv=>exact⟨_,(Option.some.inj hv).symm⟩
    | 1,hv=>exact⟨_,(Option.some.inj hv).symm⟩
    | 2,hv=>exact⟨_,(Option.some.inj hv).symm⟩
    | 3,hv=>exact⟨_,(Option.some.inj hv).symm⟩
    | k+4,hv=>simp at hv
   have tr3:=hre2.tr sb3 tT2
   obtain⟨us,hz,his⟩:=id tr3
   apply Y
   have hul:=his.len
   have sm:∀ j:Nat,j≤1000→j≤sizeLine:=fun j h=>by have:=qo (n:=j) (by omega);omega
   refine⟨_,rfl,_,rfl,_,rfl,z,_,rfl,SqL.of hz,fun a1 ha1=>?_⟩
   rw [qG7]
   have v1:=qH ha1 (.lst (us.take (i+1)))
   refine⟨_,rfl,sL2,fun g hg=>⟨sL1,fun a2 ha2=>?_⟩⟩
   have vg:=qH hg (.tup [.str "mix",.int x])
   have v2:=qH ha2 (.lst [.ref g])
   refine⟨a1,a2,_,_,rfl,rfl,v2 _ _ (vg _ _ qF),qF,sm _ (by rw [List.length_take];show min (i+1) _+1≤1000;omega),fun a3 ha3=>?_⟩
   have v3:=qH ha3 (.lst (us.take (i+1)++[.ref g]))
   have v13:=((v1.trans vg).trans v2).trans v3
   have kg:(upd (upd (upd (upd H3 a1 (.lst (us.take (i+1)))) g (.tup [.str "mix",.int x])) a2 (.lst [.ref g])) a3 (.lst (us.take (i+1)++[.ref g]))) g=some (.tup [.str "mix",.int x]):=(v2.trans v3) _ _ qF
   have k3:(upd (upd (upd (upd H3 a1 (.lst (us.take (i+1)))) g (.tup [.str "mix",.int x])) a2 (.lst [.ref g])) a3 (.lst (us.take (i+1)++[.ref g]))) a3=some (.lst (us.take (i+1)++[.ref g])):=qF
   change _
   generalize upd (upd (upd (upd H3 a1 (.lst (us.take (i+1)))) g (.tup [.str "mix",.int x])) a2 (.lst [.ref g])) a3 (.lst (us.take (i+1)++[.ref g]))=H4 at v13 kg k3
   refine⟨_,rfl,_,rfl,_,rfl,z,_,rfl,SqL.of (v13 _ _ hz),fun a4 ha4=>?_⟩
   rw [qGw]
   have v4:=qH ha4 (.lst (us.drop (i+1)))
   refine⟨a3,a4,_,_,rfl,rfl,v4 _ _ k3,qF,sm _ (by rw [List.length_append,List.length_take,List.length_drop];show min (i+1) _+1+_≤1000;omega),fun a5 ha5=>?_⟩
   have v5:=qH ha5 (.lst (us.take (i+1)++[.ref g]++us.drop (i+1)))
   have v45:=v4.trans v5
   have hisE:=(his.ts (qr v13)).ts (qr v45)
   have tr5:Tr (upd (upd H4 a4 (.lst (us.drop (i+1)))) a5 (.lst (us.take (i+1)++[.ref g]++us.drop (i+1)))) a5 (ins ms i x):=⟨_,qF,(hisE.take.app (.one (isM (v45 _ _ kg)))).app hisE.drop⟩
   have e35:=v13.trans v45
   change _
   generalize upd (upd H4 a4 (.lst (us.drop (i+1)))) a5 (.lst (us.take (i+1)++[.ref g]++us.drop (i+1)))=H5 at e35 tr5
   have re5:=re3.same e35
   have sb5:=sb3.trans (xQ (z:=re) e35)
   have tr5z:=tr3.same e35
   refine⟨fun σ' H'=>σ'=[some (.ref z),some (.int ((i+1:Nat):Int)),some (.int (jb ms (i+1))),some (.ref re),some (.int c),some (.int M),some (.int x),some (.ref a5),o3]∧SB re H5 H'∧RE H' re A',?_,?_⟩
   · refine⟨_,rfl,_,_,rfl,rfl,_,rfl,jx (fun cx=>?_) (fun cx=>qp ⟨rfl,SB.refl _ _,re5⟩)⟩
     have hx:1≤x:=by have:0 < x:=by simpa using cx
                     omega
     refine⟨_,rfl,_,rfl,a5,re,ins ms i x,A',rfl,tr5,re5,qF2 hct (by omega) ha hb hx,fun H6 sb6 re6=>?_⟩
     rw [qMf hK ha hb hM hx]
     exact⟨_,rfl,_,rfl,_,_,rfl,rfl,rfl,_,rfl,vK (by simp) ⟨rfl,sb6,re6⟩⟩
   rintro σ' H6 ⟨rfl,sb6,re6⟩
   have sb26:=sb5.trans sb6
   have tr6:=re5.tr sb6 tr5
   have tr6z:=re5.tr sb6 tr5z
   refine⟨_,rfl,?_⟩
   refine⟨fun σ' H'=>Same H6 H'∧∃ d:Addr,σ'=[some (.ref z),some (.int ((i+1:Nat):Int)),some (.int (jb ms (i+1))),some (.ref re),some (.int c),some (.int M),some (.int x),some (.ref a5),some (.ref d)]∧(if M < x then H' d=some (.tup [.str "short",.int M]) else Tr H' d (ins ms i x)),?_,?_⟩
   · refine⟨_,rfl,_,rfl,_,_,rfl,rfl,_,rfl,jx (fun cx=>?_) (fun cx=>?_)⟩
     · have hx:M < x:=by simpa using cx
       exact⟨_,rfl,sL2,fun d hd=>⟨qH hd _,d,rfl,by rw [if_pos hx];exact qF⟩⟩
     · have hx:¬ M < x:=by simpa using cx
       exact⟨Same.refl _,a5,rfl,by rw [if_neg hx];exact tr6⟩
   rintro σ' H7 ⟨e7,d,rfl,hd⟩
   have re7:=re6.same e7
   have sb27:=sb26.trans (xQ (z:=re) e7)
   refine⟨_,rfl,_,_,rfl,rfl,_,rfl,jx (fun cx=>?_) (fun cx=>qp ⟨_,_,_,rfl,sb27,re7⟩)⟩
   have hx:1≤x:=by have:0 < x:=by simpa using cx
                   omega
   refine⟨_,rfl,_,rfl,_,rfl,_,rfl,z,re,ms,i,_,x,M,rlE A',rfl,tr6z.same e7,hK.msb,(by omega),hct.it,re7.at,hbs,hx,hcb,hM,fun y H8 e8 hy=>?_⟩
   refine⟨_,rfl,?_⟩
   have fin:RE H8 re A'∧SB re H2 H8:=⟨re7.same e8,sb27.trans (xQ e8)⟩
   by_cases hlt:M < x
   · rw [if_pos hlt] at hy hd
     exact qLk hy (e8 _ _ hd) ⟨_,rfl,qp ⟨_,_,_,rfl,fin.2,fin.1⟩⟩
   · rw [if_neg hlt] at hy hd
     exact qPp hy (hd.same e8) ⟨_,rfl,qp ⟨_,_,_,rfl,fin.2,fin.1⟩⟩
 · rintro σ H3 ⟨o1,o2,o3,rfl,sb3,re3⟩
   exact kk H3 ((xQ e2).trans sb3) re3
theorem qO7 {x b:Int}(hx:0≤x)(hb:0 < b):0≤x.fdiv b:=by
 have h:=(qX (p:=x) hb).2
 by_cases c:0≤x.fdiv b
 · exact c
 · have:=Int.mul_le_mul_of_nonneg_right (c:=b) (show x.fdiv b+1≤0 by omega) (by omega)
   omega
theorem qOd {lo rs to bo len N:Int}(b0:1≤bo)(n0:1≤len)(l0:0≤lo)(l1:lo+(((len - 1)*wF to).fdiv bo+1) < N)(r0:0≤rs)(r1:rs < 7):
 (0≤stF lo rs to bo len∧stF lo rs to bo len < N*(7*bo))∧0≤stF lo rs to bo len+7*(len - 1)*to∧stF lo rs to bo len+7*(len - 1)*to < N*(7*bo):=by
 have hf:=qX (p:=(len - 1)*wF to) (q:=bo) (by omega)
 have hx:0≤(len - 1)*wF to:=Int.mul_nonneg (by omega) (by unfold wF;split <;> omega)
 have hF:=qO7 hx (show 0 < bo by omega)
 generalize ((len - 1)*wF to).fdiv bo=F at*
 have m1:0≤bo*(7*lo+rs):=Int.mul_nonneg (by omega) (by omega)
 have m2:bo*(7*(lo+F+1)+rs) < bo*(7*N):=Int.mul_lt_mul_of_pos_left (by omega) (by omega)
 have m3:bo*(7*lo+rs) < bo*(7*N):=Int.mul_lt_mul_of_pos_left (by omega) (by omega)
 have e1:lo*7*bo+rs*bo=bo*(7*lo+rs):=by grind
 have e2:N*(7*bo)=bo*(7*N):=by grind
 have e3:bo*(7*(lo+F+1)+rs)=bo*(7*lo+rs)+7*((F+1)*bo):=by grind
 unfold stF
 rw [e2]
 by_cases ht:to < 0
 · rw [if_pos ht]
   have ea:wF to= -to:=by unfold wF;rw [if_pos ht]
   rw [ea] at hf hx
   have e4:7*(len - 1)*to= -(7*((len - 1)* -to)):=by grind
   rw [e4,e1]
   generalize (len - 1)* -to=X at*
   generalize bo*(7*lo+rs)=Y at*
   generalize (F+1)*bo=Z at*
   generalize bo*(7*N)=W at*
   generalize bo*(7*(lo+F+1)+rs)=U at*
   exact⟨⟨by omega,by omega⟩,by omega,by omega⟩
 · rw [if_neg ht]
   have ea:wF to=to:=by unfold wF;rw [if_neg ht]
   rw [ea] at hf hx
   have e4:7*(len - 1)*to=7*((len - 1)*to):=by grind
   rw [e4,e1]
   generalize (len - 1)*to=X at*
   generalize bo*(7*lo+rs)=Y at*
   generalize (F+1)*bo=Z at*
   generalize bo*(7*N)=W at*
   generalize bo*(7*(lo+F+1)+rs)=U at*
   exact⟨⟨by omega,by omega⟩,by omega,by omega⟩
theorem qI5 {st to bo k N:Int}(b0:1≤bo)(h0:0≤st+7*k*to)(h1:st+7*k*to < N*(7*bo)):InR (Vk (ja st (7*bo)) (jN st (7*bo)) (ja to bo) (jN to bo) k) (jN st (7*bo)*jN to bo) N:=by
 have c1:=jz st (7*bo)
 have c2:=jz to bo
 have q0:=jk (t:=st) (b:=7*bo) (by omega)
 have s0:=jk (t:=to) (b:=bo) (by omega)
 generalize ja st (7*bo)=p at*
 generalize jN st (7*bo)=q at*
 generalize ja to bo=r at*
 generalize jN to bo=s at*
 refine(qD8 (Int.mul_pos q0 s0) (show 0 < 7*bo by omega) ?_).mpr ⟨h0,h1⟩
 unfold Vk
 have e1:(p*s+k*r*q)*(7*bo)=s*(p*(7*bo))+7*k*q*(r*bo):=by grind
 rw [e1,c1,c2]
 grind
theorem CF.kc {A:Int}{m:Im}(h:CF A m)(hA0:60≤A)(hA:A < 360):IsK A m∧m.mo≤100:=by
 obtain⟨hit,_,_,hmo⟩:=h.it hA0 hA
 obtain⟨nm,N,lo,rs,to,bo,len,hn,n0,n1,t0,t1,b0,b1,l0,l1,r0,r1,rfl⟩:=h
 obtain⟨N',hc⟩:=hit _ _ _ _ _ _ rfl
 obtain⟨i0,i1⟩:=qOd (to:=to) b0 n0 l0 l1 r0 r1
 have hrl:rlE A nm=some N:=by
  unfold rlE
  rcases hn with ⟨rfl,rfl⟩ | ⟨rfl,rfl⟩
  · rw [if_pos rfl]
  · rw [if_neg (by decide+kernel),if_pos rfl]
 have eN:N'=N:=by have:=hc.rn;rw [hrl] at this;exact(Option.some.inj this).symm
 subst eN
 have hnm:wS nm=true∧nm.length≤1000:=by
  rcases hn with ⟨rfl,rfl⟩ | ⟨rfl,rfl⟩ <;> exact⟨by decide+kernel,by decide+kernel⟩
 refine⟨⟨_,_,_,_,_,_,N',rfl,hc,⟨hnm.1,hnm.2,hc.bn.mono (m:=700),hc.g1.2.1,hc.g2.2.1,hc.l1,hc.bl⟩,?_,?_⟩,by omega⟩
 · exact qI5 b0 (by simpa using i0.1) (by simpa using i0.2)
 · exact qI5 b0 i1.1 i1.2
theorem qJ6 {A k l:Int}(hA0:60≤A)(hA:A < 360)(k0:0≤k)(k1:k < 60)(l1:1≤l)(l2:l < 1000000000):IsK A (.clip "a" k 1 0 1 l):=by
 have e110:(60:Nat) < 2 ^ 110:=by decide
 have g1:qJj 110 k 1:=⟨by decide,by simp,by omega,by decide⟩
 have g2:qJj 110 0 1:=⟨by decide,by decide,by decide,by decide⟩
 have hr:rlE A "a"=some A:=by unfold rlE;rw [if_pos rfl]
 have hc:Rc "a" k 1 0 1 l (rlE A) A:=⟨g1,g2,Nat.lt_of_lt_of_le (show l.natAbs < 1000000000 by omega) (by decide),l1,hr,Nat.lt_of_le_of_lt (show A.natAbs≤360 by omega) (Nat.lt_of_lt_of_le (show 360 < 2 ^ 10 by decide) (Nat.pow_le_pow_right (by decide) (by decide)))⟩
 have iv:∀ j:Int,InR (Vk k 1 0 1 j) (1*1) A:=fun j=>by
  have e:Vk k 1 0 1 j=k:=by unfold Vk;grind
  rw [e]
  exact⟨k0,by omega⟩
 exact⟨_,_,_,_,_,_,A,rfl,hc,⟨by decide+kernel,by decide+kernel,hc.bn.mono (m:=700),hc.g1.2.1,hc.g2.2.1,l1,hc.bl⟩,iv _,iv _⟩
structure K0 (A:Int)(ms:List Im):Prop where
 l2:2≤ms.length
 l4:ms.length≤4
 it:∀ m∈ms,IsK A m
 st:(∀ m∈ms,m.mo≤100)∨(∀ n p q r s l,Im.clip n p q r s l∈ms→r=0)
theorem K0.kt {A:Int}{ms:List Im}(h:K0 A ms):KT A ms:=by
 refine⟨h.l2,by have:=h.l4;omega,fun j m hj=>.inl (h.it m (List.mem_of_getElem? hj)),h.st,fun l hl=>?_⟩
 obtain⟨n,p,q,r,s,l',N,e,_⟩:=h.it _ (List.mem_of_getElem? hl)
 cases e
theorem K0.putIn {A:Int}{ms:List Im}{L M:Int}(h:K0 A ms)(hM:mmF (rlE A) ms (jb ms 1)=some M)(hL:1≤L)(hLM:L≤M):KT A (ins ms 0 L)∧mmF (rlE A) (ins ms 0 L) (jb ms 1)=some M:=by
 have l2:=h.l2
 have l4:=h.l4
 have g:∀ j:Nat,j < ms.length→∃ n p q r s l N,ms[j]? =some (.clip n p q r s l)∧KC A n p q r s l N:=fun j hj=>by
  obtain⟨n,p,q,r,s,l',N,e,c⟩:=h.it _ (List.getElem_mem hj)
  exact⟨n,p,q,r,s,l',N,by rw [List.getElem?_eq_getElem hj,e],c⟩
 obtain⟨n,p,q,r,s,l,N,ha,c1⟩:=g 0 (by omega)
 obtain⟨n',p',q',r',s',l',N',hb,c2⟩:=g 1 (by omega)
 have hk:=h.kt.ctr
 have hm:=qK2 (L:=L) hk (by omega) ha hb c1 c2 hL
 rw [hM] at hm
 have hi:0 < ms.length:=by omega
 have e1:jb (ins ms 0 L) 1=jb ms 1:=qCh L hi (Nat.le_refl _)
 refine⟨⟨by rw [qCf hi];omega,by rw [qCf hi];omega,fun j m hj=>?_,?_,fun l0 hl0=>?_⟩,hm⟩
 · by_cases j1:j=1
   · subst j1
     rw [qBu L hi] at hj
     cases hj
     exact .inr ⟨rfl,L,rfl,hL⟩
   · rcases qAx (List.mem_of_getElem? hj) with hm | rfl
     · exact .inl (h.it m hm)
     · exfalso
       cases j with
       | zero=>rw [zN L hi (Nat.le_refl _),ha] at hj;cases hj
       | succ j=>
        cases j with
        | zero=>exact j1 rfl
        | succ j=>
         rw [wK L hi (by omega)] at hj
         obtain⟨n,p,q,r,s,l',N,e,c⟩:=h.it _ (List.mem_of_getElem? hj)
         cases e
 · rcases h.st with q1 | q1
   · refine .inl fun m hm=>?_
     rcases qAx hm with hm | rfl
     · exact q1 m hm
     · show (0:Int)≤100
       decide
   · refine .inr fun n p q r s l hm=>?_
     rcases qAx hm with hm | e
     · exact q1 n p q r s l hm
     · cases e
 · rw [qBu L hi] at hl0
   cases hl0
   exact⟨by rw [qCf hi];omega,M,by rw [e1];exact hm,hLM⟩
theorem RE.sq {H H':Hp}{re z:Addr}{A:Int}{xs:List V}(h:RE H re A)(e:SB re H H')(hz:SqL K H z xs):SqL K H' z xs:=by
 rcases hz with (q | ⟨o,q⟩) | q
 · exact .inl (.inl (e _ _ (h.nd q (.inl ⟨_,rfl⟩)) q))
 · refine .inl (.inr ⟨o,e _ _ ?_ q⟩)
   rintro rfl
   rcases h.1 with w | ⟨o',w⟩ <;> · rw [q] at w;cases w
 · exact .inr q
inductive qC7 (vs:List V)(H:Hp)(Q:VK)(_:XK):Prop
| mk (c:Int) (_:vs=[.int c]) (_:∀ (re:Addr) (A:Int) (H':Hp),Same H H'→H re=none→H' re=some (.dK [(Sum.inr "a",.int A),(Sum.inr "reelb",.int 1000000000)])→60≤A→A < 360→Q (.ref re) H')
theorem qB7 (T:Tx K mg a):FnOk P w K mg base CX0 1 a.A88 a.B88 ["_law_cell"] qC7:=by
 refine T.D88.F.ok qB3 (fun vs H Q E h=>?_) (fun cdv A outer s H vs Q E hr h=>?_)
 · obtain⟨c,rfl,_⟩:=h
   rfl
 refine qR fun _ Y=>?_
 obtain⟨c,rfl,kk⟩:=h
 apply Y
 refine⟨_,(qD (qN (qJs (qC4 qV (qK qh qE (qK jG (pv 0) qE)) (qC4 qV (qK qDt qE qE) qIb)) rfl rfl (by simp) (by decide)))),?_⟩
 try dsimp only [jV,qg]
 refine fun re hre=>?_
 have f:=fm c (show (0:Int) < 300 by decide)
 refine⟨_,rfl,_,_,rfl,rfl,nz,_,_,rfl,rfl,_,_,rfl,rfl,cpw (n:=9) (by decide),?_⟩
 refine⟨qF,[(Sum.inr "a",.int (60+c.fmod 300)),(Sum.inr "reelb",.int (10 ^ (9:Int).toNat))],rfl,(by show 2≤15;decide),?_⟩
 rw [qF1]
 have em:∀ x y:V,qAc [] [((Sum.inr ("a":Str):Key),x),(Sum.inr ("reelb":Str),y)]=[(Sum.inr ("a":Str),x),(Sum.inr ("reelb":Str),y)]:=fun x y=>by rfl
 rw [em]
 have e9:(10:Int) ^ (9:Int).toNat=1000000000:=by decide
 rw [e9]
 exact kk re _ _ (qH hre _) hre qF (by omega) (by omega)
theorem qEg {ms:List Im}{j:Nat}{m:Im}(h:ms[j]? =some m):jb ms (j+1)=jb ms j+m.mo:=by
 unfold jb
 rw [List.take_add_one,h,List.map_append,List.sum_append]
 show _+(m.mo+0)=_
 omega
set_option maxHeartbeats 8000000 in
theorem qMw (T:Tx K mg a):FnOk P w K mg base CX0 14 a.A95 a.B95 ["_law_script"] (qKh K):=by
 refine T.D95.F.ok zu (fun vs H Q E h=>?_) (fun cdv A outer s H vs Q E hr h=>?_)
 · obtain⟨a,ns,rfl,_⟩:=h
   rfl
 refine qR fun _ Y=>?_
 obtain⟨zs,ns,rfl,hS,hlen,kk⟩:=h
 apply Y
 have hu:=hr.units
 refine⟨_,(qC (qEd (i:=1) zu.nd rfl (Or.inr rfl) (qI T.D88 (qB7 T) hr rfl (qA (qI T.D84 (qx T) hr rfl (qA (pv 0) (qA qE qB))) qB)))
  (qC (qEd (i:=2) zu.nd rfl (Or.inr rfl) (qI T.D85 (qBn T) hr rfl (qA (qI T.D84 (qx T) hr rfl (qA (pv 0) (qA qE qB))) (qA qE qB))))
  (qC (qFg (i:=3) ["_law_reels_here","_law_xs"] [1,2] zu.nd rfl rfl rfl (xc rfl T.b_range (qA (qK qh qE (qK jG (qK qf (qAj F.plainAttrs_list F.slot_list_pop F.type_list_pop wl (pv 2)) qE) qE)) qB)) (fun _ _ _ _=>(qI T.D87 (qEt T) hr rfl (qA (pv 2) (qA (pv 1) (qA qE qB))))))
  (qC (xE (qW (qJ xY (qK jG (qK qf (qI T.D84 (qx T) hr rfl (qA (pv 0) (qA qE qB))) qE) qE) qE (qO _)) (qC (qEd (i:=4) zu.nd rfl (Or.inr rfl) (qK qh qE (qK jG (qI T.D84 (qx T) hr rfl (qA (pv 0) (qA qE qB))) (qK qDt qE qE))))
  (qD (qFg (i:=3) ["_law_far"] [4] zu.nd rfl rfl rfl (xc rfl T.b_range (qA (qK qh qE (qK jG (pv 4) qE)) qB)) (fun _ _ _ _=>(jO (qA qV (qA qV (qA (jO (qA (pv 0) (qA qE qB))) (qA (jO (qA qE (qA qE qB))) (qA (qK qh (pv 1) (pv 0)) qB)))))))))) qL))
  (qC (qd 5 zu.nd (jM vB (jM jE (pv 3) qE (fun _ _=>rfl)) (we zp qE) (fun _ _=>rfl)))
  (qC (qd 6 zu.nd (qI T.D90 (jZ T) hr rfl (qA (pv 3) (qA (pv 5) (qA (pv 1) qB)))))
  (qC (qW (PW.pt (jW (wD (qA4 (pv 6))) (jH (qJ xn (pv 6) (qI T.D93 (qA1 T) hr rfl (qA (pv 3) (qA qE (qA (pv 1) qB)))) (qO _))))) (qD (qN jn)) qL)
  (qC (xE (qW (PW.pt (xJ (qJ xY (qK jG (qI T.D84 (qx T) hr rfl (qA (pv 0) (qA qE qB))) qE) qE (qO _)) (ji (qJ kU (pv 6) qE (qO _))))) (qC (jL (qFm F.plainAttrs_list F.slot_list_insert F.type_list_insert qJk (pv 3) (qA qE (qA (jO (qA qV (qA (qK qh qE (qK jG (qK qf (qI T.D84 (qx T) hr rfl (qA (pv 0) (qA qE qB))) qE) (pv 6))) qB))) qB))))
  (qD (qW (qJ xn (qI T.D90 (jZ T) hr rfl (qA (pv 3) (qA (pv 5) (qA (pv 1) qB)))) (pv 6) (qO _)) (qD (qN jn)) qL))) qL))
  (qC (qd 7 zu.nd qE)
  (qC (xD PassesOwn.never rfl (xc rfl T.b_range (qA (qQ qY rfl T.b_len rfl (qA (pv 3) qB)) qB)) (qq (i:=8) zu.nd rfl (Or.inl rfl)) (qD (qW (qJ xY (qP (jM jE (pv 3) (pv 8) (fun _ _=>rfl))) qV (qO _)) (qC (xE (qW (PW.pt (xJ (qJ kU (pv 8) qE (qO _)) (ji (qJ xY (qP (jM jE (pv 3) (qK jA (pv 8) qE) (fun _ _=>rfl))) qV (qO _))))) (qD (qW (qi (qc (qI T.D94 (qBq T) hr rfl (qA (pv 3) (qA (pv 8) (qA (pv 7) (qA (pv 1) (qA (qI T.D84 (qx T) hr rfl (qA (pv 0) (qA qE qB))) qB)))))))) (qD (qN jn)) qL)) qL))
  (qC (xE (qW (PW.pt (xJ (qJ kU (jM vB (jM jE (pv 3) (pv 8) (fun _ _=>rfl)) (we zp qE) (fun _ _=>rfl)) qE (qO _)) (ji (wD (qMq (qI T.D90 (jZ T) hr rfl (qA (pv 3) (qA (qK qh (pv 7) qE) (qA (pv 1) qB))))))))) (qD (qN jn)) qL))
  (qD (qd 7 zu.nd (qK qh (pv 7) (jM vB (jM jE (pv 3) (pv 8) (fun _ _=>rfl)) (we zp qE) (fun _ _=>rfl))))))) qL)))
  (qD (qN (xL (qI0 (qA4 (qI T.D90 (jZ T) hr rfl (qA (pv 3) (qA qE (qA (pv 1) qB)))))) (zL (qI0 (qA4 (qI T.D90 (jZ T) hr rfl (qA (pv 3) (qA (pv 7) (qA (pv 1) qB)))))))))))))))))))),?_⟩
 try dsimp only [jV,qg]
 refine⟨_,rfl,zs,ns,1,rfl,hS,hlen,by decide,fun c1=>?_⟩
 refine⟨c1,rfl,fun re A' H1 e1 _ hre1 A0 A1=>?_⟩
 have hre:RE H1 re A':=⟨.inl hre1,A0,A1⟩
 refine⟨_,rfl,zs,ns,0,rfl,e1.seq hS,hlen,by decide,fun c0=>⟨c0,60,rfl,by decide,by decide,fun xz xs H2 e2 hxz hxs hxl _=>?_⟩⟩
 have hre2:=hre.same e2
 have nre:re≠xz:=by
  rcases hre.1 with q | ⟨o,q⟩
  · exact qS q hxz
  · exact qS q hxz
 refine qR fun _ Y=>?_
 obtain⟨y1,x1,rfl,l1⟩:=wo (n:=59) (by rw [hxl];decide)
 apply Y
 refine⟨_,rfl,.inl ⟨rfl,_,SqL.of hxs⟩,qL3 hxs fun H3 s3 hz3 k3=>?_⟩
 have f1:=fm (x1.fdiv 3) (show (0:Int) < 3 by decide)
 have re3:=hre2.sb s3 nre
 have e13:Same H1 H3:=fun b u hb=>s3 b u (qS hb hxz) (e2 b u hb)
 refine⟨_,_,rfl,rfl,cdB (by decide) (by decide),_,_,rfl,rfl,nz,_,_,rfl,rfl,_,rfl,by omega,by omega,qBx (n:=(2+(x1.fdiv 3).fmod 3).toNat) (fun i acc H'=>∃ (ms:List Im) (xs':List Int),IsIs H' ms acc∧ms.length=i∧(∀ m∈ms,CF A' m)∧H' xz=some (.lst (xs'.map V.int))∧xs'.length+6*i=59∧SB xz H3 H') ⟨[],y1,trivial,rfl,by simp,hz3,by omega,SB.refl _ _⟩ ?_ ?_ ?_⟩
 · rintro i acc H' hi ⟨ms,xs',h1,hl,_⟩
   exact qo (by rw [h1.len];omega)
 · rintro i acc H' hi ⟨ms,xs',h1,hl,hcf,hx',hxl',sb'⟩
   refine⟨_,rfl,_,rfl,xz,re,xs',A',12,rfl,hx',by omega,re3.sb sb' nre,by decide,by decide,fun v m xs'' H'' s'' hz'' hl'' hm hI=>Nxt.mk hi ⟨ms++[m],xs'',(h1.ts (SB.ts s'' hx')).app (.one hI),by rw [List.length_append,hl];rfl,fun x hx=>?_,hz'',by omega,sb'.trans s''⟩⟩
   rcases List.mem_append.mp hx with hx | hx
   · exact hcf x hx
   · have:x=m:=by simpa using hx
     rw [this];exact hm
 rintro acc H4 ⟨ms0,xs4,hIs,hml,hcf,hx4,_,sb4⟩ tz0 htz0
 have e14:Same H1 H4:=fun b u hb=>sb4 b u (qS hb hxz) (e13 b u hb)
 have w5:=qH htz0 (.lst acc)
 have tT0:Tr (upd H4 tz0 (.lst acc)) tz0 ms0:=⟨acc,qF,hIs.ts (qr w5)⟩
 have re5:=(re3.sb sb4 nre).same w5
 have e15:=e14.trans w5
 have hK0:K0 A' ms0:=⟨by omega,by omega,fun m hm=>((hcf m hm).kc A0 A1).1,.inl fun m hm=>((hcf m hm).kc A0 A1).2⟩
 change _
 generalize upd H4 tz0 (.lst acc)=H5 at tT0 re5 e15
 have ft0:H1 tz0=none:=e14.free htz0
 refine⟨fun σ' H'=>∃ (tz:Addr) (ms:List Im) (o:Option V),σ'=[some (.ref zs),some (.ref re),some (.ref xz),some (.ref tz),o,none,none,none,none]∧Tr H' tz ms∧K0 A' ms∧RE H' re A'∧Same H1 H'∧H1 tz=none,?_,?_⟩
 · refine⟨_,rfl,zs,ns,2,rfl,(e1.trans e15).seq hS,hlen,by decide,fun c2=>?_⟩
   refine⟨_,_,rfl,rfl,cdB (by decide) (by decide),_,_,rfl,rfl,nz,rfl,_,rfl,jx (fun _=>?_) (fun _=>⟨tz0,ms0,_,rfl,tT0,hK0,re5,e15,ft0⟩)⟩
   refine⟨_,rfl,zs,ns,3,rfl,(e1.trans e15).seq hS,hlen,by decide,fun c3=>?_⟩
   have hf:=fm c3 (show (0:Int) < 10 ^ (8:Int).toNat by decide)
   have e8:(10:Int) ^ (8:Int).toNat=100000000:=by decide
   have f2:=fm (1+c3.fmod (10 ^ (8:Int).toNat)) (show (0:Int) < 2 by decide)
   refine⟨_,_,rfl,rfl,cpw (n:=8) (by decide),_,_,rfl,rfl,(by decide),_,_,rfl,rfl,?_⟩
   refine⟨_,rfl,_,_,rfl,rfl,nz,_,_,rfl,rfl,_,rfl,by omega,by omega,qBx (n:=(2+(1+c3.fmod (10 ^ (8:Int).toNat)).fmod 2).toNat) (fun i acc H'=>∃ (ms:List Im),IsIs H' ms acc∧ms.length=i∧(∀ m∈ms,∃ k l,m= .clip "a" k 1 0 1 l∧0≤k∧k < 60∧1≤l∧l < 1000000000)∧Same H5 H') ⟨[],trivial,rfl,by simp,Same.refl _⟩ ?_ ?_ ?_⟩
   · rintro i acc H' hi ⟨ms,h1,hl,_⟩
     exact qo (by rw [h1.len];omega)
   · rintro i acc H' hi ⟨ms,h1,hl,hcl,e'⟩
     refine⟨_,rfl,sL2,fun p1 hp1=>⟨sL2,fun p2 hp2=>⟨_,rfl,_,rfl,_,_,rfl,rfl,sL5,fun p3 hp3=>?_⟩⟩⟩
     have v1:=qH hp1 (.tup [.int (0+(i:Int)),.int 1])
     have v2:=qH hp2 (.tup [.int 0,.int 1])
     have v3:=qH hp3 (.tup [.str "clip",.str "a",.ref p1,.ref p2,.int (1+c3.fmod (10 ^ (8:Int).toNat)+(0+(i:Int)))])
     have v:=(v1.trans v2).trans v3
     refine Nxt.mk hi ⟨ms++[.clip "a" (0+(i:Int)) 1 0 1 (1+c3.fmod (10 ^ (8:Int).toNat)+(0+(i:Int)))],(h1.ts (qr v)).app (.one (isC qF (v3 _ _ (v2 _ _ qF)) (v3 _ _ qF))),by rw [List.length_append,hl];rfl,fun x hx=>?_,e'.trans v⟩
     rcases List.mem_append.mp hx with hx | hx
     · exact hcl x hx
     · exact⟨0+(i:Int),1+c3.fmod (10 ^ (8:Int).toNat)+(0+(i:Int)),List.mem_singleton.mp hx,by omega,by omega,by omega,by omega⟩
   rintro acc2 H6 ⟨ms,hIs6,hml6,hcl6,e6⟩ tz htz
   have w7:=qH htz (.lst acc2)
   refine⟨tz,ms,_,rfl,⟨acc2,qF,hIs6.ts (qr w7)⟩,⟨by omega,by omega,fun m hm=>?_,.inr fun n p q r s l hm=>?_⟩,(re5.same e6).same w7,(e15.trans e6).trans w7,(e15.trans e6).free htz⟩
   · obtain⟨k,l,rfl,k0,k1,l1,l2⟩:=hcl6 m hm
     exact qJ6 A0 A1 k0 k1 l1 l2
   · obtain⟨k,l,e,_⟩:=hcl6 _ hm
     cases e
     rfl
 clear tT0 hK0 re5 e15 ft0 hIs hml hcf hx4 sb4 htz0 w5
 rintro σ' H6 ⟨tz,ms,o,rfl,tT,hK,re6,e16,ftz⟩
 have l2:=hK.l2
 have l4:=hK.l4
 have hkt:=hK.kt
 have hct:=hkt.ctr
 have kc:∀ j:Nat,j < ms.length→∃ n p q r s l N,ms[j]? =some (.clip n p q r s l)∧KC A' n p q r s l N:=fun j hj=>by
  obtain⟨n,p,q,r,s,l',N,e,c⟩:=hK.it _ (List.getElem_mem hj)
  exact⟨n,p,q,r,s,l',N,by rw [List.getElem?_eq_getElem hj,e],c⟩
 refine qR fun _ Y=>?_
 obtain⟨n,p,q,r,s1,l,N,ha,c1'⟩:=kc 0 (by omega)
 obtain⟨n',p',q',r',s2,l',N',hb,c2'⟩:=kc 1 (by omega)
 obtain⟨us,hz,his⟩:=id tT
 have hul:=his.len
 obtain⟨va,hva,Ia⟩:=his.get' ha
 obtain⟨za,xa,ya,rfl,hza,hxa,hya⟩:=id Ia
 apply Y
 have hq0:atI us 0=some (.ref za):=jc (j:=0) hva
 have hm1:atI [V.str "clip",.str n,.ref xa,.ref ya,.int l] (-1)=some (.int l):=rfl
 have eb:jb ms 1=l:=by
  have:=qEg ha
  rw [show jb ms 0=0 from rfl,Int.zero_add] at this
  exact this
 have hcb:=qB2 hct.ok ha hb
 have hM:=qE2 hcb ha hb c1' c2'
 have hte:teF ms (0+1)=0:=by
  unfold teF
  cases hm:ms[0+1+1]? with
  | none=>rfl
  | some m=>
   obtain⟨_,_,_,_,_,_,_,e,_⟩:=hK.it m (List.mem_of_getElem? hm)
   rw [e]
 rw [hte,Int.sub_zero] at hM
 have em:∀ M:Int,mmO (some M)= .int M:=fun _=>rfl
 refine⟨_,rfl,tz,_,_,_,rfl,rfl,SqL.of hz,hq0,_,rfl,za,_,_,_,rfl,rfl,SqT.of hza,hm1,?_⟩
 refine⟨_,rfl,_,rfl,_,rfl,tz,re,ms,_,rlE A',rfl,tT,hct.it,re6.at,fun H7 e7=>?_⟩
 have hM':mmF (rlE A') ms l=some (mmV (vV (l - tbF ms 0) (ku p' q' r' s2 N')) (vV l' (kz p q r s1 l N))):=by
  have h:=hM
  rw [show jb ms (0+1)=l from eb] at h
  exact h
 rw [hM',em]
 refine⟨_,rfl,_,rfl,vK (by simp) ?_⟩
 have tb0:tbF ms 0=0:=rfl
 have hst:100 < l - tbF ms 0→r=0∧r'=0:=fun h=>by
  rcases hK.st with q1 | q1
  · have:l≤100:=q1 _ (List.mem_of_getElem? ha)
    omega
  · exact⟨q1 _ _ _ _ _ _ (List.mem_of_getElem? ha),q1 _ _ _ _ _ _ (List.mem_of_getElem? hb)⟩
 have hnm:∀ k,ms[0+2]?≠some (.mix k):=fun k e=>by
  obtain⟨_,_,_,_,_,_,_,e',_⟩:=hK.it _ (List.mem_of_getElem? e)
  cases e'
 refine⟨_,rfl,_,rfl,_,rfl,tz,re,ms,0,A',n,n',p,q,r,s1,l,N,p',q',r',s2,l',N',rfl,tT.same e7,re6.same e7,(by omega),ha,hb,c1',c2',hnm,(by have:=c1'.rc.l1;omega),hst,rfl,_,rfl,vK (by simp) ?_⟩
 have M0:=qI8 (vV (l - tbF ms 0) (ku p' q' r' s2 N')) (vV l' (kz p q r s1 l N))
 have hMb:mmF (rlE A') ms (jb ms 1)=some (mmV (vV (l - tbF ms 0) (ku p' q' r' s2 N')) (vV l' (kz p q r s1 l N))):=hM
 generalize mmV (vV (l - tbF ms 0) (ku p' q' r' s2 N')) (vV l' (kz p q r s1 l N))=M at hMb M0 ⊢
 clear hM hM'
 have e17:=e16.trans e7
 have re7:=re6.same e7
 have tT7:=tT.same e7
 refine⟨fun σ' H'=>∃ ms':List Im,σ'=[some (.ref zs),some (.ref re),some (.ref xz),some (.ref tz),o,some (.int l),some (.int M),none,none]∧Tr H' tz ms'∧KT A' ms'∧RE H' re A'∧Same H1 H',?_,?_⟩
 · refine⟨_,rfl,zs,ns,2,rfl,(e1.trans e17).seq hS,hlen,by decide,fun c2=>?_⟩
   refine⟨_,_,rfl,rfl,nz,rfl,_,rfl,jx (fun _=>?_) (fun _=>qp ⟨ms,rfl,tT7,hkt,re7,e17⟩)⟩
   refine⟨_,rfl,_,_,rfl,rfl,_,rfl,jx (fun cM=>?_) (fun _=>⟨ms,rfl,tT7,hkt,re7,e17⟩)⟩
   have hM1:0 < M:=by simpa using cM
   have hz7:=e7 _ _ hz
   refine⟨_,rfl,.inl ⟨rfl,_,SqL.of hz7⟩,?_⟩
   refine⟨_,rfl,zs,ns,2,rfl,(e1.trans e17).seq hS,hlen,by decide,fun c3=>⟨_,_,rfl,rfl,cdB (by decide) (by decide),_,rfl,_,_,rfl,rfl,(by omega),_,_,rfl,rfl,sL2,fun g hg=>?_⟩⟩
   have f3:=fm (c3.fdiv 2) hM1
   dsimp only
   generalize hLq:1+(c3.fdiv 2).fmod M=L
   have wg:=qH hg (.tup [.str "mix",.int L])
   have kg:upd H7 g (.tup [.str "mix",.int L]) g=some (.tup [.str "mix",.int L]):=qF
   generalize upd H7 g (.tup [.str "mix",.int L])=H8 at wg kg ⊢
   have hz8:=wg _ _ hz7
   refine⟨tz,us,1,1,.ref g,rfl,rfl,rfl,hz8,by omega,by omega,?_⟩
   have hisE:=((his.ts (qr e7)).ts (qr wg)).ts (qAg (o:=.lst (us.take 1++ .ref g::us.drop 1)) hz8)
   have kg':upd H8 tz (.lst (us.take 1++ .ref g::us.drop 1)) g=some (.tup [.str "mix",.int L]):=by
    rw [qU (qHx kg hz8 (by intro q;cases q))];exact kg
   have tr9:Tr (upd H8 tz (.lst (us.take 1++ .ref g::us.drop 1))) tz (ins ms 0 L):=by
    refine⟨_,qF,?_⟩
    have:=(hisE.take (i:=1)).app ((IsIs.one (isM kg')).app (hisE.drop (i:=1)))
    unfold ins
    rw [List.append_assoc]
    exact this
   have e19:Same H1 (upd H8 tz (.lst (us.take 1++ .ref g::us.drop 1))):=j9 (e17.trans wg) ftz
   have re9:RE (upd H8 tz (.lst (us.take 1++ .ref g::us.drop 1))) re A':=(re7.same wg).sb qGl ((re7.same wg).ne hz8)
   generalize upd H8 tz (.lst (us.take 1++ .ref g::us.drop 1))=H9 at tr9 e19 re9 ⊢
   obtain⟨hkt9,hM9⟩:=hK.putIn hMb (show 1≤L by omega) (show L≤M by omega)
   rw [eb] at hM9
   refine⟨_,rfl,_,rfl,_,rfl,tz,re,ins ms 0 L,_,rlE A',rfl,tr9,hkt9.ctr.it,re9.at,fun H10 e10=>?_⟩
   rw [hM9,em]
   exact⟨_,rfl,rfl,_,rfl,vK (by simp) ⟨ins ms 0 L,rfl,tr9.same e10,hkt9,re9.same e10,e19.trans e10⟩⟩
 clear tT hK re6 e16 hct kc ha c1' hb c2' hz his Ia hq0 hm1 eb hcb hte hst hnm hMb hkt e17 re7 tT7 l2 l4 hva hza hxa hya e7 hul
 rintro σ' H8 ⟨ms,rfl,tT,hK,re8,e18⟩
 have hct:=hK.ctr
 have l2:=hK.l2
 have l5:=hK.l5
 refine qR fun _ Y=>?_
 obtain⟨us,hz,his⟩:=id tT
 apply Y
 have hul:=his.len
 refine⟨_,rfl,tz,_,rfl,.inl (SqL.of hz),_,rfl,by omega,by omega,vE (n:=((us.length:Nat):Int).toNat) (fun k σ H'=>∃ o1:Option V,σ=[some (.ref zs),some (.ref re),some (.ref xz),some (.ref tz),o,some (.int l),some (.int M),some (.int (jb ms k)),o1]∧SB re H8 H'∧RE H' re A') ⟨none,rfl,SB.refl _ _,re8⟩ ?_ ?_⟩
 · rintro k σ H9 hk ⟨o1,rfl,sb9,re9⟩
   have tr9:=re8.tr sb9 tT
   have hz9:=sb9 _ _ (re8.nd hz (.inl ⟨_,rfl⟩)) hz
   have his9:=his.ts (re8.ts sb9)
   have hk':k < ms.length:=by omega
   have hS9:=re8.sq sb9 ((e1.trans e18).seq hS)
   have hmk:=List.getElem?_eq_getElem hk'
   refine qR fun _ Y=>?_
   obtain⟨v,hv,Iv⟩:=his9.get' hmk
   have hak:atI us (0+(k:Int))=some v:=by rw [Int.zero_add];exact jc hv
   have hnx:=qEg hmk
   obtain⟨zi,xi,rfl,hzi,h0,h1⟩:=Iv.opn
   apply Y
   refine⟨_,rfl,_,rfl,tz,_,_,_,rfl,rfl,SqL.of hz9,hak,?_⟩
   refine⟨zi,xi,_,_,rfl,rfl,SqT.of hzi,h0,rfl,_,rfl,jx (fun cw=>?_) (fun cw=>?_)⟩
   · have hw:(ms[k]).wd="clip":=by simpa using cw
     rcases hK.it k _ hmk with hKk | ⟨_,l0,e,_⟩
     case inr=>rw [e] at hw;exact absurd (show ("mix":Str)="clip" from hw) (by decide+kernel)
     refine qR fun _ Y=>?_
     obtain⟨nk,pk,qk,rk,sk,lk,Nk,ek,ck⟩:=hKk
     apply Y
     have hl1:(ms[k]).l=lk:=by rw [ek];rfl
     have hmo:(ms[k]).mo=lk:=by rw [ek];rfl
     rw [hl1] at h1
     rw [hmo] at hnx
     rw [ek] at hmk
     refine⟨fun σ' H'=>σ'=[some (.ref zs),some (.ref re),some (.ref xz),some (.ref tz),o,some (.int l),some (.int M),some (.int (jb ms k)),some (.int (0+(k:Int)))]∧SB re H9 H'∧RE H' re A',?_,?_⟩
     · refine⟨_,rfl,_,_,rfl,rfl,_,rfl,jx (fun c0'=>?_) (fun _=>qp ⟨rfl,SB.refl _ _,re9⟩)⟩
       have hk0:0 < 0+(k:Int):=by simpa using c0'
       refine qR fun _ Y=>?_
       obtain⟨j,rfl⟩:∃ j,k=j+1:=⟨k - 1,by omega⟩
       have hj:=List.getElem?_eq_getElem (show j < ms.length by omega)
       obtain⟨vj,hvj,Ij⟩:=his9.get' hj
       have haj:atI us (0+((j+1:Nat):Int) - 1)=some vj:=by
        have e:0+((j+1:Nat):Int) - 1=(j:Int):=by omega
        rw [e];exact jc hvj
       obtain⟨zj,xj,rfl,hzj,hj0,_⟩:=Ij.opn
       apply Y
       refine⟨_,rfl,_,rfl,_,_,rfl,rfl,tz,_,_,_,rfl,rfl,SqL.of hz9,haj,?_⟩
       refine⟨zj,xj,_,_,rfl,rfl,SqT.of hzj,hj0,rfl,_,rfl,jx (fun cj=>?_) (fun _=>⟨rfl,SB.refl _ _,re9⟩)⟩
       have hwj:(ms[j]).wd="clip":=by simpa using cj
       rcases hK.it j _ hj with hKj | ⟨_,l0,e,_⟩
       case inr=>rw [e] at hwj;exact absurd (show ("mix":Str)="clip" from hwj) (by decide+kernel)
       refine qR fun _ Y=>?_
       obtain⟨nj,pj,qj,rj,sj,lj,Nj,ej,cj'⟩:=hKj
       apply Y
       rw [ej] at hj
       refine⟨_,rfl,_,rfl,_,rfl,_,rfl,_,rfl,zs,ns,3,rfl,hS9,hlen,by decide,fun c3=>?_⟩
       exact⟨tz,re,ms,j,A',c3,nj,nk,pj,qj,rj,sj,lj,pk,qk,rk,sk,lk,(by rw [Int.zero_add];rfl),tr9,re9,hK,hj,hmk,fun H10 sb10 re10=>⟨_,rfl,qp ⟨rfl,sb10,re10⟩⟩⟩
     rintro σ' H10 ⟨rfl,sb10,re10⟩
     have tr10:=re9.tr sb10 tr9
     have hz10:=sb10 _ _ (re9.nd hz9 (.inl ⟨_,rfl⟩)) hz9
     have hzi10:=sb10 _ _ (re9.nd hzi (.inr ⟨_,rfl⟩)) hzi
     refine⟨fun σ' H'=>σ'=[some (.ref zs),some (.ref re),some (.ref xz),some (.ref tz),o,some (.int l),some (.int M),some (.int (jb ms k)),some (.int (0+(k:Int)))]∧Same H10 H',?_,?_⟩
     · refine⟨_,rfl,_,rfl,tz,_,_,_,rfl,rfl,SqL.of hz10,hak,?_⟩
       refine⟨_,rfl,zi,xi,_,_,rfl,rfl,SqT.of hzi10,h1,_,_,rfl,rfl,_,rfl,jx (fun cl=>?_) (fun _=>qp ⟨rfl,Same.refl _⟩)⟩
       have hl2:1 < lk:=by simpa using cl
       refine⟨_,rfl,_,rfl,_,_,rfl,rfl,_,rfl,tz,re,ms,_,rlE A',rfl,tr10,hct.it,re10.at,fun H11 e11=>?_⟩
       have hno:=qPg (rl':=rlE A') hct.ok hmk (show 1 < Im.mo (.clip nk pk qk rk sk lk) from hl2)
       rw [hno]
       exact⟨_,rfl,vK (by simp [mmO]) ⟨rfl,e11⟩⟩
     rintro σ' H11 ⟨rfl,e11⟩
     refine⟨_,rfl,_,rfl,_,rfl,tz,_,_,_,rfl,rfl,SqL.of (e11 _ _ hz10),hak,?_⟩
     refine⟨_,rfl,zi,xi,_,_,rfl,rfl,SqT.of (e11 _ _ hzi10),h1,_,_,rfl,rfl,some (.int (0+(k:Int))),?_,(sb9.trans sb10).trans (xQ e11),re10.same e11⟩
     rw [hnx]
     rfl
   · have hw:(ms[k]).wd≠"clip":=by simpa using cw
     rcases hK.it k _ hmk with hKk | ⟨_,l0,e,_⟩
     · exact absurd hKk.wd hw
     · rw [e,show Im.mo (.mix l0)=0 from rfl,Int.add_zero] at hnx
       exact⟨_,by rw [hnx];rfl,sb9,re9⟩
 · rintro σ H9 ⟨o1,rfl,sb9,re9⟩
   have tr9:=re8.tr sb9 tT
   obtain⟨m0,hm0⟩:∃ m,ms[0]? =some m:=⟨_,List.getElem?_eq_getElem (show 0 < ms.length by omega)⟩
   have hp:0 < m0.mo:=by
    rcases hK.it 0 _ hm0 with hKk | ⟨e,_⟩
    · have:=hKk.ok.2.2.2;omega
    · cases e
   refine⟨_,rfl,_,rfl,tz,re,ms,_,rlE A',rfl,tr9,hct.it,re9.at,fun H10 e10=>?_⟩
   rw [qLq hct.ok hm0 hp]
   refine⟨_,rfl,qBl (by simp [mmO]) ?_⟩
   refine⟨_,rfl,_,rfl,_,rfl,tz,re,ms,_,rlE A',rfl,tr9.same e10,hct.it,(re9.same e10).at,fun H11 e11=>?_⟩
   have en:((us.length:Nat):Int).toNat=ms.length:=by omega
   rw [en,qM9 hct.ok]
   have:=kk H11
   simpa [mmO] using this
end
structure DF (K:W.Frag)(x:Str)(st:Stmt)(f:Addr)(fd:FuncData):Prop where
 n:W.nsIn K mainGlobals x=some (some (.ref f))
 F:Fun K x x st f fd
theorem df_mk {K:W.Frag}{x:Str}{st:Stmt}{f:Addr}{oc:Value}{od an:Option Addr}{osl:Array (Option Value)}{kV doc pm cdv ct:Value}(n:W.nsIn K mainGlobals x=some (some (.ref f)))(l:K.lookup f=some ⟨oc,od,.func (W.fnOf x x (zy st) (xR st) (qG st) .none kV doc pm an cdv ct),osl⟩)(c:W.codeIn K cdv x=true)(k:W.keepIn K (.ref f)=true):DF K x st f (W.fnOf x x (zy st) (xR st) (qG st) .none kV doc pm an cdv ct):=⟨n,qLc l c k⟩
def GL (K:W.Frag)(x:Str)(v:Option Value):Prop:=W.nsIn K mainGlobals x=some v
theorem gl_mk {K:W.Frag}{x:Str}{v:Option Value}(h:W.nsIn K mainGlobals x=some v):GL K x v:=h
theorem dG {K:W.Frag}{x:Str}{st:Stmt}{f:Addr}{fd:FuncData}{h:Heap}{mg:Str→Option Value}{ps:List Str}(X:K.In h)(G:h.Ns mainGlobals mg)(d:DF K x st f fd)
 (b:∀ (kV doc pm:Value) (an:Option Addr) (cdv ct:Value) (us:List Value),us.length=ps.length→bindArgs (W.fnOf x x (zy st) (xR st) (qG st) .none kV doc pm an cdv ct) ⟨us,[]⟩=pure (ps.zip us):=by
   first | exact(fun _ _ _ _ _ _ us hl=>match us,hl with | [_],_=>rfl) | exact(fun _ _ _ _ _ _ us hl=>match us,hl with | [_,_],_=>rfl) | exact(fun _ _ _ _ _ _ us hl=>match us,hl with | [_,_,_],_=>rfl) | exact(fun _ _ _ _ _ _ us hl=>match us,hl with | [_,_,_,_],_=>rfl) | exact(fun _ _ _ _ _ _ us hl=>match us,hl with | [_,_,_,_,_],_=>rfl)):L3.Def K mg x st ps f fd:=⟨d.F,d.F.binds b,W.mg_of X G d.n⟩
theorem all_mk {l:W.OpenLaw}{w:World}{K:W.Frag}{h:Heap}{mg:Str→Option Value}{fa f0 f1 f2 f3 f4 f5 f6 f7 f8 f9 f10 f11 f12 f13 f14 f15 f16 f17 f18 f19 f20 f21 f22 f23 f24 f25 f26 f27 f28 f29 f30 f31 f32 f33 f34 f35 f36 f37 f38 f39 f40 f41 f42 f43 f44 f45 f46 f47 f48 f49 f50 f51 f52 f53 f54 f55 f56 f57 f58 f59 f60 f61 f62 f63 f64 f65 f66 f67 f68 f69 f70 f71 f72 f73 f74 f75 f76 f77 f78 f79 f80 f81 f82 f83 f84 f85 f86 f87 f88 f89 f90 f91 f92 f93 f94 f95 C0 C1 C2 C3 C4 C5 C6 nNOUGHT nROLLS nLAYS nPUSHES nCHANGES fmShort:Addr}{g0 g1 g2 g3 g4 g5 g6 g7 g8 g9 g10 g11 g12 g13 g14 g15 g16 g17 g18 g19 g20 g21 g22 g23 g24 g25 g26 g27 g28 g29 g30 g31 g32 g33 g34 g35 g36 g37 g38 g39 g40 g41 g42 g43 g44 g45 g46 g47 g48 g49 g50 g51 g52 g53 g54 g55 g56 g57 g58 g59 g60 g61 g62 g63 g64 g65 g66 g67 g68 g69 g70 g71 g72 g73 g74 g75 g76 g77 g78 g79 g80 g81 g82 g83 g84 g85 g86 g87 g88 g89 g90 g91 g92 g93 g94 g95:FuncData}(X:K.In h)(G:h.Ns mainGlobals mg)(hfa:mg "law"=some (.ref fa))
 {odNOUGHT odROLLS odLAYS odPUSHES odCHANGES odmShort anmShort:Option Addr} {slNOUGHT slROLLS slLAYS slPUSHES slCHANGES slmShort:Array (Option Value)} {ocmShort kVmShort dcmShort pmmShort cdmShort ctmShort:Value} {tLETTERS tLONGEST_NAME tMOST_ROOM tNOUGHT_0 tNOUGHT_1 tMOST_BY tROLLS_0 tROLLS_1 tROLLS_2 tLAYS_0 tLAYS_1 tPUSHES_0 tPUSHES_1 tPUSHES_2 tCHANGES_0 tCHANGES_1 tCHANGES_2 tCHANGES_3 tCHANGES_4 tCHANGES_5 tMOST_PICTURES tMOST_TRACKS tMOST_DEEP:Tok} {nnNOUGHT nnROLLS nnLAYS nnPUSHES nnCHANGES:Nat}
 (h0:DF K "is_whole" vZ f0 g0)
 (h1:DF K "common_divisor" jr f1 g1)
 (h2:DF K "is_fraction" x9 f2 g2)
 (h3:DF K "fraction" vx f3 g3)
 (h4:DF K "sum_of" qDc f4 g4)
 (h5:DF K "less_by" qAv f5 g5)
 (h6:DF K "times_of" vz f6 g6)
 (h7:DF K "quotient" vk f7 g7)
 (h8:DF K "is_before" kZ f8 g8)
 (h9:DF K "floor_of" wC f9 g9)
 (h10:DF K "is_name" qAl f10 g10)
 (h11:DF K "has_clip_form" xB f11 g11)
 (h12:DF K "place_at" v9 f12 g12)
 (h13:DF K "picture_at" zh f13 g13)
 (h14:DF K "is_there" vw f14 g14)
 (h15:DF K "check_clip" zV f15 g15)
 (h16:DF K "clip_part" qAd f16 g16)
 (h17:DF K "goes_on" qDo f17 g17)
 (h18:DF K "moments_there" xC f18 g18)
 (h19:DF K "head_room" km f19 g19)
 (h20:DF K "tail_room" kX f20 g20)
 (h21:DF K "is_length" kf f21 g21)
 (h22:DF K "has_nest_form" xA f22 g22)
 (h23:DF K "has_gap_or_mix_form" jQ f23 g23)
 (h24:DF K "moments_of" zf f24 g24)
 (h25:DF K "one_form" vv f25 g25)
 (h26:DF K "length_of" ww f26 g26)
 (h27:DF K "item_at" qAt f27 g27)
 (h28:DF K "kind_at" qAa f28 g28)
 (h29:DF K "is_in_one_form" jw f29 g29)
 (h30:DF K "place_ahead" zE f30 g30)
 (h31:DF K "place_behind" kG f31 g31)
 (h32:DF K "neighbours_at" j8 f32 g32)
 (h33:DF K "clips_at_border" jh f33 g33)
 (h34:DF K "lies_within" vT f34 g34)
 (h35:DF K "item_part" wq f35 g35)
 (h36:DF K "part_of_track" zT f36 g36)
 (h37:DF K "part_ahead" zg f37 g37)
 (h38:DF K "part_behind" xu f38 g38)
 (h39:DF K "mix_spans" ki f39 g39)
 (h40:DF K "taken_at_begin" jt f40 g40)
 (h41:DF K "taken_at_end" xT f41 g41)
 (h42:DF K "most_mix" vi f42 g42)
 (h43:DF K "mixes_fit" kW f43 g43)
 (h44:DF K "check_place" xy f44 g44)
 (h45:DF K "check_by" qB1 f45 g45)
 (h46:DF K "clip_there" wJ f46 g46)
 (h47:DF K "clip_and_sides" zJ f47 g47)
 (h48:DF K "places_named" kJ f48 g48)
 (h49:DF K "has_mix" qDu f49 g49)
 (h50:DF K "check_short" vW f50 g50)
 (h51:DF K "most_slip" qAr f51 g51)
 (h52:DF K "most_roll" qAo f52 g52)
 (h53:DF K "slipped" qEr f53 g53)
 (h54:DF K "with_rolled_ends" xI f54 g54)
 (h55:DF K "table_with" zn f55 g55)
 (h56:DF K "rolled" qGu f56 g56)
 (h57:DF K "stretch_of" zq f57 g57)
 (h58:DF K "laid_by" qEc f58 g58)
 (h59:DF K "laid_on_tied" kF f59 g59)
 (h60:DF K "tracks_changed" zI f60 g60)
 (h61:DF K "check_numbers" j7 f61 g61)
 (h62:DF K "touches_mix" vR f62 g62)
 (h63:DF K "check_mixes" vI f63 g63)
 (h64:DF K "check_change" xW f64 g64)
 (h65:DF K "nest_goes_on" kI f65 g65)
 (h66:DF K "can_heal" qBz f66 g66)
 (h67:DF K "healed" qGz f67 g67)
 (h68:DF K "mixed" qF4 f68 g68)
 (h69:DF K "unmixed" qE1 f69 g69)
 (h70:DF K "relaid" qG4 f70 g70)
 (h71:DF K "changed" qD2 f71 g71)
 (h72:DF K "deed_done" kT f72 g72)
 (h73:DF K "is_number_of_pictures" jI f73 g73)
 (h74:DF K "check_reels" xv f74 g74)
 (h75:DF K "check_clip_of_room" jU f75 g75)
 (h76:DF K "check_item" zZ f76 g76)
 (h77:DF K "check_track" zD f77 g77)
 (h78:DF K "is_tied" wv f78 g78)
 (h79:DF K "check_table" xq f79 g79)
 (h80:DF K "nested_in" ka f80 g80)
 (h81:DF K "rests_upon" zR f81 g81)
 (h82:DF K "check_depth" xx f82 g82)
 (h83:DF K "check_room" zk f83 g83)
 (h84:DF K "_law_cell_at" xS f84 g84)
 (h85:DF K "_law_stream" zB f85 g85)
 (h86:DF K "_law_lowest" xt f86 g86)
 (h87:DF K "_law_clip" xw f87 g87)
 (h88:DF K "_law_reels" zv f88 g88)
 (h89:DF K "_law_fits" kO f89 g89)
 (h90:DF K "_law_most" kh f90 g90)
 (h91:DF K "_law_deed" kn f91 g91)
 (h92:DF K "_law_in_reel" xU f92 g92)
 (h93:DF K "_law_due" v8 f93 g93)
 (h94:DF K "_law_border" xo f94 g94)
 (h95:DF K "law" qL0 f95 g95)
 (xg0:GL K "CutError" (some (.ref C0)))
 (xg1:GL K "NoNumber" (some (.ref C1)))
 (xg2:GL K "NoClip" (some (.ref C2)))
 (xg3:GL K "NoPlace" (some (.ref C3)))
 (xg4:GL K "Mixed" (some (.ref C4)))
 (xg5:GL K "NoRoom" (some (.ref C5)))
 (xg6:GL K "Short" (some (.ref C6)))
 (x_NoClip:L3.OwnX K C2)
 (x_NoPlace:L3.OwnX K C3)
 (x_Mixed:L3.OwnX K C4)
 (x_NoRoom:L3.OwnX K C5)
 (yPP:W.exmOne K (.ref C3) (.ref C3)=some true)
 (ySS:W.exmOne K (.ref C6) (.ref C6)=some true)
 (yRR:W.exmOne K (.ref C5) (.ref C5)=some true)
 (e_Short:L3.ExcK K C6)
 (f_most:W.findIn K (.ref C6) "most"=some none)
 (xz0:GL K "isinstance" none)
 (xz1:GL K "int" none)
 (xz2:GL K "bool" none)
 (xz3:GL K "abs" none)
 (xz4:GL K "tuple" none)
 (xz5:GL K "len" none)
 (xz6:GL K "all" none)
 (xz7:GL K "str" none)
 (xz8:GL K "min" none)
 (xz9:GL K "sum" none)
 (xz10:GL K "enumerate" none)
 (xz11:GL K "max" none)
 (xz12:GL K "list" none)
 (xz13:GL K "any" none)
 (xz14:GL K "range" none)
 (xz15:GL K "dict" none)
 (xcLETTERS:GL K "LETTERS" (some (.str "abcdefghijklmnopqrstuvwxyz" tLETTERS)))
 (xcLONGEST_NAME:GL K "LONGEST_NAME" (some (.int 8 tLONGEST_NAME)))
 (xcMOST_ROOM:GL K "MOST_ROOM" (some (.int 1000000 tMOST_ROOM)))
 (xcNOUGHT:GL K "NOUGHT" (some (.ref nNOUGHT))) (xlNOUGHT:K.lookup nNOUGHT=some ⟨.type "tuple",odNOUGHT,.seq #[.int 0 tNOUGHT_0,.int 1 tNOUGHT_1] nnNOUGHT,slNOUGHT⟩)
 (xcMOST_BY:GL K "MOST_BY" (some (.int 1000000 tMOST_BY)))
 (xcROLLS:GL K "ROLLS" (some (.ref nROLLS))) (xlROLLS:K.lookup nROLLS=some ⟨.type "tuple",odROLLS,.seq #[.str "roll" tROLLS_0,.str "slip" tROLLS_1,.str "slide" tROLLS_2] nnROLLS,slROLLS⟩)
 (xcLAYS:GL K "LAYS" (some (.ref nLAYS))) (xlLAYS:K.lookup nLAYS=some ⟨.type "tuple",odLAYS,.seq #[.str "lay_in" tLAYS_0,.str "lay_over" tLAYS_1] nnLAYS,slLAYS⟩)
 (xcPUSHES:GL K "PUSHES" (some (.ref nPUSHES))) (xlPUSHES:K.lookup nPUSHES=some ⟨.type "tuple",odPUSHES,.seq #[.str "lay_in" tPUSHES_0,.str "open" tPUSHES_1,.str "close" tPUSHES_2] nnPUSHES,slPUSHES⟩)
 (xcCHANGES:GL K "CHANGES" (some (.ref nCHANGES))) (xlCHANGES:K.lookup nCHANGES=some ⟨.type "tuple",odCHANGES,.seq #[.str "cut" tCHANGES_0,.str "lay_in" tCHANGES_1,.str "open" tCHANGES_2,.str "close" tCHANGES_3,.str "lift" tCHANGES_4,.str "lay_over" tCHANGES_5] nnCHANGES,slCHANGES⟩)
 (xcMOST_PICTURES:GL K "MOST_PICTURES" (some (.int 1000000000 tMOST_PICTURES)))
 (xcMOST_TRACKS:GL K "MOST_TRACKS" (some (.int 8 tMOST_TRACKS)))
 (xcMOST_DEEP:GL K "MOST_DEEP" (some (.int 6 tMOST_DEEP)))
 (iaShort:W.findIn K (.ref C6) "__init__"=some (some (.ref fmShort))) (ilShort:K.lookup fmShort=some ⟨ocmShort,odmShort,.func (W.fnOf "__init__" "Short.__init__" (zy kC) (xR kC) (qG kC) .none kVmShort dcmShort pmmShort anmShort cdmShort ctmShort),slmShort⟩) (icShort:W.codeIn K cdmShort "Short.__init__"=true) (ikShort:W.keepIn K (.ref fmShort)=true) (ifShort:W.isFn K (.ref fmShort)=true)
 (ivShort:L3.exOver K C6 C0=true) (ihShort:W.hasDictIn K C6=true) (isShort:W.findIn K (.ref C6) "__setattr__"=some (some (.builtin "object.__setattr__"))) (ixShort:L3.excInitIn K C6 fmShort=true) (itShort:W.takerIn K C6 "most"=some none)
 :∃ fd:FuncData,(∀ (s:Shared) (v:Value),BindsTo s fd ⟨[v],[]⟩ [("_law_script",v)])∧∀ base:Heap,K.In base→base.Ns mainGlobals mg→FnOk l.prog w K mg base CX0 14 fa fd ["_law_script"] (qKh K):=by
 have e:=hfa.symm.trans (W.mg_of X G h95.n)
 obtain rfl:f95=fa:=by cases e;rfl
 obtain⟨_,_,_,_,_,_,_,_,_,rfl,_,_⟩:=h95.F.ex
 have FmShort:=qLc (st:=kC) ilShort icShort ikShort
 have bmShort:=FmShort.binds (ps:=["self","most"]) fun _ _ _ _ _ _ us hl=>match us,hl with | [_,_],_=>rfl
 have T:Tx K mg ⟨f0,_,f1,_,f2,_,f3,_,f4,_,f5,_,f6,_,f7,_,f8,_,f9,_,f10,_,f11,_,f12,_,f13,_,f14,_,f15,_,f16,_,f17,_,f18,_,f19,_,f20,_,f21,_,f22,_,f23,_,f24,_,f25,_,f26,_,f27,_,f28,_,f29,_,f30,_,f31,_,f32,_,f33,_,f34,_,f35,_,f36,_,f37,_,f38,_,f39,_,f40,_,f41,_,f42,_,f43,_,f44,_,f45,_,f46,_,f47,_,f48,_,f49,_,f50,_,f51,_,f52,_,f53,_,f54,_,f55,_,f56,_,f57,_,f58,_,f59,_,f60,_,f61,_,f62,_,f63,_,f64,_,f65,_,f66,_,f67,_,f68,_,f69,_,f70,_,f71,_,f72,_,f73,_,f74,_,f75,_,f76,_,f77,_,f78,_,f79,_,f80,_,f81,_,f82,_,f83,_,f84,_,f85,_,f86,_,f87,_,f88,_,f89,_,f90,_,f91,_,f92,_,f93,_,f94,_,f95,_,C0,C1,C2,C3,C4,C5,C6,tLETTERS,tLONGEST_NAME,tMOST_ROOM,nNOUGHT,tMOST_BY,nROLLS,nLAYS,nPUSHES,nCHANGES,tMOST_PICTURES,tMOST_TRACKS,tMOST_DEEP,fmShort,_⟩:=⟨dG X G h0,dG X G h1,dG X G h2,dG X G h3,dG X G h4,dG X G h5,dG X G h6,dG X G h7,dG X G h8,dG X G h9,dG X G h10,dG X G h11,dG X G h12,dG X G h13,dG X G h14,dG X G h15,dG X G h16,dG X G h17,dG X G h18,dG X G h19,dG X G h20,dG X G h21,dG X G h22,dG X G h23,dG X G h24,dG X G h25,dG X G h26,dG X G h27,dG X G h28,dG X G h29,dG X G h30,dG X G h31,dG X G h32,dG X G h33,dG X G h34,dG X G h35,dG X G h36,dG X G h37,dG X G h38,dG X G h39,dG X G h40,dG X G h41,dG X G h42,dG X G h43,dG X G h44,dG X G h45,dG X G h46,dG X G h47,dG X G h48,dG X G h49,dG X G h50,dG X G h51,dG X G h52,dG X G h53,dG X G h54,dG X G h55,dG X G h56,dG X G h57,dG X G h58,dG X G h59,dG X G h60,dG X G h61,dG X G h62,dG X G h63,dG X G h64,dG X G h65,dG X G h66,dG X G h67,dG X G h68,dG X G h69,dG X G h70,dG X G h71,dG X G h72,dG X G h73,dG X G h74,dG X G h75,dG X G h76,dG X G h77,dG X G h78,dG X G h79,dG X G h80,dG X G h81,dG X G h82,dG X G h83,dG X G h84,dG X G h85,dG X G h86,dG X G h87,dG X G h88,dG X G h89,dG X G h90,dG X G h91,dG X G h92,dG X G h93,dG X G h94,dG X G h95,W.mg_of X G xg0,W.mg_of X G xg1,W.mg_of X G xg2,W.mg_of X G xg3,W.mg_of X G xg4,W.mg_of X G xg5,W.mg_of X G xg6,W.mg_none_of X G xz0,W.mg_none_of X G xz1,W.mg_none_of X G xz2,W.mg_none_of X G xz3,W.mg_none_of X G xz4,W.mg_none_of X G xz5,W.mg_none_of X G xz6,W.mg_none_of X G xz7,W.mg_none_of X G xz8,W.mg_none_of X G xz9,W.mg_none_of X G xz10,W.mg_none_of X G xz11,W.mg_none_of X G xz12,W.mg_none_of X G xz13,W.mg_none_of X G xz14,W.mg_none_of X G xz15,W.mg_of X G xcLETTERS,W.mg_of X G xcLONGEST_NAME,W.mg_of X G xcMOST_ROOM,W.mg_of X G xcNOUGHT,fun H=>.inr ⟨_,_,_,xlNOUGHT,rfl,rfl,by show 2≤sizeLine;decide,.cons ⟨_,rfl⟩ (.cons ⟨_,rfl⟩ (.nil))⟩,W.mg_of X G xcMOST_BY,W.mg_of X G xcROLLS,fun H=>.inr ⟨_,_,_,xlROLLS,rfl,rfl,by show 3≤sizeLine;decide,.cons ⟨_,rfl⟩ (.cons ⟨_,rfl⟩ (.cons ⟨_,rfl⟩ (.nil)))⟩,W.mg_of X G xcLAYS,fun H=>.inr ⟨_,_,_,xlLAYS,rfl,rfl,by show 2≤sizeLine;decide,.cons ⟨_,rfl⟩ (.cons ⟨_,rfl⟩ (.nil))⟩,W.mg_of X G xcPUSHES,fun H=>.inr ⟨_,_,_,xlPUSHES,rfl,rfl,by show 3≤sizeLine;decide,.cons ⟨_,rfl⟩ (.cons ⟨_,rfl⟩ (.cons ⟨_,rfl⟩ (.nil)))⟩,W.mg_of X G xcCHANGES,fun H=>.inr ⟨_,_,_,xlCHANGES,rfl,rfl,by show 6≤sizeLine;decide,.cons ⟨_,rfl⟩ (.cons ⟨_,rfl⟩ (.cons ⟨_,rfl⟩ (.cons ⟨_,rfl⟩ (.cons ⟨_,rfl⟩ (.cons ⟨_,rfl⟩ (.nil))))))⟩,W.mg_of X G xcMOST_PICTURES,W.mg_of X G xcMOST_TRACKS,W.mg_of X G xcMOST_DEEP,x_NoClip,x_NoPlace,x_Mixed,x_NoRoom,yPP,ySS,yRR,e_Short,f_most,FmShort,bmShort,⟨ivShort,ihShort,isShort,ixShort,ifShort⟩,itShort⟩
 exact⟨_,fun s v=>.of_eq rfl,fun base _ _=>qMw T⟩
theorem walk {l:W.OpenLaw}{q:Program}{loose:List Str}{XP:(Str→Option Value)→Heap→Prop}{YP:World→Heap→Prop}{d:DefRec}{K:Params→W.Frag}(hn:l.most=some 63)(hdf:d.params.defaults=[])
 (hY:∀ (w:World) (h:Heap),YP w h→(K w.params).In h)
 (F:∀ (w:World) (mg:Str→Option Value) (fa:Addr) (h:Heap),(K w.params).In h→h.Ns mainGlobals mg→mg d.name=some (.ref fa)→
   ∃ fd:FuncData,(∀ (s:Shared) (u:Value),BindsTo s fd ⟨[u],[]⟩ [("_law_script",u)])∧∀ base:Heap,(K w.params).In base→base.Ns mainGlobals mg→FnOk l.prog w (K w.params) mg base CX0 14 fa fd ["_law_script"] (qKh (K w.params))):
 W.WalkO q loose XP YP l.row.toRowW d [] (fun f vs=>PySem.call f vs):=
 L2.walk_of (n:=63) (k:=14) (x:="_law_script") (CX:=fun _=>CX0) (sp:=fun w=>qKh (K w.params)) hn (by decide) hdf ⟨rfl,by decide,by decide⟩ hY F (fun _ _ a ns hl _ hS=>⟨a,ns,rfl,hS,hl,fun _=>rfl⟩) fun _ _ _ _ _ z=>z
end Lw
namespace PySem.W.Fast
def tw6852314615939328384 := ()
def tw10185962394468605888 := ()
def tw5325897469952918945 := ()
def tw3525117852447220193 := ()
def tw2344872142088059522 := ()
def tw14804677030414812643 := ()
def tw141311252617565923 := ()
def tw6979751924519565764 := ()
def tw5992164490715289190 := ()
def tw117359664004826567 := ()
def tw16667479822626101192 := ()
def tw12484783193062350953 := ()
def tw6681108279061841482 := ()
def tw9814134451999562252 := ()
def tw14320223770049510189 := ()
def tw4832191942077551983 := ()
def tw13132399554572628431 := ()
def tw1806367436779572015 := ()
def tw7402586631559189552 := ()
def tw12687189321350873169 := ()
def tw2691997526689676401 := ()
def tw318092287375842066 := ()
def tw10600563011659916082 := ()
def tw14932264787553508499 := ()
def tw13463867806626471155 := ()
def tw6486376989160150868 := ()
def tw681322250077847414 := ()
def tw10165090434067671096 := ()
def tw8889329885190553625 := ()
def tw18223696708312418586 := ()
def tw4932798548072299482 := ()
def tw10004569042451400572 := ()
def tw15877659571863575741 := ()
def tw5237433986451858622 := ()
def tw5890314809538046174 := ()
def tw2767232036414268015 := ()
def tw17383548211133254423 := ()
def tw11368193451257501172 := ()
def tw15577402039955505201 := ()
def tw5238803879628097143 := ()
def tw14537796268332332516 := ()
def tw1986443027775332287 := ()
def tw15486472464382371962 := ()
def tw14243519375688439885 := ()
def tw2645529575231689937 := ()
def tw17208061264564411584 := ()
def tw3299316524468273696 := ()
def tw12500197699461679350 := ()
def tw784081056932694266 := ()
def tw3573988892019537335 := ()
def tw10844936243274464012 := ()
def tw2922164066870763174 := ()
def tw12101224188077973588 := ()
def tw5511147676885214421 := ()
def tw5325921594645806285 := ()
def tw11473477032401337015 := ()
def tw385028665844725864 := ()
def tw5808419957032701896 := ()
def tw2728340875945222691 := ()
def tw10139803114430034710 := ()
def tw15819898053967956558 := ()
def tw7930385741010904770 := ()
def tw17359505408894412534 := ()
def tw7267318613183913391 := ()
def tw10254908605801367464 := ()
def tw12121427990659291542 := ()
def tw13117732453246609269 := ()
def tw17503003364603275346 := ()
def tw9475360145764516134 := ()
def tw2954411574433231571 := ()
def tw741266664622625978 := ()
def tw7083989114627830487 := ()
def tw11105518424775786580 := ()
def tw13429360541725292026 := ()
def tw2225644017228336710 := ()
def tw16740413532806402024 := ()
def tw17871622742932587347 := ()
def tw1303771098653297860 := ()
def tw8593667422081228376 := ()
def tw756459919901639083 := ()
def tw3215153194955683476 := ()
def tw6501862817515379033 := ()
def tw7575933765959865057 := ()
def tw6337870989689954263 := ()
def tw16819262797512533873 := ()
def tw7704333966245163540 := ()
def tw13366994101248814569 := ()
def tw7355884483668532592 := ()
def tw13625343766891653588 := ()
def tw10936946843013067805 := ()
def tw15694182111689366826 := ()
def tw16583519589193572130 := ()
def tw6044814253817516540 := ()
def tw795846622314910777 := ()
def tw2144189638320597292 := ()
def tw13869905588711953571 := ()
def tw942971819905635776 := ()
def tw6874980544086675141 := ()
def tw6587204153517014481 := ()
def tw3791078541277167432 := ()
def tw13037373085543325222 := ()
def tw6708920337599947706 := ()
def tw9857910788740363045 := ()
def tw13076328012939198689 := ()
def tw13249220551855286230 := ()
def tw3583066183700939224 := ()
def tw18025971764575493403 := ()
def tw1328702610114579672 := ()
def tw15631827665145388402 := ()
def tw11278154063381197026 := ()
def tw17713752996460669796 := ()
def tw12529170311787751811 := ()
def tw2504428443045534652 := ()
def tw641199313337435056 := ()
def tw7126547477309364709 := ()
def tw17121781621399069494 := ()
def tw17527356065601180758 := ()
def tw472756958376119558 := ()
def tw11934302138309503259 := ()
def tw5490566771595756422 := ()
def tw7127329808845007057 := ()
def tw7664437674004141902 := ()
def tw7912535657423775285 := ()
def tw1458801283225601802 := ()
def tw5928982249629450395 := ()
def tw4434521261238456393 := ()
def tw16492072008514362991 := ()
def tw15799204762382402124 := ()
def tw967090852735188033 := ()
def tw13746847330104690218 := ()
def tw5036949751200183549 := ()
def tw13332414858776830061 := ()
def tw15610125496745083337 := ()
def tw18272448254861994164 := ()
def tw5897809579830132882 := ()
def tw17528562785198989390 := ()
def tw911716100382716508 := ()
def tw7870235277294233016 := ()
def tw1425140924056984128 := ()
def tw18111077879520054821 := ()
def tw908828070227298205 := ()
def tw9896223126705692462 := ()
def tw3786507810808119808 := ()
def tw9875686939537216840 := ()
def tw9107853425817563195 := ()
def tw4473334442773563931 := ()
def tw4468478540693565779 := ()
def tw18038841524933022141 := ()
def tw1048783858138641220 := ()
def tw790502800264078791 := ()
def tw8901460413604475428 := ()
def tw11137392165660528605 := ()
def tw8005675427548023840 := ()
def tw14256611952428847072 := ()
def tw5482306326272337599 := ()
def tw6893055598915247025 := ()
def tw8202089613543884465 := ()
def tw16752137943029045006 := ()
def tw1399405412394395250 := ()
def tw16420236123868695701 := ()
def tw5006838945916127093 := ()
def tw12692386948086529957 := ()
def tw14244826964714009839 := ()
def tw23079060579590328 := ()
def tw1195675253808004767 := ()
def tw17828451108932919146 := ()
def tw11155962890797431226 := ()
def tw5811049678612108151 := ()
def tw15299532891990286809 := ()
def tw11742078281508739099 := ()
def tw3715364798427032153 := ()
def tw2520833912970584830 := ()
def tw3564210555270434986 := ()
def tw14633619971513717565 := ()
def tw848924115162985469 := ()
def tw221568661420474478 := ()
def tw427234958480644800 := ()
def tw9051131578671342630 := ()
def tw10405851708796427779 := ()
def tw13670408700990217164 := ()
def tw4272764467347874379 := ()
def tw895426043123221507 := ()
def tw3549531761779880073 := ()
def tw5483238336705380865 := ()
def tw2712705804082691163 := ()
def tw1923285901374648532 := ()
def tw4087354522594930145 := ()
def tw16687266895996585278 := ()
def tw1093052108686130099 := ()
def tw16817576537946864439 := ()
def tw15388690828243964974 := ()
def tw10267676929167613902 := ()
def tw486224796300706518 := ()
def tw5202371517725913229 := ()
def tw12385439951705235255 := ()
def tw1671471933958292028 := ()
def tw7050774216000420903 := ()
def tw9070148295696060111 := ()
def tw12763230034784820126 := ()
def tw12541210680736549665 := ()
def tw3679554075185887439 := ()
def tw2355607120263180672 := ()
def tw3855625207776572253 := ()
def tw15270745703564136650 := ()
def tw8380967314661886372 := ()
def tw919199064163094281 := ()
def tw12492752466867190787 := ()
def tw15398258492272896089 := ()
def tw6221894041295583973 := ()
def tw9858924276044586180 := ()
def tw6431366194616408895 := ()
def tw3032549384429531087 := ()
def tw15001915362336566712 := ()
def tw4467451436020013116 := ()
def tw8991597952162058983 := ()
def tw7274950149625077674 := ()
def tw14215348933315542503 := ()
def tw17254173959537483296 := ()
def tw7017074232796209242 := ()
def tw8612016881683756226 := ()
def tw10966600280000005216 := ()
def tw16038655726031534455 := ()
def tw769670666268529068 := ()
def tw9730783508321298052 := ()
def tw15778939675395979306 := ()
def tw183852725933625402 := ()
def tw9758161404886501437 := ()
def tw701094792326463434 := ()
def tw2261729428558675054 := ()
def tw17710661689132453879 := ()
def tw702925560514968205 := ()
def tw1175740028763642553 := ()
def tw6627918649679560762 := ()
def tw8816306760228765339 := ()
end PySem.W.Fast
open PySem PySem.W PyProof.Rows
set_option maxRecDepth 100000 in
set_option maxHeartbeats 0 in
theorem PySem.Challenge.cw_reelcut_k33_most_of_a_mix_holds : PySem.Challenge.rw_reelcut_k33_most_of_a_mix.Holds := by
 w_on;o_law;k_head;(case hw=>w_witness2)
 k_fill
 refine Lw.walk (l:=PySem.Challenge.rw_reelcut_k33_most_of_a_mix) rfl rfl (fun w h Y=>PySem.W.kIn_of Y) ?F
 case F=>
  intro w mg fa h KX G hmg
  refine' Lw.all_mk KX G hmg (Lw.df_mk ?a0 ?l0 ?c0 ?k0) (Lw.df_mk ?a1 ?l1 ?c1 ?k1) (Lw.df_mk ?a2 ?l2 ?c2 ?k2) (Lw.df_mk ?a3 ?l3 ?c3 ?k3) (Lw.df_mk ?a4 ?l4 ?c4 ?k4) (Lw.df_mk ?a5 ?l5 ?c5 ?k5) (Lw.df_mk ?a6 ?l6 ?c6 ?k6) (Lw.df_mk ?a7 ?l7 ?c7 ?k7) (Lw.df_mk ?a8 ?l8 ?c8 ?k8) (Lw.df_mk ?a9 ?l9 ?c9 ?k9) (Lw.df_mk ?a10 ?l10 ?c10 ?k10) (Lw.df_mk ?a11 ?l11 ?c11 ?k11) (Lw.df_mk ?a12 ?l12 ?c12 ?k12) (Lw.df_mk ?a13 ?l13 ?c13 ?k13) (Lw.df_mk ?a14 ?l14 ?c14 ?k14) (Lw.df_mk ?a15 ?l15 ?c15 ?k15) (Lw.df_mk ?a16 ?l16 ?c16 ?k16) (Lw.df_mk ?a17 ?l17 ?c17 ?k17) (Lw.df_mk ?a18 ?l18 ?c18 ?k18) (Lw.df_mk ?a19 ?l19 ?c19 ?k19) (Lw.df_mk ?a20 ?l20 ?c20 ?k20) (Lw.df_mk ?a21 ?l21 ?c21 ?k21) (Lw.df_mk ?a22 ?l22 ?c22 ?k22) (Lw.df_mk ?a23 ?l23 ?c23 ?k23) (Lw.df_mk ?a24 ?l24 ?c24 ?k24) (Lw.df_mk ?a25 ?l25 ?c25 ?k25) (Lw.df_mk ?a26 ?l26 ?c26 ?k26) (Lw.df_mk ?a27 ?l27 ?c27 ?k27) (Lw.df_mk ?a28 ?l28 ?c28 ?k28) (Lw.df_mk ?a29 ?l29 ?c29 ?k29) (Lw.df_mk ?a30 ?l30 ?c30 ?k30) (Lw.df_mk ?a31 ?l31 ?c31 ?k31) (Lw.df_mk ?a32 ?l32 ?c32 ?k32) (Lw.df_mk ?a33 ?l33 ?c33 ?k33) (Lw.df_mk ?a34 ?l34 ?c34 ?k34) (Lw.df_mk ?a35 ?l35 ?c35 ?k35) (Lw.df_mk ?a36 ?l36 ?c36 ?k36) (Lw.df_mk ?a37 ?l37 ?c37 ?k37) (Lw.df_mk ?a38 ?l38 ?c38 ?k38) (Lw.df_mk ?a39 ?l39 ?c39 ?k39) (Lw.df_mk ?a40 ?l40 ?c40 ?k40) (Lw.df_mk ?a41 ?l41 ?c41 ?k41) (Lw.df_mk ?a42 ?l42 ?c42 ?k42) (Lw.df_mk ?a43 ?l43 ?c43 ?k43) (Lw.df_mk ?a44 ?l44 ?c44 ?k44) (Lw.df_mk ?a45 ?l45 ?c45 ?k45) (Lw.df_mk ?a46 ?l46 ?c46 ?k46) (Lw.df_mk ?a47 ?l47 ?c47 ?k47) (Lw.df_mk ?a48 ?l48 ?c48 ?k48) (Lw.df_mk ?a49 ?l49 ?c49 ?k49) (Lw.df_mk ?a50 ?l50 ?c50 ?k50) (Lw.df_mk ?a51 ?l51 ?c51 ?k51) (Lw.df_mk ?a52 ?l52 ?c52 ?k52) (Lw.df_mk ?a53 ?l53 ?c53 ?k53) (Lw.df_mk ?a54 ?l54 ?c54 ?k54) (Lw.df_mk ?a55 ?l55 ?c55 ?k55) (Lw.df_mk ?a56 ?l56 ?c56 ?k56) (Lw.df_mk ?a57 ?l57 ?c57 ?k57) (Lw.df_mk ?a58 ?l58 ?c58 ?k58) (Lw.df_mk ?a59 ?l59 ?c59 ?k59) (Lw.df_mk ?a60 ?l60 ?c60 ?k60) (Lw.df_mk ?a61 ?l61 ?c61 ?k61) (Lw.df_mk ?a62 ?l62 ?c62 ?k62) (Lw.df_mk ?a63 ?l63 ?c63 ?k63) (Lw.df_mk ?a64 ?l64 ?c64 ?k64) (Lw.df_mk ?a65 ?l65 ?c65 ?k65) (Lw.df_mk ?a66 ?l66 ?c66 ?k66) (Lw.df_mk ?a67 ?l67 ?c67 ?k67) (Lw.df_mk ?a68 ?l68 ?c68 ?k68) (Lw.df_mk ?a69 ?l69 ?c69 ?k69) (Lw.df_mk ?a70 ?l70 ?c70 ?k70) (Lw.df_mk ?a71 ?l71 ?c71 ?k71) (Lw.df_mk ?a72 ?l72 ?c72 ?k72) (Lw.df_mk ?a73 ?l73 ?c73 ?k73) (Lw.df_mk ?a74 ?l74 ?c74 ?k74) (Lw.df_mk ?a75 ?l75 ?c75 ?k75) (Lw.df_mk ?a76 ?l76 ?c76 ?k76) (Lw.df_mk ?a77 ?l77 ?c77 ?k77) (Lw.df_mk ?a78 ?l78 ?c78 ?k78) (Lw.df_mk ?a79 ?l79 ?c79 ?k79) (Lw.df_mk ?a80 ?l80 ?c80 ?k80) (Lw.df_mk ?a81 ?l81 ?c81 ?k81) (Lw.df_mk ?a82 ?l82 ?c82 ?k82) (Lw.df_mk ?a83 ?l83 ?c83 ?k83) (Lw.df_mk ?a84 ?l84 ?c84 ?k84) (Lw.df_mk ?a85 ?l85 ?c85 ?k85) (Lw.df_mk ?a86 ?l86 ?c86 ?k86) (Lw.df_mk ?a87 ?l87 ?c87 ?k87) (Lw.df_mk ?a88 ?l88 ?c88 ?k88) (Lw.df_mk ?a89 ?l89 ?c89 ?k89) (Lw.df_mk ?a90 ?l90 ?c90 ?k90) (Lw.df_mk ?a91 ?l91 ?c91 ?k91) (Lw.df_mk ?a92 ?l92 ?c92 ?k92) (Lw.df_mk ?a93 ?l93 ?c93 ?k93) (Lw.df_mk ?a94 ?l94 ?c94 ?k94) (Lw.df_mk ?a95 ?l95 ?c95 ?k95) (Lw.gl_mk ?xg0) (Lw.gl_mk ?xg1) (Lw.gl_mk ?xg2) (Lw.gl_mk ?xg3) (Lw.gl_mk ?xg4) (Lw.gl_mk ?xg5) (Lw.gl_mk ?xg6) ?x_NoClip ?x_NoPlace ?x_Mixed ?x_NoRoom ?yPP ?ySS ?yRR ?e_Short ?f_most (Lw.gl_mk ?xz0) (Lw.gl_mk ?xz1) (Lw.gl_mk ?xz2) (Lw.gl_mk ?xz3) (Lw.gl_mk ?xz4) (Lw.gl_mk ?xz5) (Lw.gl_mk ?xz6) (Lw.gl_mk ?xz7) (Lw.gl_mk ?xz8) (Lw.gl_mk ?xz9) (Lw.gl_mk ?xz10) (Lw.gl_mk ?xz11) (Lw.gl_mk ?xz12) (Lw.gl_mk ?xz13) (Lw.gl_mk ?xz14) (Lw.gl_mk ?xz15) (Lw.gl_mk ?xcLETTERS) (Lw.gl_mk ?xcLONGEST_NAME) (Lw.gl_mk ?xcMOST_ROOM) (Lw.gl_mk ?xcNOUGHT) ?xlNOUGHT (Lw.gl_mk ?xcMOST_BY) (Lw.gl_mk ?xcROLLS) ?xlROLLS (Lw.gl_mk ?xcLAYS) ?xlLAYS (Lw.gl_mk ?xcPUSHES) ?xlPUSHES (Lw.gl_mk ?xcCHANGES) ?xlCHANGES (Lw.gl_mk ?xcMOST_PICTURES) (Lw.gl_mk ?xcMOST_TRACKS) (Lw.gl_mk ?xcMOST_DEEP) ?iaShort ?ilShort ?icShort ?ikShort ?ifShort ?ivShort ?ihShort ?isShort ?ixShort ?itShort
  (case a0 | l0 | c0 | k0 | a1 | l1 | c1 | k1 | a2 | l2 | c2 | k2 | a3 | l3 | c3 | k3 | a4 | l4 | c4 | k4 | a5 | l5 | c5 | k5 | a6 | l6 | c6 | k6 | a7 | l7 | c7 | k7 | a8 | l8 | c8 | k8 | a9 | l9 | c9 | k9 | a10 | l10 | c10 | k10 | a11 | l11 | c11 | k11 | a12 | l12 | c12 | k12 | a13 | l13 | c13 | k13 | a14 | l14 | c14 | k14 | a15 | l15 | c15 | k15 | a16 | l16 | c16 | k16 | a17 | l17 | c17 | k17 | a18 | l18 | c18 | k18 | a19 | l19 | c19 | k19 | a20 | l20 | c20 | k20 | a21 | l21 | c21 | k21 | a22 | l22 | c22 | k22 | a23 | l23 | c23 | k23 | a24 | l24 | c24 | k24 | a25 | l25 | c25 | k25 | a26 | l26 | c26 | k26 | a27 | l27 | c27 | k27 | a28 | l28 | c28 | k28 | a29 | l29 | c29 | k29 | a30 | l30 | c30 | k30 | a31 | l31 | c31 | k31 | a32 | l32 | c32 | k32 | a33 | l33 | c33 | k33 | a34 | l34 | c34 | k34 | a35 | l35 | c35 | k35 | a36 | l36 | c36 | k36 | a37 | l37 | c37 | k37 | a38 | l38 | c38 | k38 | a39 | l39 | c39 | k39 | a40 | l40 | c40 | k40 | a41 | l41 | c41 | k41 | a42 | l42 | c42 | k42 | a43 | l43 | c43 | k43 | a44 | l44 | c44 | k44 | a45 | l45 | c45 | k45 | a46 | l46 | c46 | k46 | a47 | l47 | c47 | k47 | a48 | l48 | c48 | k48 | a49 | l49 | c49 | k49 | a50 | l50 | c50 | k50 | a51 | l51 | c51 | k51 | a52 | l52 | c52 | k52 | a53 | l53 | c53 | k53 | a54 | l54 | c54 | k54 | a55 | l55 | c55 | k55 | a56 | l56 | c56 | k56 | a57 | l57 | c57 | k57 | a58 | l58 | c58 | k58 | a59 | l59 | c59 | k59 | a60 | l60 | c60 | k60 | a61 | l61 | c61 | k61 | a62 | l62 | c62 | k62 | a63 | l63 | c63 | k63 | a64 | l64 | c64 | k64 | a65 | l65 | c65 | k65 | a66 | l66 | c66 | k66 | a67 | l67 | c67 | k67 | a68 | l68 | c68 | k68 | a69 | l69 | c69 | k69 | a70 | l70 | c70 | k70 | a71 | l71 | c71 | k71 | a72 | l72 | c72 | k72 | a73 | l73 | c73 | k73 | a74 | l74 | c74 | k74 | a75 | l75 | c75 | k75 | a76 | l76 | c76 | k76 | a77 | l77 | c77 | k77 | a78 | l78 | c78 | k78 | a79 | l79 | c79 | k79 | a80 | l80 | c80 | k80 | a81 | l81 | c81 | k81 | a82 | l82 | c82 | k82 | a83 | l83 | c83 | k83 | a84 | l84 | c84 | k84 | a85 | l85 | c85 | k85 | a86 | l86 | c86 | k86 | a87 | l87 | c87 | k87 | a88 | l88 | c88 | k88 | a89 | l89 | c89 | k89 | a90 | l90 | c90 | k90 | a91 | l91 | c91 | k91 | a92 | l92 | c92 | k92 | a93 | l93 | c93 | k93 | a94 | l94 | c94 | k94 | a95 | l95 | c95 | k95 | xg0 | xg1 | xg2 | xg3 | xg4 | xg5 | xg6=>k_is)
  (case x_NoClip=>(unfold L3.OwnX;kernel_rfl))
  (case x_NoPlace=>(unfold L3.OwnX;kernel_rfl))
  (case x_Mixed=>(unfold L3.OwnX;kernel_rfl))
  (case x_NoRoom=>(unfold L3.OwnX;kernel_rfl))
  (case yPP=>kernel_rfl)
  (case ySS=>kernel_rfl)
  (case yRR=>kernel_rfl)
  (case e_Short=>exact⟨by k_is,by k_is,by k_is,by k_is,by k_is,by k_is,by k_is⟩)
  (case f_most | xz0 | xz1 | xz2 | xz3 | xz4 | xz5 | xz6 | xz7 | xz8 | xz9 | xz10 | xz11 | xz12 | xz13 | xz14 | xz15 | xcLETTERS | xcLONGEST_NAME | xcMOST_ROOM | xcNOUGHT | xlNOUGHT | xcMOST_BY | xcROLLS | xlROLLS | xcLAYS | xlLAYS | xcPUSHES | xlPUSHES | xcCHANGES | xlCHANGES | xcMOST_PICTURES | xcMOST_TRACKS | xcMOST_DEEP | iaShort | ilShort | icShort | ikShort | ifShort=>k_is)
  (case ivShort=>(unfold L3.exOver;kernel_rfl))
  (case ihShort | isShort=>k_is)
  (case ixShort=>(unfold L3.excInitIn;kernel_rfl))
  (case itShort=>k_is)

import PyProof.Rows.All
import Wide.All
import OpenK.AllK
import Wide.FinOn
import Lean
import PyProof.EqAt
import PyProof.EqKinds
import PyProof.TupleCall
import PyProof.StrLawsTight
import KE.KIntText
import KE.KxPart
import PySem.Challenge.RW_reelcut_k45_cut_and_healed
set_option maxHeartbeats 4000000
set_option Elab.async false
set_option linter.all false
set_option maxRecDepth 100000
namespace L2
open PySem PySem.Spec PyProof.Rows
abbrev Key:=Sum Int Str
def qK4:Key→Value→Bool
 | .inl k,v=>Value.isInt k v
 | .inr x,v=>Value.isStrOf x v
def qWf (w:World):Key→Int
 | .inl k=>hashInt k
 | .inr x=>hashStr w x
theorem ja:∀ {k:Key} {v:Value},qK4 k v=true→(∃ i t,k=Sum.inl i∧v=Value.int i t)∨(∃ x t,k=Sum.inr x∧v=Value.str x t)
 | .inl i,v,h=>by
  obtain⟨t,e⟩:=Value.isInt_shape (k:=i) (v:=v) h
  exact .inl ⟨i,t,rfl,e⟩
 | .inr x,v,h=>by
  obtain⟨t,e⟩:=Value.isStrOf_shape (x:=x) (v:=v) h
  exact .inr ⟨x,t,rfl,e⟩
theorem qNw (i:Int)(t:Tok):qK4 (.inl i) (.int i t)=true:=by simp [qK4,Value.isInt]
theorem qNh (x:Str)(t:Tok):qK4 (.inr x) (.str x t)=true:=by simp [qK4,Value.isStrOf]
theorem qTl (a b:Int):decide ((Sum.inl a:Key)=Sum.inl b)=(a == b):=by
 by_cases e:a=b
 · subst e;simp
 · have h:¬ (Sum.inl a:Key)=Sum.inl b:=fun q=>e (Sum.inl.inj q)
   rw [decide_eq_false h]
   exact(beq_eq_false_iff_ne.mpr e).symm
theorem qTp (a b:Str):decide ((Sum.inr a:Key)=Sum.inr b)=decide (a=b):=by
 by_cases e:a=b
 · subst e;simp
 · have h:¬ (Sum.inr a:Key)=Sum.inr b:=fun q=>e (Sum.inr.inj q)
   rw [decide_eq_false h,decide_eq_false e]
theorem qTk (a:Int)(b:Str):decide ((Sum.inl a:Key)=Sum.inr b)=false:=decide_eq_false (fun q=>nomatch q)
theorem qSt (a:Str)(b:Int):decide ((Sum.inr a:Key)=Sum.inl b)=false:=decide_eq_false (fun q=>nomatch q)
def xJ (prog:Program)(w:World):PySem.KeyKind prog w Key where
 is:=qK4
 hash:=qWf w
 inj:=fun v a b ha hb=>by
  rcases ja ha with ⟨i,t,rfl,rfl⟩ | ⟨x,t,rfl,rfl⟩
  · rcases ja hb with ⟨j,u,rfl,e⟩ | ⟨y,u,rfl,e⟩
    · injection e with e1 _;rw [e1]
    · exact nomatch e
  · rcases ja hb with ⟨j,u,rfl,e⟩ | ⟨y,u,rfl,e⟩
    · exact nomatch e
    · injection e with e1 _;rw [e1]
 byValue:=fun k v h=>by
  rcases ja h with ⟨i,t,rfl,rfl⟩ | ⟨x,t,rfl,rfl⟩ <;> rfl
 pyHash:=fun hv h=>by
  rcases ja hv with ⟨i,t,rfl,rfl⟩ | ⟨x,t,rfl,rfl⟩
  · exact wpAny_pyHash_int h
  · exact wpAny_pyHash_str h
 eqBool:=fun hu hv h=>by
  rcases ja hu with ⟨i,t,rfl,rfl⟩ | ⟨x,t,rfl,rfl⟩
  · rcases ja hv with ⟨j,u,rfl,rfl⟩ | ⟨y,u,rfl,rfl⟩
    · rw [qTl] at h;exact wpAny_eqBool_int h
    · rw [qTk] at h;exact SeqAt.EqAt.int_str i t y u _ _ _ _ h
  · rcases ja hv with ⟨j,u,rfl,rfl⟩ | ⟨y,u,rfl,rfl⟩
    · rw [qSt] at h;exact SeqAt.EqAt.str_int x t j u _ _ _ _ h
    · rw [qTp] at h;exact wpAny_eqBool_str h
 «strs»:=fun k x t v h=>by
  rcases ja h with ⟨i,u,rfl,e⟩ | ⟨y,u,rfl,e⟩
  · exact nomatch e
  · injection e with e1 _
    subst e1
    cases v <;> rfl
theorem qJp (prog:Program)(w:World)(i:Int)(t:Tok):(xJ prog w).is (.inl i) (.int i t)=true:=qNw i t
theorem qIu (prog:Program)(w:World)(x:Str)(t:Tok):(xJ prog w).is (.inr x) (.str x t)=true:=qNh x t
end L2
namespace L2
open PySem PySem.Spec PyProof.Rows
inductive V where
 | non | bl (b:Bool) | int (i:Int) | str (x:Str) | byt (b:Array UInt8) | flt (b:UInt64) | ref (a:Addr) | ty (n:String)
 deriving DecidableEq
def RelV:V→Value→Prop
 | .non,u=>u=Value.none
 | .bl b,u=>u=Value.bool b
 | .int i,u=>∃ t,u=Value.int i t
 | .str x,u=>∃ t,u=Value.str x t
 | .byt b,u=>∃ t,u=Value.bytes b t
 | .flt b,u=>∃ t,u=Value.float b t
 | .ref a,u=>u=Value.ref a
 | .ty n,u=>u=Value.type n
abbrev Vals:List V→List Value→Prop:=Paired RelV
theorem Vals.length {xs:List V}{us:List Value}(r:Vals xs us):xs.length=us.length:=Paired.length r
theorem Vals.get:∀ {xs:List V} {us:List Value} {i:Nat} {x:V},Vals xs us→xs[i]? =some x→∃ u,us[i]? =some u∧RelV x u
 | _,_,_,_,.nil,e=>by simp at e
 | _,_,0,_,.cons r _,e=>by simp at e;subst e;exact⟨_,rfl,r⟩
 | _,_,i+1,x,.cons _ t,e=>by
  obtain⟨u,h1,h2⟩:=Vals.get (i:=i) (x:=x) t (by simpa using e)
  exact⟨u,by simpa using h1,h2⟩
theorem Vals.set {x:V}{u:Value}(r:RelV x u):∀ {xs:List V} {us:List Value} (i:Nat),Vals xs us→Vals (xs.set i x) (us.set i u)
 | _,_,_,.nil=>.nil
 | _,_,0,.cons _ t=>.cons r t
 | _,_,i+1,.cons q t=>.cons q (Vals.set r i t)
theorem Vals.append:∀ {xs ys:List V} {us ws:List Value},Vals xs us→Vals ys ws→Vals (xs++ys) (us++ws)
 | _,_,_,_,.nil,s=>s
 | _,_,_,_,.cons r t,s=>.cons r (Vals.append t s)
theorem Vals.take:∀ {xs:List V} {us:List Value} (n:Nat),Vals xs us→Vals (xs.take n) (us.take n)
 | _,_,0,_=>.nil
 | _,_,_+1,.nil=>.nil
 | _,_,n+1,.cons r t=>.cons r (Vals.take n t)
theorem Vals.drop:∀ {xs:List V} {us:List Value} (n:Nat),Vals xs us→Vals (xs.drop n) (us.drop n)
 | _,_,0,r=>r
 | _,_,_+1,.nil=>.nil
 | _,_,n+1,.cons _ t=>Vals.drop n t
def RelO:Option V→Option Value→Prop
 | some v,some u=>RelV v u
 | none,none=>True
 | _,_=>False
def KV {κ:Type}:List (κ × V)→List (κ × Value)→Prop:=Paired fun(p:κ × V) (q:κ × Value)=>p.1=q.1∧RelV p.2 q.2
def kV:Key→V
 | .inl i=>.int i
 | .inr x=>.str x
inductive HO where
 | lst (xs:List V)
 | tup (xs:List V)
 | dK (kvs:List (Key × V)) | dT (kvs:List (List Key × V))
 | set (S:Int→Bool) (n:Nat)
 | ins (C dx:Addr) (fs:List (Str × V))
 | own (x:Addr)
 | xd (fs:List (Str × V))
 | met (f x:Addr)
 | rng (lo hi:Int)
 | frz (o:Obj) (u:HO)
 | tbl (ps:Array Value)
 | ext (φ:Heap→Prop)
abbrev Hp:=Addr→Option HO
def upd (H:Hp)(a:Addr)(o:HO):Hp:=fun b=>if b=a then some o else H b
theorem qD {H:Hp}{a:Addr}{o:HO}:upd H a o a=some o:=by unfold upd;rw [if_pos rfl]
theorem qV {H:Hp}{a b:Addr}{o:HO}(h:b≠a):upd H a o b=H b:=by unfold upd;rw [if_neg h]
theorem qJv {H:Hp}{a:Addr}{o u:HO}:upd (upd H a o) a u=upd H a u:=by
 funext b;unfold upd;split <;> rfl
theorem qK5 {H:Hp}{a b:Addr}{o u:HO}(h:H a=some o)(h':H b=some u)(d:o≠u):a≠b:=by
 intro e;subst e;rw [h] at h';exact d (Option.some.inj h')
theorem qS {H:Hp}{a b:Addr}{o:HO}(h:H a=some o)(h':H b=none):a≠b:=by
 intro e;subst e;rw [h] at h';cases h'
section
variable (P : Program) (w : World)
def ObjOk (H:Hp)(h:Heap)(a:Addr):HO→Prop
 | .lst xs=>xs.length≤sizeLine∧∃ (its:List Value) (n:Nat),Vals xs its∧h.get? a=some {cls:=.type "list",data:=.seq its.toArray n}
 | .tup xs=>xs.length≤sizeLine∧∃ its:List Value,Vals xs its∧IsTup h a its.toArray
 | .dK kvs=>kvs.length≤sizeLine∧(a == sysModules)=false∧∃ vs,KV kvs vs∧h.DictOf (xJ P w) a vs
 | .dT kvs=>kvs.length≤sizeLine∧(a == sysModules)=false∧∃ xs:List (List Key × Addr × Value),
  Paired (fun(p:List Key × V) (q:List Key × Addr × Value)=>p.1=q.1∧H q.2.1=some (.tup (p.1.map kV))∧RelV p.2 q.2.2) kvs xs∧
  ∃ o es ep,h.get? a=some o∧o.ExactDict∧o.data= .dict es ep∧es.toList=xs.map (entryOfKey (tupleKind (xJ P w)))∧(xs.map (·.1)).Nodup
 | .set S n=>h.SetOf (intKind P w) a S n
 | .ins C dx fs=>H dx=some (.own a)∧fs.length≤1000∧dx≠a∧h.get? a=some (PySem.W.instObj C dx)∧
  ∃ mA,h.Ns1 dx mA∧(∀ f,RelO (fs.lookup f) (mA f))∧PySem.Within mA (fs.map (·.1))
 | .own _=>∃ o,h.get? a=some o
 | .xd fs=>∃ mA,h.Ns1 a mA∧∀ f,RelO (fs.lookup f) (mA f)
 | .rng lo hi=>∃ t u v,h.get? a=some {cls:=.type "range",data:=.fields #[.int lo t,.int hi u,.int 1 v]}
 | .frz o u=>h.get? a=some o∧ObjOk H h a u
 | .tbl ps=>h.get? a=some {cls:=.none,data:=.fields ps}
 | .met f x=>h.get? a=some (PySem.W.methodObj (.ref f) (.ref x))
 | .ext φ=>φ h∧(∃ o,h.get? a=some o)∧∀ h1 h2:Heap,φ h1→(∀ o,h1.get? a=some o→h2.get? a=some o)→φ h2
def HOk (H:Hp)(h:Heap):Prop:=∀ a o,H a=some o→ObjOk P w H h a o
end
section
variable {P : Program} {w : World} {H H' : Hp} {h h' : Heap} {a : Addr} {o : HO}
theorem ObjOk.lt (x:ObjOk P w H h a o):a < h.objs.size:=by
 cases o with
 | lst xs=>obtain⟨_,_,_,_,e⟩:=x;exact Heap.lt_size e
 | tup xs=>obtain⟨_,_,_,p⟩:=x;exact p.lt
 | dK kvs=>obtain⟨_,_,_,_,o,_,_,e,_⟩:=x;exact Heap.lt_size e
 | dT kvs=>obtain⟨_,_,_,_,o,_,_,e,_⟩:=x;exact Heap.lt_size e
 | set S n=>obtain⟨o,_,_,_,e,_⟩:=x;exact Heap.lt_size e
 | ins C dx fs=>obtain⟨_,_,_,e,_⟩:=x;exact Heap.lt_size e
 | own y=>obtain⟨_,e⟩:=x;exact Heap.lt_size e
 | xd fs=>obtain⟨_,⟨_,_,_,e,_⟩,_⟩:=x;exact Heap.lt_size e
 | rng lo hi=>obtain⟨_,_,_,e⟩:=x;exact Heap.lt_size e
 | frz ob u=>obtain⟨e,_⟩:=x;exact Heap.lt_size e
 | tbl ps=>exact Heap.lt_size (show h.get? a=some _ from x)
 | met f y=>exact Heap.lt_size (show h.get? a=some _ from x)
 | ext φ=>obtain⟨_,⟨_,e⟩,_⟩:=x;exact Heap.lt_size e
theorem Paired.mapP {α β:Type}{F G:α→β→Prop}:∀ {l₁:List α} {l₂:List β},Paired F l₁ l₂→(∀ a b,F a b→G a b)→Paired G l₁ l₂
 | _,_,.nil,_=>.nil
 | _,_,.cons r t,f=>.cons (f _ _ r) (Paired.mapP t f)
theorem ObjOk.stay (x:ObjOk P w H h a o)(k:∀ b u,(b=a∨H b=some (.own a))→h.get? b=some u→h'.get? b=some u)
 (ho:∀ b,H b=some (.own a)→H' b=some (.own a)) (ht:∀ b xs,H b=some (.tup xs)→H' b=some (.tup xs)):ObjOk P w H' h' a o:=by
 induction o with
 | lst xs=>obtain⟨z,its,n,r,e⟩:=x;exact⟨z,its,n,r,k _ _ (.inl rfl) e⟩
 | tup xs=>obtain⟨z,its,r,ob,e,c⟩:=x;exact⟨z,its,r,ob,k _ _ (.inl rfl) e,c⟩
 | dK kvs=>obtain⟨z,y,vs,r,ob,es,ep,e,c⟩:=x;exact⟨z,y,vs,r,ob,es,ep,k _ _ (.inl rfl) e,c⟩
 | dT kvs=>
  obtain⟨z,y,xs,r,ob,es,ep,e,c⟩:=x
  exact⟨z,y,xs,Paired.mapP r fun p q z=>⟨z.1,ht _ _ z.2.1,z.2.2⟩,ob,es,ep,k _ _ (.inl rfl) e,c⟩
 | set S n=>obtain⟨ob,es,ep,t,e,c⟩:=x;exact⟨ob,es,ep,t,k _ _ (.inl rfl) e,c⟩
 | ins C dx fs=>
  obtain⟨d,z,ne,e,mA,⟨od,es,ep,e2,c⟩,r⟩:=x
  exact⟨ho _ d,z,ne,k _ _ (.inl rfl) e,mA,⟨od,es,ep,k _ _ (.inr d) e2,c⟩,r⟩
 | own y=>obtain⟨ob,e⟩:=x;exact⟨ob,k _ _ (.inl rfl) e⟩
 | xd fs=>obtain⟨mA,⟨od,es,ep,e,c⟩,r⟩:=x;exact⟨mA,⟨od,es,ep,k _ _ (.inl rfl) e,c⟩,r⟩
 | rng lo hi=>obtain⟨t,u,v,e⟩:=x;exact⟨t,u,v,k _ _ (.inl rfl) e⟩
 | frz ob u ih=>obtain⟨e,q⟩:=x;exact⟨k _ _ (.inl rfl) e,ih q⟩
 | tbl ps=>
  have e:h.get? a=some {cls:=.none,data:=.fields ps}:=x
  show h'.get? a=some {cls:=.none,data:=.fields ps}
  exact k a _ (.inl rfl) e
 | met f y=>
  have e:h.get? a=some (PySem.W.methodObj (.ref f) (.ref y)):=x
  show h'.get? a=some (PySem.W.methodObj (.ref f) (.ref y))
  exact k a _ (.inl rfl) e
 | ext φ=>obtain⟨p,⟨o,e⟩,st⟩:=x;exact⟨st _ _ p fun o q=>k _ _ (.inl rfl) q,⟨o,k _ _ (.inl rfl) e⟩,st⟩
theorem HOk.lt (x:HOk P w H h)(e:H a=some o):a < h.objs.size:=(x a o e).lt
theorem HOk.fresh (x:HOk P w H h)(e:h.objs.size≤a):H a=none:=by
 cases q:H a with
 | none=>rfl
 | some u=>exact absurd (Nat.lt_of_lt_of_le (x.lt q) e) (Nat.lt_irrefl _)
theorem HOk.kept (x:HOk P w H h)(k:∀ b u,h.get? b=some u→h'.get? b=some u):HOk P w H h':=fun a o e=>
 (x a o e).stay (fun b u _ q=>k b u q) (fun _ q=>q) fun _ _ q=>q
theorem HOk.laid (x:HOk P w H h)(k:∀ b u,h.get? b=some u→h'.get? b=some u)(hp:h.objs.size≤a)(new:ObjOk P w (upd H a o) h' a o):HOk P w (upd H a o) h':=fun b u e=>by
 have hn:=x.fresh hp
 by_cases hb:b=a
 · subst hb;rw [qD] at e;cases e;exact new
 · rw [qV hb] at e
   exact(x b u e).stay (fun c v _ q=>k c v q) (fun c q=>by rw [qV (qS q hn)];exact q) fun c xs q=>by rw [qV (qS q hn)];exact q
end
def Rd (H:Hp)(a:Addr)(u:HO):Prop:=H a=some u∨∃ o,H a=some (.frz o u)
theorem Rd.ok {P:Program}{w:World}{H:Hp}{h:Heap}{a:Addr}{u:HO}(r:Rd H a u)(x:HOk P w H h):ObjOk P w H h a u:=by
 rcases r with r | ⟨o,r⟩
 · exact x a u r
 · obtain⟨_,q⟩:=x a _ r
   exact q
def Mut:Option HO→Prop
 | some (.lst _)=>True
 | some (.dK _)=>True
 | some (.dT _)=>True
 | some (.set _ _)=>True
 | some (.ins _ _ _)=>True
 | some (.ext _)=>True
 | _=>False
section
variable {P : Program} {w : World} {H : Hp} {h h' : Heap} {x e : Addr} {o' : HO}
theorem HOk.write (ok:HOk P w H h)(mu:Mut (H x))(he:e=x∨H e=some (.own x))(k:∀ b u,b≠e→h.get? b=some u→h'.get? b=some u)(heo:∃ u,h'.get? e=some u)
 (new:ObjOk P w (upd H x o') h' x o'):HOk P w (upd H x o') h':=fun b u q=>by
 have nown:∀ c y,H c=some (.own y)→c≠x:=fun c y r z=>by subst z;rw [r] at mu;exact mu
 have ntup:∀ c xs,H c=some (.tup xs)→c≠x:=fun c xs r z=>by subst z;rw [r] at mu;exact mu
 by_cases hb:b=x
 · subst hb;rw [qD] at q;cases q;exact new
 · rw [qV hb] at q
   by_cases hbe:b=e
   · have q':H b=some (.own x):=by
      rcases he with z | z
      · exact absurd (hbe.trans z) hb
      · rw [hbe];exact z
     rw [q] at q';cases q'
     obtain⟨v,hv⟩:=heo
     exact⟨v,by rw [hbe];exact hv⟩
   · refine(ok b u q).stay (fun c v hc r=>k c v ?_ r) (fun c r=>by rw [qV (nown c b r)];exact r) fun c xs r=>by rw [qV (ntup c xs r)];exact r
     rcases hc with rfl | hc
     · exact hbe
     · rintro rfl
       rcases he with z | z
       · exact nown c b hc z
       · rw [hc] at z;cases z;exact hb rfl
end
structure Un (fs ex:List Addr)(H H':Hp)(h h':Heap):Prop where
 keep:∀ b o,h.get? b=some o→H b=none→b ∉ fs→b ∉ ex→h'.get? b=some o
 slot:∀ b o,h.get? b=some o→H b=none→b∈fs→b ∉ ex→∃ sl,h'.get? b=some {o with slots:=sl}
 free:∀ b o,h.get? b=some o→H b=none→b ∉ ex→H' b=none
 there:∀ b o,h.get? b=some o→b ∉ ex→∃ o',h'.get? b=some o'
 tups:∀ b xs,H b=some (.tup xs)→H' b=some (.tup xs)
 frzs:∀ b o u,H b=some (.frz o u)→H' b=some (.frz o u)
 tbls:∀ b ps,H b=some (.tbl ps)→∃ more,H' b=some (.tbl (ps++more))
section
variable {fs fs' ex ex' : List Addr} {H H1 H2 : Hp} {h h1 h2 h' : Heap} {a x e : Addr} {o : HO}
theorem Un.any (u:Un fs ex H H1 h h1){b:Addr}{ob:Obj}(q:h.get? b=some ob)(n:H b=none)(hx:b ∉ ex):∃ sl,h1.get? b=some {ob with slots:=sl}:=by
 by_cases hb:b∈fs
 · exact u.slot b ob q n hb hx
 · exact⟨ob.slots,u.keep b ob q n hb hx⟩
theorem Un.trans (a:Un fs ex H H1 h h1)(b:Un fs ex H1 H2 h1 h2):Un fs ex H H2 h h2 where
 keep:=fun c ob q n hc hx=>b.keep c ob (a.keep c ob q n hc hx) (a.free c ob q n hx) hc hx
 slot:=fun c ob q n hc hx=>by
  obtain⟨sl,e1⟩:=a.slot c ob q n hc hx
  obtain⟨sl',e2⟩:=b.slot c _ e1 (a.free c ob q n hx) hc hx
  exact⟨sl',e2⟩
 free:=fun c ob q n hx=>by
  obtain⟨o',e1⟩:=a.there c ob q hx
  exact b.free c o' e1 (a.free c ob q n hx) hx
 there:=fun c ob q hx=>by
  obtain⟨o',e1⟩:=a.there c ob q hx
  exact b.there c o' e1 hx
 tups:=fun c xs q=>b.tups c xs (a.tups c xs q)
 frzs:=fun c ob xs q=>b.frzs c ob xs (a.frzs c ob xs q)
 tbls:=fun c ps q=>by
  obtain⟨m1,e1⟩:=a.tbls c ps q
  obtain⟨m2,e2⟩:=b.tbls c _ e1
  exact⟨m1++m2,by rw [e2,Array.append_assoc]⟩
theorem Un.kept (k:∀ b u,h.get? b=some u→h'.get? b=some u):Un fs ex H H h h':=
 ⟨fun b ob q _ _ _=>k b ob q,fun b ob q _ _ _=>⟨ob.slots,k b ob q⟩,fun _ _ _ n _=>n,fun b ob q _=>⟨ob,k b ob q⟩,fun _ _ q=>q,fun _ _ _ q=>q,fun _ ps q=>⟨#[],by rw [q];simp⟩⟩
theorem Un.refl:Un fs ex H H h h:=Un.kept fun _ _ q=>q
theorem Un.laid (k:∀ b u,h.get? b=some u→h'.get? b=some u)(hp:h.objs.size≤a)(hn:H a=none):Un fs ex H (upd H a o) h h' where
 keep:=fun b u q _ _ _=>k b u q
 slot:=fun b u q _ _ _=>⟨u.slots,k b u q⟩
 free:=fun b u q n _=>by rw [qV (Nat.ne_of_lt (Nat.lt_of_lt_of_le (Heap.lt_size q) hp))];exact n
 there:=fun b u q _=>⟨u,k b u q⟩
 tups:=fun b xs q=>by rw [qV (qS q hn)];exact q
 frzs:=fun b u xs q=>by rw [qV (qS q hn)];exact q
 tbls:=fun b ps q=>⟨#[],by rw [qV (qS q hn),q];simp⟩
theorem Un.write (mu:Mut (H x))(he:e=x∨H e=some (.own x))(k:∀ b u,b≠e→h.get? b=some u→h'.get? b=some u)(heo:∃ u,h'.get? e=some u):Un fs ex H (upd H x o) h h':=by
 have hx:∀ b,H b=none→b≠x:=fun b n z=>by subst z;rw [n] at mu;exact mu
 have hb:∀ b,H b=none→b≠e:=fun b n z=>by
  subst z
  rcases he with r | r
  · exact hx b n r
  · rw [n] at r;cases r
 have hm:∀ b u,H b=some u→¬ Mut (some u)→b≠x:=fun b u q nm z=>by subst z;rw [q] at mu;exact nm mu
 refine⟨fun b u q n _ _=>k b u (hb b n) q,fun b u q n _ _=>⟨u.slots,k b u (hb b n) q⟩,fun b u q n _=>by rw [qV (hx b n)];exact n,fun b u q _=>?_,
  fun b xs q=>by rw [qV (hm b _ q fun z=>z)];exact q,fun b u xs q=>by rw [qV (hm b _ q fun z=>z)];exact q,fun b ps q=>⟨#[],by rw [qV (hm b _ q fun z=>z),q];simp⟩⟩
 by_cases hbe:b=e
 · subst hbe;exact heo
 · exact⟨u,k b u hbe q⟩
end
def trk (h:Heap)(H:Hp):List Addr:=(List.range h.objs.size).filter fun a=>(H a).isSome
def qOt (h:Heap)(H:Hp):Heap:=PySem.W.hideAll h (trk h H)
theorem qOi (h:Heap)(H:Hp):(qOt h H).objs.size=h.objs.size:=PySem.W.hideAll_size _ _
theorem qOr {h:Heap}{H:Hp}{b:Addr}{o:Obj}(e:h.get? b=some o)(n:H b=none):(qOt h H).get? b=some o:=
 PySem.W.hideAll_get _ e fun hm=>by
  have q:(H b).isSome=true:=(List.mem_filter.mp hm).2
  rw [n] at q;simp at q
theorem qSb {h:Heap}{H:Hp}{b:Addr}{o:Obj}(e:(qOt h H).get? b=some o):h.get? b=some o∧H b=none:=by
 have e':h.get? b=some o:=PySem.W.of_hideAll (trk h H) e
 refine⟨e',?_⟩
 cases q:H b with
 | none=>rfl
 | some x=>
  have hm:b∈trk h H:=List.mem_filter.mpr ⟨List.mem_range.mpr (Heap.lt_size e'),by simp [q]⟩
  have z:(qOt h H).get? b=none:=PySem.W.hideAll_none (trk h H) hm
  rw [z] at e;cases e
def qRm (g h:Heap)(L:Addr):List (Addr × Obj):=(List.range h.objs.size).filterMap fun a=>if a=L∨(g.get? a).isSome=true then none else (h.get? a).map fun o=>(a,o)
def rest (g h:Heap)(L d:Addr):List (Addr × Obj):=(qRm g h L).filter fun p=>decide (p.1≠d)
end L2
namespace L2
open PySem PySem.Spec PyProof.Rows
structure Mod (K:PySem.W.Frag)(mg:Str→Option Value)(base:Heap):Prop where
 kin:K.In base
 glob:base.Ns mainGlobals mg
 blt:∃ mb,base.Ns builtinsNs mb∧∀ x:Str,x≠"__name__"→mb x=bootBuiltins x
 nolimit:base.NoLimit
structure Cx where
 prog:Program
 w:World
 K:PySem.W.Frag
 mg:Str→Option Value
 base:Heap
 A:Around
 N:List Str
 s₀:Shared
 H₀:Hp
 env:Env
 outer:List Env
 stack:List Env
 ex:List Addr
 fn:Str→Bool
 calm:Bool
 pn:List (Addr × Obj)
 xe:Value→Shared→Prop
def frs (l:List Env):List Addr:=l.filterMap (·.frame)
abbrev Cx.fs (X:Cx):List Addr:=frs X.outer
def Vis (sc:Scope)(x:Str):Prop:=sc.names.lookup x=some .local∨sc.names.lookup x=some .cell∨sc.names.lookup x=some .free
def Loc (sc:Scope)(x:Str):Prop:=sc.names.lookup x=some .local∨sc.names.lookup x=some .cell
def qWq (env:Env)(h:Heap)(m:Str→Option Value)(x:Str)(u:Value):Prop:=
 (env.kindOf x=some .local∧m x=some u)∨((env.kindOf x=some .cell∨env.kindOf x=some .free)∧∃ c,env.cells.lookup x=some c∧h.IsCell c (some u))
structure Cx.Ok (X:Cx):Prop where
 mod:Mod X.K X.mg X.base
 kind:X.env.scope.kind= .function
 glob:X.env.globals=mainGlobals
 blt:X.env.builtins=builtinsNs
 above:X.s₀.heap.objs.size≤X.env.locals
 inj:∀ x y c,X.env.cells.lookup x=some c→X.env.cells.lookup y=some c→x=y
 has:∀ x,(X.env.kindOf x=some .cell∨X.env.kindOf x=some .free)→∃ c,X.env.cells.lookup x=some c
 cab:∀ x c,X.fn x=true→X.env.cells.lookup x=some c→X.s₀.heap.objs.size≤c
 hd:X.calm=true→X.A.handled=none
 frames:X.A.frames=some X.stack
 stk:X.stack=X.outer∨(X.stack=X.env::X.outer∧X.env.frame=some X.env.locals)
 exf:∀ b∈X.ex,b≠X.env.locals∧∀ x c,X.env.cells.lookup x=some c→c≠b
 bs:∀ b o,X.base.get? b=some o→X.s₀.heap.get? b=some o∧X.H₀ b=none
 bsz:X.base.objs.size≤X.s₀.heap.objs.size
 noex:∀ b o,X.base.get? b=some o→b ∉ X.ex
 exfs:∀ b∈X.ex,b ∉ X.fs
 funs:X.s₀.heap.FunFrames X.base X.outer
 frf:∀ b∈X.fs,X.H₀ b=none
structure Inv (X:Cx)(pins:List (Addr × Obj))(σ:List (Option V))(H:Hp)(s:Shared):Prop where
 ok:X.Ok
 os:s.os=X.s₀.os
 bare:AllBare s.gens
 base:Un X.fs X.ex X.H₀ H X.s₀.heap s.heap
 loc:∃ m,s.heap.Ns X.env.locals m∧∀ (i:Nat) (x:Str) (v:V),X.N[i]? =some x→σ[i]? =some (some v)→Vis X.env.scope x→∃ u,RelV v u∧qWq X.env s.heap m x u
 cell:∀ x c,X.env.cells.lookup x=some c→∃ v,s.heap.IsCell c v
 free:H X.env.locals=none
 freeC:∀ x c,X.env.cells.lookup x=some c→H c=none
 pin:∀ p∈X.pn++pins,s.heap.get? p.1=some p.2∧H p.1=none∧p.1≠X.env.locals∧p.1 ∉ X.fs∧∀ v,p.2.data≠ .cell v
 hok:HOk X.prog X.w H s.heap
 len:σ.length=X.N.length
section
variable {X : Cx} {pins : List (Addr × Obj)} {σ : List (Option V)} {H H' : Hp} {s : Shared} {h' : Heap}
theorem Cx.Ok.nofr (ok:X.Ok){b:Addr}{o:Obj}(e:X.base.get? b=some o):b ∉ X.fs:=fun hb=>by
 have:=(ok.funs.mem hb).1
 rw [e] at this;cases this
theorem Inv.bs (I:Inv X pins σ H s):∀ b o,X.base.get? b=some o→s.heap.get? b=some o∧H b=none:=fun b o e=>
 ⟨I.base.keep b o (I.ok.bs b o e).1 (I.ok.bs b o e).2 (I.ok.nofr e) (I.ok.noex b o e),I.base.free b o (I.ok.bs b o e).1 (I.ok.bs b o e).2 (I.ok.noex b o e)⟩
theorem Inv.bk (I:Inv X pins σ H s):∀ b o,X.base.get? b=some o→s.heap.get? b=some o:=fun b o e=>(I.bs b o e).1
theorem Inv.mod (I:Inv X pins σ H s):Mod X.K X.mg X.base:=I.ok.mod
theorem Inv.kIn (I:Inv X pins σ H s):X.K.In s.heap:=I.ok.mod.kin.keeps I.bk
theorem Inv.nolimit (I:Inv X pins σ H s):s.heap.NoLimit:=I.ok.mod.nolimit.keeps I.bk
theorem Inv.fr (I:Inv X pins σ H s):∃ m,Fr X.base X.env.locals s.heap m:=
 let ⟨m,hn,_⟩:=I.loc
 ⟨m,hn,I.bk,Nat.le_trans I.ok.bsz I.ok.above⟩
theorem Inv.lt (I:Inv X pins σ H s):X.env.locals < s.heap.objs.size:=let ⟨_,hn,_⟩:=I.loc;hn.lt
theorem Inv.sz (I:Inv X pins σ H s):X.s₀.heap.objs.size≤s.heap.objs.size:=Nat.le_trans I.ok.above (Nat.le_of_lt I.lt)
theorem Inv.nofs (I:Inv X pins σ H s){a:Addr}(h:s.heap.objs.size≤a):a ∉ X.fs:=fun hb=>by
 obtain⟨_,o,ho,_⟩:=I.ok.funs.mem hb
 exact absurd (Nat.lt_of_lt_of_le (Heap.lt_size ho) (Nat.le_trans I.sz h)) (Nat.lt_irrefl _)
theorem Inv.cne (I:Inv X pins σ H s):∀ x c,X.env.cells.lookup x=some c→c≠X.env.locals:=fun x c e z=>by
 obtain⟨v,o,ho,hd⟩:=I.cell x c e
 obtain⟨m,⟨o',es,ep,ho',hd',_⟩,_⟩:=I.loc
 rw [z,ho'] at ho;cases ho;rw [hd'] at hd;cases hd
theorem Inv.funs (I:Inv X pins σ H s):s.heap.FunFrames X.base X.outer:=by
 have all:∀ (l:List Env),(∀ b∈frs l,b∈X.fs)→X.s₀.heap.FunFrames X.base l→s.heap.FunFrames X.base l:=by
  intro l
  induction l with
  | nil=>intro _ _;trivial
  | cons env r ih=>
   intro hs hl
   obtain⟨hk,⟨L,o,hf,hn,ho,hd⟩,hr⟩:=hl
   have hL:L∈X.fs:=hs L (by unfold frs;rw [List.filterMap_cons,hf];exact List.mem_cons_self)
   obtain⟨sl,e⟩:=I.base.slot L o ho (I.ok.frf L hL) hL fun z=>I.ok.exfs L z hL
   exact⟨hk,⟨L,_,hf,hn,e,hd⟩,ih (fun b hb=>hs b (by unfold frs;rw [List.filterMap_cons,hf];exact List.mem_cons_of_mem _ hb)) hr⟩
 exact all X.outer (fun _ hb=>hb) I.ok.funs
theorem Inv.stack (I:Inv X pins σ H s):s.heap.FunFrames X.base X.stack:=by
 rcases I.ok.stk with e | ⟨e,hf⟩
 · rw [e];exact I.funs
 · rw [e]
   obtain⟨m,hn,_⟩:=I.loc
   refine .cons (by rw [I.ok.kind];decide) hf hn ?_ I.funs
   exact Heap.get?_none_of_le (Nat.le_trans I.ok.bsz I.ok.above)
theorem Inv.stkSub (I:Inv X pins σ H s):∀ b∈frs X.stack,b∈X.env.locals::X.fs:=fun b hb=>by
 rcases I.ok.stk with e | ⟨e,hf⟩
 · rw [e] at hb;exact List.mem_cons_of_mem _ hb
 · rw [e] at hb
   unfold frs at hb
   rw [List.filterMap_cons,hf] at hb
   exact hb
theorem Inv.stkFree (I:Inv X pins σ H s):∀ b∈frs X.stack,H b=none:=fun b hb=>by
 rcases List.mem_cons.mp (I.stkSub b hb) with e | hb
 · rw [e];exact I.free
 · obtain⟨_,o,ho,_⟩:=I.ok.funs.mem hb
   exact I.base.free b o ho (I.ok.frf b hb) fun z=>I.ok.exfs b z hb
theorem Inv.step {g':Array GenState}{t':Nat}{d':Drawn}{ch:List Addr}(I:Inv X pins σ H s)
 (hch:∀ b∈ch,(b∈X.ex∨X.s₀.heap.objs.size≤b)∧b≠X.env.locals∧(∀ x c,X.env.cells.lookup x=some c→c≠b)∧∀ p∈X.pn++pins,p.1≠b)
 (keep:∀ b o,b≠X.env.locals→b ∉ X.fs→b ∉ ch→s.heap.get? b=some o→H b=none→h'.get? b=some o)
 (slot:∀ b o,b≠X.env.locals→b∈X.fs→b ∉ ch→s.heap.get? b=some o→H b=none→∃ sl,h'.get? b=some {o with slots:=sl}) (free:∀ b o,b ∉ ch→s.heap.get? b=some o→H b=none→H' b=none)
 (there:∀ b o,b ∉ ch→s.heap.get? b=some o→∃ o',h'.get? b=some o')
 (tups:∀ b xs,H b=some (.tup xs)→H' b=some (.tup xs)) (frzs:∀ b o u,H b=some (.frz o u)→H' b=some (.frz o u)) (tbls:∀ b ps,H b=some (.tbl ps)→∃ more,H' b=some (.tbl (ps++more)))
 (ns:∀ m,s.heap.Ns X.env.locals m→h'.Ns X.env.locals m) (hok:HOk X.prog X.w H' h') (hg:AllBare g'):
 Inv X pins σ H' {s with heap:=h',gens:=g',drawn:=d',toks:=t'}:=by
 have neL:∀ b o,X.s₀.heap.get? b=some o→b≠X.env.locals:=fun b o e=>Nat.ne_of_lt (Nat.lt_of_lt_of_le (Heap.lt_size e) I.ok.above)
 have neC:∀ b o,X.s₀.heap.get? b=some o→b ∉ X.ex→b ∉ ch:=fun b o e hx hb=>by
  rcases (hch b hb).1 with z | z
  · exact hx z
  · exact absurd (Nat.lt_of_lt_of_le (Heap.lt_size e) z) (Nat.lt_irrefl _)
 have cellK:∀ x c,X.env.cells.lookup x=some c→∀ v,s.heap.IsCell c v→h'.IsCell c v:=fun x c e v ⟨o,ho,hd⟩=>by
  have nch:c ∉ ch:=fun z=>(hch c z).2.2.1 x c e rfl
  by_cases hc:c∈X.fs
  · obtain⟨sl,q⟩:=slot c o (I.cne x c e) hc nch ho (I.freeC x c e)
    exact⟨_,q,hd⟩
  · exact⟨o,keep c o (I.cne x c e) hc nch ho (I.freeC x c e),hd⟩
 refine⟨I.ok,I.os,hg,⟨fun b o e n hb hx=>?_,fun b o e n hb hx=>?_,fun b o e n hx=>?_,fun b o e hx=>?_,fun b xs e=>tups b xs (I.base.tups b xs e),fun b o xs e=>frzs b o xs (I.base.frzs b o xs e),fun b ps e=>?_⟩,?_,fun x c e=>?_,?_,fun x c e=>?_,fun p hp=>?_,hok,I.len⟩
 · exact keep b o (neL b o e) hb (neC b o e hx) (I.base.keep b o e n hb hx) (I.base.free b o e n hx)
 · obtain⟨sl,e1⟩:=I.base.slot b o e n hb hx
   obtain⟨sl',e2⟩:=slot b _ (neL b o e) hb (neC b o e hx) e1 (I.base.free b o e n hx)
   exact⟨sl',e2⟩
 · obtain⟨o',e1⟩:=I.base.there b o e hx
   exact free b o' (neC b o e hx) e1 (I.base.free b o e n hx)
 · obtain⟨o',e1⟩:=I.base.there b o e hx
   exact there b o' (neC b o e hx) e1
 · obtain⟨m1,e1⟩:=I.base.tbls b ps e
   obtain⟨m2,e2⟩:=tbls b _ e1
   exact⟨m1++m2,by rw [e2,Array.append_assoc]⟩
 · obtain⟨m,hn,hl⟩:=I.loc
   refine⟨m,ns m hn,fun i x v e1 e2 e3=>?_⟩
   obtain⟨u,r,l⟩:=hl i x v e1 e2 e3
   refine⟨u,r,?_⟩
   rcases l with l | ⟨k,c,e,z⟩
   · exact .inl l
   · exact .inr ⟨k,c,e,cellK x c e _ z⟩
 · obtain⟨v,z⟩:=I.cell x c e
   exact⟨v,cellK x c e v z⟩
 · obtain⟨m,⟨o,_,_,ho,_⟩,_⟩:=I.loc
   exact free _ o (fun z=>(hch _ z).2.1 rfl) ho I.free
 · obtain⟨v,o,ho,hd⟩:=I.cell x c e
   exact free c o (fun z=>(hch c z).2.2.1 x c e rfl) ho (I.freeC x c e)
 · obtain⟨e,n,ne,nf,d⟩:=I.pin p hp
   have nch:p.1 ∉ ch:=fun z=>(hch p.1 z).2.2.2 p hp rfl
   exact⟨keep p.1 p.2 ne nf nch e n,free p.1 p.2 nch e n,ne,nf,d⟩
theorem Inv.un {t':Nat}(I:Inv X pins σ H s)(u:Un X.fs [] H H' s.heap h')(hok:HOk X.prog X.w H' h'):Inv X pins σ H' {s with heap:=h',toks:=t'}:=by
 obtain⟨m,⟨o,es,ep,ho,r⟩,_⟩:=id I.loc
 obtain⟨sl,hL⟩:=u.any ho I.free (by simp)
 exact I.step (g':=s.gens) (d':=s.drawn) (ch:=[]) (fun _ z=>nomatch z) (fun b o _ hb _ e n=>u.keep b o e n hb (by simp)) (fun b o _ hb _ e n=>u.slot b o e n hb (by simp)) (fun b o _ e n=>u.free b o e n (by simp)) (fun b o _ e=>u.there b o e (by simp)) u.tups u.frzs u.tbls (fun m' hm=>by
  obtain⟨o',es',ep',ho',r'⟩:=hm
  rw [ho] at ho';cases ho'
  exact⟨_,es',ep',hL,r'⟩) hok I.bare
theorem Inv.call {g':Array GenState}{t':Nat}{d':Drawn}{ch:List Addr}(I:Inv X pins σ H s)(u:Un (frs X.stack) ch H H' s.heap h')(hok:HOk X.prog X.w H' h')(hg:AllBare g')
 (hch:∀ b∈ch,(b∈X.ex∨X.s₀.heap.objs.size≤b)∧b≠X.env.locals∧(∀ x c,X.env.cells.lookup x=some c→c≠b)∧∀ p∈X.pn++pins,p.1≠b):
 Inv X pins σ H' {s with heap:=h',gens:=g',drawn:=d',toks:=t'}:=by
 obtain⟨m,⟨o,es,ep,ho,r⟩,_⟩:=id I.loc
 obtain⟨sl,hL⟩:=u.any ho I.free fun z=>(hch _ z).2.1 rfl
 exact I.step (ch:=ch) hch (fun b o hL hb hc e n=>u.keep b o e n (fun z=>(List.mem_cons.mp (I.stkSub b z)).elim hL hb) hc) (fun b o _ _ hc e n=>u.any e n hc) (fun b o hc e n=>u.free b o e n hc) (fun b o hc e=>u.there b o e hc) u.tups u.frzs u.tbls (fun m' hm=>by
  obtain⟨o',es',ep',ho',r'⟩:=hm
  rw [ho] at ho';cases ho'
  exact⟨_,es',ep',hL,r'⟩) hok hg
theorem Inv.turned {t':Nat}{it:Addr}(I:Inv X pins σ H s)(k:∀ b o,b≠it→s.heap.get? b=some o→h'.get? b=some o)(hn:H it=none)(hL:it≠X.env.locals)
 (h1:it∈X.ex∨X.s₀.heap.objs.size≤it) (h2:∀ x c,X.env.cells.lookup x=some c→c≠it) (h3:∀ p∈X.pn++pins,p.1≠it):Inv X pins σ H {s with heap:=h',toks:=t'}:=by
 have nit:∀ b u,H b=some u→b≠it:=fun b u e z=>by rw [z,hn] at e;cases e
 refine I.step (g':=s.gens) (d':=s.drawn) (ch:=[it]) (fun b hb=>?_) (fun b o _ _ hc e _=>k b o (fun z=>hc (by simp [z])) e) (fun b o _ _ hc e _=>⟨o.slots,k b o (fun z=>hc (by simp [z])) e⟩) (fun _ _ _ _ n=>n)
  (fun b o hc e=>⟨o,k b o (fun z=>hc (by simp [z])) e⟩) (fun _ _ e=>e) (fun _ _ _ e=>e) (fun b ps e=>⟨#[],by rw [e];simp⟩) (fun m hm=>?_) (fun b u e=>?_) I.bare
 · have e:b=it:=by simpa using hb
   subst e
   exact⟨h1,hL,h2,h3⟩
 · obtain⟨o,es,ep,ho,r⟩:=hm
   exact⟨o,es,ep,k _ o (Ne.symm hL) ho,r⟩
 · refine(I.hok b u e).stay (fun c v hc q=>k c v ?_ q) (fun _ q=>q) fun _ _ q=>q
   rcases hc with z | z
   · rw [z];exact nit b u e
   · exact nit c _ z
theorem Inv.tok (I:Inv X pins σ H s)(t:Nat):Inv X pins σ H {s with toks:=t}:=I.un (h':=s.heap) (t':=t) Un.refl I.hok
theorem Inv.kept {t':Nat}(I:Inv X pins σ H s)(k:∀ b u,s.heap.get? b=some u→h'.get? b=some u):Inv X pins σ H {s with heap:=h',toks:=t'}:=I.un (Un.kept k) (I.hok.kept k)
theorem Inv.laid {a:Addr}{o:HO}{t':Nat}(I:Inv X pins σ H s)(k:∀ b u,s.heap.get? b=some u→h'.get? b=some u)(hp:s.heap.objs.size≤a)(new:ObjOk X.prog X.w (upd H a o) h' a o):
 Inv X pins σ (upd H a o) {s with heap:=h',toks:=t'}:=I.un (Un.laid k hp (I.hok.fresh hp)) (I.hok.laid k hp new)
theorem Inv.write {x e:Addr}{o:HO}{t':Nat}(I:Inv X pins σ H s)(mu:Mut (H x))(he:e=x∨H e=some (.own x))(k:∀ b u,b≠e→s.heap.get? b=some u→h'.get? b=some u)(heo:∃ u,h'.get? e=some u)
 (new:ObjOk X.prog X.w (upd H x o) h' x o):Inv X pins σ (upd H x o) {s with heap:=h',toks:=t'}:=I.un (Un.write mu he k heo) (I.hok.write mu he k heo new)
theorem Inv.weak {σ':List (Option V)}(I:Inv X pins σ H s)(hl:σ'.length=σ.length)(w:∀ (i:Nat) v,σ'[i]? =some (some v)→σ[i]? =some (some v)):Inv X pins σ' H s:=
 ⟨I.ok,I.os,I.bare,I.base,let ⟨m,hn,hl'⟩:=I.loc;⟨m,hn,fun i x v e1 e2 e3=>hl' i x v e1 (w i v e2) e3⟩,I.cell,I.free,I.freeC,I.pin,I.hok,hl.trans I.len⟩
theorem Inv.pins_of {pins':List (Addr × Obj)}(I:Inv X pins σ H s)(h:∀ p∈pins',s.heap.get? p.1=some p.2∧H p.1=none∧p.1≠X.env.locals∧p.1 ∉ X.fs∧∀ v,p.2.data≠ .cell v):Inv X pins' σ H s:=
 ⟨I.ok,I.os,I.bare,I.base,I.loc,I.cell,I.free,I.freeC,fun p hp=>(List.mem_append.mp hp).elim (fun z=>I.pin p (List.mem_append_left _ z)) (h p),I.hok,I.len⟩
theorem qGb {N:List Str}(hN:N.Nodup){i j:Nat}{x:Str}(a:N[i]? =some x)(b:N[j]? =some x):i=j:=by
 obtain⟨h1,e1⟩:=List.getElem?_eq_some_iff.mp a
 obtain⟨h2,e2⟩:=List.getElem?_eq_some_iff.mp b
 exact(List.getElem_inj hN).mp (e1.trans e2.symm)
theorem qHh {M:Model}{A:Around}{E:Value→Shared→Prop}{i:Nat}{x:Str}{v:V}{u:Value}{Q:Unit→Shared→Prop}(I:Inv X pins σ H s)(hN:X.N.Nodup)(hi:X.N[i]? =some x)(hx:Loc X.env.scope x)(r:RelV v u)
 (h:∀ s',Inv X pins (σ.set i (some v)) H s'→(∃ a,Heap.SameBut a s.heap s'.heap∧(a=X.env.locals∨X.env.cells.lookup x=some a))→Q () s') (hf:X.fn x=true∨X.env.scope.names.lookup x=some .local:=by first | exact .inl rfl | exact .inr rfl | assumption):wpAny M A (storeName X.env x u) Q E s:=by
 obtain⟨m,hn,hl⟩:=id I.loc
 have hcls:(X.env.scope.kind == .class || (X.env.scope.kind == .module && X.env.locals != X.env.globals))=false:=by rw [I.ok.kind];rfl
 have hiσ:i < σ.length:=by rw [I.len];exact(List.getElem?_eq_some_iff.mp hi).1
 have cne:=I.cne
 have tracked:∀ {a:Addr} {h':Heap},(∃ o,s.heap.get? a=some o∧H a=none)→Heap.SameBut a s.heap h'→HOk X.prog X.w H h':=fun {a h'} ha hs b ob e=>by
  obtain⟨_,_,hfree⟩:=ha
  refine(I.hok b ob e).stay (fun c w' hc q=>(hs.2 c ?_).trans q) (fun _ q=>q) fun _ _ q=>q
  rintro rfl
  rcases hc with rfl | hc
  · rw [hfree] at e;cases e
  · rw [hfree] at hc;cases hc
 rcases hx with hk | hk
 · refine wpAny_storeName_local hk hn (fun h' hn' hs=>?_) hcls
   obtain⟨oL,_,_,hoL,_⟩:=id hn
   refine h _ ⟨I.ok,I.os,I.bare,⟨fun b o e n hb hx=>?_,fun b o e n hb hx=>?_,I.base.free,fun b o e hx=>?_,I.base.tups,I.base.frzs,I.base.tbls⟩,⟨_,hn',fun j y v' e1 e2 e3=>?_⟩,fun y c e=>?_,I.free,I.freeC,fun p hp=>?_,tracked ⟨oL,hoL,I.free⟩ hs,by simpa using I.len⟩ ⟨_,hs,.inl rfl⟩
   · exact(hs.2 b (Nat.ne_of_lt (Nat.lt_of_lt_of_le (Heap.lt_size e) I.ok.above))).trans (I.base.keep b o e n hb hx)
   · obtain⟨sl,e1⟩:=I.base.slot b o e n hb hx
     exact⟨sl,(hs.2 b (Nat.ne_of_lt (Nat.lt_of_lt_of_le (Heap.lt_size e) I.ok.above))).trans e1⟩
   · obtain⟨o',e1⟩:=I.base.there b o e hx
     exact⟨o',(hs.2 b (Nat.ne_of_lt (Nat.lt_of_lt_of_le (Heap.lt_size e) I.ok.above))).trans e1⟩
   · by_cases hj:j=i
     · subst hj
       rw [hi] at e1;cases e1
       rw [List.getElem?_set_self hiσ] at e2
       cases e2
       exact⟨u,r,.inl ⟨hk,by simp⟩⟩
     · rw [List.getElem?_set_ne (Ne.symm hj)] at e2
       obtain⟨u',r',q⟩:=hl j y v' e1 e2 e3
       refine⟨u',r',?_⟩
       rcases q with ⟨k,e⟩ | ⟨k,c,e,z⟩
       · refine .inl ⟨k,?_⟩
         have:y≠x:=fun e=>hj (qGb hN e1 (e ▸ hi))
         simp [this,e]
       · exact .inr ⟨k,c,e,z.sameBut hs (cne y c e)⟩
   · obtain⟨w',z⟩:=I.cell y c e
     exact⟨w',z.sameBut hs (cne y c e)⟩
   · obtain⟨e,n,ne,nf,d⟩:=I.pin p hp
     exact⟨(hs.2 p.1 ne).trans e,n,ne,nf,d⟩
 · have hfn:X.fn x=true:=by
    rcases hf with z | z
    · exact z
    · rw [z] at hk;cases hk
   obtain⟨c,hc⟩:=I.ok.has x (.inl hk)
   obtain⟨w',z⟩:=I.cell x c hc
   refine wpAny_storeName_cell I.ok.kind hk hc z (fun h' hc' hs=>?_)
   obtain⟨oc,hoc,hocd⟩:=id z
   refine h {s with heap:=h'} ⟨I.ok,I.os,I.bare,⟨fun b o e n hb hx=>?_,fun b o e n hb hx=>?_,I.base.free,fun b o e hx=>?_,I.base.tups,I.base.frzs,I.base.tbls⟩,⟨m,hn.sameBut hs (Ne.symm (cne x c hc)),fun j y v' e1 e2 e3=>?_⟩,fun y c' e=>?_,I.free,I.freeC,fun p hp=>?_,tracked ⟨oc,hoc,I.freeC x c hc⟩ hs,by simpa using I.len⟩ ⟨c,hs,.inr hc⟩
   · exact(hs.2 b (Nat.ne_of_lt (Nat.lt_of_lt_of_le (Heap.lt_size e) (I.ok.cab x c hfn hc)))).trans (I.base.keep b o e n hb hx)
   · obtain⟨sl,e1⟩:=I.base.slot b o e n hb hx
     exact⟨sl,(hs.2 b (Nat.ne_of_lt (Nat.lt_of_lt_of_le (Heap.lt_size e) (I.ok.cab x c hfn hc)))).trans e1⟩
   · obtain⟨o',e1⟩:=I.base.there b o e hx
     exact⟨o',(hs.2 b (Nat.ne_of_lt (Nat.lt_of_lt_of_le (Heap.lt_size e) (I.ok.cab x c hfn hc)))).trans e1⟩
   · by_cases hj:j=i
     · subst hj
       rw [hi] at e1;cases e1
       rw [List.getElem?_set_self hiσ] at e2
       cases e2
       exact⟨u,r,.inr ⟨.inl hk,c,hc,hc'⟩⟩
     · rw [List.getElem?_set_ne (Ne.symm hj)] at e2
       obtain⟨u',r',q⟩:=hl j y v' e1 e2 e3
       refine⟨u',r',?_⟩
       rcases q with q | ⟨k,c',e,z'⟩
       · exact .inl q
       · refine .inr ⟨k,c',e,z'.sameBut hs ?_⟩
         rintro rfl
         exact hj (qGb hN e1 (I.ok.inj _ _ _ e hc ▸ hi))
   · by_cases hcc:c'=c
     · subst hcc;exact⟨_,hc'⟩
     · obtain⟨w2,z2⟩:=I.cell y c' e
       exact⟨w2,z2.sameBut hs hcc⟩
   · obtain⟨e,n,ne,nf,d⟩:=I.pin p hp
     refine⟨(hs.2 p.1 ?_).trans e,n,ne,nf,d⟩
     intro q
     rw [q,hoc] at e
     have q':oc=p.2:=Option.some.inj e
     exact d w' (by rw [← q'];exact hocd)
theorem zJ {M:Model}{A:Around}{E:Value→Shared→Prop}{i:Nat}{x:Str}{v:V}{u:Value}{Q:Unit→Shared→Prop}(I:Inv X pins σ H s)(hN:X.N.Nodup)(hi:X.N[i]? =some x)(hx:Loc X.env.scope x)(r:RelV v u)
 (h:∀ s',Inv X pins (σ.set i (some v)) H s'→Q () s') (hf:X.fn x=true∨X.env.scope.names.lookup x=some .local:=by first | exact .inl rfl | exact .inr rfl | assumption):wpAny M A (storeName X.env x u) Q E s:=
 qHh I hN hi hx r (fun s' I' _=>h s' I') hf
theorem Inv.call' {s':Shared}{ch:List Addr}(I:Inv X pins σ H s)(ho:s'.os=s.os)(u:Un (frs X.stack) ch H H' s.heap s'.heap)(hok:HOk X.prog X.w H' s'.heap)(hg:AllBare s'.gens)
 (hch:∀ b∈ch,(b∈X.ex∨X.s₀.heap.objs.size≤b)∧b≠X.env.locals∧(∀ x c,X.env.cells.lookup x=some c→c≠b)∧∀ p∈X.pn++pins,p.1≠b):Inv X pins σ H' s':=by
 obtain⟨h',g',d',t',o'⟩:=s'
 have e:o'=s.os:=ho
 subst e
 exact I.call (g':=g') (t':=t') (d':=d') u hok hg hch
end
abbrev XK:=Value→Option Addr→Hp→Prop
abbrev St:=List (Option V)
abbrev VK:=V→Hp→Prop
abbrev TE:=St→Hp→VK→Prop
abbrev TT:=St→Hp→(Bool→Hp→Prop)→Prop
abbrev TA:=St→Hp→(List V→Hp→Prop)→Prop
structure qK1 where
 nx:St→Hp→Prop
 rt:VK
 bk:St→Hp→Prop:=fun _ _=>False
 ct:St→Hp→Prop:=fun _ _=>False
abbrev TS:=qK1→St→Hp→Prop
def EP (X:Cx)(pins:List (Addr × Obj))(σ:St)(Q:VK)(u:Value)(s':Shared):Prop:=∃ v H',Inv X pins σ H' s'∧RelV v u∧Q v H'
def TP (X:Cx)(pins:List (Addr × Obj))(σ:St)(Q:Bool→Hp→Prop)(b:Bool)(s':Shared):Prop:=∃ H',Inv X pins σ H' s'∧Q b H'
def AP (X:Cx)(pins:List (Addr × Obj))(σ:St)(Q:List V→Hp→Prop)(us:List Value)(s':Shared):Prop:=∃ vs H',Inv X pins σ H' s'∧Vals vs us∧Q vs H'
def SP (X:Cx)(pins:List (Addr × Obj))(D:qK1)(f:Flow)(s':Shared):Prop:=
 match f with
 | .next=>∃ σ' H',Inv X pins σ' H' s'∧D.nx σ' H'
 | .brk=>∃ σ' H',Inv X pins σ' H' s'∧D.bk σ' H'
 | .cont=>∃ σ' H',Inv X pins σ' H' s'∧D.ct σ' H'
 | .ret u=>∃ v σ' H',Inv X pins σ' H' s'∧RelV v u∧D.rt v H'
def PE (X:Cx)(e:Expr)(t:TE):Prop:=
 ∀ (pins:List (Addr × Obj)) (s:Shared) (σ:St) (H:Hp) (Q:VK),Inv X pins σ H s→t σ H Q→wpAny (model X.prog X.w) X.A (eval e X.env) (EP X pins σ Q) X.xe s
def PT (X:Cx)(e:Expr)(t:TT):Prop:=
 ∀ (pins:List (Addr × Obj)) (s:Shared) (σ:St) (H:Hp) (Q:Bool→Hp→Prop),Inv X pins σ H s→t σ H Q→wpAny (model X.prog X.w) X.A (isTrue e X.env (eval e X.env)) (TP X pins σ Q) X.xe s
def PW (X:Cx)(e:Expr)(t:TT):Prop:=
 ∀ (whole:Sem Value) (pins:List (Addr × Obj)) (s:Shared) (σ:St) (H:Hp) (Q:Bool→Hp→Prop),Inv X pins σ H s→t σ H Q→wpAny (model X.prog X.w) X.A (isTrue e X.env whole) (TP X pins σ Q) X.xe s
theorem PW.pt {X:Cx}{e:Expr}{t:TT}(h:PW X e t):PT X e t:=h _
def PA (X:Cx)(es:List Expr)(t:TA):Prop:=
 ∀ (pos:Pos) (pins:List (Addr × Obj)) (s:Shared) (σ:St) (H:Hp) (Q:List V→Hp→Prop),Inv X pins σ H s→t σ H Q→wpAny (model X.prog X.w) X.A (spliced (backTo pos (starEach es X.env))) (AP X pins σ Q) X.xe s
def PS (X:Cx)(st:Stmt)(t:TS):Prop:=
 ∀ (pins:List (Addr × Obj)) (s:Shared) (σ:St) (H:Hp) (D:qK1),Inv X pins σ H s→t D σ H→wpAny (model X.prog X.w) X.A (exec st X.env) (SP X pins D) X.xe s
def PSs (X:Cx)(st:List Stmt)(t:TS):Prop:=
 ∀ (pins:List (Addr × Obj)) (s:Shared) (σ:St) (H:Hp) (D:qK1),Inv X pins σ H s→t D σ H→wpAny (model X.prog X.w) X.A (execs st X.env) (SP X pins D) X.xe s
theorem thn {α:Type}{t:Sem α}{Q Q':α→Shared→Prop}{M:Model}{A:Around}{E:Value→Shared→Prop}{s:Shared}(h:wpAny M A t Q E s)(hQ:∀ a s,Q a s→Q' a s):wpAny M A t Q' E s:=wpAny_mono h hQ fun _ _ x=>x
end L2
namespace L2
open PySem PySem.Spec PyProof.Rows
section
variable {X : Cx}
theorem bin {a b:Expr}{ta tb:TE}(ha:PE X a ta)(hb:PE X b tb){pins:List (Addr × Obj)}{s:Shared}{σ:St}{H:Hp}{R:V→V→Hp→Prop}(I:Inv X pins σ H s)(h:ta σ H fun x H1=>tb σ H1 fun y H2=>R x y H2)
 {α:Type} {Q:α→Shared→Prop} {f:Value→Value→Sem α}
 (hf:∀ v u s2 x y H2,Inv X pins σ H2 s2→RelV x v→RelV y u→R x y H2→wpAny (model X.prog X.w) X.A (f v u) Q X.xe s2):
 wpAny (model X.prog X.w) X.A (eval a X.env) (fun v s₁=>wpAny (model X.prog X.w) X.A (eval b X.env) (fun u s₂=>wpAny (model X.prog X.w) X.A (f v u) Q X.xe s₂) X.xe s₁) X.xe s:=by
 refine thn (ha pins s σ H _ I h) fun v s1 ⟨x,H1,I1,r1,q1⟩=>?_
 refine thn (hb pins s1 σ H1 _ I1 q1) fun u s2 ⟨y,H2,I2,r2,q2⟩=>?_
 exact hf v u s2 x y H2 I2 r1 r2 q2
inductive qT9 (i:Nat)(σ:L2.St)(H:Hp)(Q:VK):Prop
| mk v (_:σ[i]? =some (some v)) (_:Q v H)
def tC (v:V):TE:=fun _ H Q=>Q v H
theorem qTx {i:Nat}{x:Str}{pos:Pos}(hN:X.N[i]? =some x)(hv:Vis X.env.scope x)(hd:(x == ("__debug__":Str))=false:=by decide)(hcd:(x == ("__classdict__":Str))=false:=by decide):PE X (.Name x pos) (qT9 i):=by
 intro pins s σ H Q I h
 obtain⟨v,e,h⟩:=h
 obtain⟨m,hn,hl⟩:=I.loc
 obtain⟨u,r,l⟩:=hl i x v hN e hv
 have fin:EP X pins σ Q u s:=⟨v,H,I,r,h⟩
 rcases l with ⟨hk,hm⟩ | ⟨hk,c,hc,hcell⟩
 · exact wpAny_Name (wpAny_loadName_local I.ok.kind hk hn hm fin) hd
 · rcases hk with hk | hk
   · exact wpAny_Name (wpAny_loadName_cell I.ok.kind hk hc hcell fin) hd
   · exact wpAny_Name (wpAny_loadName_free I.ok.kind hk hc hcell fin hcd) hd
theorem qG {i j pos}:PE X (.Constant (.int i) j pos) (tC (.int i)):=fun _ _ _ H _ I h=>wpAny_Constant_int ⟨.int i,H,I.tok _,⟨_,rfl⟩,h⟩
theorem z7 {b j pos}:PE X (.Constant (.bool b) j pos) (tC (.bl b)):=fun _ _ _ H _ I h=>Constant_bool ⟨.bl b,H,I,rfl,h⟩
theorem qEz {j pos}:PE X (.Constant .none j pos) (tC .non):=fun _ _ _ H _ I h=>Constant_none ⟨.non,H,I,rfl,h⟩
theorem qR {x j pos}:PE X (.Constant (.str x) j pos) (tC (.str x)):=fun _ _ _ H _ I h=>Calls.Constant_str ⟨.str x,H,I.tok _,⟨_,rfl⟩,h⟩
def Gl (X:Cx)(x:Str):Prop:=X.env.kindOf x=some .globalImplicit
theorem vF {E:Value→Shared→Prop}{pins:List (Addr × Obj)}{s:Shared}{σ:St}{H:Hp}{x:Str}{u:Value}{pos:Pos}{Q:Value→Shared→Prop}(I:Inv X pins σ H s)(hg:Gl X x)(hm:X.mg x=some u)(h:Q u s)
 (hd:(x == ("__debug__":Str))=false:=by decide):wpAny (model X.prog X.w) X.A (eval (.Name x pos) X.env) Q E s:=
 Calls.Name_function_global I.ok.kind hg (Calls.loadGlobal_global (by rw [I.ok.glob];exact I.mod.glob.keeps I.bk) hm h) hd
theorem qEv {E:Value→Shared→Prop}{pins:List (Addr × Obj)}{s:Shared}{σ:St}{H:Hp}{x:Str}{u:Value}{pos:Pos}{Q:Value→Shared→Prop}(I:Inv X pins σ H s)(hg:Gl X x)(hm:X.mg x=none)(hv:bootBuiltins x=some u)(h:Q u s)
 (hn:x≠"__name__":=by decide) (hd:(x == ("__debug__":Str))=false:=by decide):wpAny (model X.prog X.w) X.A (eval (.Name x pos) X.env) Q E s:=by
 obtain⟨mb,h1,h2⟩:=I.mod.blt
 exact Calls.Name_function_global I.ok.kind hg (Calls.loadGlobal_builtin (by rw [I.ok.glob];exact I.mod.glob.keeps I.bk) hm (by rw [I.ok.blt];exact h1.keeps I.bk) ((h2 x hn).trans hv) h) hd
theorem xh {x:Str}{v:V}{u:Value}{pos:Pos}(hg:Gl X x)(hm:X.mg x=some u)(r:RelV v u)(hd:(x == ("__debug__":Str))=false:=by decide):PE X (.Name x pos) (tC v):=
 fun _ _ _ H _ I h=>vF I hg hm ⟨v,H,I,r,h⟩ hd
theorem qR5 {x:Str}{v:V}{u:Value}{pos:Pos}(hg:Gl X x)(hm:X.mg x=none)(hv:bootBuiltins x=some u)(r:RelV v u)(hn:x≠"__name__":=by decide)(hd:(x == ("__debug__":Str))=false:=by decide):PE X (.Name x pos) (tC v):=
 fun _ _ _ H _ I h=>qEv I hg hm hv ⟨v,H,I,r,h⟩ hn hd
variable {a b : Expr} {ta tb : TE} {pos : Pos}
def PC (X:Cx)(op:CmpOp)(a b:Expr)(t:TE):Prop:=
 ∀ (pins:List (Addr × Obj)) (s:Shared) (σ:St) (H:Hp) (Q:VK),Inv X pins σ H s→t σ H Q→
  wpAny (model X.prog X.w) X.A (eval a X.env) (fun v s₁=>wpAny (model X.prog X.w) X.A (eval b X.env) (fun u s₂=>wpAny (model X.prog X.w) X.A (compareOp op v u) (EP X pins σ Q) X.xe s₂) X.xe s₁) X.xe s
theorem qKx (b:Expr){op:CmpOp}(h:op≠ .In)(h2:op≠ .NotIn):behindInMarks op b=false:=by
 have e1:(op == CmpOp.In)=false:=by cases op <;> first | rfl | exact absurd rfl h
 have e2:(op == CmpOp.NotIn)=false:=by cases op <;> first | rfl | exact absurd rfl h2
 cases b <;> simp [behindInMarks,e1,e2]
def qWu (ta:TE):TE:=fun σ H Q=>ta σ H fun x H1=>Q (.bl (decide (x= .non))) H1
def qUt (ta:TE):TE:=fun σ H Q=>ta σ H fun x H1=>Q (.bl (!decide (x= .non))) H1
theorem RelV.none_iff {x:V}{v:Value}(r:RelV x v):(v == Value.none)=decide (x= .non):=by
 cases x with
 | non=>cases r;rfl
 | bl _=>cases r;rfl
 | int _=>obtain⟨t,rfl⟩:=r;rfl
 | str _=>obtain⟨t,rfl⟩:=r;rfl
 | byt _=>obtain⟨t,rfl⟩:=r;rfl
 | flt _=>obtain⟨t,rfl⟩:=r;rfl
 | ref _=>cases r;rfl
 | ty _=>cases r;rfl
theorem qEo {j pos'}(ha:PE X a ta):PC X .Is a (.Constant .none j pos') (qWu ta):=by
 intro pins s σ H Q I h
 refine thn (ha pins s σ H _ I h) fun v s1 ⟨x,H1,I1,r1,q1⟩=>?_
 exact Constant_none (is_none_gen ⟨.bl _,H1,I1,by rw [r1.none_iff];rfl,q1⟩)
theorem qMv {j pos'}(ha:PE X a ta):PC X .IsNot a (.Constant .none j pos') (qUt ta):=by
 intro pins s σ H Q I h
 refine thn (ha pins s σ H _ I h) fun v s1 ⟨x,H1,I1,r1,q1⟩=>?_
 exact Constant_none (isnot_none_gen ⟨.bl _,H1,I1,by rw [r1.none_iff];rfl,q1⟩)
inductive tBI (Q:Bool→Hp→Prop)(x:V)(H1:Hp):Prop
| mk c (_:x= .bl c) (_:Q c H1)
def tB (t:TE):TT:=fun σ H Q=>t σ H fun x H1=>tBI Q x H1
theorem qSi {op:CmpOp}{t:TE}(h:PC X op a b t)(h1:behindInMarks op b=false:=by first | exact qKx _ (by decide) (by decide) | rfl):PE X (.Compare a [op] [b] pos) t:=fun pins s σ H Q I hw=>wpAny_Compare1 (h pins s σ H Q I hw) h1
theorem qDk {op:CmpOp}{t:TE}(h:PC X op a b t)(h1:behindInMarks op b=false:=by first | exact qKx _ (by decide) (by decide) | rfl):PT X (.Compare a [op] [b] pos) (tB t):=by
 intro pins s σ H Q I hw
 refine wpAny_isTrue_Compare1 (thn (h pins s σ H _ I hw) fun v s1 h1=>thn h1 fun u s2 h2=>thn h2 fun c s3 ⟨x,H1,I1,r1,q1⟩=>?_) h1
 obtain⟨d,rfl,q⟩:=q1
 cases r1
 exact wpAny_truthy_bool ⟨H1,I1,q⟩
theorem j4 {e:Expr}{t:TE}(h:PE X e t)(he:∀ whole,isTrue e X.env whole=(do let v ← whole;standAt e.pos;holding [v] (truthy v)):=by intro _;rfl):PT X e (tB t):=by
 intro pins s σ H Q I hw
 refine isTrue_plain (thn (h pins s σ H _ I hw) fun v s1 ⟨x,H1,I1,r1,q1⟩=>?_) (he _)
 obtain⟨d,rfl,q⟩:=q1
 cases r1
 exact wpAny_truthy_bool ⟨H1,I1,q⟩
variable {tA tB' : TT} {rest : List Expr}
def qV5 (t u:TT):TT:=fun σ H Q=>t σ H fun c H1=>if c=true then u σ H1 Q else Q false H1
def tOr (t u:TT):TT:=fun σ H Q=>t σ H fun c H1=>if c=true then Q true H1 else u σ H1 Q
def qWn (t:TT):TT:=fun σ H Q=>t σ H fun c H1=>Q (!c) H1
theorem jM (ha:PT X a tA):PW X (.BoolOp .And [a] pos) tA:=by
 intro wh pins s σ H Q I h
 refine isTrue_and (thn (ha pins s σ H Q I h) fun c s1 e=>?_)
 cases c with
 | true=>exact isTrue_and_nil e
 | false=>exact e
theorem xk (ha:PT X a tA):PW X (.BoolOp .Or [a] pos) tA:=by
 intro wh pins s σ H Q I h
 refine isTrue_or (thn (ha pins s σ H Q I h) fun c s1 e=>?_)
 cases c with
 | false=>exact isTrue_or_nil e
 | true=>exact e
theorem jZ (ha:PT X a tA)(hb:PW X (.BoolOp .And (b::rest) pos) tB'):PW X (.BoolOp .And (a::b::rest) pos) (qV5 tA tB'):=by
 intro wh pins s σ H Q I h
 refine isTrue_and (thn (ha pins s σ H _ I h) fun c s1 ⟨H1,I1,q1⟩=>?_)
 cases c with
 | true=>exact hb wh pins s1 σ H1 Q I1 q1
 | false=>exact⟨H1,I1,q1⟩
theorem z6 (ha:PT X a tA)(hb:PW X (.BoolOp .Or (b::rest) pos) tB'):PW X (.BoolOp .Or (a::b::rest) pos) (tOr tA tB'):=by
 intro wh pins s σ H Q I h
 refine isTrue_or (thn (ha pins s σ H _ I h) fun c s1 ⟨H1,I1,q1⟩=>?_)
 cases c with
 | true=>exact⟨H1,I1,q1⟩
 | false=>exact hb wh pins s1 σ H1 Q I1 q1
theorem zS (ha:PT X a tA):PT X (.UnaryOp .Not a pos) (qWn tA):=by
 intro pins s σ H Q I h
 exact isTrue_not (ha pins s σ H (fun c H1=>Q (!c) H1) I h)
inductive qS7 (tb:TE)(σ:L2.St)(Q:VK)(x:V)(H1:Hp):Prop
| mk c (_:x= .bl c) (_:if c=true then tb σ H1 Q else Q (.bl false) H1)
def qU5 (ta tb:TE):TE:=fun σ H Q=>ta σ H fun x H1=>qS7 tb σ Q x H1
inductive qTh (Q:VK)(x:V)(H1:Hp):Prop
| mk c (_:x= .bl c) (_:Q (.bl (!c)) H1)
def qUd (ta:TE):TE:=fun σ H Q=>ta σ H fun x H1=>qTh Q x H1
theorem qBc {op}{t:TE}(h:PE X a t):PE X (.BoolOp op [a] pos) t:=fun pins s σ H Q I hw=>BoolOp_one (h pins s σ H Q I hw)
theorem vk (ha:PE X a ta)(hb:PE X (.BoolOp .And (b::rest) pos) tb):PE X (.BoolOp .And (a::b::rest) pos) (qU5 ta tb):=by
 intro pins s σ H Q I h
 refine BoolOp_and (thn (ha pins s σ H _ I h) fun v s1 ⟨x,H1,I1,r1,q1⟩=>?_)
 obtain⟨c,rfl,q1⟩:=q1
 cases r1
 refine wpAny_truthy_bool ?_
 cases c with
 | true=>exact hb pins s1 σ H1 Q I1 q1
 | false=>exact⟨.bl false,H1,I1,rfl,q1⟩
theorem qQg (ha:PE X a ta):PE X (.UnaryOp .Not a pos) (qUd ta):=by
 intro pins s σ H Q I h
 refine UnaryOp_ (thn (ha pins s σ H _ I h) fun v s1 ⟨x,H1,I1,r1,q1⟩=>?_)
 obtain⟨c,rfl,q1⟩:=q1
 cases r1
 exact not_of (wpAny_truthy_bool ⟨.bl (!c),H1,I1,rfl,q1⟩)
def tIf (t:TT)(ta tb:TE):TE:=fun σ H Q=>t σ H fun c H1=>if c=true then ta σ H1 Q else tb σ H1 Q
theorem qBx {c:Expr}(hc:PT X c tA)(ha:PE X a ta)(hb:PE X b tb):PE X (.IfExp c a b pos) (tIf tA ta tb):=by
 intro pins s σ H Q I h
 refine wpAny_IfExp (thn (hc pins s σ H _ I h) fun d s1 ⟨H1,I1,q1⟩=>?_)
 cases d with
 | true=>exact ha pins s1 σ H1 Q I1 q1
 | false=>exact hb pins s1 σ H1 Q I1 q1
end
end L2
namespace L2
open PySem PySem.Spec PyProof.Rows
def SqL (K:PySem.W.Frag)(H:Hp)(a:Addr)(xs:List V):Prop:=
 Rd H a (.lst xs)∨
  ∃ (o:Obj) (its:Array Value) (n:Nat),K.lookup a=some o∧o.cls= .type "list"∧o.dict=none∧o.data= .seq its n∧its.size≤sizeLine∧Vals xs its.toList
def SqT (K:PySem.W.Frag)(H:Hp)(a:Addr)(xs:List V):Prop:=
 Rd H a (.tup xs)∨
  ∃ (o:Obj) (its:Array Value) (n:Nat),K.lookup a=some o∧o.cls= .type "tuple"∧o.data= .seq its n∧its.size≤sizeLine∧Vals xs its.toList
def qWa:Value→Option V
 | .none=>some .non
 | .bool b=>some (.bl b)
 | .int i _=>some (.int i)
 | .str x _=>some (.str x)
 | .bytes b _=>some (.byt b)
 | .float b _=>some (.flt b)
 | .ref a=>some (.ref a)
 | .type n=>some (.ty n)
 | _=>none
theorem RelV.abs {x:V}{u:Value}(r:RelV x u):qWa u=some x:=by
 cases x with
 | non=>cases r;rfl
 | bl _=>cases r;rfl
 | int _=>obtain⟨t,rfl⟩:=r;rfl
 | str _=>obtain⟨t,rfl⟩:=r;rfl
 | byt _=>obtain⟨t,rfl⟩:=r;rfl
 | flt _=>obtain⟨t,rfl⟩:=r;rfl
 | ref _=>cases r;rfl
 | ty _=>cases r;rfl
theorem RelV.inj {x y:V}{u:Value}(r:RelV x u)(q:RelV y u):x=y:=Option.some.inj (r.abs.symm.trans q.abs)
theorem Vals.inj:∀ {xs ys:List V} {us:List Value},Vals xs us→Vals ys us→xs=ys
 | _,_,_,.nil,.nil=>rfl
 | _,_,_,.cons r t,.cons r' t'=>by rw [r.inj r',Vals.inj t t']
section
variable {X : Cx} {pins : List (Addr × Obj)} {σ : St} {H : Hp} {s : Shared} {a : Addr} {xs ys : List V}
theorem SqL.of {K:PySem.W.Frag}(h:H a=some (.lst xs)):SqL K H a xs:=.inl (.inl h)
theorem SqT.of {K:PySem.W.Frag}(h:H a=some (.tup xs)):SqT K H a xs:=.inl (.inl h)
theorem Inv.list (I:Inv X pins σ H s)(h:SqL X.K H a xs):∃ its:List Value,Vals xs its∧PlainL s.heap a its.toArray∧xs.length≤sizeLine:=by
 rcases h with h | ⟨o,its,n,hk,hc,hd,hs,hz,r⟩
 · obtain⟨z,its,n,r,e⟩:=h.ok I.hok
   exact⟨its,r,⟨_,n,e,rfl,rfl,rfl⟩,z⟩
 · refine⟨its.toList,r,⟨o,n,I.kIn a o hk,hc,hd,by simpa using hs⟩,?_⟩
   have e:=r.length
   simp only [Array.length_toList] at e
   omega
theorem Inv.tuple (I:Inv X pins σ H s)(h:SqT X.K H a xs):∃ its:List Value,Vals xs its∧IsTup s.heap a its.toArray∧xs.length≤sizeLine:=by
 rcases h with h | ⟨o,its,n,hk,hc,hs,hz,r⟩
 · obtain⟨z,its,r,p⟩:=h.ok I.hok
   exact⟨its,r,p,z⟩
 · refine⟨its.toList,r,⟨o,I.kIn a o hk,hc,n,by simpa using hs⟩,?_⟩
   have e:=r.length
   simp only [Array.length_toList] at e
   omega
theorem Inv.list_inj (I:Inv X pins σ H s)(h:SqL X.K H a xs)(h':SqL X.K H a ys):xs=ys:=by
 obtain⟨its,r,⟨o,n,e,_,_,d⟩,_⟩:=I.list h
 obtain⟨its',r',⟨o',n',e',_,_,d'⟩,_⟩:=I.list h'
 rw [e] at e';cases e'
 rw [d] at d'
 injection d' with d1 _
 have:its=its':=by simpa using congrArg Array.toList d1
 subst this
 exact r.inj r'
theorem Inv.tuple_inj (I:Inv X pins σ H s)(h:SqT X.K H a xs)(h':SqT X.K H a ys):xs=ys:=by
 obtain⟨its,r,⟨o,e,_,n,d⟩,_⟩:=I.tuple h
 obtain⟨its',r',⟨o',e',_,n',d'⟩,_⟩:=I.tuple h'
 rw [e] at e';cases e'
 rw [d] at d'
 injection d' with d1 _
 have:its=its':=by simpa using congrArg Array.toList d1
 subst this
 exact r.inj r'
end
abbrev Cx.wish (X:Cx)(E:Value→Shared→Prop):Cx:={X with xe:=E}
abbrev Cx.nox (X:Cx):Cx:=X.wish fun _ _=>False
theorem Cx.Ok.wish {X:Cx}(ok:X.Ok)(E:Value→Shared→Prop):(X.wish E).Ok:=
 ⟨ok.mod,ok.kind,ok.glob,ok.blt,ok.above,ok.inj,ok.has,ok.cab,ok.hd,ok.frames,ok.stk,ok.exf,ok.bs,ok.bsz,ok.noex,ok.exfs,ok.funs,ok.frf⟩
theorem Cx.Ok.unwish {X:Cx}{E:Value→Shared→Prop}(ok:(X.wish E).Ok):X.Ok:=
 ⟨ok.mod,ok.kind,ok.glob,ok.blt,ok.above,ok.inj,ok.has,ok.cab,ok.hd,ok.frames,ok.stk,ok.exf,ok.bs,ok.bsz,ok.noex,ok.exfs,ok.funs,ok.frf⟩
section
variable {X : Cx} {pins : List (Addr × Obj)} {σ : St} {H : Hp} {s : Shared} {E : Value → Shared → Prop}
theorem Inv.wish (I:Inv X pins σ H s)(E:Value→Shared→Prop):Inv (X.wish E) pins σ H s:=⟨I.ok.wish E,I.os,I.bare,I.base,I.loc,I.cell,I.free,I.freeC,I.pin,I.hok,I.len⟩
theorem Inv.unwish (I:Inv (X.wish E) pins σ H s):Inv X pins σ H s:=⟨I.ok.unwish,I.os,I.bare,I.base,I.loc,I.cell,I.free,I.freeC,I.pin,I.hok,I.len⟩
theorem SP.unwish {D:qK1}{f:Flow}{s':Shared}(h:SP (X.wish E) pins D f s'):SP X pins D f s':=by
 cases f with
 | next=>obtain⟨σ',H',I,q⟩:=h;exact⟨σ',H',I.unwish,q⟩
 | brk=>obtain⟨σ',H',I,q⟩:=h;exact⟨σ',H',I.unwish,q⟩
 | cont=>obtain⟨σ',H',I,q⟩:=h;exact⟨σ',H',I.unwish,q⟩
 | ret u=>obtain⟨v,σ',H',I,r,q⟩:=h;exact⟨v,σ',H',I.unwish,r,q⟩
theorem PSs.nox {st:List Stmt}{t:TS}(h:PSs X.nox st t):PSs X st t:=fun pins s σ H D I hw=>
 wpAny_mono (h pins s σ H D (I.wish _) hw) (fun _ _ q=>q.unwish) fun _ _ z=>False.elim z
end
section
variable {X : Cx} {st : Stmt} {rest : List Stmt} {t u : TS} {e : Expr} {te : TE} {pos : Pos}
def qUv:TS:=fun D σ H=>D.nx σ H
def qVv (t u:TS):TS:=fun D σ H=>t {D with nx:=u D} σ H
theorem qQ:PSs X [] qUv:=fun _ _ σ H _ I h=>wpAny_execs_nil ⟨σ,H,I,h⟩
theorem qB (h1:PS X st t)(h2:PSs X rest u):PSs X (st::rest) (qVv t u):=by
 intro pins s σ H D I h
 refine wpAny_execs_cons (thn (h1 pins s σ H {D with nx:=u D} I h) fun f s1 q=>?_)
 cases f with
 | next=>
  obtain⟨σ',H',I',q⟩:=q
  exact h2 pins s1 σ' H' D I' q
 | ret v=>exact q
 | brk=>exact q
 | cont=>exact q
theorem qE (h1:PS X st t):PSs X [st] t:=by
 intro pins s σ H D I h
 refine wpAny_execs_cons (thn (h1 pins s σ H D I h) fun f s1 q=>?_)
 cases f with
 | next=>exact wpAny_execs_nil q
 | ret v=>exact q
 | brk=>exact q
 | cont=>exact q
theorem Inv.quiet {pins:List (Addr × Obj)}{σ:St}{H:Hp}{s:Shared}(I:Inv X pins σ H s):interactive X.env=false:=by simp [interactive,I.ok.kind]
def qUx (te:TE):TS:=fun D σ H=>te σ H fun _ H1=>D.nx σ H1
theorem jV (he:PE X e te)(hs:swapsWith e none pos.line X.env=pure false:=by rfl):PS X (.Expr e pos) (qUx te):=by
 intro pins s σ H D I h
 exact wpAny_Expr_any (thn (he pins s σ H _ I h) fun v s1 ⟨x,H1,I1,r1,q1⟩=>⟨σ,H1,I1,q1⟩) I.quiet hs
def qWk (te:TE):TS:=fun D σ H=>te σ H D.rt
theorem qM (he:PE X e te):PS X (.Return (some e) pos) (qWk te):=by
 intro pins s σ H D I h
 exact wpAny_Return_some (thn (he pins s σ H _ I h) fun v s1 ⟨x,H1,I1,r1,q1⟩=>⟨x,σ,H1,I1,r1,q1⟩)
def qWg (c:TT)(t u:TS):TS:=fun D σ H=>c σ H fun b H1=>if b=true then t D σ H1 else u D σ H1
theorem qd {c:Expr}{a b:List Stmt}{tc:TT}(hc:PT X c tc)(ha:PSs X a t)(hb:PSs X b u):PS X (.If c a b pos) (qWg tc t u):=by
 intro pins s σ H D I h
 refine wpAny_If (thn (hc pins s σ H _ I h) fun d s1 ⟨H1,I1,q1⟩=>?_)
 cases d with
 | true=>exact ha pins s1 σ H1 D I1 q1
 | false=>exact hb pins s1 σ H1 D I1 q1
def qTn:TS:=fun _ _ _=>False
theorem wm {sts:List Stmt}:PSs X sts qTn:=fun _ _ _ _ _ _ h=>h.elim
end
abbrev TG:=V→St→Hp→(St→Hp→Prop)→Prop
abbrev TGs:=List V→St→Hp→(St→Hp→Prop)→Prop
def PG (X:Cx)(target:Expr)(t:TG):Prop:=
 ∀ (pins:List (Addr × Obj)) (s:Shared) (σ:St) (H:Hp) (v:V) (u:Value) (Q:St→Hp→Prop),Inv X pins σ H s→RelV v u→t v σ H Q→
  wpAny (model X.prog X.w) X.A (assign target X.env u) (fun _ s'=>∃ σ' H',Inv X pins σ' H' s'∧Q σ' H') X.xe s
def PGs (X:Cx)(ts:List Expr)(t:TGs):Prop:=
 ∀ (pins:List (Addr × Obj)) (s:Shared) (σ:St) (H:Hp) (vs:List V) (us:List Value) (Q:St→Hp→Prop),Inv X pins σ H s→Vals vs us→t vs σ H Q→
  wpAny (model X.prog X.w) X.A (assignInOrder ((assignEach ts X.env).map (·.2)) us) (fun _ s'=>∃ σ' H',Inv X pins σ' H' s'∧Q σ' H') X.xe s
abbrev qUh:=V→V→V→Hp→(Hp→Prop)→Prop
def qV3 (X:Cx)(t:qUh):Prop:=
 ∀ (pins:List (Addr × Obj)) (s:Shared) (σ:St) (H:Hp) (o i v:V) (ov iv u:Value) (Q:Hp→Prop),Inv X pins σ H s→RelV o ov→RelV i iv→RelV v u→t o i v H Q→
  wpAny (model X.prog X.w) X.A (setItem ov iv u) (fun _ s'=>∃ H',Inv X pins σ H' s'∧Q H') X.xe s
section
variable {X : Cx} {pos : Pos}
def qA5 (i:Nat):TG:=fun v σ H Q=>Q (σ.set i (some v)) H
theorem qt {i:Nat}{x:Str}(hN:X.N.Nodup)(hi:X.N[i]? =some x)(hx:Loc X.env.scope x)(hf:X.fn x=true∨X.env.scope.names.lookup x=some .local:=by first | exact .inl rfl | exact .inr rfl | assumption):PG X (.Name x pos) (qA5 i):=by
 intro pins s σ H v u Q I r h
 exact wpAny_assign_Name (zJ I hN hi hx r (fun s' I'=>⟨_,H,I',h⟩) hf)
def qUp:TGs:=fun vs σ H Q=>vs=[]∧Q σ H
inductive qM3 (t:TG)(u:TGs)(vs:List V)(σ:L2.St)(H:Hp)(Q:L2.St→Hp→Prop):Prop
| mk v r (_:vs=v::r) (_:t v σ H fun σ' H'=>u r σ' H' Q)
theorem qIt:PGs X [] qUp:=by
 intro pins s σ H vs us Q I r h
 obtain⟨e,h⟩:=h
 subst e
 cases r
 exact assignInOrder_nil ⟨σ,H,I,h⟩
theorem vd {e:Expr}{es:List Expr}{t:TG}{u:TGs}(h1:PG X e t)(h2:PGs X es u)
 (hs:(assignEach (e::es) X.env).map (·.2)=assign e X.env::(assignEach es X.env).map (·.2):=by rfl):PGs X (e::es) (qM3 t u):=by
 intro pins s σ H vs us Q I r h
 obtain⟨v,vr,e1,h⟩:=h
 subst e1
 cases r with
 | cons r rr=>
  rw [hs]
  refine assignInOrder_cons (thn (h1 pins s σ H _ _ _ I r h) fun _ s1 ⟨σ1,H1,I1,q1⟩=>?_)
  exact h2 pins s1 σ1 H1 _ _ Q I1 rr q1
inductive qUk (K:PySem.W.Frag)(n:Nat)(t:TGs)(v:V)(σ:L2.St)(H:Hp)(Q:L2.St→Hp→Prop):Prop
| mk a xs (_:v= .ref a) (_:SqT K H a xs) (_:xs.length=n) (_:t xs σ H Q)
theorem qOc {es:List Expr}{k:Nat}{t:TGs}{n:Nat}(hc:X.calm=true)(h:PGs X es t)
 (hn:(assignEach es X.env).length=n:=by rfl) (hst:(assignEach es X.env).findIdx? (·.1)=none:=by rfl):PG X (.Tuple es k pos) (qUk X.K n t):=by
 intro pins s σ H v u Q I r hw
 obtain⟨a,xs,e1,hq,hl,hw⟩:=hw
 subst e1
 cases r
 obtain⟨its,rv,ht,hz⟩:=I.tuple hq
 refine assign_Tuple_tuple (I.ok.hd hc) ht (by simp [hn,← hl,rv.length]) hst fun h' hx=>?_
 have I1:Inv X pins σ H {s with heap:=h'}:=I.kept (t':=s.toks) fun b o e=>hx b o (Nat.ne_of_lt (Heap.lt_size e)) e
 exact h pins _ σ H xs _ Q I1 (by simpa using rv) hw
def qWh (to ti:TE)(t:qUh):TG:=fun v σ H Q=>to σ H fun o H1=>ti σ H1 fun i H2=>t o i v H2 fun H3=>Q σ H3
theorem qT3 {o i:Expr}{to ti:TE}{t:qUh}(ho:PE X o to)(hi:PE X i ti)(hs:qV3 X t)
 (ha:∀ v,assign (.Subscript o i pos) X.env v=(do
   let ov ← holding [v] (eval o X.env)
   let iv ← holding [v,ov] (eval i X.env)
   standAt pos
   holding [v,ov,iv] (setItem ov iv v)
   release [v,ov,iv] []):=by intro _;rfl):PG X (.Subscript o i pos) (qWh to ti t):=by
 intro pins s σ H v u Q I r h
 rw [ha]
 refine wpAny_bind (wpAny_holding (thn (ho pins s σ H _ I h) fun ov s1 ⟨x,H1,I1,r1,q1⟩=>?_))
 refine wpAny_bind (wpAny_holding (thn (hi pins s1 σ H1 _ I1 q1) fun iv s2 ⟨y,H2,I2,r2,q2⟩=>?_))
 refine wpAny_bind (wpAny_standAt (wpAny_bind (wpAny_holding (thn (hs pins s2 σ H2 x y v ov iv u _ I2 r1 r2 r q2) fun _ s3 ⟨H3,I3,q3⟩=>?_))))
 exact wpAny_release ⟨σ,H3,I3,q3⟩
def qRj (te:TE)(g:TG):TS:=fun D σ H=>te σ H fun x H1=>g x σ H1 D.nx
theorem qSu {tg e:Expr}{te:TE}{g:TG}(he:PE X e te)(hg:PG X tg g)(hs:swapsWithSole [tg] e pos.line X.env=pure false:=by rfl)(hw:swappedStores [tg] e X.env=pure none:=by rfl)
 (h1:(assignEach [tg] X.env).map (·.2)=[assign tg X.env]:=by rfl):PS X (.Assign [tg] e pos) (qRj te g):=by
 intro pins s σ H D I h
 refine wpAny_Assign_stores (thn (he pins s σ H _ I h) fun v s1 ⟨x,H1,I1,r1,q1⟩=>?_) hs hw
 rw [h1]
 exact thn (hg pins s1 σ H1 x v _ I1 r1 q1) fun _ s2 q=>q
theorem qQp {i:Nat}{x:Str}{e:Expr}{te:TE}{pos':Pos}(hN:X.N.Nodup)(hi:X.N[i]? =some x)(hx:Loc X.env.scope x)(he:PE X e te)(hs:swapsWith e (some (.Name x pos')) pos.line X.env=pure false:=by rfl)(hf:X.fn x=true∨X.env.scope.names.lookup x=some .local:=by first | exact .inl rfl | exact .inr rfl | assumption):
 PS X (.Assign [.Name x pos'] e pos) (qRj te (qA5 i)):=by
 intro pins s σ H D I h
 refine wpAny_Assign_Name (thn (he pins s σ H _ I h) fun v s1 ⟨y,H1,I1,r1,q1⟩=>?_) hs
 exact zJ I1 hN hi hx r1 (fun s2 I2=>⟨_,H1,I2,q1⟩) hf
inductive qUr (i:Nat)(j:Nat)(D:qK1)(σ:L2.St)(vs:List V)(H1:Hp):Prop
| mk v w (_:vs=[v,w]) (_:D.nx ((σ.set i (some v)).set j (some w)) H1)
def qWv (i j:Nat)(ta:TA):TS:=fun D σ H=>ta σ H fun vs H1=>qUr i j D σ vs H1
theorem qTu {i j:Nat}{x y:Str}{a b:Expr}{ta:TA}{px py pt:Pos}{kt k2 pt2}(hc:X.calm=true)(hN:X.N.Nodup)(hi:X.N[i]? =some x)(hj:X.N[j]? =some y)(hij:i≠j)
 (hx:X.env.scope.names.lookup x=some .local) (hy:X.env.scope.names.lookup y=some .local) (ha:PA X [a,b] ta)
 (hw:swappedStores [.Tuple [.Name x px,.Name y py] kt pt] (.Tuple [a,b] k2 pt2) X.env=pure (some [x,y]))
 (hs:swapsWithSole [.Tuple [.Name x px,.Name y py] kt pt] (.Tuple [a,b] k2 pt2) pos.line X.env=pure false:=by rfl):
 PS X (.Assign [.Tuple [.Name x px,.Name y py] kt pt] (.Tuple [a,b] k2 pt2) pos) (qWv i j ta):=by
 intro pins s σ H D I h
 rw [exec_Assign_arm]
 refine wpAny_bind (wpAny_standAt ?_)
 rw [hs]
 refine wpAny_bind (wpAny_pure ?_)
 rw [if_neg (by decide)]
 refine wpAny_bind (Tuple_ (thn (ha _ pins s σ H _ I h) fun us s1 ⟨vs,H1,I1,r1,q1⟩=>?_))
 obtain⟨v,w,e1,q1⟩:=q1
 subst e1
 obtain⟨u1,u2,rfl,rv,rw'⟩:∃ u1 u2,us=[u1,u2]∧RelV v u1∧RelV w u2:=by
  cases r1 with
  | cons p q=>
   cases q with
   | cons p' q'=>
    cases q'
    exact⟨_,_,rfl,p,p'⟩
 refine wpAny_newObj_type ?_ (by show 2≤sizeLine;decide)
 have I2:Inv X pins σ H1 {s1 with heap:=s1.heap.push {cls:=.type "tuple",data:=.seq [u1,u2].toArray}}:=I1.kept (t':=s1.toks) fun b o e=>Heap.get?_push_of_some _ e
 rw [hw]
 refine wpAny_bind (wpAny_pure ?_)
 show wpAny (model X.prog X.w) X.A (do rule "assign.swapped-stores";let items ← unpackItems (.ref s1.heap.objs.size) 2 none;assignInOrder [fun v=>bindName X.env y v,fun v=>bindName X.env x v] items.reverse;pure Flow.next) _ _ _
 refine wpAny_bind (wpAny_rule (wpAny_bind (unpackItems_tuple (items:=#[u1,u2]) (I.ok.hd hc) (IsTup.new s1.heap _) fun h' hx'=>?_)))
 have I3:=I2.kept (h':=h') (t':=s1.toks) fun b o e=>hx' b o (Nat.ne_of_lt (Heap.lt_size e)) e
 show wpAny _ _ (assignInOrder [fun v=>bindName X.env y v,fun v=>bindName X.env x v] [u2,u1] >>=fun _=>pure Flow.next) _ _ _
 refine wpAny_bind (assignInOrder_cons (wpAny_bindName (zJ I3 hN hj (.inl hy) rw' (fun s2 I4=>?_) (.inr hy))))
 refine assignInOrder_cons (wpAny_bindName (zJ I4 hN hi (.inl hx) rv (fun s3 I5=>assignInOrder_nil (wpAny_pure ?_)) (.inr hx)))
 rw [List.set_comm _ _ (Ne.symm hij)] at I5
 exact⟨_,H1,I5,q1⟩
end
section
variable {X : Cx} {pos : Pos}
def qQi (c:TT)(tb:TS):TS:=fun D σ H=>∃ W:Nat→St→Hp→Prop,(∃ m,W m σ H)∧∀ m σ H,W m σ H→
 c σ H fun b H1=>if b=true then ∃ N:St→Hp→Prop,(∀ σ' H',N σ' H'→∃ m',m' < m∧W m' σ' H')∧tb {D with nx:=N,ct:=N,bk:=D.nx} σ H1 else D.nx σ H1
theorem qKh {c:Expr}{body:List Stmt}{tc:TT}{tb:TS}(hp:PassesOwn (model X.prog X.w) X.A X.env X.xe)(hc:PT X c tc)(hb:PSs X body tb):PS X (.While c body [] pos) (qQi tc tb):=by
 intro pins s σ H D I h
 obtain⟨W,⟨m0,w0⟩,turn⟩:=h
 refine wpAny_While (codeAny_whileLoop (fun n s'=>∃ σ' H',Inv X pins σ' H' s'∧W n σ' H') ?_ m0 ⟨σ,H,I,w0⟩)
 rintro n s1 ⟨σ1,H1,I1,w1⟩
 refine wpAny_passesOwn hp (thn (hc pins s1 σ1 H1 _ I1 (turn n σ1 H1 w1)) fun b s2 ⟨H2,I2,q2⟩=>?_)
 cases b with
 | true=>
  obtain⟨N,hN,q2⟩:=q2
  rw [if_pos rfl]
  refine wpAny_passesOwn hp (thn (hb pins s2 σ1 H2 _ I2 q2) fun f s3 q3=>?_)
  cases f with
  | next=>
   obtain⟨σ3,H3,I3,n3⟩:=q3
   obtain⟨m',hm,w3⟩:=hN σ3 H3 n3
   exact⟨m',hm,σ3,H3,I3,w3⟩
  | cont=>
   obtain⟨σ3,H3,I3,n3⟩:=q3
   obtain⟨m',hm,w3⟩:=hN σ3 H3 n3
   exact⟨m',hm,σ3,H3,I3,w3⟩
  | brk=>exact q3
  | ret v=>exact q3
 | false=>
  rw [if_neg Bool.false_ne_true]
  exact wpAny_execs_nil ⟨σ1,H2,I2,q2⟩
end
structure It where
 go:Nat→Hp→Prop
 yld:Nat→Hp→V→Hp→Prop
 stop:Nat→Hp→Prop
def qO7 (X:Cx)(pins:List (Addr × Obj))(H:Hp)(b:Addr):Prop:=
 H b=none∧b≠X.env.locals∧b ∉ X.fs∧(b∈X.ex∨X.s₀.heap.objs.size≤b)∧(∀ x c,X.env.cells.lookup x=some c→c≠b)∧∀ p∈X.pn++pins,p.1≠b
theorem Inv.fpOk {X:Cx}{pins:List (Addr × Obj)}{σ:St}{H H':Hp}{s:Shared}{b:Addr}(I:Inv X pins σ H s)(hb:s.heap.objs.size≤b)(hn:H' b=none):qO7 X pins H' b:=by
 refine⟨hn,Nat.ne_of_gt (Nat.lt_of_lt_of_le I.lt hb),I.nofs hb,.inr (Nat.le_trans I.sz hb),fun x c e z=>?_,fun p hp z=>?_⟩
 · obtain⟨v,q⟩:=I.cell x c e
   exact absurd (Nat.lt_of_lt_of_le q.lt (by rw [z];exact hb)) (Nat.lt_irrefl _)
 · exact absurd (Nat.lt_of_lt_of_le (Heap.lt_size (I.pin p hp).1) (by rw [z];exact hb)) (Nat.lt_irrefl _)
structure qTv (P:Program)(w:World)(K:PySem.W.Frag)(tg:Expr)(J:It)(fp:List Addr)(it:Addr)(tn:Nat→Heap→Prop):Prop where
 mem:it∈fp
 obj:∀ i h,tn i h→∀ b∈fp,∃ o,h.get? b=some o∧∀ v,o.data≠ .cell v
 keep:∀ i h h',tn i h→(∀ b∈fp,∀ o,h.get? b=some o→h'.get? b=some o)→tn i h'
 item:∀ (X:Cx),X.prog=P→X.w=w→X.K=K→X.calm=true→∀ (i:Nat) (pins:List (Addr × Obj)) (s:Shared) (σ:St) (H:Hp) (E:Value→Shared→Prop),Inv X pins σ H s→(∀ b∈fp,qO7 X pins H b)→tn i s.heap→J.go i H→
  wpAny (model P w) X.A (pyNext (.ref it)) (fun r s1=>∃ u,r=some u∧
   wpAny (model P w) X.A (letOwnedTupleGo tg (.ref it) u) (fun _ s2=>∃ x H',Inv X pins σ H' s2∧RelV x u∧J.yld i H x H'∧tn (i+1) s2.heap∧∀ b∈fp,H' b=none) E s1) E s
 done:∀ (X:Cx),X.prog=P→X.w=w→X.K=K→X.calm=true→∀ (i:Nat) (pins:List (Addr × Obj)) (s:Shared) (σ:St) (H:Hp) (E:Value→Shared→Prop),Inv X pins σ H s→(∀ b∈fp,qO7 X pins H b)→tn i s.heap→J.stop i H→
  wpAny (model P w) X.A (pyNext (.ref it)) (fun r s1=>r=none∧Inv X pins σ H s1) E s
 self:∀ (A:Around) (i:Nat) (s:Shared) (Q:Value→Shared→Prop) (E:Value→Shared→Prop),tn i s.heap→Q (.ref it) s→wpAny (model P w) A (pyIter (.ref it)) Q E s
abbrev TI:=St→Hp→(It→Hp→Prop)→Prop
def PIE (X:Cx)(pins:List (Addr × Obj))(σ:St)(tg:Expr)(R:It→Hp→Prop)(itv:Value)(s2:Shared):Prop:=
 ∃ (it:Addr) (fp:List Addr) (tn:Nat→Heap→Prop) (J:It) (H':Hp),itv= .ref it∧Inv X pins σ H' s2∧qTv X.prog X.w X.K tg J fp it tn∧tn 0 s2.heap∧(∀ b∈fp,qO7 X pins H' b)∧R J H'
def PI (X:Cx)(tg iter:Expr)(wi:TI):Prop:=
 ∀ (pins:List (Addr × Obj)) (s:Shared) (σ:St) (H:Hp) (R:It→Hp→Prop),Inv X pins σ H s→wi σ H R→
  wpAny (model X.prog X.w) X.A (eval iter X.env) (fun v s1=>wpAny (model X.prog X.w) X.A (pyIter v) (PIE X pins σ tg R) X.xe s1) X.xe s
theorem qS1 {M:Model}{A:Around}{E:Value→Shared→Prop}{s:Shared}{tg:Expr}{it:Addr}{u:Value}{o:Obj}{n:String}{vs:Array Value}{Q:Unit→Shared→Prop}(ho:s.heap.get? it=some o)(hc:o.cls= .type n)(hd:o.data= .fields vs)
 (hn:["enumerate","zip","dict_itemiterator","dict_reverseitemiterator","odict_iterator","itertools.zip_longest","itertools.pairwise"].contains n=false) (hQ:Q () s):wpAny M A (letOwnedTupleGo tg (.ref it) u) Q E s:=by
 unfold letOwnedTupleGo
 cases tg <;> first
  | exact wpAny_pure hQ
  | (cases u <;> first
      | exact wpAny_pure hQ
      | (refine wpAny_bind (wpAny_load ho ?_)
         rw [hc,hd]
         show wpAny M A (if (["enumerate","zip","dict_itemiterator","dict_reverseitemiterator","odict_iterator","itertools.zip_longest","itertools.pairwise"].contains n && vs[0]? == some (rawInt _))=true then _ else _) Q E s
         rw [if_neg (by intro h;rw [hn,Bool.false_and] at h;cases h)]
         exact wpAny_pure hQ))
def Itl (K:PySem.W.Frag)(a:Addr):It:=
 ⟨fun i H=>∃ xs x,SqL K H a xs∧xs[i]? =some x,fun i H x H'=>H'=H∧∀ xs,SqL K H a xs→xs[i]? =some x,fun i H=>∃ xs,SqL K H a xs∧xs.length≤i⟩
def Itr (lo:Int)(n:Nat):It:=⟨fun i _=>i < n,fun i H x H'=>H'=H∧x= .int (lo+i),fun i _=>n≤i⟩
theorem qMc {P:Program}{w:World}{K:PySem.W.Frag}{tg:Expr}(a it:Addr):qTv P w K tg (Itl K a) [it] it (fun i h=>h.IsListIter it a i) where
 mem:=by simp
 obj:=fun i h st b hb=>by
  have e:b=it:=by simpa using hb
  subst e
  obtain⟨o,e,c,d⟩:=st
  exact⟨o,e,fun v z=>by rw [d] at z;cases z⟩
 keep:=fun i h h' st k=>st.at fun o e=>k it (by simp) o e
 item:=by
  intro X hP hw hK hc i pins s σ H E I hf st hg
  subst hP hw hK
  obtain⟨xs,x,hq,hx⟩:=hg
  obtain⟨its,rv,p,hz⟩:=I.list hq
  obtain⟨u,hu,ru⟩:=rv.get hx
  obtain⟨f0,f1,f2,f3,f4,f5⟩:=hf it (by simp)
  refine wpAny_pyNext_list_item st p.isList (x:=u) (by simpa using hu) fun h' st' sb=>?_
  have I1:Inv X pins σ H {s with heap:=h'}:=I.turned (t':=s.toks) (fun b o hb e=>(sb.2 b hb).trans e) f0 f1 f3 f4 f5
  obtain⟨o,e,c,d⟩:=id st'
  exact⟨u,rfl,qS1 (s:={s with heap:=h'}) e c d (by decide) ⟨x,H,I1,ru,⟨rfl,fun ys hy=>by rw [I.list_inj hy hq];exact hx⟩,st',fun b hb=>(hf b hb).1⟩⟩
 done:=by
  intro X hP hw hK hc i pins s σ H E I hf st hg
  subst hP hw hK
  obtain⟨xs,hq,hx⟩:=hg
  obtain⟨its,rv,p,hz⟩:=I.list hq
  obtain⟨f0,f1,f2,f3,f4,f5⟩:=hf it (by simp)
  have hl:=rv.length
  exact wpAny_pyNext_list_end (I.ok.hd hc) st p.isList (by simp;omega) fun h' eb=>⟨rfl,I.turned (t':=s.toks) (fun b o hb e=>eb b o hb e) f0 f1 f3 f4 f5⟩
 self:=fun _ _ _ _ _ st h=>wpAny_pyIter_listiter st h
theorem qK3 {P:Program}{w:World}{K:PySem.W.Frag}{tg:Expr}(it:Addr)(lo:Int)(n:Nat):qTv P w K tg (Itr lo n) [it] it (fun i h=>IsRangeIter h it (lo+(i:Nat)*1) ((n:Int) - (i:Nat)) 1) where
 mem:=by simp
 obj:=fun i h st b hb=>by
  have e:b=it:=by simpa using hb
  subst e
  exact⟨_,st,fun v z=>by
   have z':Data.fields _=Data.cell v:=z
   cases z'⟩
 keep:=fun i h h' st k=>k it (by simp) _ st
 item:=by
  intro X hP hw hK hc i pins s σ H E I hf st hg
  subst hP hw hK
  obtain⟨f0,f1,f2,f3,f4,f5⟩:=hf it (by simp)
  have W:=Walks.range (prog:=X.prog) (w:=X.w) (I.ok.hd hc) it lo 1 n
  refine W.item i s _ _ hg st fun v h' tk hv st' kk=>?_
  obtain⟨t,rfl⟩:=hv
  have I1:Inv X pins σ H {s with heap:=h',toks:=tk}:=I.turned (fun b o hb e=>kk b o (by simpa using hb) e) f0 f1 f3 f4 f5
  refine⟨_,rfl,qS1 (s:={s with heap:=h',toks:=tk}) (n:="range_iterator") st' rfl rfl (by decide) ⟨.int (lo+i),H,I1,⟨t,?_⟩,⟨rfl,rfl⟩,st',fun b hb=>(hf b hb).1⟩⟩
  rw [Int.mul_one]
 done:=by
  intro X hP hw hK hc i pins s σ H E I hf st hg
  subst hP hw hK
  obtain⟨f0,f1,f2,f3,f4,f5⟩:=hf it (by simp)
  exact wpAny_pyNext_range_end (I.ok.hd hc) st (by have:n≤i:=hg;omega) fun h' eb=>⟨rfl,I.turned (t':=s.toks) (fun b o hb e=>eb b o hb e) f0 f1 f3 f4 f5⟩
 self:=fun _ _ _ _ _ st h=>wpAny_pyIter_rangeiter st h
end L2
namespace L2
open PySem PySem.Spec PyProof.Rows
section
variable {X : Cx} {tg : Expr}
inductive qT2 (K:PySem.W.Frag)(R:It→Hp→Prop)(x:V)(H1:Hp):Prop
| mk a (_:x= .ref a) (_:(∃ xs,SqL K H1 a xs)) (_:R (Itl K a) H1)
def qUq (K:PySem.W.Frag)(tl:TE):TI:=fun σ H R=>tl σ H fun x H1=>qT2 K R x H1
theorem jX {l:Expr}{tl:TE}(hl:PE X l tl):PI X tg l (qUq X.K tl):=by
 intro pins s σ H R I h
 refine thn (hl pins s σ H _ I h) fun v s1 ⟨x,H1,I1,r1,q1⟩=>?_
 obtain⟨a,e,⟨xs,hq⟩,q⟩:=q1
 subst e
 cases r1
 obtain⟨its,rv,p,hz⟩:=I1.list hq
 refine wpAny_pyIter_list p.isList ?_
 refine⟨s1.heap.objs.size,[s1.heap.objs.size],_,_,H1,rfl,I1.kept (t':=s1.toks) fun b o e=>Heap.get?_push_of_some _ e,qMc a _,⟨_,Heap.get?_push_size _ rfl,rfl,rfl⟩,fun b hb=>?_,q⟩
 have e:b=s1.heap.objs.size:=by simpa using hb
 subst e
 exact I1.fpOk (Nat.le_refl _) (I1.hok.fresh (Nat.le_refl _))
theorem qO9 {pins:List (Addr × Obj)}{σ:St}{H:Hp}{s:Shared}{R:It→Hp→Prop}{E:Value→Shared→Prop}{lo hi:Int}{t u v:Tok}{tk:Nat}(I:Inv X pins σ H s)(h1:-(2 ^ 62)≤lo)(h2:lo < 2 ^ 62)(h3:-(2 ^ 62)≤hi)(h4:hi < 2 ^ 62)
 (q:R (Itr lo (hi - lo).toNat) H):wpAny (model X.prog X.w) X.A (pyIter (.ref s.heap.objs.size)) (PIE X pins σ tg R) E {s with heap:=s.heap.push {cls:=.type "range",data:=.fields #[.int lo t,.int hi u,.int 1 v]},toks:=tk}:=by
 refine wpAny_pyIter_range (IsRange.new ..) (small_one h1 h2 h3 h4) ?_
 have I1:Inv X pins σ H {s with heap:=s.heap.push {cls:=.type "range",data:=.fields #[.int lo t,.int hi u,.int 1 v]},toks:=tk}:=I.kept fun b o e=>Heap.get?_push_of_some _ e
 refine⟨(s.heap.push {cls:=.type "range",data:=.fields #[.int lo t,.int hi u,.int 1 v]}).objs.size,[(s.heap.push {cls:=.type "range",data:=.fields #[.int lo t,.int hi u,.int 1 v]}).objs.size],_,_,H,rfl,
  I1.kept (t':=tk) fun b o e=>Heap.get?_push_of_some _ e,qK3 _ lo (hi - lo).toNat,?_,fun b hb=>?_,q⟩
 · have e1:lo+((0:Nat):Int)*1=lo:=by simp
   have e2:(((hi - lo).toNat:Nat):Int) - ((0:Nat):Int)=Builtin.Range.rangeSize lo hi 1:=by rw [rangeSize_one];split <;> omega
   show IsRangeIter _ _ (lo+((0:Nat):Int)*1) ((((hi - lo).toNat:Nat):Int) - ((0:Nat):Int)) 1
   rw [e1,e2]
   exact Heap.get?_push_size _ rfl
 · have e:b=(s.heap.push {cls:=.type "range",data:=.fields #[.int lo t,.int hi u,.int 1 v]}).objs.size:=by simpa using hb
   subst e
   exact I1.fpOk (Nat.le_refl _) (I1.hok.fresh (Nat.le_refl _))
def qU4 (ta:TA):TI:=fun σ H R=>ta σ H fun vs H1=>∃ j:Int,vs=[.int j]∧-(2 ^ 62)≤j∧j < 2 ^ 62∧R (Itr 0 j.toNat) H1
theorem xF {a:Expr}{ta:TA}{p pos:Pos}(hg:Gl X "range")(hm:X.mg "range"=none)(ha:PA X [a] ta)(hs:starEach [a] X.env=[(false,eval a X.env)]:=by rfl):PI X tg (.Call (.Name "range" p) [a] [] pos) (qU4 ta):=by
 intro pins s σ H R I h
 refine Call_ (qEv I hg hm boot_range (PyProof.Rows.callWith_type1 (thn (ha pos pins s σ H _ I h) fun us s1 ⟨vs,H1,I1,r1,q1⟩=>?_) hs rfl))
 obtain⟨j,e,q1,q2,q⟩:=q1
 subst e
 cases r1 with
 | cons r rr=>
  cases rr
  obtain⟨t,rfl⟩:=r
  exact call_range_1 (qO9 I1 (by omega) (by omega) q1 q2 (by simpa using q))
def qWd (wi:TI)(g:TG)(tb:TS):TS:=fun D σ H=>wi σ H fun J H1=>∃ W:Nat→Nat→St→Hp→Prop,(∃ m,W 0 m σ H1)∧∀ i m σ H,W i m σ H→
 (J.stop i H∧D.nx σ H)∨(J.go i H∧∃ N:St→Hp→Prop,(∀ σ' H',N σ' H'→∃ m',m' < m∧W (i+1) m' σ' H')∧∀ x H',J.yld i H x H'→g x σ H' fun σ2 H2=>tb {D with nx:=N,ct:=N,bk:=D.nx} σ2 H2)
def qG9 (fp:List Addr)(h:Heap):List (Addr × Obj):=fp.filterMap fun b=>(h.get? b).map fun o=>(b,o)
theorem qAw {fp:List Addr}{h:Heap}{b:Addr}{o:Obj}(hb:b∈fp)(e:h.get? b=some o):(b,o)∈qG9 fp h:=List.mem_filterMap.mpr ⟨b,hb,by rw [e];rfl⟩
theorem qOf {fp:List Addr}{h:Heap}{p:Addr × Obj}(hp:p∈qG9 fp h):p.1∈fp∧h.get? p.1=some p.2:=by
 obtain⟨b,hb,e⟩:=List.mem_filterMap.mp hp
 cases q:h.get? b with
 | none=>rw [q] at e;cases e
 | some o=>
  rw [q] at e
  have e':(b,o)=p:=Option.some.inj e
  subst e'
  exact⟨hb,q⟩
theorem Inv.pinned {pins:List (Addr × Obj)}{σ:St}{H:Hp}{s:Shared}{fp:List Addr}(I:Inv X pins σ H s)(hf:∀ b∈fp,qO7 X pins H b)(ho:∀ b∈fp,∃ o,s.heap.get? b=some o∧∀ v,o.data≠ .cell v):Inv X (pins++qG9 fp s.heap) σ H s:=
 I.pins_of fun p hp=>(List.mem_append.mp hp).elim (fun z=>I.pin p (List.mem_append_right _ z)) fun z=>by
  obtain⟨hb,e⟩:=qOf z
  obtain⟨f0,f1,f2,_⟩:=hf p.1 hb
  obtain⟨o,e',d⟩:=ho p.1 hb
  rw [e] at e';cases e'
  exact⟨e,f0,f1,f2,d⟩
theorem Inv.unpinned {pins pl:List (Addr × Obj)}{σ:St}{H:Hp}{s:Shared}(I:Inv X (pins++pl) σ H s):Inv X pins σ H s:=I.pins_of fun p hp=>I.pin p (List.mem_append_right _ (List.mem_append_left _ hp))
theorem j2 {iter:Expr}{body:List Stmt}{wi:TI}{g:TG}{tb:TS}{pos:Pos}(hp:PassesOwn (model X.prog X.w) X.A X.env X.xe)(hc:X.calm=true)(hi:PI X tg iter wi)(hg:PG X tg g)(hb:PSs X body tb)
 (hs:∀ x,foldedSetIterable iter X.env x=pure x:=by intro _;rfl):PS X (.For tg iter body [] pos) (qWd wi g tb):=by
 intro pins s σ H D I h
 refine wpAny_For (thn (hi pins s σ H _ I h) fun v s1 h1=>thn h1 fun itv s2 h2=>?_) hs
 obtain⟨it,fp,tn,J,H2,e,I2,T,st2,f2,W,⟨m0,w0⟩,turn⟩:=h2
 subst e
 have stat:∀ {H':Hp},(∀ b∈fp,H' b=none)→∀ b∈fp,qO7 X pins H' b:=fun hn b hb=>⟨hn b hb,(f2 b hb).2⟩
 refine codeAny_forLoop_any (fun n s'=>∃ i σ' H',Inv X pins σ' H' s'∧tn i s'.heap∧(∀ b∈fp,H' b=none)∧W i n σ' H') ?_ m0 ⟨0,σ,H2,I2,st2,fun b hb=>(f2 b hb).1,w0⟩
 rintro n s3 ⟨i,σ3,H3,I3,st3,fr3,w3⟩
 rcases turn i n σ3 H3 w3 with ⟨stop,qn⟩ | ⟨go,N,hN,step⟩
 · refine wpAny_passesOwn hp (thn (T.done X rfl rfl rfl hc i pins s3 σ3 H3 X.xe I3 (stat fr3) st3 stop) fun r s4 ⟨hr,I4⟩=>?_)
   subst hr
   exact wpAny_execs_nil ⟨σ3,H3,I4,qn⟩
 · refine wpAny_passesOwn hp (thn (T.item X rfl rfl rfl hc i pins s3 σ3 H3 X.xe I3 (stat fr3) st3 go) fun r s4 ⟨u,hr,h4⟩=>?_)
   subst hr
   refine wpAny_passesOwn hp (thn h4 fun _ s5 ⟨x,H5,I5,r5,y5,st5,fr5⟩=>?_)
   have I5':=I5.pinned (stat fr5) (T.obj _ _ st5)
   refine wpAny_passesOwn hp (thn (hg _ s5 σ3 H5 x u _ I5' r5 (step x H5 y5)) fun _ s6 ⟨σ6,H6,I6,q6⟩=>?_)
   refine wpAny_passesOwn hp (thn (hb _ s6 σ6 H6 _ I6 q6) fun f s7 q7=>?_)
   have again:∀ {σ7:St} {H7:Hp},Inv X (pins++qG9 fp s5.heap) σ7 H7 s7→N σ7 H7→∃ m,m < n∧∃ i σ' H',Inv X pins σ' H' s7∧tn i s7.heap∧(∀ b∈fp,H' b=none)∧W i m σ' H':=fun {σ7 H7} I7 n7=>by
    obtain⟨m',hm,w7⟩:=hN σ7 H7 n7
    refine⟨m',hm,i+1,σ7,H7,I7.unpinned,T.keep _ _ _ st5 fun b hb o e=>(I7.pin (b,o) (List.mem_append_right _ (List.mem_append_right _ (qAw hb e)))).1,fun b hb=>?_,w7⟩
    obtain⟨o,e,d⟩:=T.obj _ _ st5 b hb
    exact(I7.pin (b,o) (List.mem_append_right _ (List.mem_append_right _ (qAw hb e)))).2.1
   cases f with
   | next=>obtain⟨σ7,H7,I7,n7⟩:=q7;exact again I7 n7
   | cont=>obtain⟨σ7,H7,I7,n7⟩:=q7;exact again I7 n7
   | brk=>obtain⟨σ7,H7,I7,q7⟩:=q7;exact⟨σ7,H7,I7.unpinned,q7⟩
   | ret v=>obtain⟨x7,σ7,H7,I7,r7,q7⟩:=q7;exact⟨x7,σ7,H7,I7.unpinned,r7,q7⟩
end
theorem jy {K:PySem.W.Frag}{a:Addr}{xs:List V}{g:TG}{tb:TS}{D:qK1}{σ:St}{H:Hp}(Pv:Nat→St→Hp→Prop)(h0:Pv 0 σ H)(hl:∀ i σ H,i≤xs.length→Pv i σ H→SqL K H a xs)
 (hs:∀ i x σ H,xs[i]? =some x→Pv i σ H→g x σ H fun σ2 H2=>tb {D with nx:=Pv (i+1),ct:=Pv (i+1),bk:=D.nx} σ2 H2) (hd:∀ σ H,Pv xs.length σ H→D.nx σ H):
 ∃ W:Nat→Nat→St→Hp→Prop,(∃ m,W 0 m σ H)∧∀ i m σ H,W i m σ H→
  ((Itl K a).stop i H∧D.nx σ H)∨((Itl K a).go i H∧∃ N:St→Hp→Prop,(∀ σ' H',N σ' H'→∃ m',m' < m∧W (i+1) m' σ' H')∧∀ x H',(Itl K a).yld i H x H'→g x σ H' fun σ2 H2=>tb {D with nx:=N,ct:=N,bk:=D.nx} σ2 H2):=by
 refine⟨fun i m σ H=>m=xs.length - i∧i≤xs.length∧Pv i σ H,⟨xs.length,by simp,Nat.zero_le _,h0⟩,?_⟩
 rintro i m σ H ⟨rfl,hi,p⟩
 have q:=hl i σ H hi p
 by_cases hlt:i < xs.length
 · refine .inr ⟨⟨xs,xs[i],q,by simp [hlt]⟩,Pv (i+1),fun σ' H' p'=>⟨xs.length - (i+1),by omega,rfl,hlt,p'⟩,fun x H' y=>?_⟩
   obtain⟨e,y⟩:=y
   subst e
   exact hs i x σ _ (y xs q) p
 · have e:i=xs.length:=by omega
   subst e
   exact .inl ⟨⟨xs,q,Nat.le_refl _⟩,hd σ H p⟩
theorem zE {lo:Int}{n:Nat}{g:TG}{tb:TS}{D:qK1}{σ:St}{H:Hp}(Pv:Nat→St→Hp→Prop)(h0:Pv 0 σ H)
 (hs:∀ i σ H,i < n→Pv i σ H→g (.int (lo+i)) σ H fun σ2 H2=>tb {D with nx:=Pv (i+1),ct:=Pv (i+1),bk:=D.nx} σ2 H2) (hd:∀ σ H,Pv n σ H→D.nx σ H):
 ∃ W:Nat→Nat→St→Hp→Prop,(∃ m,W 0 m σ H)∧∀ i m σ H,W i m σ H→
  ((Itr lo n).stop i H∧D.nx σ H)∨((Itr lo n).go i H∧∃ N:St→Hp→Prop,(∀ σ' H',N σ' H'→∃ m',m' < m∧W (i+1) m' σ' H')∧∀ x H',(Itr lo n).yld i H x H'→g x σ H' fun σ2 H2=>tb {D with nx:=N,ct:=N,bk:=D.nx} σ2 H2):=by
 refine⟨fun i m σ H=>m=n - i∧i≤n∧Pv i σ H,⟨n,by simp,Nat.zero_le _,h0⟩,?_⟩
 rintro i m σ H ⟨rfl,hi,p⟩
 by_cases hlt:i < n
 · refine .inr ⟨hlt,Pv (i+1),fun σ' H' p'=>⟨n - (i+1),by omega,rfl,hlt,p'⟩,fun x H' y=>?_⟩
   obtain⟨e,y⟩:=y
   subst e y
   exact hs i σ _ hlt p
 · have e:i=n:=by omega
   subst e
   exact .inl ⟨Nat.le_refl _,hd σ H p⟩
theorem qKd {c:TT}{tb:TS}{D:qK1}{σ:St}{H:Hp}(Pv:St→Hp→Prop)(μ:St→Hp→Nat)(h0:Pv σ H)
 (hs:∀ σ H,Pv σ H→c σ H fun b H1=>if b=true then tb {D with nx:=fun σ' H'=>Pv σ' H'∧μ σ' H' < μ σ H,ct:=fun σ' H'=>Pv σ' H'∧μ σ' H' < μ σ H,bk:=D.nx} σ H1 else D.nx σ H1)
 (mono:∀ σ H Q Q',(∀ b H1,Q b H1→Q' b H1)→c σ H Q→c σ H Q'):qQi c tb D σ H:=by
 refine⟨fun m σ H=>m=μ σ H∧Pv σ H,⟨_,rfl,h0⟩,?_⟩
 rintro m σ H ⟨rfl,p⟩
 refine mono σ H _ _ (fun b H1 q=>?_) (hs σ H p)
 cases b with
 | true=>exact⟨_,fun σ' H' ⟨p',l⟩=>⟨_,l,rfl,p'⟩,q⟩
 | false=>exact q
end L2
namespace L2
open PySem PySem.Spec PyProof.Rows
abbrev R2:=V→V→Hp→VK→Prop
def OpR (X:Cx)(f:Value→Value→Sem Value)(r:R2):Prop:=
 ∀ (pins:List (Addr × Obj)) (s:Shared) (σ:St) (H:Hp) (x y:V) (v u:Value) (Q:VK),Inv X pins σ H s→RelV x v→RelV y u→r x y H Q→
  wpAny (model X.prog X.w) X.A (f v u) (EP X pins σ Q) X.xe s
def UnR (X:Cx)(f:Value→Sem Value)(r:V→Hp→VK→Prop):Prop:=
 ∀ (pins:List (Addr × Obj)) (s:Shared) (σ:St) (H:Hp) (x:V) (v:Value) (Q:VK),Inv X pins σ H s→RelV x v→r x H Q→
  wpAny (model X.prog X.w) X.A (f v) (EP X pins σ Q) X.xe s
def qDr (X:Cx)(f:Value)(r:List V→Hp→VK→Prop):Prop:=
 ∀ (pins:List (Addr × Obj)) (s:Shared) (σ:St) (H:Hp) (xs:List V) (us:List Value) (Q:VK),Inv X pins σ H s→Vals xs us→r xs H Q→
  wpAny (model X.prog X.w) X.A (call f us) (EP X pins σ Q) X.xe s
def tOp (r:R2)(ta tb:TE):TE:=fun σ H Q=>ta σ H fun x H1=>tb σ H1 fun y H2=>r x y H2 Q
def tUn (r:V→Hp→VK→Prop)(ta:TE):TE:=fun σ H Q=>ta σ H fun x H1=>r x H1 Q
inductive rI (C:Int→Int→Prop)(g:Int→Int→V)(x:V)(y:V)(H:Hp)(Q:VK):Prop
| mk i j (_:x= .int i) (_:y= .int j) (_:C i j) (_:Q (g i j) H)
inductive rI0 (g:Int→Int→V)(x:V)(y:V)(H:Hp)(Q:VK):Prop
| mk i j (_:x= .int i) (_:y= .int j) (_:Q (g i j) H)
inductive rU (g:Int→V)(x:V)(H:Hp)(Q:VK):Prop
| mk i (_:x= .int i) (_:Q (g i) H)
section
variable {X : Cx} {a b c : Expr} {ta tb tc : TE} {pos : Pos}
theorem qVr (ha:PE X a ta)(hb:PE X b tb){pins:List (Addr × Obj)}{s:Shared}{σ:St}{H:Hp}{R:V→V→Hp→Prop}(I:Inv X pins σ H s)
 (h:ta σ H fun x H1=>tb σ H1 fun y H2=>R x y H2) {Q:Value→Shared→Prop} {f:Value→Value→Sem Value}
 (hf:∀ v u s2 x y H2,Inv X pins σ H2 s2→RelV x v→RelV y u→R x y H2→wpAny (model X.prog X.w) X.A (f v u) Q X.xe s2):
 wpAny (model X.prog X.w) X.A (eval a X.env) (fun v s₁=>wpAny (model X.prog X.w) X.A (eval b X.env) (fun u s₂=>wpAny (model X.prog X.w) X.A (f v u) Q X.xe s₂) X.xe s₁) X.xe s:=by
 refine thn (ha pins s σ H _ I h) fun v s1 ⟨x,H1,I1,r1,q1⟩=>?_
 refine thn (hb pins s1 σ H1 _ I1 q1) fun u s2 ⟨y,H2,I2,r2,q2⟩=>?_
 exact hf v u s2 x y H2 I2 r1 r2 q2
theorem qP {op:Operator}{r:R2}(ho:OpR X (binaryOp op) r)(ha:PE X a ta)(hb:PE X b tb):PE X (.BinOp a op b pos) (tOp r ta tb):=by
 intro pins s σ H Q I h
 exact wpAny_BinOp (qVr ha hb I h fun v u s2 x y H2 I2 rx ry q=>ho pins s2 σ H2 x y v u Q I2 rx ry q)
theorem ka {op:UnaryOp}{r:V→Hp→VK→Prop}(ho:UnR X (unaryOp op) r)(ha:PE X a ta):PE X (.UnaryOp op a pos) (tUn r ta):=by
 intro pins s σ H Q I h
 exact UnaryOp_ (thn (ha pins s σ H _ I h) fun v s1 ⟨x,H1,I1,r1,q1⟩=>ho pins s1 σ H1 x v Q I1 r1 q1)
theorem opI {f:Value→Value→Sem Value}{C:Int→Int→Prop}{g:Int→Int→Int}
 (rule:∀ (i j:Int) (t u:Tok) (s:Shared) (Q:Value→Shared→Prop) (E:Value→Shared→Prop),C i j→Q (.int (g i j) s.toks) {s with toks:=s.toks+1}→wpAny (model X.prog X.w) X.A (f (.int i t) (.int j u)) Q E s):
 OpR X f (rI C fun i j=>.int (g i j)):=by
 intro pins s σ H x y v u Q I rx ry h
 obtain⟨i,j,rfl,rfl,hc,q⟩:=h
 obtain⟨t,rfl⟩:=rx
 obtain⟨t',rfl⟩:=ry
 exact rule i j t t' s _ _ hc ⟨.int (g i j),H,I.tok _,⟨_,rfl⟩,q⟩
theorem qVt {f:Value→Value→Sem Value}{g:Int→Int→Int}
 (rule:∀ (i j:Int) (t u:Tok) (s:Shared) (Q:Value→Shared→Prop) (E:Value→Shared→Prop),Q (.int (g i j) s.toks) {s with toks:=s.toks+1}→wpAny (model X.prog X.w) X.A (f (.int i t) (.int j u)) Q E s):
 OpR X f (rI0 fun i j=>.int (g i j)):=by
 intro pins s σ H x y v u Q I rx ry h
 obtain⟨i,j,rfl,rfl,q⟩:=h
 obtain⟨t,rfl⟩:=rx
 obtain⟨t',rfl⟩:=ry
 exact rule i j t t' s _ _ ⟨.int (g i j),H,I.tok _,⟨_,rfl⟩,q⟩
theorem qUa {f:Value→Value→Sem Value}{g:Int→Int→Bool}
 (rule:∀ (i j:Int) (t u:Tok) (s:Shared) (Q:Value→Shared→Prop) (E:Value→Shared→Prop),Q (.bool (g i j)) s→wpAny (model X.prog X.w) X.A (f (.int i t) (.int j u)) Q E s):
 OpR X f (rI0 fun i j=>.bl (g i j)):=by
 intro pins s σ H x y v u Q I rx ry h
 obtain⟨i,j,rfl,rfl,q⟩:=h
 obtain⟨t,rfl⟩:=rx
 obtain⟨t',rfl⟩:=ry
 exact rule i j t t' s _ _ ⟨.bl (g i j),H,I,rfl,q⟩
def qVw (i j:Int):Prop:=0≤j∧j≤1000000∧i.natAbs < 2 ^ 64
def CMul (i j:Int):Prop:=(-(2 ^ 64) < i∧i < 2 ^ 64)∨(-(2 ^ 64) < j∧j < 2 ^ 64)
theorem CMul.ok {i j:Int}(h:CMul i j):IntMulOk i j:=by
 rcases h with ⟨h1,h2⟩ | ⟨h1,h2⟩
 · exact .of_left (intBits_le_64 h1 h2)
 · exact .of_right (intBits_le_64 h1 h2)
theorem qo:OpR X (binaryOp .Add) (rI0 fun i j=>.int (i+j)):=qVt fun _ _ _ _ _ _ _ q=>add_int q
theorem jJ:OpR X (binaryOp .Sub) (rI0 fun i j=>.int (i - j)):=qVt fun _ _ _ _ _ _ _ q=>sub_int q
theorem jA:OpR X (binaryOp .Mod) (rI (fun _ j=>j≠0) fun i j=>.int (i.fmod j)):=opI fun _ _ _ _ _ _ _ hc q=>mod_int' hc q
theorem qQl:OpR X (binaryOp .Pow) (rI qVw fun i j=>.int (i ^ j.toNat)):=opI fun _ _ _ _ _ _ _ hc q=>pow_int_small hc.1 hc.2.1 hc.2.2 q
theorem unI {f:Value→Sem Value}{g:Int→Int}
 (rule:∀ (i:Int) (t:Tok) (s:Shared) (Q:Value→Shared→Prop) (E:Value→Shared→Prop),Q (.int (g i) s.toks) {s with toks:=s.toks+1}→wpAny (model X.prog X.w) X.A (f (.int i t)) Q E s):
 UnR X f (rU fun i=>.int (g i)):=by
 intro pins s σ H x v Q I rx h
 obtain⟨i,rfl,q⟩:=h
 obtain⟨t,rfl⟩:=rx
 exact rule i t s _ _ ⟨.int (g i),H,I.tok _,⟨_,rfl⟩,q⟩
theorem xK:UnR X (unaryOp .USub) (rU fun i=>.int (-i)):=unI fun _ _ _ _ _ q=>neg_int q
end
def qVs:V→V→Bool
 | .non,.non=>true | .non,.int _=>true | .int _,.non=>true | .non,.bl _=>true | .bl _,.non=>true | .non,.str _=>true | .str _,.non=>true
 | .int _,.int _=>true | .bl _,.bl _=>true | .str _,.str _=>true | .byt _,.byt _=>true
 | .int _,.str _=>true | .str _,.int _=>true | .bl _,.str _=>true | .str _,.bl _=>true
 | _,_=>false
inductive rEq (x:V)(y:V)(H:Hp)(Q:VK):Prop
| mk (_:qVs x y=true) (_:Q (.bl (decide (x=y))) H)
inductive rNe (x:V)(y:V)(H:Hp)(Q:VK):Prop
| mk (_:qVs x y=true) (_:Q (.bl (!decide (x=y))) H)
theorem qMb {i j:Int}:decide (V.int i=V.int j)=(i == j):=by
 rw [Bool.eq_iff_iff]
 simp
theorem qQq {i j:Bool}:decide (V.bl i=V.bl j)=(i == j):=by
 rw [Bool.eq_iff_iff]
 simp
theorem qM5 {i j:Str}:decide (V.str i=V.str j)=(i == j):=by
 rw [Bool.eq_iff_iff]
 simp
theorem qM6 {i j:Array UInt8}:decide (V.byt i=V.byt j)=(i.toList == j.toList):=by
 rw [Bool.eq_iff_iff]
 cases i
 cases j
 simp
section
variable {X : Cx} {a b c : Expr} {ta tb tc : TE} {pos : Pos}
theorem jK {pins:List (Addr × Obj)}{σ:St}{H:Hp}{s:Shared}{Q:VK}{k k':Bool}(I:Inv X pins σ H s)(q:Q (.bl k) H)(e:k=k'):EP X pins σ Q (.bool k') s:=by
 subst e
 exact⟨.bl k,H,I,rfl,q⟩
theorem jU:OpR X (compareOp .Eq) rEq:=by
 intro pins s σ H x y v u Q I rx ry h
 obtain⟨hs,q⟩:=h
 cases x with
 | non=>
  cases rx
  cases y with
  | non=>cases ry;exact PySem.EqNone.eq_none_none (jK I q (by simp))
  | bl j=>cases ry;exact PySem.EqNone.eq_none_bool (jK I q (by simp))
  | int j=>obtain⟨t',rfl⟩:=ry;exact PySem.EqNone.eq_none_int (jK I q (by simp))
  | str j=>obtain⟨t',rfl⟩:=ry;exact PySem.EqNone.eq_none_str (jK I q (by simp))
  | _=>exact absurd (show false=true from hs) Bool.false_ne_true
 | bl i=>
  cases rx
  cases y with
  | non=>cases ry;exact PySem.EqNone.eq_bool_none (jK I q (by simp))
  | bl j=>cases ry;exact eq_bool (jK I q qQq)
  | str j=>obtain⟨t',rfl⟩:=ry;exact PySem.EqMixed.eq_bool_str (jK I q (by simp))
  | _=>exact absurd (show false=true from hs) Bool.false_ne_true
 | int i=>
  obtain⟨t,rfl⟩:=rx
  cases y with
  | non=>cases ry;exact PySem.EqNone.eq_int_none (jK I q (by simp))
  | int j=>obtain⟨t',rfl⟩:=ry;exact eq_int (jK I q qMb)
  | str j=>obtain⟨t',rfl⟩:=ry;exact PySem.EqMixed.eq_int_str (jK I q (by simp))
  | _=>exact absurd (show false=true from hs) Bool.false_ne_true
 | str i=>
  obtain⟨t,rfl⟩:=rx
  cases y with
  | non=>cases ry;exact PySem.EqNone.eq_str_none (jK I q (by simp))
  | bl j=>cases ry;exact PySem.EqMixed.eq_str_bool (jK I q (by simp))
  | int j=>obtain⟨t',rfl⟩:=ry;exact PySem.EqMixed.eq_str_int (jK I q (by simp))
  | str j=>obtain⟨t',rfl⟩:=ry;exact eq_str (jK I q qM5)
  | _=>exact absurd (show false=true from hs) Bool.false_ne_true
 | byt i=>
  obtain⟨t,rfl⟩:=rx
  cases y with
  | byt j=>obtain⟨t',rfl⟩:=ry;exact PySem.W.eq_bytes (jK I q qM6)
  | _=>exact absurd (show false=true from hs) Bool.false_ne_true
 | _=>cases y <;> exact absurd (show false=true from hs) Bool.false_ne_true
theorem xo:OpR X (compareOp .NotEq) rNe:=by
 intro pins s σ H x y v u Q I rx ry h
 obtain⟨hs,q⟩:=h
 cases x with
 | non=>
  cases rx
  cases y with
  | non=>cases ry;exact PySem.EqNone.ne_none_none (jK I q (by simp))
  | bl j=>cases ry;exact PySem.EqNone.ne_none_bool (jK I q (by simp))
  | int j=>obtain⟨t',rfl⟩:=ry;exact PySem.EqNone.ne_none_int (jK I q (by simp))
  | str j=>obtain⟨t',rfl⟩:=ry;exact PySem.EqNone.ne_none_str (jK I q (by simp))
  | _=>exact absurd (show false=true from hs) Bool.false_ne_true
 | bl i=>
  cases rx
  cases y with
  | non=>cases ry;exact PySem.EqNone.ne_bool_none (jK I q (by simp))
  | bl j=>cases ry;exact ne_bool (jK I q (congrArg not qQq))
  | str j=>obtain⟨t',rfl⟩:=ry;exact PySem.EqMixed.ne_bool_str (jK I q (by simp))
  | _=>exact absurd (show false=true from hs) Bool.false_ne_true
 | int i=>
  obtain⟨t,rfl⟩:=rx
  cases y with
  | non=>cases ry;exact PySem.EqNone.ne_int_none (jK I q (by simp))
  | int j=>obtain⟨t',rfl⟩:=ry;exact ne_int (jK I q (congrArg not qMb))
  | str j=>obtain⟨t',rfl⟩:=ry;exact PySem.EqMixed.ne_int_str (jK I q (by simp))
  | _=>exact absurd (show false=true from hs) Bool.false_ne_true
 | str i=>
  obtain⟨t,rfl⟩:=rx
  cases y with
  | non=>cases ry;exact PySem.EqNone.ne_str_none (jK I q (by simp))
  | bl j=>cases ry;exact PySem.EqMixed.ne_str_bool (jK I q (by simp))
  | int j=>obtain⟨t',rfl⟩:=ry;exact PySem.EqMixed.ne_str_int (jK I q (by simp))
  | str j=>obtain⟨t',rfl⟩:=ry;exact ne_str (jK I q (congrArg not qM5))
  | _=>exact absurd (show false=true from hs) Bool.false_ne_true
 | byt i=>
  obtain⟨t,rfl⟩:=rx
  cases y with
  | byt j=>obtain⟨t',rfl⟩:=ry;exact PySem.W.ne_bytes (jK I q (congrArg not qM6))
  | _=>exact absurd (show false=true from hs) Bool.false_ne_true
 | _=>cases y <;> exact absurd (show false=true from hs) Bool.false_ne_true
theorem zo:OpR X (compareOp .Lt) (rI0 fun i j=>.bl (decide (i < j))):=qUa fun _ _ _ _ _ _ _ q=>lt_int q
theorem qN9:OpR X (compareOp .LtE) (rI0 fun i j=>.bl (decide (i≤j))):=qUa fun _ _ _ _ _ _ _ q=>le_int q
theorem qF8:OpR X (compareOp .Gt) (rI0 fun i j=>.bl (decide (j < i))):=qUa fun _ _ _ _ _ _ _ q=>gt_int q
theorem qLj:OpR X (compareOp .GtE) (rI0 fun i j=>.bl (decide (j≤i))):=qUa fun _ _ _ _ _ _ _ q=>ge_int q
theorem OpR.or {f:Value→Value→Sem Value}{r r':R2}(h:OpR X f r)(h':OpR X f r'):OpR X f (fun x y H Q=>r x y H Q∨r' x y H Q):=by
 intro pins s σ H x y v u Q I rx ry q
 rcases q with q | q
 · exact h pins s σ H x y v u Q I rx ry q
 · exact h' pins s σ H x y v u Q I rx ry q
theorem qN (b:Expr){op:CmpOp}(h:op≠ .In:=by decide)(h2:op≠ .NotIn:=by decide):behindInMarks op b=false:=by
 have e1:(op == CmpOp.In)=false:=by cases op <;> first | rfl | exact absurd rfl h
 have e2:(op == CmpOp.NotIn)=false:=by cases op <;> first | rfl | exact absurd rfl h2
 cases b <;> simp [behindInMarks,e1,e2]
theorem jp {op:CmpOp}{r:R2}(ho:OpR X (compareOp op) r)(ha:PE X a ta)(hb:PE X b tb)(hm:behindInMarks op b=false):PE X (.Compare a [op] [b] pos) (tOp r ta tb):=by
 intro pins s σ H Q I h
 exact wpAny_Compare1 (qVr ha hb I h fun v u s2 x y H2 I2 rx ry q=>ho pins s2 σ H2 x y v u Q I2 rx ry q) hm
inductive qTw (Q:Bool→Hp→Prop)(x:V)(H':Hp):Prop
| mk k (_:x= .bl k) (_:Q k H')
def qVn (t:TE):TT:=fun σ H Q=>t σ H fun x H'=>qTw Q x H'
theorem qJ {op:CmpOp}{r:R2}(ho:OpR X (compareOp op) r)(ha:PE X a ta)(hb:PE X b tb)(hm:behindInMarks op b=false):PT X (.Compare a [op] [b] pos) (qVn (tOp r ta tb)):=by
 intro pins s σ H Q I h
 refine wpAny_isTrue_Compare1 (thn (ha pins s σ H _ I h) fun v s1 ⟨x,H1,I1,r1,q1⟩=>thn (hb pins s1 σ H1 _ I1 q1) fun u s2 ⟨y,H2,I2,r2,q2⟩=>
  thn (ho pins s2 σ H2 x y v u _ I2 r1 r2 q2) fun c s3 ⟨z,H3,I3,r3,k,e,q3⟩=>?_) hm
 subst e
 cases r3
 exact wpAny_truthy_bool ⟨H3,I3,q3⟩
theorem qJ9:(sizeLine:Nat) < 2 ^ 63:=by rw [sizeLine_eq];decide
theorem qMp {x:V}{us:List Value}(r:Vals [x] us):∃ u,us=[u]∧RelV x u:=by
 cases r with
 | cons r1 r2=>cases r2;exact⟨_,rfl,r1⟩
theorem qR0 {x y:V}{us:List Value}(r:Vals [x,y] us):∃ u w',us=[u,w']∧RelV x u∧RelV y w':=by
 cases r with
 | cons r1 r2=>
  cases r2 with
  | cons r3 r4=>cases r4;exact⟨_,_,rfl,r1,r3⟩
theorem qFq:qDr X (.builtin "abs") (fun xs H Q=>∃ i,xs=[.int i]∧Q (.int (if i < 0 then -i else i)) H):=by
 intro pins s σ H xs us Q I r h
 obtain⟨i,rfl,q⟩:=h
 obtain⟨u,rfl,t,rfl⟩:=qMp r
 exact call_abs_int fun u tk=>⟨.int (if i < 0 then -i else i),H,I.tok _,⟨_,rfl⟩,q⟩
theorem wL (hc:X.calm=true):qDr X (.builtin "max") (fun xs H Q=>∃ i j,xs=[.int i,.int j]∧Q (.int (if j > i then j else i)) H):=by
 intro pins s σ H xs us Q I r h
 obtain⟨i,j,rfl,q⟩:=h
 obtain⟨u,w',rfl,⟨t,rfl⟩,⟨t',rfl⟩⟩:=qR0 r
 refine max_two_ints (I.ok.hd hc) fun h' tk k=>⟨_,H,I.kept k,?_,q⟩
 by_cases hj:j > i
 · rw [if_pos hj,if_pos hj];exact⟨_,rfl⟩
 · rw [if_neg hj,if_neg hj];exact⟨_,rfl⟩
theorem vS (hc:X.calm=true):qDr X (.builtin "min") (fun xs H Q=>∃ i j,xs=[.int i,.int j]∧Q (.int (if j < i then j else i)) H):=by
 intro pins s σ H xs us Q I r h
 obtain⟨i,j,rfl,q⟩:=h
 obtain⟨u,w',rfl,⟨t,rfl⟩,⟨t',rfl⟩⟩:=qR0 r
 refine min_two_ints (I.ok.hd hc) fun h' tk k=>⟨_,H,I.kept k,?_,q⟩
 by_cases hj:j < i
 · rw [if_pos hj,if_pos hj];exact⟨_,rfl⟩
 · rw [if_neg hj,if_neg hj];exact⟨_,rfl⟩
end
end L2
namespace L2
open PySem PySem.Spec PyProof.Rows
structure ObjM (h:Heap)(x dx C:Addr)(mA:Str→Option Value):Prop where
 obj:h.get? x=some (PySem.W.instObj C dx)
 ns:h.Ns1 dx mA
 ne:dx≠x
theorem qM8 {h:Heap}{dx:Addr}{mA:Str→Option Value}(n:h.Ns1 dx mA):∃ od,h.get? dx=some od∧∀ name,PySem.W.lookIn name od=some (mA name):=by
 obtain⟨o,es,ep,ho,hd,hk,_,hm⟩:=n
 refine⟨o,ho,fun name=>?_⟩
 have e:=hm name
 unfold nsFind findBy at e
 rw [← Array.find?_toList] at e
 unfold PySem.W.lookIn
 rw [hd]
 dsimp only
 split
 · rename_i y q
   rw [q] at e
   exact congrArg some e
 · rename_i q
   rw [q] at e
   have a:es.toList.any (·.refKey)=false:=by
    rw [List.any_eq_false]
    intro y hy
    obtain⟨z,t,hkey⟩:=hk y (Array.mem_toList_iff.mp hy)
    simp [DictEntry.refKey,hkey]
   have a':¬ es.toList.any (·.refKey)=true:=by rw [a];exact Bool.false_ne_true
   rw [if_neg a']
   exact congrArg some e
theorem ObjM.look {h:Heap}{x dx C:Addr}{mA:Str→Option Value}(I:ObjM h x dx C mA):∃ od,PySem.W.InstAt h x (PySem.W.instObj C dx) C (some od)∧∀ name,PySem.W.lookIn name od=some (mA name):=
 let ⟨od,ho,hl⟩:=qM8 I.ns
 ⟨od,⟨I.obj,rfl,rfl,ho⟩,hl⟩
section
variable {prog : Program} {w : World} {A : Around} {E : Value → Shared → Prop} {s : Shared} {K : PySem.W.Frag} {x dx C f : Addr} {mA : Str → Option Value} {name : Str} {v : Value}
end
theorem RelO.some_of {v:V}{o:Option Value}(r:RelO (some v) o):∃ u,o=some u∧RelV v u:=by
 cases o with
 | none=>exact(show False from r).elim
 | some u=>exact⟨u,rfl,r⟩
section
variable {P : Program} {w : World} {H H' : Hp} {h h' : Heap} {a C dx : Addr} {fs fs' : List (Str × V)}
theorem qRl (hok:HOk P w H h)(e:H a=some (.ins C dx fs)):∃ mA,ObjM h a dx C mA∧(∀ f,RelO (fs.lookup f) (mA f))∧PySem.Within mA (fs.map (·.1))∧fs.length≤1000∧H dx=some (.own a):=by
 obtain⟨d,z,ne,ob,mA,n,r,q⟩:=(show ObjOk P w H h a (.ins C dx fs) from hok a _ e)
 exact⟨mA,⟨ob,n,ne⟩,r,q,z,d⟩
end
structure Cls (K:PySem.W.Frag)(C:Addr):Prop where
 pg:PySem.W.plainGet K C Str.empty=true
 hd:PySem.W.hasDictIn K C=true
 po:PySem.W.plainOver K C=true
 sa:PySem.W.findIn K (.ref C) "__setattr__"=some (some (.builtin "object.__setattr__"))
theorem Cls.get {K:PySem.W.Frag}{C:Addr}(c:Cls K C)(f:Str):PySem.W.plainGet K C f=true:=c.pg
section
variable {X : Cx} {pins : List (Addr × Obj)} {σ : St} {H : Hp} {s : Shared} {a C dx : Addr} {fs : List (Str × V)} {f : Str} {v : V} {A : Around} {E : Value → Shared → Prop}
theorem Inv.made (I:Inv X pins σ H s):Inv X pins σ (upd (upd H s.heap.objs.size (.own (s.heap.objs.size+1))) (s.heap.objs.size+1) (.ins C s.heap.objs.size []))
 {s with heap:=(s.heap.push PySem.W.emptyDict).push (PySem.W.instObj C s.heap.objs.size)}:=by
 have e1:(s.heap.push PySem.W.emptyDict).get? s.heap.objs.size=some PySem.W.emptyDict:=Heap.get?_push_size s.heap rfl
 have e2:((s.heap.push PySem.W.emptyDict).push (PySem.W.instObj C s.heap.objs.size)).get? (s.heap.objs.size+1)=some (PySem.W.instObj C s.heap.objs.size):=by
  have:=Heap.get?_push_size (s.heap.push PySem.W.emptyDict) (o:=PySem.W.instObj C s.heap.objs.size) rfl
  rwa [Heap.size_push] at this
 have e3:(s.heap.push PySem.W.emptyDict).Ns s.heap.objs.size (fun _=>none):=⟨PySem.W.emptyDict,#[],_,e1,rfl,(fun e he=>absurd he (by simp)),fun _=>rfl⟩
 have I1:=I.laid (a:=s.heap.objs.size) (o:=.own (s.heap.objs.size+1)) (h':=s.heap.push PySem.W.emptyDict) (t':=s.toks) (fun b u q=>Heap.get?_push_of_some _ q) (Nat.le_refl _) ⟨_,e1⟩
 refine I1.laid (a:=s.heap.objs.size+1) (o:=.ins C s.heap.objs.size []) (t':=s.toks) (fun b u q=>Heap.get?_push_of_some _ q) (Nat.le_of_eq (Heap.size_push _ _)) ?_
 have ne:s.heap.objs.size≠s.heap.objs.size+1:=Nat.ne_of_lt (Nat.lt_succ_self _)
 refine⟨by rw [qV ne,qD],Nat.zero_le _,ne,e2,fun _=>none,(Heap.Ns1.of_empty e3).at fun o q=>Heap.get?_push_of_some _ q,fun _=>True.intro,fun y hy=>absurd rfl hy⟩
end
section
variable {X : Cx} {o e value : Expr} {f : Str} {pos pos' tpos : Pos} {ta tv : TE}
end
section
variable {X : Cx} {pins : List (Addr × Obj)} {σ : St} {H : Hp} {s : Shared} {A : Around} {E : Value → Shared → Prop} {Q : Value → Shared → Prop} {c : Value} {b : Bool}
inductive qJu (K:PySem.W.Frag)(H:Hp):V→Value→Prop where
 | non:qJu K H .non (.type "NoneType")
 | bl (x:Bool):qJu K H (.bl x) (.type "bool")
 | int (i:Int):qJu K H (.int i) (.type "int")
 | str (x:Str):qJu K H (.str x) (.type "str")
 | flt (x:UInt64):qJu K H (.flt x) (.type "float")
 | lst {a:Addr} {xs:List V} (e:H a=some (.lst xs)):qJu K H (.ref a) (.type "list")
 | frz {a:Addr} {o:Obj} {xs:List V} (e:H a=some (.frz o (.lst xs))):qJu K H (.ref a) (.type "list")
 | tup {a:Addr} {xs:List V} (e:H a=some (.tup xs)):qJu K H (.ref a) (.type "tuple")
 | dK {a:Addr} {kvs:List (Key × V)} (e:H a=some (.dK kvs)):qJu K H (.ref a) (.type "dict")
 | dT {a:Addr} {kvs:List (List Key × V)} (e:H a=some (.dT kvs)):qJu K H (.ref a) (.type "dict")
 | ins {a C dx:Addr} {fs:List (Str × V)} (e:H a=some (.ins C dx fs)) (cl:Cls K C) (ha:PySem.W.findIn K (.ref C) "__class__"=some (some (.builtin "object.__class__")))
  (hn:PySem.W.specialIn K (.builtin "object.__class__") "__get__"=some (some (.builtin "getset_descriptor.__get__"))) (htk:PySem.W.takesIn K (.builtin "object.__class__")=some true)
  (hm:PySem.W.mroIn K C (.type "object")=some true):qJu K H (.ref a) (.ref C)
theorem qG6 {x:V}{u t:Value}(I:Inv X pins σ H s)(rx:RelV x u)(ty:qJu X.K H x t)(e:PySem.W.kitOne X.K t c=some b)(h:∀ tk,Q (.bool b) {s with toks:=tk}):
 wpAny (model X.prog X.w) A (call (.builtin "isinstance") [u,c]) Q E s:=by
 cases ty with
 | non=>cases (show u=Value.none from rx);exact PySem.W.kia_one PySem.W.kitx_none I.kIn True.intro e (fun z=>nomatch z) h
 | bl y=>cases (show u=Value.bool y from rx);exact PySem.W.kia_one PySem.W.kitx_bool I.kIn True.intro e (fun z=>nomatch z) h
 | int i=>obtain⟨t,q⟩:=(show ∃ t,u=Value.int i t from rx);cases q;exact PySem.W.kia_one PySem.W.kitx_int I.kIn True.intro e (fun z=>nomatch z) h
 | str y=>obtain⟨t,q⟩:=(show ∃ t,u=Value.str y t from rx);cases q;exact PySem.W.kia_one PySem.W.kitx_str I.kIn True.intro e (fun z=>nomatch z) h
 | flt y=>obtain⟨t,q⟩:=(show ∃ t,u=Value.float y t from rx);cases q;exact PySem.W.kia_one PySem.W.kitx_float I.kIn True.intro e (fun z=>nomatch z) h
 | @lst a xs ea=>
  cases (show u=Value.ref a from rx)
  obtain⟨_,_,n,_,h1⟩:=(show ObjOk X.prog X.w H s.heap a (.lst xs) from I.hok a _ ea)
  exact PySem.W.kia_one PySem.W.kitx_list I.kIn ⟨_,h1,rfl⟩ e (fun z=>nomatch z) h
 | @frz a ob xs ea=>
  cases (show u=Value.ref a from rx)
  obtain⟨_,_,_,n,_,h1⟩:=(show ObjOk X.prog X.w H s.heap a (.frz ob (.lst xs)) from I.hok a _ ea)
  exact PySem.W.kia_one PySem.W.kitx_list I.kIn ⟨_,h1,rfl⟩ e (fun z=>nomatch z) h
 | @tup a xs ea=>
  cases (show u=Value.ref a from rx)
  obtain⟨_,_,_,p⟩:=(show ObjOk X.prog X.w H s.heap a (.tup xs) from I.hok a _ ea)
  obtain⟨o,h1,h2,_⟩:=p
  exact PySem.W.kia_one PySem.W.kitx_tuple I.kIn ⟨o,h1,h2⟩ e (fun z=>nomatch z) h
 | @dK a kvs ea=>
  cases (show u=Value.ref a from rx)
  obtain⟨_,_,vs,_,p⟩:=(show ObjOk X.prog X.w H s.heap a (.dK kvs) from I.hok a _ ea)
  obtain⟨o,es,ep,h1,h2,_⟩:=p
  exact PySem.W.kia_one PySem.W.kitx_dict I.kIn ⟨o,h1,h2.1⟩ e (fun z=>nomatch z) h
 | @dT a kvs ea=>
  cases (show u=Value.ref a from rx)
  obtain⟨_,_,xs,_,o,es,ep,h1,h2,_⟩:=(show ObjOk X.prog X.w H s.heap a (.dT kvs) from I.hok a _ ea)
  exact PySem.W.kia_one PySem.W.kitx_dict I.kIn ⟨o,h1,h2.1⟩ e (fun z=>nomatch z) h
 | @ins a C dx fs ea cl ha hn htk hm=>
  cases (show u=Value.ref a from rx)
  obtain⟨mA,O,_⟩:=qRl I.hok ea
  obtain⟨od,J,_⟩:=O.look
  exact PySem.W.kia_one (PySem.W.kitx_own (cl.get _) cl.hd ha hn htk hm) I.kIn J e (fun z=>nomatch z) h
end
end L2
namespace L2
open PySem PySem.Spec PyProof.Rows
structure Room (k:Nat)(A:Around):Prop where
 hd:A.handled=none
 dp:A.depth+3*k+5 < recursionLimit
 un:A.units+16*k+200 < cLine
theorem Room.mono {j k:Nat}{A:Around}(r:Room k A)(h:j≤k):Room j A:=⟨r.hd,by have:=r.dp;omega,by have:=r.un;omega⟩
theorem Room.deeper {k:Nat}{A:Around}(r:Room (k+1) A)(env:Env):Room k (A.deeper env):=
 ⟨r.hd,by have:=r.dp;show A.depth+1+3*k+5 < _;omega,by have:=r.un;show A.units+3+16*k+200 < _;omega⟩
theorem Room.in1 {k:Nat}{A:Around}(r:Room (k+1) A):Room k A.in1:=
 ⟨r.hd,by have:=r.dp;show A.depth+3*k+5 < _;omega,by have:=r.un;show A.units+1+16*k+200 < _;omega⟩
theorem qLe {A:Around}{C:Addr}{us:List Value}{kw:List (Str × Value)}:(A.under (.builtin "type.__call__" ⟨.ref C::us,kw⟩)).depth=A.depth+1:=by
 first | rfl | simp [Around.under,Code.weight,Code.isCreation,Code.isGuard,Code.isCaller,Code.frames,Code.isFrame,guardIds]
theorem qLz {A:Around}{C:Addr}{us:List Value}{kw:List (Str × Value)}:(A.under (.builtin "type.__call__" ⟨.ref C::us,kw⟩)).units=A.units+1:=by
 first | rfl | simp [Around.under,Code.cUnits,Code.frames,Code.isFrame]
theorem Room.make {k:Nat}{A:Around}(r:Room (k+1) A)(C:Addr)(us:List Value)(kw:List (Str × Value)):Room k (A.under (.builtin "type.__call__" ⟨.ref C::us,kw⟩)):=
 ⟨r.hd,by have:=r.dp;rw [qLe];omega,by have:=r.un;rw [qLz];omega⟩
theorem Room.depth {k:Nat}{A:Around}(r:Room k A):A.depth < recursionLimit:=by have:=r.dp;omega
theorem Room.units {k:Nat}{A:Around}(r:Room k A):A.units+64 < cLine:=by have:=r.un;omega
theorem Room.units0 {k:Nat}{A:Around}(r:Room k A):A.units < cLine:=by have:=r.un;omega
def qV6:TA:=fun _ H Q=>Q [] H
def qU1 (ta:TE)(tr:TA):TA:=fun σ H Q=>ta σ H fun x H1=>tr σ H1 fun xs H2=>Q (x::xs) H2
section
variable {X : Cx} {e : Expr} {es : List Expr} {te : TE} {t : TA} {pos : Pos}
theorem qC:PA X [] qV6:=fun _ _ _ _ H Q I h=>Calls.spliced_nil ⟨[],H,I,.nil,h⟩
theorem qA (ha:PE X e te)(hr:PA X es t)(hs:starEach (e::es) X.env=(false,eval e X.env)::starEach es X.env:=by rfl):PA X (e::es) (qU1 te t):=by
 intro pos pins s σ H Q I h
 rw [hs]
 show wpAny _ _ (spliced ((false,eval e X.env)::backTo pos (starEach es X.env))) _ _ s
 refine Calls.spliced_cons (thn (ha pins s σ H _ I h) fun u s1 ⟨x,H1,I1,r1,q1⟩=>?_)
 exact thn (hr pos pins s1 σ H1 _ I1 q1) fun us s2 ⟨xs,H2,I2,r2,q2⟩=>⟨x::xs,H2,I2,.cons r1 r2,q2⟩
inductive qVg (Q:VK)(xs:List V)(H1:Hp):Prop
| mk (_:xs.length≤sizeLine) (_:∀ p,H1 p=none→Q (.ref p) (upd H1 p (.tup xs)))
def qWo (t:TA):TE:=fun σ H Q=>t σ H fun xs H1=>qVg Q xs H1
inductive qUf (Q:VK)(xs:List V)(H1:Hp):Prop
| mk (_:xs.length≤sizeLine) (_:∀ p,H1 p=none→Q (.ref p) (upd H1 p (.lst xs)))
def qWm (t:TA):TE:=fun σ H Q=>t σ H fun xs H1=>qUf Q xs H1
theorem ql {x1}(h:PA X es t):PE X (.Tuple es x1 pos) (qWo t):=by
 intro pins s σ H Q I hq
 refine wpAny_Tuple_spliced (thn (h pos pins s σ H _ I hq) fun us s1 ⟨xs,H1,I1,r,z,q⟩=>⟨by rw [← r.length];exact z,?_⟩)
 have hf:H1 s1.heap.objs.size=none:=I1.hok.fresh (Nat.le_refl _)
 refine⟨.ref s1.heap.objs.size,upd H1 s1.heap.objs.size (.tup xs),I1.laid (t':=s1.toks) (fun b u e=>Heap.get?_push_of_some _ e) (Nat.le_refl _) ?_,rfl,q _ hf⟩
 exact⟨z,us,r,⟨_,Heap.get?_push_size _ rfl,rfl,_,rfl⟩⟩
theorem jD (h:PA X es t):PE X (.List es pos) (qWm t):=by
 intro pins s σ H Q I hq
 refine wpAny_List_spliced (thn (h pos pins s σ H _ I hq) fun us s1 ⟨xs,H1,I1,r,z,q⟩=>⟨by rw [← r.length];exact z,?_⟩)
 have hf:H1 s1.heap.objs.size=none:=I1.hok.fresh (Nat.le_refl _)
 refine⟨.ref s1.heap.objs.size,upd H1 s1.heap.objs.size (.lst xs),I1.laid (t':=s1.toks) (fun b u e=>Heap.get?_push_of_some _ e) (Nat.le_refl _) ?_,rfl,q _ hf⟩
 exact⟨z,us,0,r,Heap.get?_push_size _ rfl⟩
end
abbrev Sp:=List V→Hp→VK→XK→Prop
abbrev CXT:=List Env→Hp→Shared→XK→Value→Shared→Prop
structure Env0 (P:Program)(w:World)(K:PySem.W.Frag)(mg:Str→Option Value)(base:Heap)(A:Around)(outer:List Env)(s:Shared)(H:Hp):Prop where
 frames:A.frames=some outer
 mod:Mod K mg base
 bs:∀ b o,base.get? b=some o→s.heap.get? b=some o∧H b=none
 bsz:base.objs.size≤s.heap.objs.size
 funs:s.heap.FunFrames base outer
 frf:∀ b∈frs outer,H b=none
 hok:HOk P w H s.heap
 bare:AllBare s.gens
def CE (outer:List Env)(P:Program)(w:World)(H:Hp)(s:Shared)(Q:VK)(u:Value)(s':Shared):Prop:=
 ∃ v H',s'.os=s.os∧AllBare s'.gens∧Un (frs outer) [] H H' s.heap s'.heap∧HOk P w H' s'.heap∧RelV v u∧Q v H'
def CR (CX:CXT)(outer:List Env)(P:Program)(w:World)(H:Hp)(s:Shared)(Q:VK)(E:XK)(r:Result)(s':Shared):Prop:=
 match r with
 | .ok (.ret u)=>CE outer P w H s Q u s'
 | .ok _=>False
 | .error e=>CX outer H s E e s'
structure FnOk (P:Program)(w:World)(K:PySem.W.Frag)(mg:Str→Option Value)(base:Heap)(CX:CXT)(k:Nat)(f:Addr)(fd:FuncData)(ps:List Str)(sp:Sp):Prop where
 len:∀ vs H Q E,sp vs H Q E→vs.length=ps.length
 run:∀ (A:Around) (outer:List Env) (s:Shared) (H:Hp) (args:Args) (us:List Value) (vs:List V) (Q:VK) (E:XK),Room k A→Env0 P w K mg base A outer s H→BindsTo s fd args (ps.zip us)→Vals vs us→sp vs H Q E→
  codeAny (model P w) A (.call (.ref f) args) (CR CX outer P w H s Q E) s
theorem FnOk.imp {P:Program}{w:World}{K:PySem.W.Frag}{mg:Str→Option Value}{base:Heap}{CX:CXT}{k:Nat}{f:Addr}{fd:FuncData}{ps:List Str}{sp sp':Sp}(F:FnOk P w K mg base CX k f fd ps sp)
 (h:∀ vs H Q E,sp' vs H Q E→sp vs H Q E):FnOk P w K mg base CX k f fd ps sp':=
 ⟨fun vs H Q E q=>F.len vs H Q E (h _ _ _ _ q),fun A outer s H args us vs Q E hr he hb hv hs=>F.run A outer s H args us vs Q E hr he hb hv (h _ _ _ _ hs)⟩
theorem Env0.make {P:Program}{w:World}{K:PySem.W.Frag}{mg:Str→Option Value}{base:Heap}{A:Around}{outer:List Env}{s:Shared}{H:Hp}(e:Env0 P w K mg base A outer s H)(C:Addr)(us:List Value)(kw:List (Str × Value)):
 Env0 P w K mg base (A.under (.builtin "type.__call__" ⟨.ref C::us,kw⟩)) outer s H:=⟨by first | exact e.frames | (simpa [Around.under,Code.envs,Code.isFrame,pushEnvs] using e.frames),e.mod,e.bs,e.bsz,e.funs,e.frf,e.hok,e.bare⟩
section
variable {X : Cx} {pins : List (Addr × Obj)} {σ : St} {H : Hp} {s s' : Shared}
theorem Inv.env0 (I:Inv X pins σ H s):Env0 X.prog X.w X.K X.mg X.base X.A X.stack s H:=
 ⟨I.ok.frames,I.ok.mod,I.bs,Nat.le_trans I.ok.bsz I.sz,I.stack,I.stkFree,I.hok,I.bare⟩
theorem Inv.after {Q:VK}{u:Value}(I:Inv X pins σ H s)(h:CE X.stack X.prog X.w H s Q u s'):EP X pins σ Q u s':=by
 obtain⟨v,H',os,bare,un,hok,r,q⟩:=h
 obtain⟨hh,g,d,t,os'⟩:=s'
 obtain rfl:os'=s.os:=os
 exact⟨v,H',I.call (h':=hh) (g':=g) (d':=d) (t':=t) (ch:=[]) un hok bare (fun b z=>absurd z (by simp)),r,q⟩
end
def qQ7 (sp:Sp)(dvs:List V)(E:XK)(t:TA):TE:=fun σ H Q=>t σ H fun vs H1=>sp (vs++dvs) H1 Q E
def Binds (K:PySem.W.Frag)(fd:FuncData)(ps:List Str)(ds:List Value):Prop:=
 ∀ (s:Shared) (us:List Value),K.In s.heap→(us++ds).length=ps.length→BindsTo s fd ⟨us,[]⟩ (ps.zip (us++ds))
theorem Binds.all {K:PySem.W.Frag}{fd:FuncData}{ps:List Str}(h:∀ us:List Value,us.length=ps.length→bindArgs fd ⟨us,[]⟩=pure (ps.zip us)):Binds K fd ps []:=fun s us _ hl=>by
 rw [List.append_nil] at hl ⊢
 exact .of_eq (h us hl)
def qJ5 (CX:CXT)(X:Cx)(E:XK):Prop:=∀ (pins:List (Addr × Obj)) (σ:St) (H:Hp) (s:Shared) (e:Value) (s':Shared),Inv X pins σ H s→CX X.stack H s E e s'→X.xe e s'
section
variable {X : Cx} {CX : CXT} {k : Nat} {f C : Addr} {fd : FuncData} {ps : List Str} {sp : Sp} {dvs : List V} {ds : List Value} {E : XK} {x m : Str} {p pos apos : Pos} {e o : Expr} {es : List Expr} {ta : TE} {t : TA}
theorem qTe {pins:List (Addr × Obj)}{σ:St}{H:Hp}{s:Shared}{Q:VK}{us:List Value}{vs:List V}(F:FnOk X.prog X.w X.K X.mg X.base CX k f fd ps sp)(hr:Room k X.A)(hb:Binds X.K fd ps ds)(hd:Vals dvs ds)(hx:qJ5 CX X E)
 (I:Inv X pins σ H s) (r:Vals vs us) (h:sp (vs++dvs) H Q E):wpAny (model X.prog X.w) X.A (call (.ref f) us) (EP X pins σ Q) X.xe s:=by
 have r2:Vals (vs++dvs) (us++ds):=r.append hd
 have hl:(us++ds).length=ps.length:=by rw [← r2.length];exact F.len _ _ _ _ h
 refine wpAny_call (codeAny_mono (F.run X.A X.stack s H ⟨us,[]⟩ (us++ds) (vs++dvs) Q E hr I.env0 (hb s us I.kIn hl) r2 h) fun r s' hq=>?_)
 cases r with
 | error e=>exact hx pins σ H s e s' I hq
 | ok fl=>
  cases fl with
  | ret u=>exact I.after hq
  | next=>exact False.elim hq
  | brk=>exact False.elim hq
  | cont=>exact False.elim hq
theorem qNq (F:FnOk X.prog X.w X.K X.mg X.base CX k f fd ps sp)(hr:Room k X.A)(hg:Gl X x)(hm:X.mg x=some (.ref f))(hk:PySem.W.keepIn X.K (.ref f)=true)(hb:Binds X.K fd ps ds)(hd:Vals dvs ds)(hx:qJ5 CX X E)
 (ha:PA X (e::es) t) (hdb:(x == ("__debug__":Str))=false:=by decide) (he:starEach (e::es) X.env=(false,eval e X.env)::starEach es X.env:=by rfl) (hpl:(backTo pos (starEach es X.env)).any (·.1)=false:=by rfl):
 PE X (.Call (.Name x p) (e::es) [] pos) (qQ7 sp dvs E t):=by
 intro pins s σ H Q I h
 refine wpAny_Call_Name_kw (vF I hg hm ?_ hdb)
 refine PySem.W.callWith_K (h₀:=X.base) I.ok.mod.kin hk (thn (ha pos pins s σ H _ I h) fun us s1 ⟨vs,H1,I1,r,q⟩=>⟨I1.kIn,?_⟩) he hpl
 exact qTe F hr hb hd hx I1 r q
end
section
variable {X : Cx} {CX : CXT} {k : Nat} {f C : Addr} {fd : FuncData} {ps ks : List Str} {sp : Sp} {E : XK} {x m : Str} {p pos apos kpos : Pos} {e o : Expr} {es : List Expr} {kws : List Keyword} {te ta : TE} {t tk : TA} {nm : Option Str}
variable {g : List Value → List Value → List Value} {gV : List V → List V → List V}
end
structure qO (N P:List Str)(sc:Scope):Prop where
 kind:sc.kind= .function
 co:sc.isCoroutine=false
 gen:sc.isGenerator=false
 nd:N.Nodup
 pre:N.take P.length=P
 par:∀ x∈P,sc.names.lookup x=some .local∨sc.names.lookup x=some .cell
 nofree:∀ y∈sc.names,y.2≠ .free
theorem qHa {kindOf:Str→Option NameKind}{x:Str}:∀ {binds:List (Str × Value)} {m:Str→Option Value},(∀ v,(x,v) ∉ binds)→bindL kindOf binds m x=m x
 | [],_,_=>rfl
 | (n,v)::r,m,h=>by
  unfold bindL
  rw [qHa fun w hw=>h w (List.mem_cons_of_mem _ hw)]
  split
  · have:x≠n:=by rintro rfl;exact h v List.mem_cons_self
    simp [this]
  · rfl
theorem qIa {kindOf:Str→Option NameKind}{x:Str}:∀ {binds:List (Str × Value)} {m:Str→Option Value},(∀ v,(x,v) ∉ binds)→bindC kindOf binds m x=m x
 | [],_,_=>rfl
 | (n,v)::r,m,h=>by
  unfold bindC
  rw [qIa fun w hw=>h w (List.mem_cons_of_mem _ hw)]
  split
  · rfl
  · have:x≠n:=by rintro rfl;exact h v List.mem_cons_self
    simp [this]
theorem qGw {kindOf:Str→Option NameKind}{x:Str}{v:Value}:∀ {P:List Str} {vs:List Value} {i:Nat} {m:Str→Option Value},P.Nodup→P[i]? =some x→vs[i]? =some v→kindOf x=some .local→
 bindL kindOf (P.zip vs) m x=some v
 | [],_,_,_,_,h,_,_=>by simp at h
 | _::_,[],_,_,_,_,h,_=>by simp at h
 | p::P,w::vs,0,m,nd,h1,h2,hk=>by
  simp at h1 h2;subst h1;subst h2
  show bindL kindOf ((p,w)::P.zip vs) m p=_
  unfold bindL
  rw [qHa fun v hv=>(List.nodup_cons.mp nd).1 (List.of_mem_zip hv).1,if_pos hk]
  simp
 | p::P,w::vs,i+1,m,nd,h1,h2,hk=>by
  show bindL kindOf ((p,w)::P.zip vs) m x=_
  unfold bindL
  exact qGw (i:=i) (List.nodup_cons.mp nd).2 (by simpa using h1) (by simpa using h2) hk
theorem qHt {kindOf:Str→Option NameKind}{x:Str}{v:Value}:∀ {P:List Str} {vs:List Value} {i:Nat} {m:Str→Option Value},P.Nodup→P[i]? =some x→vs[i]? =some v→kindOf x≠some .local→
 bindC kindOf (P.zip vs) m x=some v
 | [],_,_,_,_,h,_,_=>by simp at h
 | _::_,[],_,_,_,_,h,_=>by simp at h
 | p::P,w::vs,0,m,nd,h1,h2,hk=>by
  simp at h1 h2;subst h1;subst h2
  show bindC kindOf ((p,w)::P.zip vs) m p=_
  unfold bindC
  rw [qIa fun v hv=>(List.nodup_cons.mp nd).1 (List.of_mem_zip hv).1,if_neg hk]
  simp
 | p::P,w::vs,i+1,m,nd,h1,h2,hk=>by
  show bindC kindOf ((p,w)::P.zip vs) m x=_
  unfold bindC
  exact qHt (i:=i) (List.nodup_cons.mp nd).2 (by simpa using h1) (by simpa using h2) hk
def start (N:List Str)(vs:List V):St:=vs.map some++List.replicate (N.length - vs.length) none
def qOn (CX:CXT)(P:Program)(w:World)(K:PySem.W.Frag)(mg:Str→Option Value)(base:Heap)(N:List Str)(qual:Str)(scope:Scope)(f:Addr)(cd:Value)(A:Around)(outer:List Env)(s:Shared)(H:Hp)(E:XK):Cx where
 prog:=P
 w:=w
 K:=K
 mg:=mg
 base:=base
 A:=A.deeper (envOfC qual scope s.heap.objs.size f cd)
 N:=N
 s₀:=s
 H₀:=H
 env:=envOfC qual scope s.heap.objs.size f cd
 outer:=outer
 stack:=envOfC qual scope s.heap.objs.size f cd::outer
 ex:=[]
 calm:=true
 fn:=fun _=>true
 pn:=[]
 xe:=fun e s'=>wpAny (model P w) (A.deeper (envOfC qual scope s.heap.objs.size f cd)) (leaving (envOfC qual scope s.heap.objs.size f cd) e) (fun _ s''=>CX outer H s E e s'') (fun e' s''=>CX outer H s E e' s'') s'
theorem qJ6 {sc:Scope}{n:Nat}{x:Str}(h:sc.names.lookup x=some .cell):∃ c,(cellsFrom n sc.names []).lookup x=some c:=by
 have q:=PySem.W.cellsFrom_some sc.names n [] (.inl h)
 exact Option.isSome_iff_exists.mp q
theorem qOl {CX:CXT}{P:Program}{w:World}{K:PySem.W.Frag}{mg:Str→Option Value}{base:Heap}{N ps:List Str}{qual:Str}{scope:Scope}{f:Addr}{cd:Value}{A:Around}{outer:List Env}{s s1:Shared}{H:Hp}{E:XK}{us:List Value}{vs:List V}
 (S:qO N ps scope) (hd:A.handled=none) (e0:Env0 P w K mg base A outer s H) (hl:vs.length=ps.length) (r:Vals vs us)
 (x:InCallC s s.heap.objs.size (bindL (envOfC qual scope s.heap.objs.size f cd).kindOf (ps.zip us) fun _=>none) (cellsFrom (s.heap.objs.size+1) scope.names []) (bindC (envOfC qual scope s.heap.objs.size f cd).kindOf (ps.zip us) fun _=>none) s1):
 Inv (qOn CX P w K mg base N qual scope f cd A outer s H E) [] (start N vs) H s1:=by
 have hpl:ps.length≤N.length:=by have:=congrArg List.length S.pre;rw [List.length_take] at this;omega
 obtain⟨h1,tk,rfl,hk⟩:=x.done
 have noA:∀ b:Addr,b ∉ (qOn CX P w K mg base N qual scope f cd A outer s H E).ex:=fun b z=>absurd (show b∈([]:List Addr) from z) (by simp)
 refine⟨⟨e0.mod,S.kind,rfl,rfl,Nat.le_refl _,fun y z c h1 h2=>?_,fun y hy=>?_,fun y c _ h=>?_,fun _=>hd,Around.frames_deeper e0.frames,.inr ⟨rfl,rfl⟩,fun b z=>absurd z (noA b),e0.bs,e0.bsz,fun b _ _=>noA b,fun b z=>absurd z (noA b),e0.funs,e0.frf⟩,
  rfl,e0.bare,Un.kept hk,⟨_,x.toInCall.ns,fun i y v h1 h2 h3=>?_⟩,fun y c h=>⟨_,x.cell y c h⟩,e0.hok.fresh (Nat.le_refl _),fun y c h=>?_,fun p hp=>absurd (show p∈([]:List (Addr × Obj)) from hp) (by simp),e0.hok.kept hk,?_⟩
 · exact name_of_addr x.apart (PySem.mem_of_lookup h1) (PySem.mem_of_lookup h2)
 · have hy:scope.names.lookup y=some .cell∨scope.names.lookup y=some .free:=hy
   rcases hy with hy | hy
   · exact qJ6 hy
   · exact absurd rfl (S.nofree _ (PySem.mem_of_lookup hy))
 · exact Nat.le_of_lt (x.above y c (PySem.mem_of_lookup h))
 · have hi:i < vs.length:=by
    unfold start at h2
    by_cases hi:i < vs.length
    · exact hi
    · rw [List.getElem?_append_right (by simpa using hi)] at h2
      rw [List.getElem?_replicate] at h2
      split at h2 <;> cases h2
   have ha:vs[i]? =some v:=by
    unfold start at h2
    rw [List.getElem?_append_left (by simpa using hi),List.getElem?_map] at h2
    cases e:vs[i]? with
    | none=>rw [e] at h2;cases h2
    | some a=>rw [e] at h2;cases h2;rfl
   obtain⟨u,hu,rv⟩:=r.get ha
   have hp:ps[i]? =some y:=by
    rw [← S.pre,List.getElem?_take_of_lt (by omega)];exact h1
   have ndP:ps.Nodup:=by rw [← S.pre];exact S.nd.sublist (List.take_sublist _ _)
   refine⟨u,rv,?_⟩
   rcases S.par y (List.mem_of_getElem? hp) with k | k
   · exact .inl ⟨k,qGw ndP hp hu k⟩
   · obtain⟨c,e⟩:=qJ6 (n:=s.heap.objs.size+1) k
     refine .inr ⟨.inl k,c,e,?_⟩
     have q:=x.cell y c e
     rw [qHt ndP hp hu (by show scope.names.lookup y≠_;rw [k];decide)] at q
     exact q
 · exact e0.hok.fresh (Nat.le_of_lt (x.above y c (PySem.mem_of_lookup h)))
 · unfold start
   show _=N.length
   rw [List.length_append,List.length_map,List.length_replicate]
   omega
theorem qSy {CX:CXT}{P:Program}{w:World}{K:PySem.W.Frag}{mg:Str→Option Value}{base:Heap}{k:Nat}{f:Addr}{name qual:Str}{params:Arguments}{body:List Stmt}{scope:Scope}{dV kV doc pm cdv ct oc:Value}{an od:Option Addr}
 {osl:Array (Option Value)} {N ps:List Str} {sp:Sp} (lk:K.lookup f=some ⟨oc,od,.func (PySem.W.fnOf name qual params body scope dV kV doc pm an cdv ct),osl⟩) (hcd:PySem.W.codeIn K cdv qual=true) (S:qO N ps scope)
 (len:∀ vs H Q E,sp vs H Q E→vs.length=ps.length)
 (hbody:∀ (A:Around) (outer:List Env) (s:Shared) (H:Hp) (vs:List V) (Q:VK) (E:XK),Room k (A.deeper (envOfC qual scope s.heap.objs.size f cdv))→sp vs H Q E→
   ∃ t,PSs (qOn CX P w K mg base N qual scope f cdv A outer s H E) body t∧t {nx:=fun _ H'=>Q .non H',rt:=Q} (start N vs) H):
 FnOk P w K mg base CX (k+1) f (PySem.W.fnOf name qual params body scope dV kV doc pm an cdv ct) ps sp:=by
 refine⟨len,fun A outer s H args us vs Q E hr e0 hb r hsp=>?_⟩
 have hl:=len _ _ _ _ hsp
 have KX:K.In s.heap:=e0.mod.kin.keeps fun b o e=>(e0.bs b o e).1
 have lim:s.heap.NoLimit:=e0.mod.nolimit.keeps fun b o e=>(e0.bs b o e).1
 have hkind:∀ y∈ps.zip us,scope.names.lookup y.1=some .local∨(scope.names.lookup y.1=some .cell∧((cellsFrom (s.heap.objs.size+1) scope.names []).lookup y.1).isSome=true):=fun⟨n,v⟩ hy=>by
  rcases S.par n (List.of_mem_zip hy).1 with q | q
  · exact .inl q
  · exact .inr ⟨q,PySem.W.cellsFrom_some _ _ _ (.inl q)⟩
 refine codeAny_call_function hr.depth (KX _ _ lk) rfl S.co S.gen rfl (PySem.W.codeRec_of KX hcd) (hb _ _ _ _ ?_)
 refine wpAny_newFunctionEnv_cells S.kind hkind fun env he s1 x=>?_
 subst he
 refine⟨lim.keeps x.toInCall.keep,codeAny_func ?_⟩
 obtain⟨t,ht,hq⟩:=hbody A outer s H vs Q E (hr.deeper _) hsp
 have I:Inv (qOn CX P w K mg base N qual scope f cdv A outer s H E) [] (start N vs) H s1:=qOl S hr.hd e0 hl r x
 refine wpAny_mono (ht [] s1 (start N vs) H _ I hq) (fun fl s' hs=>?_) fun e s' hs=>hs
 have fin:∀ {σ':St} {H':Hp} {v:V} {u:Value},Inv (qOn CX P w K mg base N qual scope f cdv A outer s H E) [] σ' H' s'→RelV v u→Q v H'→CE outer P w H s Q u s':=
  fun {σ' H' v u} J rv q=>⟨v,H',J.os,J.bare,J.base,J.hok,rv,q⟩
 cases fl with
 | ret u=>
  obtain⟨v,σ',H',J,rv,q⟩:=hs
  exact fin J rv q
 | next=>
  obtain⟨σ',H',J,q⟩:=hs
  exact fin (v:=V.non) (u:=Value.none) J rfl q
 | brk=>
  obtain⟨_,_,_,q⟩:=hs
  exact False.elim q
 | cont=>
  obtain⟨_,_,_,q⟩:=hs
  exact False.elim q
end L2
namespace L2
open PySem PySem.Spec PyProof.Rows
section
variable {X : Cx} {x : Str} {p pos : Pos} {e : Expr} {es : List Expr} {t : TA} {id T : String} {r : List V → Hp → VK → Prop}
def tCB (r:List V→Hp→VK→Prop)(t:TA):TE:=fun σ H Q=>t σ H fun vs H1=>r vs H1 Q
theorem qi (hc:qDr X (.builtin id) r)(hg:Gl X x)(hm:X.mg x=none)(hv:bootBuiltins x=some (.builtin id))(ha:PA X (e::es) t)(hn:x≠"__name__":=by decide)(hdb:(x == ("__debug__":Str))=false:=by decide)
 (he:starEach (e::es) X.env=(false,eval e X.env)::starEach es X.env:=by rfl) (hpl:(backTo pos (starEach es X.env)).any (·.1)=false:=by rfl):PE X (.Call (.Name x p) (e::es) [] pos) (tCB r t):=by
 intro pins s σ H Q I h
 refine wpAny_Call_Name_kw (qEv I hg hm hv ?_ hn hdb)
 exact PyProof.Rows.callWith_builtin1 (thn (ha pos pins s σ H _ I h) fun us s1 ⟨vs,H1,I1,r1,q1⟩=>hc pins s1 σ H1 vs us Q I1 r1 q1) he hpl
theorem wX (hc:qDr X (.type T) r)(hg:Gl X x)(hm:X.mg x=none)(hv:bootBuiltins x=some (.type T))(ha:PA X (e::es) t)(hn:x≠"__name__":=by decide)(hdb:(x == ("__debug__":Str))=false:=by decide)
 (he:starEach (e::es) X.env=(false,eval e X.env)::starEach es X.env:=by rfl) (hpl:(backTo pos (starEach es X.env)).any (·.1)=false:=by rfl):PE X (.Call (.Name x p) (e::es) [] pos) (tCB r t):=by
 intro pins s σ H Q I h
 refine wpAny_Call_Name_kw (qEv I hg hm hv ?_ hn hdb)
 exact PyProof.Rows.callWith_type1 (thn (ha pos pins s σ H _ I h) fun us s1 ⟨vs,H1,I1,r1,q1⟩=>hc pins s1 σ H1 vs us Q I1 r1 q1) he hpl
end
end L2
namespace HT
open PySem PyProof.Rows
section
open PySem.SeqAt
open PySem.AutoSeq1 (wpAny_loadPart')
open PySem.MeetsSeq PySem.MeetsSeq2 PySem.MeetsSeq3
end
section
variable {prog : Program} {w : World} {A : Around} {E : Value → Shared → Prop} {s : Shared}
theorem cat_tup {t b:Addr}{vs ws:List Value}{Q:Value→Shared→Prop}(ht:IsTup s.heap t vs.toArray)(hb:IsTup s.heap b ws.toArray)(hv:vs≠[])
 (h1:ws=[]→Q (.ref t) s) (h2:ws≠[]→Q (.ref s.heap.objs.size) {s with heap:=s.heap.push {cls:=.type "tuple",data:=.seq (vs++ws).toArray}})
 (hsz:vs.length+ws.length≤sizeLine):wpAny (model prog w) A (binaryOp .Add (.ref t) (.ref b)) Q E s:=by
 obtain⟨⟨cls,dd,data,sl⟩,ho,hc,n,hd⟩:=id ht
 obtain⟨⟨cls2,dd2,data2,sl2⟩,ho2,hc2,n2,hd2⟩:=id hb
 simp only at hc hd hc2 hd2
 subst hc hd hc2 hd2
 have e:vs.toArray++ws.toArray=(vs++ws).toArray:=by simp
 by_cases hw:ws=[]
 · exact concat_meets ⟨_,ho,rfl⟩ ⟨_,ho2,rfl⟩ noFill_tuple_add seq_tuple_add PySem.F.slot_tuple_add PySem.F.entry_tuple_add (PySem.F.args_tuple_add_2 _ _)
    (tuple_addW1 t b vs.toArray ws.toArray n n2 dd dd2 sl sl2 (by simpa using hv) (by simp [hw])) ⟨ho,ho2,h1 hw⟩
 · refine concat_meets ⟨_,ho,rfl⟩ ⟨_,ho2,rfl⟩ noFill_tuple_add seq_tuple_add PySem.F.slot_tuple_add PySem.F.entry_tuple_add (PySem.F.args_tuple_add_2 _ _)
    (tuple_addW2 t b vs.toArray ws.toArray n n2 dd dd2 sl sl2 (by simpa using hv) (by simpa using hw) (by rw [List.size_toArray,List.size_toArray];exact hsz)) ⟨ho,ho2,?_⟩
   rw [e]
   exact h2 hw
def sIx (n d:Nat):Option Int→Nat
 | none=>d
 | some v=>if v < 0 then (v+(n:Int)).toNat else min v.toNat n
theorem sIx_none (n d:Nat):sIx n d none=d:=rfl
theorem sIx_nat (n d k:Nat):sIx n d (some (k:Int))=min k n:=by
 show (if (k:Int) < 0 then ((k:Int)+(n:Int)).toNat else min (k:Int).toNat n)=min k n
 rw [if_neg (by omega),Int.toNat_natCast]
theorem qTm (n d:Nat)(hd:d≤n)(o:Option Int):sIx n d o≤n:=by
 cases o with
 | none=>exact hd
 | some v=>
  show (if v < 0 then (v+(n:Int)).toNat else min v.toNat n)≤n
  by_cases hv:v < 0
  · rw [if_pos hv];omega
  · rw [if_neg hv];exact Nat.min_le_right _ _
theorem qMi (v:Int)(n d:Nat):(if v < 0 then max (v+(n:Int)) 0 else min v (n:Int))=((sIx n d (some v):Nat):Int):=by
 show (if v < 0 then max (v+(n:Int)) 0 else min v (n:Int))=(((if v < 0 then (v+(n:Int)).toNat else min v.toNat n):Nat):Int)
 by_cases hv:v < 0
 · simp only [if_pos hv];omega
 · simp only [if_neg hv];omega
theorem qL0 (lo hi:Option Int)(n:Nat):Builtin.Slice.sliceAdjust lo hi 1 (n:Int)=(((sIx n 0 lo:Nat):Int),((sIx n n hi:Nat):Int)):=by
 have h1:¬ ((1:Int) < 0):=by omega
 unfold Builtin.Slice.sliceAdjust
 simp only [h1,if_false]
 refine Prod.ext ?_ ?_
 · cases lo with
   | none=>rfl
   | some v=>exact qMi v n 0
 · cases hi with
   | none=>rfl
   | some v=>exact qMi v n n
theorem qLk (i j:Nat):Builtin.Slice.slicePlaces (i:Int) (j:Int) 1=j - i:=by
 unfold Builtin.Slice.slicePlaces
 have h1:(1:Int) > 0:=by omega
 simp only [h1,if_true,Int.ediv_one]
 split <;> omega
theorem qEr {v:Value}{o:Option Int}{Q:Option Int→Shared→Prop}(p:IsPart v o)(h:Q o s):wpAny (model prog w) A (Builtin.Slice.slicePartIndex v) Q E s:=by
 cases p with
 | none=>exact slicePart_none h
 | int i t=>exact slicePart_int h
theorem qBr {sl:Addr}{vl vu:Value}{lo hi:Option Int}{n:Nat}{Q:Int × Int × Nat→Shared→Prop}(hs:s.heap.IsSliceOf sl vl vu .none)(pl:IsPart vl lo)(pu:IsPart vu hi)
 (h:Q (((sIx n 0 lo:Nat):Int),1,sIx n n hi - sIx n 0 lo) s):wpAny (model prog w) A (Builtin.Slice.sliceApplied (.ref sl) (pure (n:Int))) Q E s:=by
 obtain⟨os,hos,hcs,hds⟩:=id hs
 unfold Builtin.Slice.sliceApplied Builtin.Slice.sliceFields
 refine wpAny_bind (wpAny_bind (wpAny_field hos hds (x:=vl) rfl (wpAny_bind (wpAny_field hos hds (x:=vu) rfl (wpAny_bind (wpAny_field hos hds (x:=.none) rfl (wpAny_pure ?_)))))))
 refine wpAny_bind (slicePart_none ?_)
 show wpAny _ _ (if ((1:Int) == 0)=true then _ else _) _ _ s
 rw [if_neg (by decide)]
 refine wpAny_bind (qEr pl (wpAny_bind (qEr pu (wpAny_bind (wpAny_pure ?_)))))
 show wpAny _ _ (match Builtin.Slice.sliceAdjust lo hi 1 (n:Int) with | (lo,hi)=>pure (lo,(1:Int),Builtin.Slice.slicePlaces lo hi 1)) _ _ s
 rw [qL0 lo hi n]
 show wpAny _ _ (pure (((sIx n 0 lo:Nat):Int),(1:Int),Builtin.Slice.slicePlaces ((sIx n 0 lo:Nat):Int) ((sIx n n hi:Nat):Int) 1)) _ _ s
 rw [qLk]
 exact wpAny_pure h
theorem qO2 (xs:Array Value)(i k:Nat):((List.range k).filterMap fun(m:Nat)=>xs[((i:Int)+(m:Int)*1).toNat]?).toArray=((xs.toList.drop i).take k).toArray:=by
 have e:(fun(m:Nat)=>xs[((i:Int)+(m:Int)*1).toNat]?)=fun m=>xs[i+m]?:=by
  funext m
  have:((i:Int)+(m:Int)*1).toNat=i+m:=by omega
  rw [this]
 rw [e]
 have:=pick_run xs i k
 rw [List.filterMap_map] at this
 have e2:((fun x=>xs[x]?) ∘ fun x=>i+x)=fun m=>xs[i+m]?:=rfl
 rw [e2] at this
 rw [this]
theorem getItem_tuple_cut {t sl:Addr}{items:Array Value}{vl vu:Value}{lo hi:Option Int}{Q:Value→Shared→Prop}(ht:IsTup s.heap t items)(hs:s.heap.IsSliceOf sl vl vu .none)(pl:IsPart vl lo)(pu:IsPart vu hi)
 (hw:¬ (sIx items.size 0 lo=0∧sIx items.size items.size hi=items.size))
 (h:Q (.ref s.heap.objs.size) {s with heap:=s.heap.push {cls:=.type "tuple",data:=.seq ((items.toList.drop (sIx items.size 0 lo)).take (sIx items.size items.size hi - sIx items.size 0 lo)).toArray}})
 (hsz:items.size≤sizeLine):wpAny (model prog w) A (getItem (.ref t) (.ref sl)) Q E s:=by
 have htake:sizeOk (.seq ((items.toList.drop (sIx items.size 0 lo)).take (sIx items.size items.size hi - sIx items.size 0 lo)).toArray):=by
  show ((items.toList.drop (sIx items.size 0 lo)).take (sIx items.size items.size hi - sIx items.size 0 lo)).toArray.size≤sizeLine
  rw [List.size_toArray,List.length_take,List.length_drop,Array.length_toList]
  omega
 have hj:sIx items.size items.size hi≤items.size:=qTm _ _ (Nat.le_refl _) hi
 obtain⟨os,hos,hcs,hds⟩:=id hs
 have hTs:s.TypeIs (.ref sl) "slice":=⟨os,hos,hcs⟩
 unfold getItem
 try with_reducible refine wpAny_holding ?_
 first | refine wpAny_bind (wpAny_pure ?_) | skip
 refine wpAny_bind (wpAny_sequenceKey ht.typeIs (by decide) ?_)
 refine wpAny_bind (wpAny_callSpecial?_slot (name:=Str.ofString "__getitem__") ht.typeIs PyProof.Rows.slot_tuple_getitem
  (wpAny_call_entry PyProof.Rows.slot_tuple_getitem ht.typeIs entry_tuple_getitem ?_ (args_tuple_getitem _ _)))
 show wpAny _ _ (Builtin.Tuple.tupleItemsOf (.ref t) >>=_) _ _ s
 refine wpAny_bind (tupleItemsOf_ ht ?_)
 refine wpAny_bind (wpAny_typeOf hTs ?_)
 rw [if_pos (by decide)]
 refine wpAny_bind (qBr hs pl pu ?_)
 have hno:¬ ((((sIx items.size 0 lo:Nat):Int) == 0 && (1:Int) == 1 && (sIx items.size items.size hi - sIx items.size 0 lo) == items.size)=true):=by
  intro q
  rw [Bool.and_eq_true,Bool.and_eq_true] at q
  have q1:((sIx items.size 0 lo:Nat):Int)=0:=eq_of_beq q.1.1
  have q2:sIx items.size items.size hi - sIx items.size 0 lo=items.size:=eq_of_beq q.2
  exact hw ⟨by omega,by omega⟩
 show wpAny _ _ (if (((sIx items.size 0 lo:Nat):Int) == 0 && (1:Int) == 1 && (sIx items.size items.size hi - sIx items.size 0 lo) == items.size)=true then _ else _) _ _ s
 rw [if_neg hno,qO2]
 first
  | exact wpAny_bind (m:=Builtin.Tuple.tupleExact _) (wpAny_newObj_type (wpAny_pure ⟨_,rfl,wpAny_pure h⟩) htake)
  | exact wpAny_bind (m:=Builtin.Tuple.tupleExact _) (wpAny_newObj_type (wpAny_bind (wpAny_pure (wpAny_pure ⟨_,rfl,wpAny_pure h⟩))) htake)
  | exact wpAny_bind (wpAny_bind (m:=Builtin.Tuple.tupleExact _) (wpAny_newObj_type (wpAny_pure (wpAny_pure ⟨_,rfl,wpAny_pure h⟩)) htake))
  | exact wpAny_bind (wpAny_bind (m:=Builtin.Tuple.tupleExact _) (wpAny_newObj_type (wpAny_pure ⟨_,rfl,wpAny_pure h⟩) htake))
end
end HT
namespace L2
open PySem PySem.Spec PyProof.Rows
abbrev TO:=St→Hp→(Option Int→Hp→Prop)→Prop
def PO (X:Cx)(e:Option Expr)(t:TO):Prop:=
 ∀ (pins:List (Addr × Obj)) (s:Shared) (σ:St) (H:Hp) (Q:Option Int→Hp→Prop),Inv X pins σ H s→t σ H Q→
  wpAny (model X.prog X.w) X.A (evalPart e X.env) (fun u s'=>∃ o H',Inv X pins σ H' s'∧IsPart u o∧Q o H') X.xe s
def qRr:TO:=fun _ H Q=>Q none H
inductive qT0 (Q:Option Int→Hp→Prop)(x:V)(H1:Hp):Prop
| mk i (_:x= .int i) (_:Q (some i) H1)
def qUl (t:TE):TO:=fun σ H Q=>t σ H fun x H1=>qT0 Q x H1
section
variable {X : Cx} {e : Expr} {te : TE} {lo hi : Option Expr} {tl th : TO} {pos p2 : Pos}
theorem qCs:PO X none qRr:=by
 intro pins s σ H Q I h
 rw [evalPart_none]
 exact wpAny_pure ⟨none,H,I,.none,h⟩
theorem qA0 (h:PE X e te):PO X (some e) (qUl te):=by
 intro pins s σ H Q I hw
 rw [evalPart_some]
 refine thn (h pins s σ H _ I hw) fun u s1 ⟨x,H1,I1,r1,q1⟩=>?_
 obtain⟨i,rfl,q⟩:=q1
 obtain⟨t,rfl⟩:=r1
 exact⟨some i,H1,I1,.int i t,q⟩
def SlR (X:Cx)(r:V→Option Int→Option Int→Hp→VK→Prop):Prop:=
 ∀ (pins:List (Addr × Obj)) (s:Shared) (σ:St) (H:Hp) (x:V) (v vl vu:Value) (lo hi:Option Int) (sl:Addr) (Q:VK),Inv X pins σ H s→RelV x v→s.heap.IsSliceOf sl vl vu .none→IsPart vl lo→IsPart vu hi→r x lo hi H Q→
  ∃ T id,typeLookup (.type T) "__getitem__"=pure (some (.builtin id))∧s.TypeIs v T∧wpAny (model X.prog X.w) X.A (getItem v (.ref sl)) (EP X pins σ Q) X.xe s
def tSl (r:V→Option Int→Option Int→Hp→VK→Prop)(te:TE)(tl th:TO):TE:=fun σ H Q=>te σ H fun x H1=>tl σ H1 fun l H2=>th σ H2 fun u H3=>r x l u H3 Q
theorem wW {r:V→Option Int→Option Int→Hp→VK→Prop}(hr:SlR X r)(he:PE X e te)(hl:PO X lo tl)(hu:PO X hi th):PE X (.Subscript e (.Slice lo hi none p2) pos) (tSl r te tl th):=by
 intro pins s σ H Q I h
 refine Subscript_ (thn (he pins s σ H _ I h) fun v s1 ⟨x,H1,I1,r1,q1⟩=>?_)
 refine wpAny_Slice (thn (hl pins s1 σ H1 _ I1 q1) fun vl s2 ⟨l,H2,I2,pl,q2⟩=>thn (hu pins s2 σ H2 _ I2 q2) fun vu s3 ⟨u,H3,I3,pu,q3⟩=>?_)
 rw [evalPart_none]
 refine wpAny_pure ?_
 have I4:Inv X pins σ H3 {s3 with heap:=s3.heap.push {cls:=.type "slice",data:=.fields #[vl,vu,.none]}}:=I3.kept (t':=s3.toks) fun b ob q=>Heap.get?_push_of_some _ q
 obtain⟨T,id,hT,ht,hg⟩:=hr pins {s3 with heap:=s3.heap.push {cls:=.type "slice",data:=.fields #[vl,vu,.none]}} σ H3 x v vl vu l u s3.heap.objs.size Q I4 r1 (Heap.IsSliceOf.new ..) pl pu q3
 show wpAny (model X.prog X.w) X.A (subscriptTail e (.Slice lo hi none p2) v (.ref s3.heap.objs.size)) (EP X pins σ Q) X.xe {s3 with heap:=s3.heap.push {cls:=.type "slice",data:=.fields #[vl,vu,.none]}}
 exact tail_any (ops:=[.ref s3.heap.objs.size,v]) ht hT hg (by with_unfolding_all rfl)
def xB (xs:List V)(lo hi:Option Int):List V:=(xs.drop (HT.sIx xs.length 0 lo)).take (HT.sIx xs.length xs.length hi - HT.sIx xs.length 0 lo)
theorem xL (xs:List V)(lo hi:Option Int):(xB xs lo hi).length≤xs.length:=by
 unfold xB
 rw [List.length_take,List.length_drop]
 omega
inductive qWr (K:PySem.W.Frag)(x:V)(lo:Option Int)(hi:Option Int)(H:Hp)(Q:VK):Prop
| mk a xs (_:x= .ref a) (_:SqT K H a xs) (_:¬ (HT.sIx xs.length 0 lo=0∧HT.sIx xs.length xs.length hi=xs.length)) (_:∀ p,H p=none→Q (.ref p) (upd H p (.tup (xB xs lo hi))))
theorem qSo:SlR X (qWr X.K):=by
 intro pins s σ H x v vl vu lo hi sl Q I rx hs pl pu h
 obtain⟨a,xs,rfl,hx,hw,q⟩:=h
 cases rx
 obtain⟨its,r,ht,hz⟩:=I.tuple hx
 have hlen:its.toArray.size=xs.length:=by rw [List.size_toArray];exact r.length.symm
 refine⟨"tuple",_,PyProof.Rows.slot_tuple_getitem.lookup,ht.typeIs,?_⟩
 refine HT.getItem_tuple_cut ht hs pl pu (by rw [hlen];exact hw) ?_ (by rw [hlen];exact hz)
 rw [hlen]
 refine⟨.ref s.heap.objs.size,_,I.laid (t':=s.toks) (o:=.tup (xB xs lo hi)) (fun b ob q=>Heap.get?_push_of_some _ q) (Nat.le_refl _) ?_,rfl,q _ (I.hok.fresh (Nat.le_refl _))⟩
 exact⟨Nat.le_trans (xL xs lo hi) hz,_,(r.drop (HT.sIx xs.length 0 lo)).take (HT.sIx xs.length xs.length hi - HT.sIx xs.length 0 lo),IsTup.new _ _⟩
def qUg (K:PySem.W.Frag):R2:=fun x y H Q=>∃ a b xs ys,x= .ref a∧y= .ref b∧SqT K H a xs∧SqT K H b ys∧xs≠[]∧xs.length+ys.length≤sizeLine∧
 (ys=[]→Q (.ref a) H)∧(ys≠[]→∀ p,H p=none→Q (.ref p) (upd H p (.tup (xs++ys))))
theorem Vals.nil_iff {xs:List V}{us:List Value}(r:Vals xs us):us=[]↔xs=[]:=by
 cases r with
 | nil=>simp
 | cons _ _=>simp
theorem qQ9:OpR X (binaryOp .Add) (qUg X.K):=by
 intro pins s σ H x y v u Q I rx ry h
 obtain⟨a,b,xs,ys,rfl,rfl,ha,hb,hx,hz,q1,q2⟩:=h
 cases rx
 cases ry
 obtain⟨its,r1,p1,_⟩:=I.tuple ha
 obtain⟨its2,r2,p2,_⟩:=I.tuple hb
 refine HT.cat_tup p1 p2 (fun z=>hx (r1.nil_iff.mp z)) (fun z=>⟨.ref a,H,I,rfl,q1 (r2.nil_iff.mp z)⟩) (fun z=>?_) (by rw [← r1.length,← r2.length];exact hz)
 refine⟨.ref s.heap.objs.size,_,I.laid (t':=s.toks) (o:=.tup (xs++ys)) (fun b ob q=>Heap.get?_push_of_some _ q) (Nat.le_refl _) ?_,rfl,q2 (fun w=>z (r2.nil_iff.mpr w)) _ (I.hok.fresh (Nat.le_refl _))⟩
 exact⟨by rw [List.length_append];exact hz,_,r1.append r2,IsTup.new _ _⟩
end
end L2
namespace L2
open PySem PySem.Spec PyProof.Rows
def ixN (n:Nat)(i:Int):Option Nat:=if 0≤i then (if i < n then some i.toNat else none) else if -(n:Int)≤i then some (i+n).toNat else none
def atI {α:Type}(xs:List α)(i:Int):Option α:=(ixN xs.length i).bind fun j=>xs[j]?
theorem qM4 {n:Nat}{i:Int}{j:Nat}(h:ixN n i=some j):seqIndex? i n=some j∧j < n∧-(n:Int)≤i∧i < n:=by
 unfold ixN at h
 by_cases h0:0≤i
 · rw [if_pos h0] at h
   by_cases h1:i < n
   · rw [if_pos h1] at h
     have e:i.toNat=j:=Option.some.inj h
     exact⟨by rw [seqIndex_of h0 h1,e],by omega,by omega,h1⟩
   · rw [if_neg h1] at h;cases h
 · rw [if_neg h0] at h
   by_cases h1:-(n:Int)≤i
   · rw [if_pos h1] at h
     have e:(i+n).toNat=j:=Option.some.inj h
     exact⟨by rw [seqIndex_neg (by omega) h1,e],by omega,h1,by omega⟩
   · rw [if_neg h1] at h;cases h
theorem qNg {α:Type}{xs:List α}{i:Int}{v:α}(h:atI xs i=some v):∃ j,seqIndex? i xs.length=some j∧xs[j]? =some v∧j < xs.length∧-(xs.length:Int)≤i∧i < xs.length:=by
 unfold atI at h
 cases e:ixN xs.length i with
 | none=>rw [e] at h;cases h
 | some j=>
  rw [e] at h
  obtain⟨h1,h2,h3,h4⟩:=qM4 e
  exact⟨j,h1,h,h2,h3,h4⟩
theorem qX {α:Type}{xs:List α}{j:Nat}{v:α}(h:xs[j]? =some v):atI xs (j:Int)=some v:=by
 have hj:j < xs.length:=(List.getElem?_eq_some_iff.mp h).1
 have e:ixN xs.length (j:Int)=some j:=by
  unfold ixN
  rw [if_pos (by omega),if_pos (by omega)];simp
 unfold atI;rw [e];exact h
theorem qKu {α:Type}(xs:List α)(v:α):atI (xs++[v]) (-1)=some v:=by
 have hl:(xs++[v]).length=xs.length+1:=by simp
 have e:ixN (xs++[v]).length (-1)=some xs.length:=by
  unfold ixN
  rw [hl,if_neg (by decide),if_pos (by omega)]
  congr 1
  omega
 unfold atI
 rw [e]
 show (xs++[v])[xs.length]? =some v
 simp
def qQ5 (b:Expr):Prop:=∀ o i,subscripted b false o i=operate [o,i] (getItem o i)
def IxR (X:Cx)(r:R2):Prop:=
 ∀ (value slice:Expr) (pins:List (Addr × Obj)) (s:Shared) (σ:St) (H:Hp) (x y:V) (v u:Value) (Q:VK),Inv X pins σ H s→RelV x v→RelV y u→r x y H Q→
  subscripted slice false v u=operate [v,u] (getItem v u)→wpAny (model X.prog X.w) X.A (subscriptTail value slice v u) (EP X pins σ Q) X.xe s
def MtR (X:Cx)(id:String)(r:V→List V→Hp→VK→Prop):Prop:=
 ∀ (pins:List (Addr × Obj)) (s:Shared) (σ:St) (H:Hp) (x:V) (xs:List V) (v:Value) (us:List Value) (Q:VK),Inv X pins σ H s→RelV x v→Vals xs us→r x xs H Q→
  wpAny (model X.prog X.w) X.A (call (.builtin id) (v::us)) (EP X pins σ Q) X.xe s
section
variable {X : Cx} {a b : Expr} {ta tb : TE} {pos : Pos}
theorem qv {r:R2}(hr:IxR X r)(ha:PE X a ta)(hb:PE X b tb)(hs:qQ5 b):PE X (.Subscript a b pos) (tOp r ta tb):=by
 intro pins s σ H Q I h
 exact Subscript_ (qVr ha hb I h fun v u s2 x y H2 I2 rx ry q=>hr a b pins s2 σ H2 x y v u Q I2 rx ry q (hs _ _))
inductive qVu (K:PySem.W.Frag)(x:V)(y:V)(H:Hp)(Q:VK):Prop
| mk p xs i v (_:x= .ref p) (_:y= .int i) (_:SqL K H p xs) (_:atI xs i=some v) (_:Q v H)
inductive qSf (K:PySem.W.Frag)(x:V)(y:V)(H:Hp)(Q:VK):Prop
| mk p xs i v (_:x= .ref p) (_:y= .int i) (_:SqT K H p xs) (_:atI xs i=some v) (_:Q v H)
theorem qZ:IxR X (qVu X.K):=by
 intro value slice pins s σ H x y v u Q I rx ry h hs
 obtain⟨p,xs,i,z,rfl,rfl,hq,he,q⟩:=h
 cases rx
 obtain⟨t,rfl⟩:=ry
 obtain⟨its,r,pl,hz⟩:=I.list hq
 obtain⟨j,h1,h2,h3,h4,h5⟩:=qNg he
 obtain⟨w,ew,rw'⟩:=r.get h2
 have hl:=r.length
 have hn:=qJ9
 have fin:EP X pins σ Q w s:=⟨z,H,I,rw',q⟩
 by_cases h0:0≤i
 · have hj:i.toNat=j:=by
    rw [seqIndex_of h0 h5] at h1
    exact Option.some.inj h1
   exact item_listR pl.isList h0 (by omega) (by rw [hj];simpa using ew) fin hs
 · have hj:(i+(its.toArray.size:Int)).toNat=j:=by
    rw [seqIndex_neg (by omega) h4] at h1
    rw [List.size_toArray,← hl]
    exact Option.some.inj h1
   exact subscriptTail_builtinR (x:=w) pl.isList.typeIs slot_list_getitem.lookup
    (wpAny_getItem_list_neg (Q:=fun r s'=>r=w∧EP X pins σ Q r s') pl.isList (by omega) (by rw [List.size_toArray] <;> omega) (by omega) (by rw [hj];simpa using ew) ⟨rfl,fin⟩) hs
theorem wg:IxR X (qSf X.K):=by
 intro value slice pins s σ H x y v u Q I rx ry h hs
 obtain⟨p,xs,i,z,rfl,rfl,hq,he,q⟩:=h
 cases rx
 obtain⟨t,rfl⟩:=ry
 obtain⟨its,r,pl,hz⟩:=I.tuple hq
 obtain⟨j,h1,h2,h3,h4,h5⟩:=qNg he
 obtain⟨w,ew,rw'⟩:=r.get h2
 have hl:=r.length
 have hn:=qJ9
 have fin:EP X pins σ Q w s:=⟨z,H,I,rw',q⟩
 exact subscriptTail_builtinR (x:=w) pl.typeIs slot_tuple_getitem.lookup
  (getItem_tuple (j:=j) (Q:=fun r s'=>r=w∧EP X pins σ Q r s') pl (by omega) (by omega) (by rw [List.size_toArray,← hl];exact h1) (by simpa using ew) ⟨rfl,fin⟩) hs
theorem qLd (its:List Value)(n j:Nat)(u:Value):Obj.mapSeq (·.setIfInBounds j u) {cls:=.type "list",data:=.seq its.toArray n}={cls:=.type "list",data:=.seq (its.set j u).toArray n}:=by
 simp [Obj.mapSeq]
theorem Inv.lst {pins:List (Addr × Obj)}{σ:St}{H:Hp}{s:Shared}{p:Addr}{xs:List V}(I:Inv X pins σ H s)(h:H p=some (.lst xs)):
 ∃ (its:List Value) (n:Nat),Vals xs its∧s.heap.get? p=some {cls:=.type "list",data:=.seq its.toArray n}∧xs.length≤sizeLine:=by
 obtain⟨z,its,n,r,e⟩:=I.hok p _ h
 exact⟨its,n,r,e,z⟩
theorem Inv.lstUpd {pins:List (Addr × Obj)}{σ:St}{H:Hp}{s:Shared}{p:Addr}{xs ys:List V}{its its':List Value}{n n':Nat}{f:Obj→Obj}(I:Inv X pins σ H s)(h:H p=some (.lst xs))
 (ho:s.heap.get? p=some {cls:=.type "list",data:=.seq its.toArray n}) (hf:f {cls:=.type "list",data:=.seq its.toArray n}={cls:=.type "list",data:=.seq its'.toArray n'}) (r:Vals ys its') (hz:ys.length≤sizeLine) (t:Nat):
 Inv X pins σ (upd H p (.lst ys)) {s with heap:=s.heap.update p f,toks:=t}:=by
 have e:(s.heap.update p f).get? p=some {cls:=.type "list",data:=.seq its'.toArray n'}:=by
  rw [Heap.get?_update_self f ho (by rw [hf] <;> rfl),hf]
 refine I.write (x:=p) (e:=p) (by rw [h];trivial) (.inl rfl) (fun b u hb q=>(Heap.get?_update_other _ _ (Ne.symm hb)).trans q) ⟨_,e⟩ ?_
 exact⟨hz,its',n',r,e⟩
def qUi:V→V→V→Hp→(Hp→Prop)→Prop:=fun o i v H Q=>∃ p xs k j,o= .ref p∧i= .int k∧H p=some (.lst xs)∧ixN xs.length k=some j∧Q (upd H p (.lst (xs.set j v)))
theorem qOx:qV3 X qUi:=by
 intro pins s σ H o i v ov iv u Q I ro ri rv h
 obtain⟨p,xs,k,j,rfl,rfl,hp,hj,q⟩:=h
 cases ro
 obtain⟨t,rfl⟩:=ri
 obtain⟨its,n,r,ho,hz⟩:=I.lst hp
 obtain⟨h1,h2,h3,h4⟩:=qM4 hj
 have hl:=r.length
 have hn:=qJ9
 have I':Inv X pins σ (upd H p (.lst (xs.set j v))) {s with heap:=s.heap.update p (Obj.mapSeq (·.setIfInBounds j u))}:=
  I.lstUpd hp ho (qLd its n j u) (r.set rv j) (by rw [List.length_set];exact hz) s.toks
 by_cases h0:0≤k
 · have hk:k.toNat=j:=by
    rw [seqIndex_of h0 h4] at h1
    exact Option.some.inj h1
   exact PySem.W.ki_setAt ho h0 (by omega) (by rw [List.size_toArray,← hl];exact h4) (by rw [hk];exact⟨_,I',q⟩)
 · have hk:(k+(its.toArray.size:Int)).toNat=j:=by
    rw [seqIndex_neg (by omega) h3] at h1
    rw [List.size_toArray,← hl]
    exact Option.some.inj h1
   exact PySem.W.ki_setBack ho (by omega) (by rw [List.size_toArray,← hl];exact h3) (by omega) (by rw [hk];exact⟨_,I',q⟩)
theorem qHj (lo hi:Option Int)(n:Nat):(sliceBounds lo hi none n).1=((HT.sIx n 0 lo:Nat):Int)∧(sliceBounds lo hi none n).2.1=((HT.sIx n n hi:Nat):Int)∧(sliceBounds lo hi none n).2.2=1:=by
 refine⟨?_,?_,rfl⟩
 · cases lo with
   | none=>simp [sliceBounds,HT.sIx]
   | some i=>
    simp only [sliceBounds,HT.sIx,Option.getD_none,show (1:Int) > 0 by decide,if_true]
    by_cases h:i < 0
    · simp only [h,if_true] <;> omega
    · simp only [h,if_false] <;> omega
 · cases hi with
   | none=>simp [sliceBounds,HT.sIx]
   | some i=>
    simp only [sliceBounds,HT.sIx,Option.getD_none,show (1:Int) > 0 by decide,if_true]
    by_cases h:i < 0
    · simp only [h,if_true] <;> omega
    · simp only [h,if_false] <;> omega
theorem qGl (its:List Value)(lo hi:Option Int):slicePick its.toArray lo hi none=((its.drop (HT.sIx its.length 0 lo)).take (HT.sIx its.length its.length hi - HT.sIx its.length 0 lo)).toArray:=by
 obtain⟨h1,h2,h3⟩:=qHj lo hi its.toArray.size
 unfold slicePick
 rw [h1,h2,h3]
 simp only [sliceRange_one,pick_run,List.size_toArray] <;> rfl
inductive qWs (K:PySem.W.Frag)(x:V)(lo:Option Int)(hi:Option Int)(H:Hp)(Q:VK):Prop
| mk a xs (_:x= .ref a) (_:SqL K H a xs) (_:∀ p,H p=none→Q (.ref p) (upd H p (.lst (xB xs lo hi))))
theorem qGe:SlR X (qWs X.K):=by
 intro pins s σ H x v vl vu lo hi sl Q I rx hs pl pu h
 obtain⟨a,xs,rfl,hx,q⟩:=h
 cases rx
 obtain⟨its,r,ht,hz⟩:=I.list hx
 have hlen:=r.length
 refine⟨"list",_,slot_list_getitem.lookup,ht.isList.typeIs,?_⟩
 refine wpAny_getItem_list_slice ht.isList hs pl pu .none (by simp) ?_ (by rw [List.size_toArray] <;> omega)
 rw [qGl,← hlen]
 refine⟨.ref s.heap.objs.size,_,I.laid (t':=s.toks) (o:=.lst (xB xs lo hi)) (fun b ob q=>Heap.get?_push_of_some _ q) (Nat.le_refl _) ?_,rfl,q _ (I.hok.fresh (Nat.le_refl _))⟩
 exact⟨Nat.le_trans (xL xs lo hi) hz,_,0,(r.drop (HT.sIx xs.length 0 lo)).take (HT.sIx xs.length xs.length hi - HT.sIx xs.length 0 lo),Heap.get?_push_size _ rfl⟩
def zc:V→Bool
 | .non=>true
 | .bl _=>true
 | .int _=>true
 | .str _=>true
 | _=>false
def eqV:V→V→Bool
 | .non,.non=>true
 | .bl a,.bl b=>a == b
 | .bl a,.int b=>(if a then 1 else 0) == b
 | .int a,.bl b=>a == (if b then 1 else 0)
 | .int a,.int b=>a == b
 | .str a,.str b=>a == b
 | _,_=>false
theorem qJ8 {A:Around}{s:Shared}{y x:V}{u v:Value}(ry:RelV y u)(rx:RelV x v)(fy:zc y=true)(fx:zc x=true):SeqAt.EqAt A s u v (eqV y x):=by
 cases y with
 | non=>
  cases ry
  cases x with
  | non=>cases rx;exact SeqAt.EqAt.same _
  | bl b=>cases rx;exact SeqAt.EqAt.none_bool b
  | int b=>obtain⟨t,rfl⟩:=rx;exact SeqAt.EqAt.none_int b t
  | str b=>obtain⟨t,rfl⟩:=rx;exact SeqAt.EqAt.none_str b t
  | _=>exact absurd (show false=true from fx) Bool.false_ne_true
 | bl a=>
  cases ry
  cases x with
  | non=>cases rx;exact SeqAt.EqAt.bool_none a
  | bl b=>cases rx;exact SeqAt.EqAt.bool_bool a b
  | int b=>obtain⟨t,rfl⟩:=rx;exact SeqAt.EqAt.bool_int a b t
  | str b=>obtain⟨t,rfl⟩:=rx;exact SeqAt.EqAt.bool_str a b t
  | _=>exact absurd (show false=true from fx) Bool.false_ne_true
 | int a=>
  obtain⟨t',rfl⟩:=ry
  cases x with
  | non=>cases rx;exact SeqAt.EqAt.int_none a t'
  | bl b=>cases rx;exact SeqAt.EqAt.int_bool a t' b
  | int b=>obtain⟨t,rfl⟩:=rx;exact SeqAt.EqAt.int_int a t' b t
  | str b=>obtain⟨t,rfl⟩:=rx;exact SeqAt.EqAt.int_str a t' b t
  | _=>exact absurd (show false=true from fx) Bool.false_ne_true
 | str a=>
  obtain⟨t',rfl⟩:=ry
  cases x with
  | non=>cases rx;exact SeqAt.EqAt.str_none a t'
  | bl b=>cases rx;exact SeqAt.EqAt.str_bool a t' b
  | int b=>obtain⟨t,rfl⟩:=rx;exact SeqAt.EqAt.str_int a t' b t
  | str b=>obtain⟨t,rfl⟩:=rx;exact SeqAt.EqAt.str_str a t' b t
  | _=>exact absurd (show false=true from fx) Bool.false_ne_true
 | _=>exact absurd (show false=true from fy) Bool.false_ne_true
def eqU (x:V)(u:Value):Bool:=match u with
 | .none=>eqV .non x
 | .bool b=>eqV (.bl b) x
 | .int i _=>eqV (.int i) x
 | .str z _=>eqV (.str z) x
 | _=>false
theorem qQd {x y:V}{u:Value}(r:RelV y u)(f:zc y=true):eqU x u=eqV y x:=by
 cases y with
 | non=>cases r;rfl
 | bl b=>cases r;rfl
 | int i=>obtain⟨t,rfl⟩:=r;rfl
 | str z=>obtain⟨t,rfl⟩:=r;rfl
 | _=>exact absurd (show false=true from f) Bool.false_ne_true
theorem qCp {x:V}:∀ {xs:List V} {us:List Value},Vals xs us→xs.all zc=true→us.any (eqU x)=xs.any fun y=>eqV y x
 | _,_,.nil,_=>rfl
 | y::xs,u::us,.cons r t,f=>by
  rw [List.all_cons,Bool.and_eq_true] at f
  rw [List.any_cons,List.any_cons,qQd r f.1,qCp t f.2]
theorem wQ {A:Around}{s:Shared}{x:V}{v:Value}(rx:RelV x v)(fx:zc x=true):∀ {xs:List V} {us:List Value},Vals xs us→xs.all zc=true→∀ u∈us,SeqAt.EqAt A s u v (eqU x u)
 | _,_,.nil,_=>fun u hu=>by cases hu
 | y::xs,u::us,.cons r t,f=>fun u' hu=>by
  rw [List.all_cons,Bool.and_eq_true] at f
  rcases List.mem_cons.mp hu with rfl | hu
  · rw [qQd r f.1];exact qJ8 r rx f.1 fx
  · exact wQ rx fx t f.2 u' hu
def inV (x:V)(xs:List V):Bool:=xs.any fun y=>eqV y x
inductive rIn (K:PySem.W.Frag)(neg:Bool)(x:V)(y:V)(H:Hp)(Q:VK):Prop
| mk p xs (_:y= .ref p) (_:(SqL K H p xs∨SqT K H p xs)) (_:zc x=true) (_:xs.all zc=true) (_:Q (.bl (if neg then !inV x xs else inV x xs)) H)
theorem xW:OpR X (compareOp .In) (rIn X.K false):=by
 intro pins s σ H x y v u Q I rx ry h
 obtain⟨p,xs,rfl,hq,fx,fs,q⟩:=h
 cases ry
 rcases hq with hq | hq
 · obtain⟨its,r,pl,hz⟩:=I.list hq
   refine SeqAt.in_listAt (eqU x) pl.isList (fun w hw=>wQ rx fx r fs w (by simpa using hw)) ⟨.bl _,H,I,rfl,?_⟩
   rw [show its.toArray.any (eqU x)=its.any (eqU x) by simp,qCp r fs]
   exact q
 · obtain⟨its,r,pl,hz⟩:=I.tuple hq
   refine SeqAt.in_tupleAt (eqU x) pl (fun w hw=>wQ rx fx r fs w (by simpa using hw)) ⟨.bl _,H,I,rfl,?_⟩
   rw [show its.toArray.any (eqU x)=its.any (eqU x) by simp,qCp r fs]
   exact q
theorem vM:OpR X (compareOp .NotIn) (rIn X.K true):=by
 intro pins s σ H x y v u Q I rx ry h
 obtain⟨p,xs,rfl,hq,fx,fs,q⟩:=h
 cases ry
 rcases hq with hq | hq
 · obtain⟨its,r,pl,hz⟩:=I.list hq
   refine SeqAt.notIn_listAt (eqU x) pl.isList (fun w hw=>wQ rx fx r fs w (by simpa using hw)) ⟨.bl _,H,I,rfl,?_⟩
   rw [show its.toArray.any (eqU x)=its.any (eqU x) by simp,qCp r fs]
   exact q
 · obtain⟨its,r,pl,hz⟩:=I.tuple hq
   refine SeqAt.notIn_tupleAt (eqU x) pl (fun w hw=>wQ rx fx r fs w (by simpa using hw)) ⟨.bl _,H,I,rfl,?_⟩
   rw [show its.toArray.any (eqU x)=its.any (eqU x) by simp,qCp r fs]
   exact q
theorem xA:qDr X (.builtin "len") (fun xs H Q=>∃ p ys,xs=[.ref p]∧(SqL X.K H p ys∨SqT X.K H p ys)∧Q (.int ys.length) H):=by
 intro pins s σ H xs us Q I r h
 obtain⟨p,ys,rfl,hq,q⟩:=h
 obtain⟨u,rfl,rx⟩:=qMp r
 cases rx
 have hn:=qJ9
 rcases hq with hq | hq
 · obtain⟨its,r',pl,hz⟩:=I.list hq
   have hlen:=r'.length
   exact Calls.call_len_list pl.isList (by simp only [List.size_toArray] <;> omega) ⟨.int ys.length,H,I.tok _,⟨s.toks+1,by rw [List.size_toArray,hlen]⟩,q⟩
 · obtain⟨its,r',pl,hz⟩:=I.tuple hq
   have hlen:=r'.length
   exact len_tuple pl (by simp only [List.size_toArray] <;> omega) ⟨.int ys.length,H,I.tok _,⟨s.toks+1,by rw [List.size_toArray,hlen]⟩,q⟩
theorem kr:qDr X (.type "list") (fun xs H Q=>∃ p ys,xs=[.ref p]∧(SqL X.K H p ys∨SqT X.K H p ys)∧∀ l,H l=none→Q (.ref l) (upd H l (.lst ys))):=by
 intro pins s σ H xs us Q I r h
 obtain⟨p,ys,rfl,hq,q⟩:=h
 obtain⟨u,rfl,rx⟩:=qMp r
 cases rx
 have fin:∀ (its:List Value),Vals ys its→ys.length≤sizeLine→∀ (h':Heap) (c':Nat),(∀ b o',s.heap.get? b=some o'→h'.get? b=some o')→
  h'.get? s.heap.objs.size=some {cls:=.type "list",dict:=none,data:=.seq its.toArray c',slots:=#[]}→EP X pins σ Q (.ref s.heap.objs.size) {s with heap:=h'}:=fun its r' hz h' c' kp e=>
  ⟨.ref s.heap.objs.size,_,I.laid (t':=s.toks) kp (Nat.le_refl _) (show ObjOk X.prog X.w _ h' _ (.lst ys) from ⟨hz,its,c',r',e⟩),rfl,q _ (I.hok.fresh (Nat.le_refl _))⟩
 rcases hq with hq | hq
 · obtain⟨its,r',pl,hz⟩:=I.list hq
   have hlen:=r'.length
   obtain⟨o,ho,hc,n,hd⟩:=pl.isList
   exact call_list_seq p (.inl rfl) ho hc hd (fun h' c' kp e=>fin its r' hz h' c' kp e) (by simp only [List.size_toArray] <;> omega)
 · obtain⟨its,r',pl,hz⟩:=I.tuple hq
   have hlen:=r'.length
   obtain⟨o,ho,hc,n,hd⟩:=pl
   exact call_list_seq p (.inr rfl) ho hc hd (fun h' c' kp e=>fin its r' hz h' c' kp e) (by simp only [List.size_toArray] <;> omega)
def tyV (K:PySem.W.Frag)(T:String)(x:V)(H:Hp):Prop:=match x with
 | .str _=>T="str"
 | .int _=>T="int"
 | .ref p=>(T="list"∧∃ xs,SqL K H p xs)∨(T="tuple"∧∃ o,K.lookup p=some o∧o.cls= .type "tuple"∧o.dict=none)∨
  (T="dict"∧((∃ kvs,H p=some (.dK kvs))∨∃ kvs,H p=some (.dT kvs)))∨(T="set"∧∃ S n,H p=some (.set S n))
 | _=>False
theorem qP6 {pins:List (Addr × Obj)}{σ:St}{H:Hp}{s:Shared}{T:String}{x:V}{v:Value}(I:Inv X pins σ H s)(r:RelV x v)(ty:tyV X.K T x H):
 s.TypeIs v T∧∀ a,v= .ref a→∃ ob,s.heap.get? a=some ob∧ob.dict=none:=by
 cases x with
 | str z=>
  obtain⟨t,rfl⟩:=r
  cases (show T="str" from ty)
  exact⟨typeIs_str s z t,fun _ e=>nomatch e⟩
 | int i=>
  obtain⟨t,rfl⟩:=r
  cases (show T="int" from ty)
  exact⟨typeIs_int s i t,fun _ e=>nomatch e⟩
 | ref p=>
  cases r
  rcases ty with ⟨rfl,xs,hq⟩ | ⟨rfl,o,hk,hc,hd⟩ | ⟨rfl,hk⟩ | ⟨rfl,S,n,hk⟩
  · obtain⟨its,_,pl,_⟩:=I.list hq
    refine⟨pl.isList.typeIs,fun a e=>?_⟩
    cases e
    obtain⟨o,n,e,c,hd,_⟩:=pl
    exact⟨o,e,hd⟩
  · refine⟨⟨o,I.kIn p o hk,hc⟩,fun a e=>?_⟩
    cases e
    exact⟨o,I.kIn _ o hk,hd⟩
  · have z:∃ o,s.heap.get? p=some o∧o.ExactDict:=by
     rcases hk with ⟨kvs,hk⟩ | ⟨kvs,hk⟩
     · obtain⟨_,_,_,_,o,_,_,e,ex,_⟩:=I.hok p _ hk
       exact⟨o,e,ex⟩
     · obtain⟨_,_,_,_,o,_,_,e,ex,_⟩:=I.hok p _ hk
       exact⟨o,e,ex⟩
    obtain⟨o,e,ex⟩:=z
    refine⟨⟨o,e,ex.1⟩,fun a e2=>?_⟩
    cases e2
    exact⟨o,e,ex.2.1⟩
  · obtain⟨o,_,_,_,e,ex,_⟩:=I.hok p _ hk
    refine⟨⟨o,e,ex.1⟩,fun a e2=>?_⟩
    cases e2
    exact⟨o,e,ex.2.1⟩
 | _=>exact False.elim ty
def qWc (K:PySem.W.Frag)(T:String)(r:V→List V→Hp→VK→Prop)(to:TE):TE:=fun σ H Q=>to σ H fun x H1=>tyV K T x H1∧r x [] H1 Q
def tBM (K:PySem.W.Frag)(T:String)(r:V→List V→Hp→VK→Prop)(to:TE)(t:TA):TE:=fun σ H Q=>to σ H fun x H1=>tyV K T x H1∧t σ H1 fun xs H2=>r x xs H2 Q
variable {o e : Expr} {es : List Expr} {to : TE} {t : TA} {name : Str} {apos cpos : Pos} {T id : String} {r : V → List V → Hp → VK → Prop}
theorem zR (pa:PlainAttrs T)(slot:Slot T name id)(hty:typeOf (.builtin id)=pure (.type "method_descriptor"))(hm:MtR X id r)(ho:PE X o to)
 (hbase:attributeBase o name X.env (eval o X.env)=eval o X.env:=by rfl) (hline:(apos.endLine == cpos.line)=true:=by rfl):PE X (.Call (.Attribute o name apos) [] [] cpos) (qWc X.K T r to):=by
 intro pins s σ H Q I h
 refine wpAny_Call_method0_late hbase hline (thn (ho pins s σ H _ I h) fun v s1 ⟨x,H1,I1,r1,ty,q1⟩=>?_)
 obtain⟨h1,h2⟩:=qP6 I1 r1 ty
 exact⟨T,id,pa,slot,hty,h1,h2,Calls.callWith_builtin rfl (PySem.evalArgs_none (hm pins s1 σ H1 x [] v [] Q I1 r1 .nil q1))⟩
theorem qAo (pa:PlainAttrs T)(slot:Slot T name id)(hty:typeOf (.builtin id)=pure (.type "method_descriptor"))(hm:MtR X id r)(ho:PE X o to)(ha:PA X (e::es) t)
 (hbase:attributeBase o name X.env (eval o X.env)=eval o X.env:=by rfl)
 (hfew:((backTo cpos (starEach (e::es) X.env)).all (fun x=>!x.1) && (backToKw cpos (keywordEach [] X.env)).all (fun x=>x.1.isSome)
   && decide ((e::es).length+([]:List Keyword).length+(if ([]:List Keyword).isEmpty then 0 else 1) < 30))=true:=by rfl)
 (hline:(apos.endLine == cpos.line)=true:=by rfl) (hs:starEach (e::es) X.env=(false,eval e X.env)::starEach es X.env:=by rfl) (hplain:(backTo cpos (starEach es X.env)).any (·.1)=false:=by rfl):
 PE X (.Call (.Attribute o name apos) (e::es) [] cpos) (tBM X.K T r to t):=by
 intro pins s σ H Q I h
 refine wpAny_Call_method_late hbase hfew hline rfl (thn (ho pins s σ H _ I h) fun v s1 ⟨x,H1,I1,r1,ty,q1⟩=>?_)
 obtain⟨h1,h2⟩:=qP6 I1 r1 ty
 refine⟨T,id,pa,slot,hty,h1,h2,?_⟩
 have hA:=ha cpos pins s1 σ H1 _ I1 q1
 rw [hs] at hA ⊢
 refine Calls.callWith_builtin (by show (false || (backTo cpos (starEach es X.env)).any (·.1))=false;rw [hplain] <;> rfl) (Calls.evalArgs_plain ?_)
 exact thn hA fun us s2 ⟨vs,H2,I2,r2,q2⟩=>hm pins s2 σ H2 x vs v us Q I2 r1 r2 q2
end
end L2
namespace L2
open PySem PySem.Spec PyProof.Rows
def MtM (X:Cx)(id:String)(r:V→List V→Hp→VK→Prop):Prop:=
 ∀ (pins:List (Addr × Obj)) (s:Shared) (σ:St) (H:Hp) (x:V) (xs:List V) (v:Value) (us:List Value) (Q:VK),Inv X pins σ H s→RelV x v→Vals xs us→r x xs H Q→
  wpAny (model X.prog X.w) X.A (call (.builtin id) (v::us)) (EP X pins σ Q) X.xe s
theorem Vals.one:∀ {x:V} {us:List Value},Vals [x] us→∃ u,us=[u]∧RelV x u
 | _,_,.cons r .nil=>⟨_,rfl,r⟩
theorem Vals.two:∀ {x y:V} {us:List Value},Vals [x,y] us→∃ u v,us=[u,v]∧RelV x u∧RelV y v
 | _,_,_,.cons r (.cons q .nil)=>⟨_,_,rfl,r,q⟩
theorem Vals.zero:∀ {us:List Value},Vals [] us→us=[]
 | _,.nil=>rfl
theorem Vals.dropLast {xs:List V}{us:List Value}(h:Vals xs us):Vals xs.dropLast us.dropLast:=by
 induction h with
 | nil=>exact .nil
 | cons r t ih=>
  cases t with
  | nil=>exact .nil
  | cons q t'=>exact .cons r ih
theorem Vals.eraseIdx:∀ {xs:List V} {us:List Value} (i:Nat),Vals xs us→Vals (xs.eraseIdx i) (us.eraseIdx i)
 | _,_,_,.nil=>.nil
 | _,_,0,.cons _ t=>t
 | _,_,i+1,.cons r t=>.cons r (Vals.eraseIdx i t)
theorem Vals.reverse {xs:List V}{us:List Value}(h:Vals xs us):Vals xs.reverse us.reverse:=by
 induction h with
 | nil=>exact .nil
 | cons r t ih=>rw [List.reverse_cons,List.reverse_cons];exact Vals.append ih (.cons r .nil)
theorem qLh {α:Type}(l:List α):l.eraseIdx (l.length - 1)=l.dropLast:=by
 induction l with
 | nil=>rfl
 | cons a r ih=>
  cases r with
  | nil=>rfl
  | cons b r=>
   have e:(a::b::r).length - 1=((b::r).length - 1)+1:=by
    have h1:(a::b::r).length=r.length+2:=rfl
    have h2:(b::r).length=r.length+1:=rfl
    omega
   rw [e,List.eraseIdx_cons_succ,ih]
   all_goals rfl
section
variable {X : Cx} {pins : List (Addr × Obj)} {σ : St} {H : Hp} {s : Shared} {l b : Addr} {xs ys zs : List V}
theorem Inv.lset {its its':List Value}{n:Nat}{f:Array Value→Array Value}{t':Nat}(I:Inv X pins σ H s)(hH:H l=some (.lst xs))
 (e:s.heap.get? l=some {cls:=.type "list",data:=.seq its.toArray n}) (hf:f its.toArray=its'.toArray) (hv:Vals ys its') (hz:ys.length≤sizeLine):
 Inv X pins σ (upd H l (.lst ys)) {s with heap:=s.heap.update l (Obj.mapSeq f),toks:=t'}:=by
 have q:=PySem.IsL.update e f
 rw [hf] at q
 refine I.write (x:=l) (e:=l) (by rw [hH];exact trivial) (.inl rfl) (fun b' u hb hu=>(Heap.get?_update_other s.heap (Obj.mapSeq f) (Ne.symm hb)).trans hu) ⟨_,q⟩ ?_
 exact⟨hz,its',_,hv,q⟩
theorem Inv.lnew {its:List Value}{t':Nat}(I:Inv X pins σ H s)(hv:Vals ys its)(hz:ys.length≤sizeLine):
 Inv X pins σ (upd H s.heap.objs.size (.lst ys)) {s with heap:=s.heap.push {cls:=.type "list",data:=.seq its.toArray},toks:=t'}:=
 I.laid (fun _ _ q=>Heap.get?_push_of_some _ q) (Nat.le_refl _) ⟨hz,its,0,hv,Heap.get?_push_size _ rfl⟩
theorem Inv.fresh (I:Inv X pins σ H s):H s.heap.objs.size=none:=I.hok.fresh (Nat.le_refl _)
theorem Inv.lstM (I:Inv X pins σ H s)(hH:H l=some (.lst xs)):xs.length≤sizeLine∧∃ (its:List Value) (n:Nat),Vals xs its∧xs.length=its.length∧s.heap.get? l=some {cls:=.type "list",data:=.seq its.toArray n}:=by
 obtain⟨z,its,n,r,e⟩:=I.hok l _ hH
 exact⟨z,its,n,r,r.length,e⟩
theorem qPr {n:Nat}(h:n≤sizeLine):Builtin.List.listTooLong n=false:=by
 unfold Builtin.List.listTooLong
 exact decide_eq_false (by omega)
end
section
variable {X : Cx}
inductive qQx (x:V)(vs:List V)(H:Hp)(Q:VK):Prop
| mk l xs y (_:x= .ref l) (_:vs=[y]) (_:H l=some (.lst xs)) (_:xs.length < sizeLine) (_:Q .non (upd H l (.lst (xs++[y]))))
theorem jT:MtM X "list.append" qQx:=by
 intro pins s σ H x vs v us Q I rx rv h
 obtain⟨l,xs,y,rfl,rfl,hH,hz,q⟩:=h
 cases rx
 obtain⟨u,rfl,ru⟩:=rv.one
 obtain⟨z,its,n,r,hl,e⟩:=I.lstM hH
 refine call_meets F.slot_list_append ⟨_,e,rfl⟩ F.entry_list_append (F.args_list_append_2 _ _) (PySem.list_append l its.toArray n u (by rw [List.size_toArray];omega)) ⟨e,?_⟩
 refine⟨.non,_,I.lset (its':=its++[u]) hH e (by simp) (r.append (.cons ru .nil)) ?_,rfl,q⟩
 rw [List.length_append,List.length_singleton]
 omega
inductive qRa (x:V)(vs:List V)(H:Hp)(Q:VK):Prop
| mk l b xs zs (_:x= .ref l) (_:vs=[.ref b]) (_:H l=some (.lst xs)) (_:H b=some (.lst zs)) (_:xs.length+zs.length≤sizeLine) (_:Q .non (upd H l (.lst (xs++zs))))
theorem mt_extend:MtM X "list.extend" qRa:=by
 intro pins s σ H x vs v us Q I rx rv h
 obtain⟨l,b,xs,zs,rfl,rfl,hH,hB,hz,q⟩:=h
 cases rx
 obtain⟨u,rfl,ru⟩:=rv.one
 cases ru
 obtain⟨z,its,n,r,hl,e⟩:=I.lstM hH
 obtain⟨z2,its2,n2,r2,hl2,e2⟩:=I.lstM hB
 have hsz:its.toArray.size+its2.toArray.size≤sizeLine:=by rw [List.size_toArray,List.size_toArray];omega
 have hlong:¬ (!its.toArray.isEmpty && Builtin.List.listTooLong (its.toArray.size+its2.toArray.size))=true:=by
  rw [qPr hsz,Bool.and_false]
  exact Bool.false_ne_true
 refine call_meets F.slot_list_extend ⟨_,e,rfl⟩ F.entry_list_extend (F.args_list_extend_2 _ _)
  (AutoSeq1.list_extend_list_list_0 l its.toArray n b its2.toArray n2 hlong (by rw [List.size_toArray];omega) (by omega)) ⟨e,e2,?_⟩
 refine⟨.non,_,I.lset (its':=its++its2) hH e (by simp) (r.append r2) ?_,rfl,q⟩
 rw [List.length_append]
 omega
def qVx:V→List V→Hp→VK→Prop:=fun x vs H Q=>∃ l xs y,x= .ref l∧vs=[]∧H l=some (.lst xs)∧xs[xs.length - 1]? =some y∧Q y (upd H l (.lst xs.dropLast))
theorem zQ:MtM X "list.pop" qVx:=by
 intro pins s σ H x vs v us Q I rx rv h
 obtain⟨l,xs,y,rfl,rfl,hH,hy,q⟩:=h
 cases rx
 have hus:=rv.zero
 subst hus
 obtain⟨z,its,n,r,hl,e⟩:=I.lstM hH
 obtain⟨u,hu,ru⟩:=r.get hy
 have hy':its.toArray[its.toArray.size - 1]? =some u:=by
  show its.toArray[its.length - 1]? =some u
  rw [← Array.getElem?_toList,← hl]
  exact hu
 refine call_meets F.slot_list_pop ⟨_,e,rfl⟩ F.entry_list_pop (F.args_list_pop_1 _) (MeetsSeq.list_pop_last l its.toArray n u hy' (by rw [List.size_toArray];omega)) ⟨e,?_⟩
 refine⟨y,_,I.lset (its':=its.dropLast) hH e ?_ r.dropLast ?_,ru,q⟩
 · show its.toArray.eraseIdxIfInBounds (its.toArray.size - 1)=its.dropLast.toArray
   rw [List.size_toArray,List.eraseIdxIfInBounds_toArray,qLh]
 · rw [List.length_dropLast]
   omega
inductive qWi (x:V)(y:V)(H:Hp)(Q:VK):Prop
| mk l b xs zs (_:x= .ref l) (_:y= .ref b) (_:H l=some (.lst xs)) (_:H b=some (.lst zs)) (_:xs.length+zs.length≤sizeLine) (_:∀ p,H p=none→Q (.ref p) (upd H p (.lst (xs++zs))))
theorem wJ:OpR X (binaryOp .Add) qWi:=by
 intro pins s σ H x y v u Q I rx ry h
 obtain⟨l,b,xs,zs,rfl,rfl,hH,hB,hz,q⟩:=h
 cases rx
 cases ry
 obtain⟨z,its,n,r,hl,e⟩:=I.lstM hH
 obtain⟨z2,its2,n2,r2,hl2,e2⟩:=I.lstM hB
 refine PySem.P.add_list e e2 ?_ (by rw [List.size_toArray,List.size_toArray];omega)
 have ea:its.toArray++its2.toArray=(its++its2).toArray:=by simp
 rw [ea]
 exact⟨.ref _,_,I.lnew (t':=s.toks) (r.append r2) (by rw [List.length_append];omega),rfl,q _ I.fresh⟩
end
section
variable {prog : Program} {w : World} {A : Around} {E : Value → Shared → Prop} {s : Shared}
end
section
variable {X : Cx}
end
end L2
namespace Att
open PySem PySem.W PySem.Calls PyProof.Rows
theorem qDu {P:Params}{h:Heap}:∀ (ns:List Int) (vs:List Value),WellAll P h vs (ns.map WData.int)→IntsAre vs ns:=by
 intro ns
 induction ns with
 | nil=>
  intro vs w
  rw [List.map_nil] at w
  cases w
  exact .nil
 | cons n ns ih=>
  intro vs w
  rw [List.map_cons] at w
  cases w with
  | cons a b=>
   cases a
   exact .cons _ _ (ih _ b)
theorem qMe {l:OpenLaw}{n:Nat}(hn:l.most=some n){P:Params}{h:Heap}{args:List WData}{vals:List Value}
 (hpre:l.row.toRowW.claim.pre args=true) (hwl:WellAll P h vals args):
 ∃ a vs ns,vals=[Value.ref a]∧args=[WData.list (ns.map WData.int)]∧h.get? a=some {cls:=.type "list",data:=.seq vs.toArray}∧IntsAre vs ns∧ns.length≤n:=by
 have hsh:WShape.hasAll [] args [.list .int]=true:=(pre_splitW hpre).1
 have hc:l.pre.holds [] {args:=args}=true:=(pre_splitW hpre).2
 obtain⟨d,r,rfl,h1,h2⟩:=hasAllW_cons hsh
 obtain rfl:=hasAllW_nil h2
 obtain⟨xs,rfl,h3⟩:=hasW_list h1
 obtain⟨ns,rfl⟩:=items_int h3
 have hlen:ns.length≤n:=by
  unfold OpenLaw.pre at hc
  have h4:(WTm.not (.lt (.lit (.int (n:Int))) (.len (.arg 0)))).holds [] {args:=[.list (ns.map .int)]}=true:=by
   have h4:=(holds_andW hc).1
   rw [hn] at h4
   exact h4
  have h5:=condW_of h4 (w_not (w_lt w_lit (w_len_list (w_arg rfl))))
  rw [List.length_map] at h5
  refine Nat.le_of_not_lt fun q=>?_
  have q':(n:Int) < ((ns.length:Nat):Int):=by omega
  first
   | (rw [decide_eq_true q'] at h5;exact absurd h5 (by decide))
   | (simp at h5;omega)
 cases hwl with
 | cons w1 w2=>
  cases w2
  cases w1 with
  | list ho hall=>exact⟨_,_,ns,rfl,rfl,ho,qDu ns _ hall,hlen⟩
theorem qNy (l:OpenLaw)(args:List WData):l.row.toRowW.claim.post args (.bool true) args=true:=
 postW_of (r:=l.row.toRowW) (X:=(true == true))
  (show WShape.has [] (.bool true) .bool=true by first | rfl | decide | simp [WShape.has,WShape.arms,WShape.armsAll])
  (show (WTm.eq .res (.lit (.bool true))).value [] {args:=args,res:=some (.bool true),after:=args}=some (.bool (true == true)) from w_eq_bool (w_res rfl) w_lit) rfl
theorem attach_call {l:OpenLaw}{n:Nat}{q:Program}{loose:List Str}{XP:(Str→Option Value)→Heap→Prop}{YP:World→Heap→Prop}{d:DefRec}
 (hn:l.most=some n) (hdf:d.params.defaults=[])
 (call:∀ (w:World) (s₀ s₁:Shared) (mg mb:Str→Option Value) (fa:Addr) (o:Obj) (pm cd doc:Value) (a:Addr) (vs:List Value) (ns:List Int),
   Ground q loose [] XP w s₀ mg mb s₁.heap→YP w s₁.heap→
   s₁.heap.get? fa=some o→o.data= .func (docDef d.name d.params d.body d.scope pm cd doc)→s₁.heap.CodeRec cd d.name→mg d.name=some (.ref fa)→
   s₁.heap.get? a=some {cls:=.type "list",data:=.seq vs.toArray}→IntsAre vs ns→ns.length≤n→s₁.gens=#[]→
   codeAny (model l.prog w) callerA (.call (.ref fa) ⟨[.ref a],[]⟩) (fun r s'=>r= .ok (.ret (.bool true))∧OldK s₁.heap s'.heap∧s'.os=s₁.os∧AllBare s'.gens) s₁):
 WalkO q loose XP YP l.row.toRowW d [] (fun f vs=>PySem.call f vs):=by
 intro w s₀ s₁ mg mb G Y fa o pm cd doc dV kV ho hd hcd hD hmg hg args vals as hpre hlay hrd hwl hlo
 obtain rfl:dV= .none:=Dflts.none hD hdf
 obtain rfl:kV= .none:=Dflts.noKw hD
 obtain⟨a,vs,ns,rfl,rfl,hobj,hints,hlen⟩:=qMe hn hpre hwl
 refine enter_call (codeAny_mono (call w s₀ s₁ mg mb fa o pm cd doc a vs ns G Y ho (fd_plain hd) hcd hmg hobj hints hlen hg) fun r s' hq=>?_)
 obtain⟨rfl,h2,h3,h4⟩:=hq
 exact⟨.inl ⟨.bool true,.bool true,[],rfl,fun _=>rfl,.bool true,qNy l _,fun _=>⟨List.Pairwise.nil,fun _ hm=>(nomatch hm)⟩⟩,h2,h3,h4⟩
section
variable {prog : Program} {w : World} {A : Around} {E : Value → Shared → Prop} {s : Shared} {K : Frag}
def ledger (h:Heap)(L d:Addr):List (Addr × Obj):=(List.range h.objs.size).filterMap fun a=>if a=L∨a=d then none else (h.get? a).map fun o=>(a,o)
end
end Att
namespace L2
open PySem PySem.Spec PyProof.Rows
theorem qG7:∀ {vs:List Value} {ns:List Int},IntsAre vs ns→Vals (ns.map V.int) vs
 | _,_,.nil=>.nil
 | _,_,.cons n t h=>.cons ⟨t,rfl⟩ (qG7 h)
def qUs (H:Hp):Prop:=∀ b,H b=none∨∃ o xs,H b=some (.frz o (.lst xs))
theorem qPg {P:Program}{w:World}{K:PySem.W.Frag}{mg mb:Str→Option Value}{CX:CXT}{k:Nat}{fa a:Addr}{fd:FuncData}{x:Str}{sp:Sp}{s₁:Shared}{vs:List Value}{ns:List Int}
 (KX:K.In s₁.heap) (hns:s₁.heap.Ns mainGlobals mg) (hb:s₁.heap.Ns builtinsNs mb) (hbb:∀ x:Str,x≠"__name__"→mb x=bootBuiltins x) (hlim:s₁.heap.NoLimit) (hg:s₁.gens=#[])
 (ha:s₁.heap.get? a=some {cls:=.type "list",data:=.seq vs.toArray}) (hi:IntsAre vs ns) (hl:ns.length≤sizeLine) (hr:Room k callerA)
 (F:∀ base:Heap,K.In base→base.Ns mainGlobals mg→FnOk P w K mg base CX k fa fd [x] sp) (hbind:∀ (s:Shared) (u:Value),BindsTo s fd ⟨[u],[]⟩ [(x,u)])
 (hsp:∀ H:Hp,qUs H→SqL K H a (ns.map V.int)→sp [.ref a] H (fun v _=>v= .bl true) fun _ _ _=>False)
 (hCX:∀ H e s',CX [] H s₁ (fun _ _ _=>False) e s'→False):
 codeAny (model P w) callerA (.call (.ref fa) ⟨[.ref a],[]⟩) (fun r s'=>r= .ok (.ret (.bool true))∧OldK s₁.heap s'.heap∧s'.os=s₁.os∧AllBare s'.gens) s₁:=by
 have rv:=qG7 hi
 have lenV:=hi.length
 have core:∀ H:Hp,qUs H→SqL K H a (ns.map V.int)→HOk P w H s₁.heap→(∀ b,H b≠none→b=a)→(H a≠none→K.lookup a=none)→
  codeAny (model P w) callerA (.call (.ref fa) ⟨[.ref a],[]⟩) (fun r s'=>r= .ok (.ret (.bool true))∧OldK s₁.heap s'.heap∧s'.os=s₁.os∧AllBare s'.gens) s₁:=by
  intro H hO hS hok hA hK
  have base_of:∀ {b:Addr} {o:Obj},s₁.heap.get? b=some o→H b=none→(qOt s₁.heap H).get? b=some o:=fun e n=>qOr e n
  have noA:∀ {b:Addr} {o:Obj} {es:Array DictEntry} {ep:Nat},s₁.heap.get? b=some o→o.data= .dict es ep→H b=none:=fun {b o es ep} e d=>by
   cases q:H b with
   | none=>rfl
   | some u=>
    have e':b=a:=hA b (by rw [q];simp)
    subst e'
    rw [ha] at e;cases e
    have d':Data.seq vs.toArray _=Data.dict es ep:=d
    cases d'
  have nsK:∀ {b:Addr} {m:Str→Option Value},s₁.heap.Ns b m→(qOt s₁.heap H).Ns b m:=fun {b m} ⟨o,es,ep,e,d,r⟩=>⟨o,es,ep,base_of e (noA e d),d,r⟩
  have hKb:K.In (qOt s₁.heap H):=fun b o e=>base_of (KX b o e) (by
   cases q:H b with
   | none=>rfl
   | some u=>
    have e':b=a:=hA b (by rw [q];simp)
    subst e'
    rw [hK (by rw [q];simp)] at e;cases e)
  have hM:Mod K mg (qOt s₁.heap H):=⟨hKb,nsK hns,⟨mb,nsK hb,hbb⟩,let ⟨mc,h1,h2⟩:=hlim;⟨mc,nsK h1,h2⟩⟩
  have e0:Env0 P w K mg (qOt s₁.heap H) callerA [] s₁ H:=⟨rfl,hM,fun b o e=>qSb e,Nat.le_of_eq (qOi _ _),trivial,fun b hb=>absurd (show b∈([]:List Addr) from hb) (by simp),hok,.of_eq hg⟩
  refine codeAny_mono ((F _ hKb (nsK hns)).run callerA [] s₁ H ⟨[.ref a],[]⟩ [.ref a] [.ref a] _ _ hr e0 (hbind s₁ (.ref a)) (.cons rfl .nil) (hsp H hO hS)) fun r s' h=>?_
  cases r with
  | error e=>exact(hCX H e s' h).elim
  | ok fl=>
   cases fl with
   | next=>exact False.elim h
   | brk=>exact False.elim h
   | cont=>exact False.elim h
   | ret u=>
    obtain⟨v,H',os,bare,un,hok',r',q⟩:=h
    have q':v= .bl true:=q
    subst q'
    obtain rfl:u=Value.bool true:=r'
    refine⟨rfl,OldK.of_keep fun b o e=>?_,os,bare⟩
    cases q:H b with
    | none=>exact un.keep b o e q (by intro z;exact absurd (show b∈([]:List Addr) from z) (by simp)) (by simp)
    | some u=>
     rcases hO b with z | ⟨ob,xs,z⟩
     · rw [q] at z;cases z
     · have z2:=un.frzs b ob _ z
       obtain⟨e1,_⟩:=hok b _ z
       obtain⟨e2,_⟩:=hok' b _ z2
       rw [e] at e1;cases e1
       exact e2
 cases hk:K.lookup a with
 | some o=>
  have e:=KX a o hk
  rw [ha] at e
  cases e
  refine core (fun _=>none) (fun _=>.inl rfl) (.inr ⟨_,vs.toArray,_,hk,rfl,rfl,rfl,by rw [List.size_toArray,lenV];exact hl,by simpa using rv⟩) (fun b u z=>by have z':(none:Option HO)=some u:=z;cases z') (fun b z=>absurd rfl z) fun z=>absurd rfl z
 | none=>
  refine core (fun b=>if b=a then some (.frz {cls:=.type "list",data:=.seq vs.toArray} (.lst (ns.map V.int))) else none) (fun b=>?_) (.inl (.inr ⟨{cls:=.type "list",data:=.seq vs.toArray},if_pos rfl⟩)) (fun b u z=>?_) (fun b z=>?_) fun _=>hk
  · by_cases hb:b=a
    · exact .inr ⟨_,_,if_pos hb⟩
    · exact .inl (if_neg hb)
  · by_cases hb:b=a
    · have z':=(if_pos hb).symm.trans z
      cases z'
      subst hb
      exact⟨ha,by rw [List.length_map];exact hl,vs,_,rv,ha⟩
    · have z':=(if_neg hb).symm.trans z
      cases z'
  · by_cases hb:b=a
    · exact hb
    · exact absurd (if_neg hb) z
end L2
namespace L2
open PySem PySem.Spec PyProof.Rows
theorem walk_of {l:PySem.W.OpenLaw}{n k:Nat}{q:Program}{loose:List Str}{XP:(Str→Option Value)→Heap→Prop}{YP:World→Heap→Prop}{d:DefRec}{K:Params→PySem.W.Frag}{CX:World→CXT}{sp:World→Sp}{x:Str}
 (hn:l.most=some n) (hn2:n≤sizeLine) (hdf:d.params.defaults=[]) (hr:Room k callerA)
 (hY:∀ (w:World) (h:Heap),YP w h→(K w.params).In h)
 (F:∀ (w:World) (mg:Str→Option Value) (fa:Addr) (h:Heap),(K w.params).In h→h.Ns mainGlobals mg→mg d.name=some (.ref fa)→
   ∃ fd:FuncData,(∀ (s:Shared) (u:Value),BindsTo s fd ⟨[u],[]⟩ [(x,u)])∧
    ∀ base:Heap,(K w.params).In base→base.Ns mainGlobals mg→FnOk l.prog w (K w.params) mg base (CX w) k fa fd [x] (sp w))
 (hsp:∀ (w:World) (H:Hp) (a:Addr) (ns:List Int),ns.length≤n→qUs H→SqL (K w.params) H a (ns.map V.int)→sp w [.ref a] H (fun v _=>v= .bl true) fun _ _ _=>False)
 (hCX:∀ (w:World) (H:Hp) (s:Shared) (e:Value) (s':Shared),CX w [] H s (fun _ _ _=>False) e s'→False):
 PySem.W.WalkO q loose XP YP l.row.toRowW d [] (fun f vs=>PySem.call f vs):=by
 refine Att.attach_call hn hdf fun w s₀ s₁ mg mb fa o pm cd doc a vs ns G Y ho hd hcd hmg hobj hints hlen hg=>?_
 have KX:=hY w _ Y
 obtain⟨fd,hb,hF⟩:=F w mg fa _ KX G.T.g hmg
 exact qPg KX G.T.g G.T.b G.T.builtins G.T.nolimit hg hobj hints (Nat.le_trans hlen hn2) hr hF hb (fun H hO hS=>hsp w H a ns hlen hO hS) fun H e s'=>hCX w H s₁ e s'
end L2
namespace L2
open PySem PySem.Spec PyProof.Rows
def qSd (s:Stmt)(j:Nat):Stmt:=match s with
 | .ClassDef _ _ _ body _ _ _ _ _ _ _=>body.getD j (.Pass ⟨0,0,0,0⟩)
 | _=>.Pass ⟨0,0,0,0⟩
def vH (s:Stmt):Arguments:=match s with
 | .FunctionDef _ a _ _ _ _ _ _ _ _=>a
 | _=>{posonlyargs:=[],args:=[],vararg:=none,kwonlyargs:=[],kw_defaults:=[],kwarg:=none,defaults:=[]}
def zW (s:Stmt):List Stmt:=match s with
 | .FunctionDef _ _ b _ _ _ _ _ _ _=>b
 | _=>[]
def qH (s:Stmt):Scope:=match s with
 | .FunctionDef _ _ _ _ _ _ sc _ _ _=>sc
 | _=>{kind:=.function,names:=[],isGenerator:=false,isCoroutine:=false}
abbrev CX0:CXT:=fun _ _ _ _ _ _=>False
abbrev E0:XK:=fun _ _ _=>False
theorem qU8 {X:Cx}:qJ5 CX0 X E0:=fun _ _ _ _ _ _ _ h=>h.elim
structure Fun (K:PySem.W.Frag)(x qual:Str)(st:Stmt)(f:Addr)(fd:FuncData):Prop where
 ex:∃ (oc:Value) (od:Option Addr) (kV doc pm:Value) (an:Option Addr) (cdv ct:Value) (osl:Array (Option Value)),
  fd=PySem.W.fnOf x qual (vH st) (zW st) (qH st) .none kV doc pm an cdv ct∧K.lookup f=some ⟨oc,od,.func fd,osl⟩∧PySem.W.codeIn K cdv qual=true
 kp:PySem.W.keepIn K (.ref f)=true
section
variable {P : Program} {w : World} {K : PySem.W.Frag} {mg : Str → Option Value} {base : Heap}
theorem Fun.ok {x qual:Str}{st:Stmt}{f:Addr}{fd:FuncData}{N ps:List Str}{k:Nat}{sp:Sp}(F:Fun K x qual st f fd)(S:qO N ps (qH st))(len:∀ vs H Q E,sp vs H Q E→vs.length=ps.length)
 (hbody:∀ (cdv:Value) (A:Around) (outer:List Env) (s:Shared) (H:Hp) (vs:List V) (Q:VK) (E:XK),Room k (A.deeper (envOfC qual (qH st) s.heap.objs.size f cdv))→sp vs H Q E→
   ∃ t,PSs (qOn CX0 P w K mg base N qual (qH st) f cdv A outer s H E).nox (zW st) t∧t {nx:=fun _ H'=>Q .non H',rt:=Q} (start N vs) H):FnOk P w K mg base CX0 (k+1) f fd ps sp:=by
 obtain⟨oc,od,kV,doc,pm,an,cdv,ct,osl,rfl,lk,hcd⟩:=F.ex
 refine qSy lk hcd S len fun A outer s H vs Q E hr hsp=>?_
 obtain⟨t,h,q⟩:=hbody cdv A outer s H vs Q E hr hsp
 exact⟨t,h.nox,q⟩
theorem Fun.binds {x qual:Str}{st:Stmt}{f:Addr}{fd:FuncData}{ps:List Str}(F:Fun K x qual st f fd)
 (h:∀ (kV doc pm:Value) (an:Option Addr) (cdv ct:Value) (us:List Value),us.length=ps.length→bindArgs (PySem.W.fnOf x qual (vH st) (zW st) (qH st) .none kV doc pm an cdv ct) ⟨us,[]⟩=pure (ps.zip us)):Binds K fd ps []:=by
 obtain⟨oc,od,kV,doc,pm,an,cdv,ct,osl,rfl,lk,hcd⟩:=F.ex
 exact .all (h kV doc pm an cdv ct)
theorem qQr {x qual:Str}{st:Stmt}{f:Addr}{oc:Value}{od an:Option Addr}{osl:Array (Option Value)}{kV doc pm cdv ct:Value}(l:K.lookup f=some ⟨oc,od,.func (PySem.W.fnOf x qual (vH st) (zW st) (qH st) .none kV doc pm an cdv ct),osl⟩)
 (c:PySem.W.codeIn K cdv qual=true) (k:PySem.W.keepIn K (.ref f)=true):Fun K x qual st f (PySem.W.fnOf x qual (vH st) (zW st) (qH st) .none kV doc pm an cdv ct):=⟨⟨oc,od,kV,doc,pm,an,cdv,ct,osl,rfl,l,c⟩,k⟩
end
theorem qSz {A:Around}{k:Nat}(hr:Room k A):A.units+1 < cLine:=Nat.lt_of_le_of_lt (Nat.add_le_add_left (by decide:1≤64) _) hr.units
theorem qf {n:Nat}(h:n≤1000):n < sizeLine:=Nat.lt_of_le_of_lt h (by decide)
section
variable {X : Cx}
theorem pv (i:Nat){x:Str}{pos:Pos}(hN:X.N[i]? =some x:=by rfl)(hv:Vis X.env.scope x:=by first | exact Or.inl rfl | exact Or.inr (Or.inl rfl) | exact Or.inr (Or.inr rfl))(hd:(x == ("__debug__":Str))=false:=by decide)
 (hcd:(x == ("__classdict__":Str))=false:=by decide):PE X (.Name x pos) (qT9 i):=qTx hN hv hd hcd
end
theorem jQ {A B:Prop}(h:B):if false=true then A else B:=by
 rw [if_neg Bool.false_ne_true]
 exact h
theorem xE {A B:Prop}(h:A):if true=true then A else B:=by
 rw [if_pos rfl]
 exact h
theorem jf {c A B:Prop} [Decidable c] (h1:c→A)(h2:¬ c→B):if c then A else B:=by
 by_cases h:c
 · rw [if_pos h]
   exact h1 h
 · rw [if_neg h]
   exact h2 h
theorem qVm {c A B:Prop} [Decidable c] (hc:c)(h:B):if (!decide c)=true then A else B:=by
 rw [decide_eq_true hc]
 exact jQ h
def Same (H H':Hp):Prop:=∀ b o,H b=some o→H' b=some o
theorem Same.refl (H:Hp):Same H H:=fun _ _ h=>h
theorem Same.trans {H H1 H2:Hp}(a:Same H H1)(b:Same H1 H2):Same H H2:=fun c o h=>b c o (a c o h)
theorem Same.free {H H':Hp}(e:Same H H'){l:Addr}(h:H' l=Option.none):H l=Option.none:=by
 cases q:H l with
 | none=>rfl
 | some o=>
  rw [e l o q] at h
  cases h
theorem Same.seq {K:PySem.W.Frag}{H H':Hp}{a:Addr}{xs:List V}(e:Same H H')(h:SqL K H a xs):SqL K H' a xs:=by
 rcases h with (h | ⟨o,h⟩) | h
 · exact .inl (.inl (e _ _ h))
 · exact .inl (.inr ⟨o,e _ _ h⟩)
 · exact .inr h
end L2
namespace L2
open PySem PySem.Spec PyProof.Rows
section
variable {κ : Type} [DecidableEq κ]
def qL9 (kvs:List (κ × V))(k:κ):Option V:=(kvs.find? fun kv=>decide (kv.1=k)).map (·.2)
def qNi (kvs:List (κ × V))(k:κ)(v:V):List (κ × V):=
 if (kvs.any fun kv=>decide (kv.1=k))=true then kvs.map (fun kv=>if kv.1=k then (kv.1,v) else kv) else kvs++[(k,v)]
theorem qKp {p:κ × V}{r:List (κ × V)}{k:κ}(e:p.1=k):qL9 (p::r) k=some p.2:=by simp [qL9,List.find?_cons,e]
theorem qKa {p:κ × V}{r:List (κ × V)}{k:κ}(e:¬ p.1=k):qL9 (p::r) k=qL9 r k:=by simp [qL9,List.find?_cons,e]
theorem qIr (kvs:List (κ × V))(k:κ)(v:V):(qNi kvs k v).length≤kvs.length+1:=by
 unfold qNi
 split
 · rw [List.length_map];omega
 · rw [List.length_append,List.length_cons,List.length_nil];omega
theorem RelO.getD {o:Option V}{u:Option Value}{d:V}{d':Value}(r:RelO o u)(rd:RelV d d'):RelV (o.getD d) (u.getD d'):=by
 cases o with
 | none=>cases u with
  | none=>exact rd
  | some _=>exact(show False from r).elim
 | some _=>cases u with
  | none=>exact(show False from r).elim
  | some _=>exact r
theorem KV.val {kvs:List (κ × V)}{vs:List (κ × Value)}(r:KV kvs vs)(k:κ):RelO (qL9 kvs k) (valueAt vs k):=by
 unfold KV at r
 induction r with
 | nil=>exact True.intro
 | @cons p q ps qs h t ih=>
  obtain⟨h1,h2⟩:=h
  by_cases e:p.1=k
  · have e':q.1=k:=h1.symm.trans e
    have b:valueAt (q::qs) k=some q.2:=by simp [valueAt,List.find?_cons,e']
    rw [qKp e,b];exact h2
  · have e':¬ q.1=k:=fun z=>e (h1.trans z)
    have b:valueAt (q::qs) k=valueAt qs k:=by simp [valueAt,List.find?_cons,e']
    rw [qKa e,b];exact ih
theorem KV.any {kvs:List (κ × V)}{vs:List (κ × Value)}(r:KV kvs vs)(k:κ):(kvs.any fun kv=>decide (kv.1=k))=vs.any fun kv=>decide (kv.1=k):=by
 unfold KV at r
 induction r with
 | nil=>rfl
 | cons h t ih=>rw [List.any_cons,List.any_cons,ih,h.1]
theorem KV.repl {kvs:List (κ × V)}{vs:List (κ × Value)}(r:KV kvs vs)(k:κ){y:V}{u:Value}(ry:RelV y u):
 KV (kvs.map fun kv=>if kv.1=k then (kv.1,y) else kv) (vs.map fun kv=>if kv.1=k then (kv.1,u) else kv):=by
 unfold KV at r ⊢
 induction r with
 | nil=>exact .nil
 | @cons p q ps qs h t ih=>
  rw [List.map_cons,List.map_cons]
  refine .cons ?_ ih
  obtain⟨h1,h2⟩:=h
  by_cases e:p.1=k
  · rw [if_pos e,if_pos (h1.symm.trans e)];exact⟨h1,ry⟩
  · rw [if_neg e,if_neg (fun z=>e (h1.trans z))];exact⟨h1,h2⟩
theorem KV.put {kvs:List (κ × V)}{vs:List (κ × Value)}(r:KV kvs vs)(k:κ){y:V}{u:Value}(ry:RelV y u):KV (qNi kvs k y) (stored vs k u):=by
 unfold qNi stored
 rw [r.any k]
 by_cases e:(vs.any fun kv=>decide (kv.1=k))=true
 · rw [if_pos e,if_pos e];exact r.repl k ry
 · rw [if_neg e,if_neg e];exact Paired.snoc r ⟨rfl,ry⟩
theorem KV.keys {kvs:List (κ × V)}{vs:List (κ × Value)}(r:KV kvs vs):kvs.map (·.1)=vs.map (·.1):=by
 unfold KV at r
 induction r with
 | nil=>rfl
 | cons h t ih=>rw [List.map_cons,List.map_cons,ih,h.1]
end
theorem qRz {P:Program}{w:World}{k:Key}{u:Value}(r:RelV (kV k) u):(xJ P w).is k u=true:=by
 cases k with
 | inl i=>obtain⟨t,e⟩:=(show ∃ t,u=Value.int i t from r);subst e;exact qJp P w i t
 | inr x=>obtain⟨t,e⟩:=(show ∃ t,u=Value.str x t from r);subst e;exact qIu P w x t
theorem qHk {P:Program}{w:World}:∀ {ks:List Key} {us:List Value},Vals (ks.map kV) us→ItemsAre (xJ P w) ks us
 | [],_,r=>by rw [List.map_nil] at r;cases r;exact .nil
 | k::ks,_,r=>by
  rw [List.map_cons] at r
  cases r with
  | cons h t=>exact .cons (qRz h) (qHk t)
abbrev KT (H:Hp):List (List Key × V)→List (List Key × Addr × Value)→Prop:=Paired fun p q=>p.1=q.1∧H q.2.1=some (.tup (p.1.map kV))∧RelV p.2 q.2.2
theorem KT.val {H:Hp}{kvs:List (List Key × V)}{xs:List (List Key × Addr × Value)}(r:KT H kvs xs)(k:List Key):RelO (qL9 kvs k) ((atKey xs k).map (·.2)):=by
 induction r with
 | nil=>exact True.intro
 | @cons p q ps qs h t ih=>
  obtain⟨h1,_,h2⟩:=h
  by_cases e:p.1=k
  · have e':q.1=k:=h1.symm.trans e
    have b:atKey (q::qs) k=some q.2:=by simp [atKey,List.find?_cons,e']
    rw [qKp e,b];exact h2
  · have e':¬ q.1=k:=fun z=>e (h1.trans z)
    have b:atKey (q::qs) k=atKey qs k:=by simp [atKey,List.find?_cons,e']
    rw [qKa e,b];exact ih
theorem KT.keeps {H H':Hp}{kvs:List (List Key × V)}{xs:List (List Key × Addr × Value)}(r:KT H kvs xs)(ht:∀ b ys,H b=some (.tup ys)→H' b=some (.tup ys)):KT H' kvs xs:=
 Paired.mapP r fun _ _ z=>⟨z.1,ht _ _ z.2.1,z.2.2⟩
section
variable {P : Program} {w : World} {H : Hp} {h : Heap} {a : Addr}
theorem qTt {u:HO}(ok:HOk P w H h)(e:Rd H a u):ObjOk P w H h a u:=e.ok ok
theorem qR6 {kvs:List (Key × V)}(ok:HOk P w H h)(e:Rd H a (.dK kvs)):kvs.length≤sizeLine∧(a == sysModules)=false∧∃ vs,KV kvs vs∧h.DictOf (xJ P w) a vs:=
 show ObjOk P w H h a (.dK kvs) from qTt ok e
theorem qVc {kvs:List (Key × V)}(ok:HOk P w H h)(e:H a=some (.dK kvs)):kvs.length≤sizeLine∧(a == sysModules)=false∧∃ vs,KV kvs vs∧h.DictOf (xJ P w) a vs:=qR6 ok (.inl e)
theorem qQs {ks:List Key}(ok:HOk P w H h)(e:H a=some (.tup (ks.map kV))):(tupleKind (xJ P w)).is h ks a:=by
 obtain⟨_,its,r,o,h1,h2,n,h3⟩:=(show ObjOk P w H h a (.tup (ks.map kV)) from ok a _ e)
 exact⟨o,its.toArray,n,h1,h2,h3,by simpa using qHk r⟩
theorem qTy {kvs:List (List Key × V)}(ok:HOk P w H h)(e:Rd H a (.dT kvs)):kvs.length≤sizeLine∧(a == sysModules)=false∧
 ∃ xs,KT H kvs xs∧h.DictOfH (tupleKind (xJ P w)) a xs:=by
 obtain⟨z,y,xs,r,o,es,ep,h1,h2,h3,h4,h5⟩:=(show ObjOk P w H h a (.dT kvs) from qTt ok e)
 refine⟨z,y,xs,r,o,es,ep,h1,h2,h3,h4,fun x hx=>?_,h5⟩
 have all:∀ {l:List (List Key × V)} {m:List (List Key × Addr × Value)},KT H l m→∀ x∈m,(tupleKind (xJ P w)).is h x.1 x.2.1:=by
  intro l m q
  induction q with
  | nil=>intro x hx;exact nomatch hx
  | @cons p q ps qs hq t ih=>
   intro x hx
   rcases List.mem_cons.mp hx with e | hx
   · subst e
     exact qQs ok (by rw [← hq.1];exact hq.2.1)
   · exact ih x hx
 exact all r x hx
end
def DGet (H:Hp)(a:Addr)(y:V)(r:Option V):Prop:=
 (∃ kvs k,Rd H a (.dK kvs)∧y=kV k∧r=qL9 kvs k)∨∃ kvs k b,Rd H a (.dT kvs)∧y= .ref b∧H b=some (.tup (k.map kV))∧r=qL9 kvs k
def DPut (H:Hp)(a:Addr)(y v:V)(H':Hp):Prop:=
 (∃ kvs k,H a=some (.dK kvs)∧y=kV k∧kvs.length < sizeLine∧H'=upd H a (.dK (qNi kvs k v)))∨
 ∃ kvs k b,H a=some (.dT kvs)∧y= .ref b∧H b=some (.tup (k.map kV))∧kvs.length < sizeLine∧H'=upd H a (.dT (qNi kvs k v))
theorem DGet.k {H:Hp}{a:Addr}{kvs:List (Key × V)}{k:Key}(e:H a=some (.dK kvs)):DGet H a (kV k) (qL9 kvs k):=.inl ⟨kvs,k,.inl e,rfl,rfl⟩
theorem DPut.k {H:Hp}{a:Addr}{kvs:List (Key × V)}{k:Key}{v:V}(e:H a=some (.dK kvs))(hl:kvs.length < sizeLine):DPut H a (kV k) v (upd H a (.dK (qNi kvs k v))):=.inl ⟨kvs,k,e,rfl,hl,rfl⟩
section
variable {X : Cx} {pins : List (Addr × Obj)} {σ : St} {H : Hp} {s : Shared} {a : Addr} {y v : V} {u r : Value} {o : Option V} {A : Around} {E : Value → Shared → Prop}
theorem Inv.big (I:Inv X pins σ H s):sysModules < s.heap.objs.size:=by
 have h:mainGlobals < s.heap.objs.size:=(I.mod.glob.keeps I.bk).lt
 exact Nat.lt_trans (by decide) h
theorem qNj {Q:Value→Shared→Prop}(hu:A.units+1 < cLine)(I:Inv X pins σ H s)(g:DGet H a y (some v))(ry:RelV y u)(h:∀ w' s',Inv X pins σ H s'→RelV v w'→Q w' s'):
 wpAny (model X.prog X.w) A (getItem (.ref a) u) Q E s:=by
 rcases g with ⟨kvs,k,e,ey,l⟩ | ⟨kvs,k,b,e,ey,eb,l⟩
 · subst ey
   obtain⟨z,hd,vs,rel,dd⟩:=qR6 I.hok e
   obtain⟨w',hw,rw'⟩:=RelO.some_of (v:=v) (o:=valueAt vs k) (by rw [l];exact rel.val k)
   exact wpAny_getItem_of (qRz ry) dd.mapOf hw (h w' _ (I.tok _) rw')
 · subst ey
   cases (show u=Value.ref b from ry)
   obtain⟨z,hd,xs,rel,dd⟩:=qTy I.hok e
   obtain⟨w',hw,rw'⟩:=RelO.some_of (v:=v) (o:=(atKey xs k).map (·.2)) (by rw [l];exact rel.val k)
   obtain⟨p,hp,hp2⟩:=Option.map_eq_some_iff.mp hw
   refine wpAny_getItem_heap (tupleKind_room_in1 hu) (qQs I.hok eb) dd hp ?_
   rw [hp2]
   exact h w' _ (I.tok _) rw'
theorem qR9 {h':Heap}{t':Nat}{ob:HO}(I:Inv X pins σ H s)(mu:Mut (H a))(hs:Heap.SameBut a s.heap h')(he:∃ q,h'.get? a=some q)(new:ObjOk X.prog X.w (upd H a ob) h' a ob):
 Inv X pins σ (upd H a ob) {s with heap:=h',toks:=t'}:=
 I.write (x:=a) (e:=a) mu (.inl rfl) (fun b q hb z=>(hs.2 b hb).trans z) he new
theorem qT7 {P:Program}{w:World}{H':Hp}{h':Heap}{kvs:List (Key × V)}{vs:List (Key × Value)}(z:kvs.length≤sizeLine)(hd:(a == sysModules)=false)(rel:KV kvs vs)(dd:h'.DictOf (xJ P w) a vs):
 ObjOk P w H' h' a (.dK kvs):=⟨z,hd,vs,rel,dd⟩
end
section
variable {X : Cx} {pins : List (Addr × Obj)} {σ : St} {H : Hp} {s : Shared} {a : Addr} {kvs : List (Key × V)} {k : Key} {u : Value} {A : Around} {E : Value → Shared → Prop}
end
def qV1 (i:Expr):Prop:=∀ ov iv,subscripted i false ov iv=operate [ov,iv] (getItem ov iv)
theorem qQt {prog:Program}{w:World}{A:Around}{E:Value→Shared→Prop}{s:Shared}{env:Env}{value slice:Expr}{pos:Pos}{T id:String}{Q:Value→Shared→Prop}
 (hl:typeLookup (.type T) "__getitem__"=pure (some (.builtin id))) (hs:qV1 slice)
 (h:wpAny (model prog w) A (eval value env) (fun o s₁=>wpAny (model prog w) A (eval slice env) (fun i s₂=>s₂.TypeIs o T∧wpAny (model prog w) A (getItem o i) Q E s₂) E s₁) E s):
 wpAny (model prog w) A (eval (.Subscript value slice pos) env) Q E s:=by
 refine Subscript_ (wpAny_mono h (fun o s₁ h₁=>wpAny_mono h₁ (fun i s₂ h₂=>?_) fun _ _ x=>x) fun _ _ x=>x)
 obtain⟨hT,h₂⟩:=h₂
 unfold subscriptTail
 refine wpAny_bind ?_
 rw [getitemInPython_of_ne hT.not_modules]
 refine wpAny_bind (wpAny_specialOf hT hl ?_)
 have fin:wpAny (model prog w) A (subscripted slice false o i) (fun r s₃=>wpAny (model prog w) A (letTemporaryGo value o r >>=fun _=>pure r) Q E s₃) E s₂:=by
  rw [hs o i]
  exact wpAny_operating (wpAny_mono h₂ (fun r s₃ h₃=>wpAny_bind (wpAny_letTemporaryGo (wpAny_pure h₃))) fun _ _ x=>x)
 first
  | exact wpAny_pure (wpAny_bind fin)
  | exact wpAny_bind (wpAny_pure (wpAny_bind fin))
  | exact wpAny_bind fin
theorem qJd {X:Cx}{pins:List (Addr × Obj)}{σ:St}{H:Hp}{s:Shared}{a:Addr}{y:V}{o:Option V}(I:Inv X pins σ H s)(g:DGet H a y o):s.TypeIs (.ref a) "dict":=by
 rcases g with ⟨kvs,k,e,_,_⟩ | ⟨kvs,k,b,e,_,_,_⟩
 · obtain⟨_,_,vs,_,dd⟩:=qR6 I.hok e
   exact dd.typeIs
 · obtain⟨_,_,xs,_,dd⟩:=qTy I.hok e
   exact dd.typeIs
def qU9 (td ty:TE):TE:=fun σ H Q=>td σ H fun x H1=>ty σ H1 fun y H2=>∃ a v,x= .ref a∧DGet H2 a y (some v)∧Q v H2
section
variable {X : Cx} {o i e value : Expr} {pos pos' tpos : Pos} {td ty tv : TE}
theorem qDd (hu:X.A.units+1 < cLine)(ho:PE X o td)(hi:PE X i ty)(hs:qV1 i):PE X (.Subscript o i pos) (qU9 td ty):=by
 intro pins s σ H Q I h
 refine qQt PySem.F.slot_dict_getitem.lookup hs (thn (ho pins s σ H _ I h) fun u s1 ⟨x,H1,I1,rx,q1⟩=>thn (hi pins s1 σ H1 _ I1 q1) fun iv s2 ⟨y,H2,I2,ry,a,v,ex,g,q2⟩=>?_)
 subst ex
 obtain rfl:u=Value.ref a:=rx
 exact⟨qJd I2 g,qNj hu I2 g ry fun w' s3 I3 rw'=>⟨v,H2,I3,rw',q2⟩⟩
end
theorem qPo {P:Program}{w:World}{H:Hp}(h:Heap)(hb:sysModules < h.objs.size):ObjOk P w H (h.push {cls:=.type "dict",data:=.dict #[]}) h.objs.size (.dK []):=
 ⟨Nat.zero_le _,beq_eq_false_iff_ne.mpr (Ne.symm (Nat.ne_of_lt hb)),[],.nil,Heap.DictOf.new h⟩
section
variable {X : Cx} {pos : Pos}
end
def qMu:List (TE × TE)→St→Hp→(List (V × V)→Hp→Prop)→Prop
 | [],_,H,Q=>Q [] H
 | (tk,tv)::r,σ,H,Q=>tk σ H fun x H1=>tv σ H1 fun y H2=>qMu r σ H2 fun ps H3=>Q ((x,y)::ps) H3
abbrev VV:List (V × V)→List (Value × Value)→Prop:=Paired fun p q=>RelV p.1 q.1∧RelV p.2 q.2
def PPs (X:Cx)(pos:Pos)(keys:List (Option Expr))(values:List Expr)(trs:List (TE × TE)):Prop:=
 ∀ (pins:List (Addr × Obj)) (s:Shared) (σ:St) (H:Hp) (Q:List (V × V)→Hp→Prop),Inv X pins σ H s→qMu trs σ H Q→
  wpAny (model X.prog X.w) X.A (evalPairs (pairTrees keys values X.env pos)) (fun vs s'=>∃ ps H',Inv X pins σ H' s'∧VV ps vs∧Q ps H') X.xe s
theorem qMx {X:Cx}{pos:Pos}:PPs X pos [] [] []:=fun pins s σ H Q I h=>pairTrees_nil_walk ⟨[],H,I,.nil,h⟩
theorem qF4 {X:Cx}{pos:Pos}{k v:Expr}{ks:List (Option Expr)}{vs:List Expr}{tk tv:TE}{trs:List (TE × TE)}(hk:PE X k tk)(hv:PE X v tv)(hr:PPs X pos ks vs trs):
 PPs X pos (some k::ks) (v::vs) ((tk,tv)::trs):=fun pins s σ H Q I h=>
 pairTrees_cons_walk (thn (hk pins s σ H _ I h) fun u s1 ⟨x,H1,I1,rx,q1⟩=>thn (hv pins s1 σ H1 _ I1 q1) fun w2 s2 ⟨y,H2,I2,ry,q2⟩=>
  thn (hr pins s2 σ H2 _ I2 q2) fun ws s3 ⟨ps,H3,I3,rel,q3⟩=>⟨(x,y)::ps,H3,I3,.cons ⟨rx,ry⟩ rel,q3⟩)
def qC3 (kvs more:List (Key × V)):List (Key × V):=more.foldl (fun acc kv=>qNi acc kv.1 kv.2) kvs
theorem KV.merge:∀ {more:List (Key × V)} {rs:List (Key × Value)} {kvs:List (Key × V)} {vs:List (Key × Value)},KV more rs→KV kvs vs→KV (qC3 kvs more) (merged vs rs):=by
 intro more rs kvs vs r
 unfold KV at r
 induction r generalizing kvs vs with
 | nil=>intro q;exact q
 | @cons p q ps qs h t ih=>
  intro r0
  have e:KV (qNi kvs p.1 p.2) (stored vs q.1 q.2):=by
   have:=r0.put p.1 h.2
   rw [← h.1];exact this
  exact ih e
theorem wO:∀ (more kvs:List (Key × V)),(qC3 kvs more).length≤kvs.length+more.length
 | [],kvs=>by show kvs.length≤kvs.length+0;omega
 | p::r,kvs=>by
  have h1:=wO r (qNi kvs p.1 p.2)
  have h2:=qIr kvs p.1 p.2
  show (qC3 (qNi kvs p.1 p.2) r).length≤_
  rw [List.length_cons];omega
theorem qEx {P:Program}{w:World}:∀ {kvs:List (Key × V)} {ws:List (Value × Value)},VV (kvs.map fun kv=>(kV kv.1,kv.2)) ws→∃ rs,Carries (xJ P w) ws rs∧KV kvs rs
 | [],_,r=>by rw [List.map_nil] at r;cases r;exact⟨[],True.intro,.nil⟩
 | p::kvs,_,r=>by
  rw [List.map_cons] at r
  cases r with
  | @cons a b as bs h t=>
   obtain⟨rs,c,q⟩:=qEx (P:=P) (w:=w) t
   obtain⟨b1,b2⟩:=b
   exact⟨(p.1,b2)::rs,⟨qRz h.1,rfl,c⟩,.cons ⟨rfl,h.2⟩ q⟩
def qUm (trs:List (TE × TE)):TE:=fun σ H Q=>∀ p,H p=none→qMu trs σ (upd H p (.dK [])) fun ps H2=>H2 p=some (.dK [])∧∃ kvs:List (Key × V),ps=kvs.map (fun kv=>(kV kv.1,kv.2))∧kvs.length≤15∧Q (.ref p) (upd H2 p (.dK (qC3 [] kvs)))
theorem qNs {X:Cx}{pos:Pos}{keys:List (Option Expr)}{values:List Expr}{trs:List (TE × TE)}(h:PPs X pos keys values trs)(hall:keys.all (·.isSome)=true)(hl:keys.length=values.length)(h0:keys≠[])
 (h15:keys.length≤15):PE X (.Dict keys values pos) (qUm trs):=by
 intro pins s σ H Q I q
 have hn:=I.hok.fresh (Nat.le_refl s.heap.objs.size)
 have I1:=I.laid (a:=s.heap.objs.size) (o:=.dK []) (h':=s.heap.push {cls:=.type "dict",data:=.dict #[]}) (t':=s.toks) (fun _ _ q=>Heap.get?_push_of_some _ q) (Nat.le_refl _) (qPo s.heap I.big)
 refine wpAny_Dict_walk (knd:=xJ X.prog X.w) hall hl h0 h15 (thn (h pins _ σ _ _ I1 (q _ hn)) fun ws s2 ⟨ps,H2,I2,rel,e,kvs,ep,lk,q2⟩=>?_)
 subst ep
 obtain⟨rs,c,rk⟩:=qEx (P:=X.prog) (w:=X.w) rel
 obtain⟨z,hd,vs0,r0,dd⟩:=qVc I2.hok e
 cases r0
 refine⟨rs,c,dd,fun h' dd' hs=>⟨.ref s.heap.objs.size,_,?_,rfl,q2⟩⟩
 have hz:(qC3 [] kvs).length≤sizeLine:=by
  have h1:=wO kvs []
  rw [List.length_nil] at h1
  rw [sizeLine_eq];omega
 have he:∃ q,h'.get? s.heap.objs.size=some q:=let ⟨q,_,_,hq,_⟩:=dd';⟨q,hq⟩
 exact qR9 I2 (by rw [e];exact True.intro) hs he (qT7 hz hd (rk.merge .nil) dd')
structure M1 (X:Cx)(o:Expr)(m:Str)(apos:Pos)(e:Expr)(cpos:Pos):Prop where
 base:attributeBase o m X.env (eval o X.env)=eval o X.env
 few:((backTo cpos (starEach [e] X.env)).all (fun x=>!x.1) && (backToKw cpos (keywordEach [] X.env)).all (fun x=>x.1.isSome)
  && decide (([e]:List Expr).length+([]:List Keyword).length+(if ([]:List Keyword).isEmpty then 0 else 1) < 30))=true
 line:(apos.endLine == cpos.line)=true
 trees:backTo cpos (starEach [e] X.env)=[(false,eval e X.env)]
structure M2 (X:Cx)(o:Expr)(m:Str)(apos:Pos)(e f:Expr)(cpos:Pos):Prop where
 base:attributeBase o m X.env (eval o X.env)=eval o X.env
 few:((backTo cpos (starEach [e,f] X.env)).all (fun x=>!x.1) && (backToKw cpos (keywordEach [] X.env)).all (fun x=>x.1.isSome)
  && decide (([e,f]:List Expr).length+([]:List Keyword).length+(if ([]:List Keyword).isEmpty then 0 else 1) < 30))=true
 line:(apos.endLine == cpos.line)=true
 trees:backTo cpos (starEach [e,f] X.env)=[(false,eval e X.env),(false,eval f X.env)]
section
variable {X : Cx} {pins : List (Addr × Obj)} {σ : St} {H : Hp} {s : Shared} {a : Addr} {y d : V} {u r : Value} {o : Option V} {A : Around} {E : Value → Shared → Prop}
end
section
variable {X : Cx} {o e f : Expr} {apos cpos : Pos} {td ty tx : TE}
end
section
variable {X : Cx} {pins : List (Addr × Obj)} {σ : St} {H : Hp} {s : Shared} {a : Addr} {kvs : List (Key × V)} {A : Around} {E : Value → Shared → Prop}
end
section
variable {X : Cx} {pins : List (Addr × Obj)} {σ : St} {H : Hp} {s : Shared} {a : Addr} {y : V} {u : Value} {A : Around} {E : Value → Shared → Prop}
end
end L2
namespace Att
open PySem PySem.W PySem.Calls PyProof.Rows
section
variable {prog : Program} {w : World} {A : Around} {E : Value → Shared → Prop} {s : Shared} {K : Frag}
end
end Att
namespace L2
open PySem PySem.Spec PyProof.Rows
end L2
namespace L2
open PySem PySem.Spec PyProof.Rows
end L2
namespace L2
open PySem PySem.Spec PyProof.Rows
section
variable {P : Program} {w : World} {K : PySem.W.Frag} {mg : Str → Option Value} {base : Heap}
end
section
variable {X : Cx}
end
section
variable {κ : Type} [DecidableEq κ]
end
end L2
namespace Mt
theorem qRn (a b:Int):a.fmod b=a - b*a.fdiv b:=by
 have:=Int.fmod_add_mul_fdiv a b
 omega
theorem qJ4 (a b:Int):Int.gcd b (a.fmod b)=Int.gcd a b:=by
 apply Nat.dvd_antisymm
 · refine Int.dvd_gcd ?_ (Int.gcd_dvd_left b (a.fmod b))
   have h1:((Int.gcd b (a.fmod b):Nat):Int) ∣ b:=Int.gcd_dvd_left ..
   have h2:((Int.gcd b (a.fmod b):Nat):Int) ∣ a.fmod b:=Int.gcd_dvd_right ..
   have h3:=Int.dvd_add h2 (Int.dvd_trans h1 (Int.dvd_mul_right b (a.fdiv b)))
   have e:a.fmod b+b*a.fdiv b=a:=Int.fmod_add_mul_fdiv a b
   rwa [e] at h3
 · refine Int.dvd_gcd (Int.gcd_dvd_right ..) ?_
   rw [qRn]
   exact Int.dvd_sub (Int.gcd_dvd_left ..) (Int.dvd_trans (Int.gcd_dvd_right ..) (Int.dvd_mul_right ..))
theorem qN7 (a b:Int)(h:b≠0):(a.fmod b).natAbs < b.natAbs:=by
 rcases Int.lt_or_gt_of_ne h with h | h
 · have h1:=Int.fmod_lt_of_pos (-a) (show 0 < -b by omega)
   have h2:=Int.fmod_nonneg_of_pos (-a) (show 0 < -b by omega)
   rw [Int.neg_fmod_neg] at h1 h2
   omega
 · have h1:=Int.fmod_lt_of_pos a h
   have h2:=Int.fmod_nonneg_of_pos a h
   omega
def sg (t b:Int):Int:=if b < 0 then -((Int.gcd t b:Nat):Int) else ((Int.gcd t b:Nat):Int)
def ji (t b:Int):Int:=t.fdiv (sg t b)
def jY (t b:Int):Int:=b.fdiv (sg t b)
theorem wx {t b:Int}(h:b≠0):0 < Int.gcd t b:=by
 rcases Nat.eq_zero_or_pos (Int.gcd t b) with z | z
 · rw [Int.gcd_eq_zero_iff] at z
   exact absurd z.2 h
 · exact z
theorem qVb {t b:Int}(h:b≠0):sg t b≠0:=by
 have:=wx (t:=t) h
 unfold sg;split <;> omega
theorem qPy (t b:Int):sg t b ∣ t:=by
 unfold sg;split
 · exact Int.neg_dvd.mpr (Int.gcd_dvd_left ..)
 · exact Int.gcd_dvd_left ..
theorem qOv (t b:Int):sg t b ∣ b:=by
 unfold sg;split
 · exact Int.neg_dvd.mpr (Int.gcd_dvd_right ..)
 · exact Int.gcd_dvd_right ..
theorem qKl (t b:Int):(sg t b).natAbs=Int.gcd t b:=by
 unfold sg;split <;> omega
theorem qOw (t b:Int):ji t b*sg t b=t:=Int.fdiv_mul_cancel (qPy t b)
theorem qM9 (t b:Int):jY t b*sg t b=b:=Int.fdiv_mul_cancel (qOv t b)
theorem xc {t b:Int}(h:b≠0):0 < jY t b:=by
 have e:=qM9 t b
 have g:=wx (t:=t) h
 by_cases hb:b < 0
 · have s:sg t b= -((Int.gcd t b:Nat):Int):=by unfold sg;rw [if_pos hb]
   rw [s] at e
   rcases Int.lt_trichotomy (jY t b) 0 with z | z | z
   · have:=Int.mul_pos_of_neg_of_neg z (show -((Int.gcd t b:Nat):Int) < 0 by omega)
     omega
   · rw [z] at e;omega
   · exact z
 · have s:sg t b=((Int.gcd t b:Nat):Int):=by unfold sg;rw [if_neg hb]
   rw [s] at e
   rcases Int.lt_trichotomy (jY t b) 0 with z | z | z
   · have:=Int.mul_neg_of_neg_of_pos z (show 0 < ((Int.gcd t b:Nat):Int) by omega)
     omega
   · rw [z] at e;omega
   · exact z
theorem qCc {t b:Int}(h:b≠0):Int.gcd (ji t b) (jY t b)=1:=by
 have e:=Int.gcd_mul_right (ji t b) (sg t b) (jY t b)
 rw [qOw,qM9,qKl] at e
 have g:=wx (t:=t) h
 have e':1*Int.gcd t b=(ji t b).gcd (jY t b)*Int.gcd t b:=by omega
 exact(Nat.eq_of_mul_eq_mul_right g e').symm
theorem zy (t b:Int):ji t b*b=t*jY t b:=by
 have e1:=qOw t b
 have e2:=qM9 t b
 calc ji t b*b=ji t b*(jY t b*sg t b):=by rw [e2]
  _=(ji t b*sg t b)*jY t b:=by rw [Int.mul_comm (jY t b),Int.mul_assoc]
  _=t*jY t b:=by rw [e1]
theorem qB0 {t b:Int}(h:b≠0):(ji t b).natAbs≤t.natAbs:=by
 have e:=congrArg Int.natAbs (qOw t b)
 rw [Int.natAbs_mul,qKl] at e
 have g:=wx (t:=t) h
 rw [← e]
 exact Nat.le_mul_of_pos_right _ g
theorem kJ {t b:Int}(h:b≠0):(jY t b).natAbs≤b.natAbs:=by
 have e:=congrArg Int.natAbs (qM9 t b)
 rw [Int.natAbs_mul,qKl] at e
 have g:=wx (t:=t) h
 have:=Nat.le_mul_of_pos_right (jY t b).natAbs g
 omega
end Mt
namespace Mt
theorem qQw {p q p' q':Int}(hq:0 < q)(hq':0 < q')(g:Int.gcd p q=1)(g':Int.gcd p' q'=1)(c:p*q'=p'*q):p=p'∧q=q':=by
 have d1:q ∣ q':=by
  have h:q ∣ p*q':=by rw [c];exact Int.dvd_mul_left ..
  have n:q.natAbs ∣ p.natAbs*q'.natAbs:=by
   have:=Int.natAbs_dvd_natAbs.mpr h
   rwa [Int.natAbs_mul] at this
  have co:Nat.Coprime q.natAbs p.natAbs:=by
   show Nat.gcd q.natAbs p.natAbs=1
   rw [Nat.gcd_comm];exact g
  exact Int.natAbs_dvd_natAbs.mp (Nat.Coprime.dvd_of_dvd_mul_left co n)
 have d2:q' ∣ q:=by
  have h:q' ∣ p'*q:=by rw [← c];exact Int.dvd_mul_left ..
  have n:q'.natAbs ∣ p'.natAbs*q.natAbs:=by
   have:=Int.natAbs_dvd_natAbs.mpr h
   rwa [Int.natAbs_mul] at this
  have co:Nat.Coprime q'.natAbs p'.natAbs:=by
   show Nat.gcd q'.natAbs p'.natAbs=1
   rw [Nat.gcd_comm];exact g'
  exact Int.natAbs_dvd_natAbs.mp (Nat.Coprime.dvd_of_dvd_mul_left co n)
 have e:q=q':=by
  have h1:=Int.le_of_dvd hq' d1
  have h2:=Int.le_of_dvd hq d2
  omega
 subst e
 exact⟨Int.eq_of_mul_eq_mul_right (by omega) c,rfl⟩
theorem qEs {t b p q:Int}(h:b≠0)(hq:0 < q)(g:Int.gcd p q=1)(c:p*b=t*q):ji t b=p∧jY t b=q:=by
 have e:=zy t b
 have k:ji t b*q=p*jY t b:=by
  have:(ji t b*q)*b=(p*jY t b)*b:=by
   calc (ji t b*q)*b=(ji t b*b)*q:=by rw [Int.mul_assoc,Int.mul_comm q b,← Int.mul_assoc]
    _=(t*jY t b)*q:=by rw [e]
    _=(t*q)*jY t b:=by rw [Int.mul_assoc,Int.mul_comm (jY t b) q,← Int.mul_assoc]
    _=(p*b)*jY t b:=by rw [c]
    _=(p*jY t b)*b:=by rw [Int.mul_assoc,Int.mul_comm b,← Int.mul_assoc]
  exact Int.eq_of_mul_eq_mul_right h this
 exact qQw (xc h) hq (qCc h) g k
theorem qKt {p q:Int}(hq:0 < q)(g:Int.gcd p q=1):ji p q=p∧jY p q=q:=qEs (by omega) hq g rfl
theorem q9 {p q:Int}(hq:0 < q):p.fdiv q*q≤p∧p < (p.fdiv q+1)*q:=by
 have e:=Int.fmod_add_mul_fdiv p q
 have h1:=Int.fmod_nonneg_of_pos p hq
 have h2:=Int.fmod_lt_of_pos p hq
 have c:q*p.fdiv q=p.fdiv q*q:=Int.mul_comm ..
 have d:(p.fdiv q+1)*q=p.fdiv q*q+q:=by rw [Int.add_mul,Int.one_mul]
 omega
end Mt
namespace Mt
theorem qAi {A B C D:Int}(hB:0 < B)(hD:0 < D)(h:A*D=C*B):A.fdiv B=C.fdiv D:=by
 obtain⟨h1,h2⟩:=q9 (p:=A) hB
 obtain⟨h3,h4⟩:=q9 (p:=C) hD
 generalize A.fdiv B=f at h1 h2 ⊢
 generalize C.fdiv D=g at h3 h4 ⊢
 have k1:f*B*D≤A*D:=Int.mul_le_mul_of_nonneg_right h1 (by omega)
 have k2:C*B < (g+1)*D*B:=Int.mul_lt_mul_of_pos_right h4 hB
 have k3:g*D*B≤C*B:=Int.mul_le_mul_of_nonneg_right h3 (by omega)
 have k4:A*D < (f+1)*B*D:=Int.mul_lt_mul_of_pos_right h2 hD
 have p:=Int.mul_pos hB hD
 have e1:f*(B*D) < (g+1)*(B*D):=by grind
 have e2:g*(B*D) < (f+1)*(B*D):=by grind
 have:=Int.lt_of_mul_lt_mul_right e1 (by omega)
 have:=Int.lt_of_mul_lt_mul_right e2 (by omega)
 omega
theorem qPx {A B C D:Int}(hB:B≠0)(hD:D≠0)(h:A*D=C*B):ji A B=ji C D∧jY A B=jY C D:=by
 refine qEs hB (xc hD) (qCc hD) ?_
 have c:=zy C D
 generalize ji C D=u at c ⊢
 generalize jY C D=v at c ⊢
 refine Int.eq_of_mul_eq_mul_right hD ?_
 grind
def plP (p q r s k:Int):Int:=ji (p*s+k*r*q) (q*s)
def plQ (p q r s k:Int):Int:=jY (p*s+k*r*q) (q*s)
theorem qEl {p q r s k:Int}(hq:0 < q)(hs:0 < s):0 < plQ p q r s k:=xc (Int.ne_of_gt (Int.mul_pos hq hs))
theorem qQn {p q r s k:Int}(hq:0 < q)(hs:0 < s):Int.gcd (plP p q r s k) (plQ p q r s k)=1:=qCc (Int.ne_of_gt (Int.mul_pos hq hs))
theorem qGn (p q r s k:Int):plP p q r s k*(q*s)=(p*s+k*r*q)*plQ p q r s k:=zy _ _
theorem qNd {p q r s lo k:Int}(hq:0 < q)(hs:0 < s):plP (plP p q r s lo) (plQ p q r s lo) r s k=plP p q r s (lo+k)∧plQ (plP p q r s lo) (plQ p q r s lo) r s k=plQ p q r s (lo+k):=by
 have c:=qGn p q r s lo
 have h:=qEl (p:=p) (r:=r) (k:=lo) hq hs
 generalize plP p q r s lo=u at c ⊢
 generalize plQ p q r s lo=v at c h ⊢
 refine qPx (Int.ne_of_gt (Int.mul_pos h hs)) (Int.ne_of_gt (Int.mul_pos hq hs)) ?_
 grind
theorem qS0 {p q r s lo k:Int}(hq:0 < q)(hs:0 < s):(plP p q r s lo*s+k*r*plQ p q r s lo).fdiv (plQ p q r s lo*s)=(p*s+(lo+k)*r*q).fdiv (q*s):=by
 have c:=qGn p q r s lo
 have h:=qEl (p:=p) (r:=r) (k:=lo) hq hs
 generalize plP p q r s lo=u at c ⊢
 generalize plQ p q r s lo=v at c h ⊢
 refine qAi (Int.mul_pos h hs) (Int.mul_pos hq hs) ?_
 grind
theorem qC8 {p q r s:Int}(hq:0 < q)(hs:0 < s)(g:Int.gcd p q=1):plP p q r s 0=p∧plQ p q r s 0=q:=by
 refine qEs (Int.ne_of_gt (Int.mul_pos hq hs)) hq g ?_
 grind
theorem qJh {p q r s k:Int}(hq:0 < q)(hs:0 < s):(plP p q r s k).natAbs≤(p*s+k*r*q).natAbs:=qB0 (Int.ne_of_gt (Int.mul_pos hq hs))
theorem qIk {p q r s k:Int}(hq:0 < q)(hs:0 < s):(plQ p q r s k).natAbs≤(q*s).natAbs:=kJ (Int.ne_of_gt (Int.mul_pos hq hs))
end Mt
namespace Mt
def wt (N R D m:Int):Int:=
 if R=0 then 1000000 else if ¬ (0≤N.fdiv D∧N.fdiv D < m) then 0
 else if 1000000 < (if R < 0 then N.fdiv (-R)+1 else -((N - m*D).fdiv R)) then 1000000 else (if R < 0 then N.fdiv (-R)+1 else -((N - m*D).fdiv R))
end Mt
namespace L3
open PySem PySem.Spec PyProof.Rows L2
def CMulB (i j:Int):Prop:=CMul i j∨(i.natAbs < 2 ^ 60000∧j.natAbs < 2 ^ 60000)
theorem wP {i:Int}(h:i.natAbs < 2 ^ 60000):Builtin.Int.intBits i≤2 ^ 20:=by
 unfold Builtin.Int.intBits
 split
 · exact Nat.zero_le _
 · rename_i h0
   have hz:i.natAbs≠0:=by
    intro z
    apply h0
    have:i=0:=by omega
    rw [this];rfl
   have:=(Nat.log2_lt hz).mpr h
   have e:(2:Nat) ^ 20=1048576:=by decide
   omega
theorem CMulB.ok {i j:Int}(h:CMulB i j):IntMulOk i j:=by
 rcases h with h | ⟨h1,h2⟩
 · exact h.ok
 · exact IntMulOk.of_bits (wP h1) (wP h2)
def CDivB (_ j:Int):Prop:=j≠0∧j.natAbs < 2 ^ 8000
theorem CDivB.ok {i j:Int}(h:CDivB i j):Builtin.divisionGoesByPylong i j=false:=by
 refine PyProof.noPylong_of_log2 ?_
 have hz:j.natAbs≠0:=by have:=h.1;omega
 have:=(Nat.log2_lt hz).mpr h.2
 omega
section
variable {X : Cx}
theorem qr:OpR X (binaryOp .Mult) (rI CMulB fun i j=>.int (i*j)):=opI fun _ _ _ _ _ _ _ hc q=>mul_int q hc.ok
theorem qj:OpR X (binaryOp .FloorDiv) (rI CDivB fun i j=>.int (i.fdiv j)):=opI fun _ _ _ _ _ _ _ hc q=>floordiv_int hc.1 q (.inl hc.ok)
theorem j8:qDr X (.builtin "isinstance") (fun xs H Q=>∃ x c t b,xs=[x,c]∧qJu X.K H x t∧
 (∃ n,c= .ty n∧PySem.W.kitOne X.K t (.type n)=some b∨∃ a,c= .ref a∧PySem.W.kitOne X.K t (.ref a)=some b)∧Q (.bl b) H):=by
 intro pins s σ H xs us Q I r h
 obtain⟨x,c,t,b,rfl,ty,hk,q⟩:=h
 obtain⟨u,u',rfl,rx,rc⟩:=qR0 r
 obtain⟨n,⟨rfl,e⟩ | ⟨a,rfl,e⟩⟩:=hk
 · cases rc
   exact qG6 I rx ty e fun tk=>⟨.bl b,H,I.tok _,rfl,q⟩
 · cases rc
   exact qG6 I rx ty e fun tk=>⟨.bl b,H,I.tok _,rfl,q⟩
def qG1 (xs ys:List V):Bool:=(List.range (min xs.length ys.length)).all (fun j=>eqV (xs.getD j .non) (ys.getD j .non)) && xs.length == ys.length
theorem qE3 {A:Around}{s:Shared}{xs ys:List V}{us ws:List Value}(r1:Vals xs us)(r2:Vals ys ws)(f1:xs.all zc=true)(f2:ys.all zc=true):
 ∀ j (h1:j < us.toArray.size) (h2:j < ws.toArray.size),SeqAt.EqAt A s us.toArray[j] ws.toArray[j] (eqV (xs.getD j .non) (ys.getD j .non)):=by
 intro j h1 h2
 have l1:=r1.length
 have l2:=r2.length
 rw [List.size_toArray] at h1 h2
 have g1:xs[j]? =some xs[j]:=List.getElem?_eq_getElem (by omega)
 have g2:ys[j]? =some ys[j]:=List.getElem?_eq_getElem (by omega)
 obtain⟨u,e1,q1⟩:=r1.get g1
 obtain⟨w,e2,q2⟩:=r2.get g2
 have d1:xs.getD j .non=xs[j]:=by rw [List.getD_eq_getElem?_getD,g1];rfl
 have d2:ys.getD j .non=ys[j]:=by rw [List.getD_eq_getElem?_getD,g2];rfl
 have c1:us.toArray[j]=u:=by
  have:=(List.getElem?_eq_some_iff.mp e1).2
  simpa using this
 have c2:ws.toArray[j]=w:=by
  have:=(List.getElem?_eq_some_iff.mp e2).2
  simpa using this
 rw [d1,d2,c1,c2]
 exact qJ8 q1 q2 (List.all_eq_true.mp f1 _ (List.getElem_mem _)) (List.all_eq_true.mp f2 _ (List.getElem_mem _))
inductive qVy (K:PySem.W.Frag)(neg:Bool)(x:V)(y:V)(H:Hp)(Q:VK):Prop
| mk p q xs ys (_:x= .ref p) (_:y= .ref q) (_:SqT K H p xs) (_:SqT K H q ys) (_:xs.all zc=true) (_:ys.all zc=true) (_:Q (.bl (if neg then !qG1 xs ys else qG1 xs ys)) H)
theorem qP2 (hu:X.A.units < cLine):OpR X (compareOp .Eq) (qVy X.K false):=by
 intro pins s σ H x y v u Q I rx ry h
 obtain⟨p,q,xs,ys,rfl,rfl,h1,h2,f1,f2,k⟩:=h
 cases rx;cases ry
 obtain⟨us,r1,t1,_⟩:=I.tuple h1
 obtain⟨ws,r2,t2,_⟩:=I.tuple h2
 have l1:us.toArray.size=xs.length:=by rw [List.size_toArray];exact r1.length.symm
 have l2:ws.toArray.size=ys.length:=by rw [List.size_toArray];exact r2.length.symm
 refine SeqAt.eq_tupleAt t1 t2 hu (qE3 r1 r2 f1 f2) ?_
 rw [l1,l2]
 exact⟨.bl (qG1 xs ys),H,I,rfl,k⟩
theorem qQb (hu:X.A.units < cLine):OpR X (compareOp .NotEq) (qVy X.K true):=by
 intro pins s σ H x y v u Q I rx ry h
 obtain⟨p,q,xs,ys,rfl,rfl,h1,h2,f1,f2,k⟩:=h
 cases rx;cases ry
 obtain⟨us,r1,t1,_⟩:=I.tuple h1
 obtain⟨ws,r2,t2,_⟩:=I.tuple h2
 have l1:us.toArray.size=xs.length:=by rw [List.size_toArray];exact r1.length.symm
 have l2:ws.toArray.size=ys.length:=by rw [List.size_toArray];exact r2.length.symm
 refine SeqAt.RcNeAt.tuples t1 t2 hu (qE3 r1 r2 f1 f2) _ _ _ _ ?_
 rw [l1,l2]
 exact⟨.bl (!qG1 xs ys),H,I,rfl,k⟩
end
def jL (X:Cx)(scope:Scope)(cl:List (Str × Addr))(C:Addr)(N:List Str)(s:Shared)(H:Hp)(fp:List Addr):Cx:=
 {X with N:=N,s₀:=s,H₀:=H,env:=compEnvC scope cl C X.env,outer:=X.stack,stack:=X.stack,ex:=fp,fn:=fun _=>false,pn:=[]}
def wr (js:List Nat)(σ:L2.St):L2.St:=js.map fun j=>(σ[j]?).join
theorem qLu {prog:Program}{w:World}{A:Around}{R:Result→Shared→Prop}{s0:Shared}{el tg src:Expr}{cs:List Expr}{sco:Scope}{po:Pos}{itv lst:Value}{en:Env}(J:Nat→Shared→Prop)
 (step:∀ k st,J k st→wpAny (model prog w) A (pyNext itv) (fun got s1=>match got with
   | none=>R (.ok .next) s1
   | some u=>wpAny (model prog w) A (letOwnedTupleGo tg itv u) (fun _ s1'=>wpAny (model prog w) A (assign tg en u) (fun _ s2=>
    wpAny (model prog w) A (forIn cs true fun c r=>if r=true then do let ok ← isTrue c en (eval c en);pure (ForInStep.yield ok) else pure (ForInStep.yield r)) (fun good s3=>
     if good=true then wpAny (model prog w) A (eval el en) (fun y s4=>
      wpAny (model prog w) A (call (.builtin "list.append") [lst,y]) (fun _ s5=>∃ j,j < k∧J j s5) (notedBy (model prog w) A en fun x z=>R (.error x) z) s4) (notedBy (model prog w) A en fun x z=>R (.error x) z) s3
     else ∃ j,j < k∧J j s3) (notedBy (model prog w) A en fun x z=>R (.error x) z) s2) (notedBy (model prog w) A en fun x z=>R (.error x) z) s1') (notedBy (model prog w) A en fun x z=>R (.error x) z) s1) (notedBy (model prog w) A en fun x z=>R (.error x) z) st)
 (k:Nat) (hJ:J k s0):codeAny (model prog w) A (.compLoop (.ListComp el [⟨tg,src,cs,0⟩] sco po) 0 itv lst en) R s0:=by
 refine codeAny_loop rfl J (fun k st hk=>?_) k hJ
 show wpAny _ A ((compTurn (.ListComp el [⟨tg,src,cs,0⟩] sco po) 0 itv lst en).onRaise (fun x=>do noteFrame x en;theTreesLotGoes x)) _ _ st
 refine wpAny_noted ?_
 rw [compTurn_list]
 refine wpAny_bind (wpAny_standAt (wpAny_bind (wpAny_mono (step k st hk) (fun got s1 g1=>?_) fun _ _ q=>q)))
 match got with
 | none=>exact wpAny_pure g1
 | some u=>
  refine wpAny_bind (wpAny_mono g1 (fun _ s1' g2=>?_) fun _ _ q=>q)
  refine wpAny_bind (wpAny_mono g2 (fun _ s2 g3=>wpAny_bind (wpAny_mono g3 (fun good s3 g4=>?_) fun _ _ q=>q)) fun _ _ q=>q)
  match good with
  | false=>exact wpAny_pure ⟨rfl,g4⟩
  | true=>
   refine wpAny_bind (wpAny_bind (wpAny_mono g4 (fun y s4 g5=>?_) fun _ _ q=>q))
   exact wpAny_bind (wpAny_mono g5 (fun _ s5 g6=>wpAny_pure (wpAny_pure ⟨rfl,g6⟩)) fun _ _ q=>q)
structure COk (X:Cx)(scope:Scope)(cl:List (Str × Addr))(iter:Expr)(xs ys:List Str)(js:List Nat):Prop where
 clos:closureFor scope X.env=pure cl
 cls:cl.map (fun p=>X.env.cells.lookup p.1)=cl.map (fun p=>some p.2)
 cell:(scope.names.all fun p=>p.2 != .cell)=true
 kind:scope.kind= .function
 names:(scope.names.all fun p=>p.2 != .local || scope.names.lookup p.1 == some .local)=true
 has:((relabel scope X.env).names.all fun p=>(p.2 != .cell && p.2 != .free) || (cl.lookup p.1).isSome)=true
 hjs:js.map (fun j=>X.N[j]?)=ys.map some
 hys:(ys.all fun y=>((relabel scope X.env).names.lookup y == some .cell || (relabel scope X.env).names.lookup y == some .free) && (X.env.scope.names.lookup y == some .cell || X.env.scope.names.lookup y == some .free))=true
 set:∀ x,foldedSetIterable iter X.env x=pure x
 nd:(xs++ys).Nodup
def PTs (X:Cx)(cs:List Expr)(t:TT):Prop:=
 ∀ (pins:List (Addr × Obj)) (s:Shared) (σ:L2.St) (H:Hp) (Q:Bool→Hp→Prop),Inv X pins σ H s→t σ H Q→wpAny (model X.prog X.w) X.A (forIn cs true fun c r=>if r=true then do let ok ← isTrue c X.env (eval c X.env);pure (ForInStep.yield ok) else pure (ForInStep.yield r)) (TP X pins σ Q) X.xe s
theorem qMq {X:Cx}:PTs X [] fun _ H Q=>Q true H:=fun _ _ _ H _ I h=>wpAny_pure ⟨H,I,h⟩
theorem qIs {X:Cx}{c:Expr}{t:TT}(hc:PT X c t):PTs X [c] t:=fun pins s σ H Q I h=>by
 simp only [List.forIn_cons,List.forIn_nil,if_true]
 exact wpAny_bind (wpAny_bind (thn (hc pins s σ H Q I h) fun _ _ q=>wpAny_pure (wpAny_pure q)))
def vW (n:Nat)(js:List Nat)(g:TG)(tc:TT)(te:TE)(σ:L2.St)(Q:VK)(J:It)(H1:Hp):Prop:=∃ W:Nat→Nat→List V→Hp→Prop,(∃ m,W 0 m [] H1)∧∀ i m acc H2,W i m acc H2→
 acc.length < sizeLine∧((J.stop i H2∧∀ D,H2 D=none→Q (.ref D) (upd H2 D (.lst acc)))∨
  (J.go i H2∧∀ x H3,J.yld i H2 x H3→g x (List.replicate n none++wr js σ) H3 fun σ' H4=>∃ vs:L2.St,σ'=vs++wr js σ∧vs.length=n∧tc σ' H4 fun ok H5=>if ok=true then te σ' H5 fun v H6=>∃ m',m' < m∧W (i+1) m' (acc++[v]) H6 else ∃ m',m' < m∧W (i+1) m' acc H5))
theorem qE4 {X:Cx}{elt iter tg:Expr}{cs:List Expr}{scope:Scope}{cl:List (Str × Addr)}{pos:Pos}{wi:TI}{g:TG}{tc:TT}{te:TE}{xs ys:List Str}{js:List Nat}{E:It→Hp→Prop}
 (hcm:X.calm=true) (hi:PI X tg iter wi) (hg:∀ C s H fp,PG (jL X scope cl C (xs++ys) s H fp).nox tg g) (hc:∀ C s H fp,PTs (jL X scope cl C (xs++ys) s H fp).nox cs tc) (he:∀ C s H fp,PE (jL X scope cl C (xs++ys) s H fp).nox elt te)
 (hC:COk X scope cl iter xs ys js)
 {pins:List (Addr × Obj)} {s:Shared} {σ:L2.St} {H:Hp} (R:V→Hp→Prop) (use:Option (Value→Sem Unit)) (Q:Value→Shared→Prop) (I:Inv X pins σ H s) (h:wi σ H E) (hE:∀ J H1,E J H1→vW xs.length js g tc te σ R J H1)
 (fin:∀ (v:V) (u:Value) (H':Hp) (s':Shared) (C:Addr),Inv X pins σ H' s'→RelV v u→R v H'→(∃ m,s'.heap.Ns C m)→H' C=none→C≠X.env.locals→X.s₀.heap.objs.size≤C→(∀ y c,X.env.cells.lookup y=some c→c≠C)→(∀ p∈X.pn++pins,p.1≠C)→
   compPost (model X.prog X.w) X.A X.xe use Q u C (.ok .next) s'):
 wpAny (model X.prog X.w) X.A (comprehension (.ListComp elt [⟨tg,iter,cs,0⟩] scope pos) scope X.env (firstIterPos [⟨tg,iter,cs,0⟩] pos) (newList []) false (eval iter X.env) use) Q X.xe s:=by
 obtain⟨hclos,hcl,hcell,hkind,hnames,hhas,hjs,hys,hs,hnd⟩:=hC
 have hcell':∀ y∈scope.names,y.2≠ .cell:=fun y hy=>by
  have:=List.all_eq_true.mp hcell y hy
  simpa using this
 have hnm:∀ y∈scope.names,y.2= .local→scope.names.lookup y.1=some .local:=fun y hy e=>by
  have:=List.all_eq_true.mp hnames y hy
  rw [e] at this
  simpa using this
 have clX:∀ y c,cl.lookup y=some c→X.env.cells.lookup y=some c:=fun y c e=>by
  have hm:=PySem.mem_of_lookup e
  obtain⟨k,hk,e2⟩:=List.mem_iff_getElem.mp hm
  have:=congrArg (fun l=>l[k]?) hcl
  simp only [List.getElem?_map,List.getElem?_eq_getElem hk,Option.map_some,e2] at this
  exact Option.some.inj this
 have has:∀ y,((relabel scope X.env).names.lookup y=some .cell∨(relabel scope X.env).names.lookup y=some .free)→∃ c,cl.lookup y=some c:=fun y hy=>by
  have key:∀ k:NameKind,(k= .cell∨k= .free)→(relabel scope X.env).names.lookup y=some k→∃ c,cl.lookup y=some c:=fun k hk e=>by
   have:=List.all_eq_true.mp hhas _ (PySem.mem_of_lookup e)
   rcases hk with rfl | rfl <;> exact Option.isSome_iff_exists.mp (by simpa using this)
  rcases hy with e | e
  · exact key _ (.inl rfl) e
  · exact key _ (.inr rfl) e
 refine wpAny_comprehension_free (use:=use) rfl hs hclos hkind hnm (thn (hi pins s σ H _ I h) fun v s1 h1=>thn h1 fun itv s2 h2=>?_)
 obtain⟨it,fp,tn,J,H2,e,I2,T,st2,f2,hw⟩:=h2
 obtain⟨W,⟨m0,w0⟩,turn⟩:=hE J H2 hw
 subst e
 refine wpAny_newObj_type (wpAny_newFunctionEnv hcell' (by intro y hy;simp at hy) (fun h₁ hns hsb=>?_) hkind)
 dsimp only at hns hsb ⊢
 generalize hG:s2.heap.push {cls:=.type "list",dict:=none,data:=.seq ([]:List Value).toArray}=G at hns hsb ⊢
 have szG:G.objs.size=s2.heap.objs.size+1:=by rw [← hG,Heap.size_push]
 have inG:∀ b o,s2.heap.get? b=some o→G.get? b=some o:=fun b o e=>hG ▸ Heap.get?_push_of_some _ e
 have ltC:∀ b o,s2.heap.get? b=some o→b≠G.objs.size:=fun b o e=>by rw [szG];exact Nat.ne_of_lt (Nat.lt_succ_of_lt (Heap.lt_size e))
 have ltD:∀ b o,s2.heap.get? b=some o→b≠s2.heap.objs.size:=fun b o e=>Nat.ne_of_lt (Heap.lt_size e)
 have DC:s2.heap.objs.size≠G.objs.size:=by rw [szG];omega
 have old:∀ b o,s2.heap.get? b=some o→h₁.get? b=some o:=fun b o e=>hsb.extBut b o (ltC b o e) (Heap.get?_push_of_some _ (inG b o e))
 have hacc:h₁.PlainList s2.heap.objs.size #[]:=⟨_,hsb.extBut _ _ DC (Heap.get?_push_of_some _ (hG ▸ Heap.get?_push_size _ rfl))⟩
 have fpO:∀ b∈fp,∃ o,s2.heap.get? b=some o:=fun b hb=>let ⟨o,e,_⟩:=T.obj 0 _ st2 b hb;⟨o,e⟩
 have stkO:∀ b∈frs X.stack,∃ o,s2.heap.get? b=some o:=fun b hb=>by
  obtain⟨_,o,ho,_⟩:=I2.stack.mem hb
  exact⟨o,ho⟩
 have freshH:∀ a,s2.heap.objs.size≤a→H2 a=none:=fun a ha=>I2.hok.fresh ha
 have stkFp:∀ b∈fp,b ∉ frs X.stack:=fun b hb z=>by
  rcases List.mem_cons.mp (I2.stkSub b z) with q | q
  · exact(f2 b hb).2.1 q
  · exact(f2 b hb).2.2.1 q
 have okX:(jL X scope cl G.objs.size (xs++ys) s2 H2 fp).Ok:={
  mod:=I2.ok.mod
  kind:=hkind
  glob:=I2.ok.glob
  blt:=I2.ok.blt
  above:=by show s2.heap.objs.size≤G.objs.size;rw [szG];omega
  inj:=fun y z c e1 e2=>I2.ok.inj y z c (clX y c e1) (clX z c e2)
  has:=fun y hy=>has y hy
  cab:=fun y c e _=>absurd (show false=true from e) Bool.false_ne_true
  hd:=I2.ok.hd
  frames:=I2.ok.frames
  stk:=.inl rfl
  exf:=fun b hb=>by
   obtain⟨o,e⟩:=fpO b hb
   exact⟨ltC b o e,fun y c e1=>(f2 b hb).2.2.2.2.1 y c (clX y c e1)⟩
  bs:=I2.bs
  bsz:=Nat.le_trans I2.ok.bsz I2.sz
  noex:=fun b o e hb=>by
   rcases (f2 b hb).2.2.2.1 with q | q
   · exact I2.ok.noex b o e q
   · exact Nat.lt_irrefl _ (Nat.lt_of_lt_of_le (Nat.lt_of_lt_of_le (Heap.lt_size e) I2.ok.bsz) q)
  exfs:=stkFp
  funs:=I2.stack
  frf:=I2.stkFree}
 have lenY:js.length=ys.length:=by have:=congrArg List.length hjs;simpa using this
 have I0:Inv (jL X scope cl G.objs.size (xs++ys) s2 H2 fp) [] (List.replicate xs.length none++wr js σ) H2 {s2 with heap:=h₁,toks:=s2.toks+([]:List (Str × Value)).length}:=by
  refine⟨okX,rfl,I2.bare,Un.kept old,⟨_,hns,fun k y v e1 e2 e3=>?_⟩,fun y c e=>?_,freshH _ (by show s2.heap.objs.size≤G.objs.size;rw [szG];omega),fun y c e=>I2.freeC y c (clX y c e),fun p hp=>absurd (show p∈([]:List (Addr × Obj)) from hp) (by simp),I2.hok.kept old,?_⟩
  · obtain⟨k,e1',e2'⟩:∃ k,ys[k]? =some y∧(wr js σ)[k]? =some (some v):=by
     have e1:(xs++ys)[k]? =some y:=e1
     by_cases hk:k < xs.length
     · rw [List.getElem?_append_left (by simpa using hk),List.getElem?_replicate,if_pos hk] at e2
       cases e2
     · rw [List.getElem?_append_right (by simpa using hk),List.length_replicate] at e2
       rw [List.getElem?_append_right (Nat.le_of_not_lt hk)] at e1
       exact⟨_,e1,e2⟩
    unfold wr at e2'
    rw [List.getElem?_map] at e2'
    cases ej:js[k]? with
    | none=>rw [ej] at e2';cases e2'
    | some j=>
     rw [ej] at e2'
     have e4:(σ[j]?).join=some v:=Option.some.inj e2'
     have e5:σ[j]? =some (some v):=by
      cases q:σ[j]? with
      | none=>rw [q] at e4;cases e4
      | some o=>rw [q] at e4;exact congrArg some e4
     have e6:X.N[j]? =some y:=by
      have:=congrArg (fun l=>l[k]?) hjs
      simp only [List.getElem?_map,ej,e1',Option.map_some] at this
      exact Option.some.inj this
     have hy:=List.all_eq_true.mp hys y (List.mem_of_getElem? e1')
     simp only [Bool.and_eq_true,Bool.or_eq_true,beq_iff_eq] at hy
     obtain⟨ky,ko⟩:=hy
     obtain⟨m,hn,hl⟩:=I2.loc
     obtain⟨u,r,lk⟩:=hl j y v e6 e5 (.inr ko)
     refine⟨u,r,.inr ⟨ky,?_⟩⟩
     rcases lk with ⟨kl,_⟩ | ⟨_,c,ec,hc⟩
     · have kl':X.env.scope.names.lookup y=some .local:=kl
       rw [kl'] at ko
       rcases ko with z | z <;> cases z
     · obtain⟨c',ec'⟩:=has y ky
       have:=clX y c' ec'
       rw [ec] at this
       cases this
       obtain⟨o,ho,hd⟩:=hc
       exact⟨c,ec',o,old c o ho,hd⟩
  · obtain⟨v,o,ho,hd⟩:=I2.cell y c (clX y c e)
    exact⟨v,o,old c o ho,hd⟩
  · show (List.replicate xs.length none++wr js σ).length=(xs++ys).length
    simp [wr,lenY]
 have loop:∀ s3:Shared,s3={s2 with heap:=h₁,toks:=s2.toks+([]:List (Str × Value)).length}→
  codeAny (model X.prog X.w) X.A (.compLoop (.ListComp elt [⟨tg,iter,cs,0⟩] scope pos) 0 (.ref it) (.ref s2.heap.objs.size) (compEnvC scope cl G.objs.size X.env))
   (compPost (model X.prog X.w) X.A X.xe use Q (.ref s2.heap.objs.size) G.objs.size) s3:=by
  rintro s3 rfl
  have stat:∀ {H':Hp} (o:Obj),(∀ b∈fp,H' b=none)→∀ b∈fp,qO7 (jL X scope cl G.objs.size (xs++ys) s2 H2 fp) [(s2.heap.objs.size,o)] H' b:=fun {H'} o hn b hb=>by
   obtain⟨ob,eb⟩:=fpO b hb
   refine⟨hn b hb,ltC b ob eb,stkFp b hb,.inl hb,fun y c e1=>(f2 b hb).2.2.2.2.1 y c (clX y c e1),fun p hp=>?_⟩
   have hp':p=(s2.heap.objs.size,o):=by
    have:p∈[(s2.heap.objs.size,o)]:=hp
    simpa using this
   rw [hp']
   exact Ne.symm (ltD b ob eb)
  refine qLu (fun n s'=>∃ i acc its H3,Inv (jL X scope cl G.objs.size (xs++ys) s2 H2 fp) [] (List.replicate xs.length none++wr js σ) H3 s'∧tn i s'.heap∧(∀ b∈fp,H3 b=none)∧s'.heap.PlainList s2.heap.objs.size its.toArray∧Vals acc its∧H3 s2.heap.objs.size=none∧W i n acc H3)
   ?_ m0 ⟨0,[],[],H2,I0,T.keep _ _ _ st2 fun b _ o e=>old b o e,fun b hb=>(f2 b hb).1,hacc,.nil,freshH _ (Nat.le_refl _),w0⟩
  rintro n s3 ⟨i,acc,its,H3,I3,st3,fr3,⟨nn,pl3⟩,va3,hD3,w3⟩
  obtain⟨hlen,cs⟩:=turn i n acc H3 w3
  have hal:acc.length=its.length:=va3.length
  have nD:s2.heap.objs.size ∉ frs X.stack:=fun z=>by
   obtain⟨o,e⟩:=stkO _ z
   exact ltD _ o e rfl
  have I3p:Inv (jL X scope cl G.objs.size (xs++ys) s2 H2 fp) [(s2.heap.objs.size,{cls:=.type "list",data:=.seq its.toArray nn})] (List.replicate xs.length none++wr js σ) H3 s3:=I3.pins_of fun p hp=>by
   have e:p=(s2.heap.objs.size,{cls:=.type "list",data:=.seq its.toArray nn}):=by simpa using hp
   subst e
   exact⟨pl3,hD3,DC,nD,fun v z=>nomatch z⟩
  rcases cs with ⟨stop,q⟩ | ⟨go,step⟩
  · refine thn (T.done (jL X scope cl G.objs.size (xs++ys) s2 H2 fp) rfl rfl rfl hcm i _ s3 _ H3 _ I3p (stat _ fr3) st3 stop) fun r s4 hr=>?_
    obtain⟨hr,I4⟩:=hr
    subst hr
    have pl4:=(I4.pin (s2.heap.objs.size,{cls:=.type "list",data:=.seq its.toArray nn}) (by simp)).1
    obtain⟨m,hn,_⟩:=I4.loc
    have B:=I4.base
    have un':Un (frs X.stack) fp H2 (upd H3 s2.heap.objs.size (.lst acc)) s2.heap s4.heap:=by
     refine⟨fun b o e n hb hx=>B.keep b o e n hb hx,fun b o e n hb hx=>B.slot b o e n hb hx,fun b o e n hx=>?_,fun b o e hx=>B.there b o e hx,fun b xs e=>?_,fun b o u e=>?_,fun b ps e=>?_⟩
     · rw [qV (ltD b o e)]
       exact B.free b o e n hx
     · have z:=B.tups b xs e
       rw [qV (qS z hD3)]
       exact z
     · have z:=B.frzs b o u e
       rw [qV (qS z hD3)]
       exact z
     · obtain⟨more,z⟩:=B.tbls b ps e
       exact⟨more,by rw [qV (qS z hD3)];exact z⟩
    have freeC4:H3 G.objs.size=none:=I4.free
    have hok':HOk X.prog X.w (upd H3 s2.heap.objs.size (.lst acc)) s4.heap:=fun b u e=>by
     by_cases hb:b=s2.heap.objs.size
     · subst hb
       rw [qD] at e
       cases e
       exact⟨Nat.le_of_lt hlen,its,nn,va3,pl4⟩
     · rw [qV hb] at e
       exact(I4.hok b u e).stay (fun c v hc z=>z) (fun c z=>by rw [qV (qS z hD3)];exact z) fun c xs z=>by rw [qV (qS z hD3)];exact z
    have hch:∀ b∈fp,(b∈X.ex∨X.s₀.heap.objs.size≤b)∧b≠X.env.locals∧(∀ y c,X.env.cells.lookup y=some c→c≠b)∧∀ p∈X.pn++pins,p.1≠b:=fun b hb=>by
     obtain⟨_,z1,_,z3,z4,z5⟩:=f2 b hb
     exact⟨z3,z1,z4,z5⟩
    have I5:=I2.call' (s':=s4) (ch:=fp) I4.os un' hok' I4.bare hch
    refine fin (.ref s2.heap.objs.size) _ _ s4 G.objs.size I5 rfl (q _ hD3) ⟨m,hn⟩ ?_ ?_ ?_ (fun y c e=>?_) fun p hp=>?_
    · rw [qV (Ne.symm DC)];exact freeC4
    · rw [szG];exact Nat.ne_of_gt (Nat.lt_succ_of_lt I2.lt)
    · rw [szG];exact Nat.le_succ_of_le I2.sz
    · obtain⟨v,o,ho,_⟩:=I2.cell y c e
      exact ltC c o ho
    · exact ltC p.1 p.2 (I2.pin p hp).1
  · refine thn (T.item (jL X scope cl G.objs.size (xs++ys) s2 H2 fp) rfl rfl rfl hcm i _ s3 _ H3 _ I3p (stat _ fr3) st3 go) fun r s4 hr=>?_
    obtain⟨u,hr,h4⟩:=hr
    subst hr
    refine thn h4 fun _ s5 h5=>?_
    obtain⟨v,H5,I5,r5,y5,st5,fr5⟩:=h5
    have I5':=I5.pinned (stat _ fr5) (T.obj _ _ st5)
    refine wpAny_mono (hg G.objs.size s2 H2 fp _ s5 _ H5 v u _ (I5'.wish _) r5 (step v H5 y5)) (fun _ s6 h6=>?_) fun _ _ z=>z.elim
    obtain⟨σ6,H6',I6',vs,eσ,hv,q5⟩:=h6
    subst eσ
    have back:∀ (H7:Hp) (s7:Shared) (σ7:L2.St) (h':Heap) (acc':List V) (its':List Value) (m':Nat),Inv (jL X scope cl G.objs.size (xs++ys) s2 H2 fp) ([(s2.heap.objs.size,{cls:=.type "list",data:=.seq its.toArray nn})]++qG9 fp s5.heap) (vs++wr js σ) H7 s7→
     Heap.SameBut s2.heap.objs.size s7.heap h'→h'.PlainList s2.heap.objs.size its'.toArray→Vals acc' its'→m' < n→W (i+1) m' acc' H7→
     ∃ m,m < n∧∃ i acc its H3,Inv (jL X scope cl G.objs.size (xs++ys) s2 H2 fp) [] (List.replicate xs.length none++wr js σ) H3 {s7 with heap:=h'}∧tn i h'∧(∀ b∈fp,H3 b=none)∧h'.PlainList s2.heap.objs.size its.toArray∧Vals acc its∧H3 s2.heap.objs.size=none∧W i m acc H3:=by
     intro H7 s7 _ h' acc' its' m' I7 hsb' hp' va' hm' w7
     have pinD:=I7.pin (s2.heap.objs.size,{cls:=.type "list",data:=.seq its.toArray nn}) (by simp)
     have pf:∀ b∈fp,∀ o,s5.heap.get? b=some o→s7.heap.get? b=some o∧H7 b=none:=fun b hb o e=>by
      have z:=I7.pin (b,o) (List.mem_append_right _ (List.mem_append_right _ (qAw hb e)))
      exact⟨z.1,z.2.1⟩
     have I8:Inv (jL X scope cl G.objs.size (xs++ys) s2 H2 fp) [] (List.replicate xs.length none++wr js σ) H7 {s7 with heap:=h'}:=by
      have I7u:Inv (jL X scope cl G.objs.size (xs++ys) s2 H2 fp) [] (List.replicate xs.length none++wr js σ) H7 s7:=(I7.pins_of (pins':=[]) fun p hp=>absurd hp (by simp)).weak (by simp [hv]) fun k v e=>by
       by_cases hk:k < xs.length
       · rw [List.getElem?_append_left (by simpa using hk),List.getElem?_replicate,if_pos hk] at e
         cases e
       · rw [List.getElem?_append_right (by simpa using hk),List.length_replicate] at e
         rw [List.getElem?_append_right (by rw [hv];exact Nat.le_of_not_lt hk),hv]
         exact e
      refine I7u.turned (t':=s7.toks) (it:=s2.heap.objs.size) (fun b o hb e=>hsb'.extBut b o hb e) pinD.2.1 DC (.inr (Nat.le_refl _)) (fun y c e=>?_) fun p hp=>absurd (show p∈([]:List (Addr × Obj)) from hp) (by simp)
      obtain⟨v,o,ho,_⟩:=I2.cell y c (clX y c e)
      exact ltD c o ho
     refine⟨m',hm',i+1,acc',its',H7,I8,?_,fun b hb=>?_,hp',va',pinD.2.1,w7⟩
     · refine T.keep _ _ _ st5 fun b hb o e=>hsb'.extBut b o ?_ (pf b hb o e).1
       obtain⟨ob,eb⟩:=fpO b hb
       exact ltD b ob eb
     · obtain⟨o,e,_⟩:=T.obj _ _ st5 b hb
       exact(pf b hb o e).2
    refine wpAny_mono (hc G.objs.size s2 H2 fp _ s6 _ _ _ I6' q5) (fun ok s6a h6=>?_) fun _ _ z=>z.elim
    obtain⟨H6,I6a,q6⟩:=h6
    cases ok with
    | false=>
     rw [if_neg (by decide)] at q6 ⊢
     obtain⟨m',hm',w7⟩:=q6
     have I7:=I6a.unwish
     have pinD:=I7.pin (s2.heap.objs.size,{cls:=.type "list",data:=.seq its.toArray nn}) (by simp)
     exact back H6 s6a (List.replicate xs.length none++wr js σ) s6a.heap acc its m' I7 (Heap.SameBut.refl _ _) ⟨nn,pinD.1⟩ va3 hm' w7
    | true=>
     rw [if_pos rfl] at q6 ⊢
     refine wpAny_mono (he G.objs.size s2 H2 fp _ s6a _ H6 _ I6a q6) (fun y s7 h7=>?_) fun _ _ z=>z.elim
     obtain⟨v7,H7,I7,r7,m',hm',w7⟩:=h7
     have I7:=I7.unwish
     have pinD:=I7.pin (s2.heap.objs.size,{cls:=.type "list",data:=.seq its.toArray nn}) (by simp)
     refine wpAny_list_append_plain (items:=its.toArray) ⟨nn,pinD.1⟩ (fun h' hp' hsb'=>?_) (by rw [List.size_toArray,← hal];exact Nat.le_of_lt hlen)
     have e8:its.toArray.push y=(its++[y]).toArray:=by simp
     rw [e8] at hp'
     exact back H7 s7 (List.replicate xs.length none++wr js σ) h' (acc++[v7]) (its++[y]) m' I7 hsb' hp' (va3.append (.cons r7 .nil)) hm' w7
 exact codeAny_compStart_list (loop _ rfl) (T.self _ 0 _ _ _ (T.keep _ _ _ st2 fun b _ o e=>old b o e) (loop _ rfl))
theorem qKz {X:Cx}{pins:List (Addr × Obj)}{σ:L2.St}{H:Hp}{s:Shared}{C:Addr}{h':Heap}(I:Inv X pins σ H s)(hsb:Heap.SameBut C s.heap h')(h0:H C=none)(h1:C≠X.env.locals)(h2:X.s₀.heap.objs.size≤C)
 (h3:∀ y c,X.env.cells.lookup y=some c→c≠C) (h4:∀ p∈X.pn++pins,p.1≠C):Inv X pins σ H {s with heap:=h'}:=
 I.turned (t':=s.toks) (it:=C) (fun b o hb e=>hsb.extBut b o hb e) h0 h1 (.inr h2) h3 h4
theorem qKv {X:Cx}{elt iter tg:Expr}{cs:List Expr}{scope:Scope}{cl:List (Str × Addr)}{pos:Pos}{wi:TI}{g:TG}{tc:TT}{te:TE}{xs ys:List Str}{js:List Nat}{T:L2.St→VK→It→Hp→Prop}
 (hcm:X.calm=true) (hi:PI X tg iter wi) (hg:∀ C s H fp,PG (jL X scope cl C (xs++ys) s H fp).nox tg g) (hc:∀ C s H fp,PTs (jL X scope cl C (xs++ys) s H fp).nox cs tc) (he:∀ C s H fp,PE (jL X scope cl C (xs++ys) s H fp).nox elt te) (hC:COk X scope cl iter xs ys js) (hE:∀ σ Q J H1,T σ Q J H1→vW xs.length js g tc te σ Q J H1):PE X (.ListComp elt [⟨tg,iter,cs,0⟩] scope pos) (fun σ H Q=>wi σ H (T σ Q)):=by
 intro pins s σ H Q I h
 rw [eval_ListComp]
 refine qE4 hcm hi hg hc he hC Q none (EP X pins σ Q) I h (hE σ Q) fun v u H' s' C I' r q hm h0 h1 h2 h3 h4=>?_
 obtain⟨m,hm⟩:=hm
 exact⟨m,hm,fun h' hsb=>⟨v,H',qKz I' hsb h0 h1 h2 h3 h4,r,q⟩⟩
theorem qFe {X:Cx}{elt iter tg:Expr}{cs:List Expr}{scope:Scope}{cl:List (Str × Addr)}{pos:Pos}{wi:TI}{g:TG}{tc:TT}{te:TE}{xs ys:List Str}{js:List Nat}{T:L2.St→VK→It→Hp→Prop}{i:Nat}{y:Str}{py spos:Pos}(hN:X.N.Nodup)(hi':X.N[i]? =some y)(hy:X.env.kindOf y=some .local)
 (hcm:X.calm=true) (hi:PI X tg iter wi) (hg:∀ C s H fp,PG (jL X scope cl C (xs++ys) s H fp).nox tg g) (hc:∀ C s H fp,PTs (jL X scope cl C (xs++ys) s H fp).nox cs tc) (he:∀ C s H fp,PE (jL X scope cl C (xs++ys) s H fp).nox elt te) (hC:COk X scope cl iter xs ys js) (hE:∀ σ Q J H1,T σ Q J H1→vW xs.length js g tc te σ Q J H1) (hsw:swapsWith (.ListComp elt [⟨tg,iter,cs,0⟩] scope pos) (some (.Name y py)) spos.line X.env=pure true):PS X (.Assign [.Name y py] (.ListComp elt [⟨tg,iter,cs,0⟩] scope pos) spos) (qRj (fun σ H Q=>wi σ H (T σ Q)) (qA5 i)):=by
 intro pins s σ H D I h
 rw [exec_Assign_Name_used _ _ _ _ hsw]
 refine wpAny_bind (wpAny_standAt (wpAny_bind ?_))
 have key:=qE4 (pos:=pos) hcm hi hg hc he hC (fun v H'=>D.nx (σ.set i (some v)) H') (some (assign (.Name y py) X.env)) (fun _ s'=>SP X pins D .next s') I h (hE σ _) fun v u H' s' C I' r q hm h0 h1 h2 h3 h4=>?_
 · exact wpAny_bind (thn key fun _ s' hq=>wpAny_pure (wpAny_pure hq))
 · refine wpAny_assign_Name (qHh I' hN hi' (.inl hy) r (fun s2 I2 ch=>?_) (.inr hy))
   obtain⟨b,sb,hb⟩:=ch
   obtain⟨m,hm⟩:=hm
   have nb:C≠b:=by
    rcases hb with rfl | hb
    · exact h1
    · exact Ne.symm (h3 y b hb)
   exact⟨m,hm.sameBut sb nb,fun h' hsb=>⟨_,H',qKz I2 hsb h0 h1 h2 h3 h4,q⟩⟩
def CompEnd (js:List Nat)(te:TE)(σ:L2.St)(Q:VK)(J:It)(H1:Hp):Prop:=∃ W:Nat→Nat→List V→Hp→Prop,(∃ m,W 0 m [] H1)∧∀ i m acc H2,W i m acc H2→
 acc.length < sizeLine∧((J.stop i H2∧∀ D,H2 D=none→Q (.ref D) (upd H2 D (.lst acc)))∨
  (J.go i H2∧∀ x H3,J.yld i H2 x H3→te (some x::wr js σ) H3 fun v H4=>∃ m',m' < m∧W (i+1) m' (acc++[v]) H4))
def qSn (js:List Nat)(wi:TI)(te:TE):TE:=fun σ H Q=>wi σ H (CompEnd js te σ Q)
theorem CompEnd.g {js:List Nat}{te:TE}(σ:L2.St)(Q:VK)(J:It)(H1:Hp):CompEnd js te σ Q J H1→vW 1 js (qA5 0) (fun _ H Q=>Q true H) te σ Q J H1:=fun⟨W,w0,st⟩=>
 ⟨W,w0,fun i m acc H2 w=>⟨(st i m acc H2 w).1,(st i m acc H2 w).2.imp id fun⟨go,y⟩=>⟨go,fun x H3 z=>⟨[some x],rfl,rfl,(if_pos rfl).mpr (y x H3 z)⟩⟩⟩⟩
theorem qFm {X:Cx}{elt iter:Expr}{x:Str}{px:Pos}{scope:Scope}{cl:List (Str × Addr)}{pos:Pos}{wi:TI}{te:TE}(ys:List Str)(js:List Nat)
 (hcm:X.calm=true) (hi:PI X (.Name x px) iter wi) (he:∀ C s H fp,PE (jL X scope cl C (x::ys) s H fp).nox elt te) (hx:scope.names.lookup x=some .local:=by rfl) (hC:COk X scope cl iter [x] ys js:=by exact⟨rfl,rfl,rfl,rfl,rfl,rfl,rfl,rfl,fun _=>rfl,by decide⟩):PE X (.ListComp elt [⟨.Name x px,iter,[],0⟩] scope pos) (qSn js wi te):=
 qKv (xs:=[x]) (T:=CompEnd js te) hcm hi (fun _ _ _ _=>qt (i:=0) hC.nd rfl (.inl (lookup_relabel_local hx)) (.inr (lookup_relabel_local hx))) (fun _ _ _ _=>qMq) he hC CompEnd.g
theorem qRg {X:Cx}{elt iter:Expr}{x:Str}{px:Pos}{scope:Scope}{cl:List (Str × Addr)}{pos:Pos}{wi:TI}{te:TE}(ys:List Str)(js:List Nat){i:Nat}{y:Str}{py spos:Pos}(hN:X.N.Nodup)(hi':X.N[i]? =some y)(hy:X.env.kindOf y=some .local)
 (hcm:X.calm=true) (hi:PI X (.Name x px) iter wi) (he:∀ C s H fp,PE (jL X scope cl C (x::ys) s H fp).nox elt te) (hx:scope.names.lookup x=some .local:=by rfl) (hC:COk X scope cl iter [x] ys js:=by exact⟨rfl,rfl,rfl,rfl,rfl,rfl,rfl,rfl,fun _=>rfl,by decide⟩) (hsw:swapsWith (.ListComp elt [⟨.Name x px,iter,[],0⟩] scope pos) (some (.Name y py)) spos.line X.env=pure true:=by rfl):PS X (.Assign [.Name y py] (.ListComp elt [⟨.Name x px,iter,[],0⟩] scope pos) spos) (qRj (qSn js wi te) (qA5 i)):=
 qFe (xs:=[x]) (T:=CompEnd js te) hN hi' hy hcm hi (fun _ _ _ _=>qt (i:=0) hC.nd rfl (.inl (lookup_relabel_local hx)) (.inr (lookup_relabel_local hx))) (fun _ _ _ _=>qMq) he hC CompEnd.g hsw
def Nxt (n i:Nat)(P:Prop):Prop:=∃ m',m' < n - i∧m'=n - (i+1)∧i+1≤n∧P
theorem Nxt.mk {n i:Nat}{P:Prop}(h:i < n)(p:P):Nxt n i P:=⟨n - (i+1),by omega,rfl,h,p⟩
theorem qCf {K:PySem.W.Frag}{a:Addr}{xs:List V}{js:List Nat}{te:TE}{σ:L2.St}{H:Hp}{Q:VK}(Pv:Nat→List V→Hp→Prop)(h0:Pv 0 [] H)(hl:∀ i acc H,i≤xs.length→Pv i acc H→SqL K H a xs∧acc.length < sizeLine)
 (hs:∀ i x acc H,i < xs.length→xs[i]? =some x→Pv i acc H→te (some x::wr js σ) H fun v H'=>Nxt xs.length i (Pv (i+1) (acc++[v]) H')) (hd:∀ acc H,Pv xs.length acc H→∀ D,H D=none→Q (.ref D) (upd H D (.lst acc))):CompEnd js te σ Q (Itl K a) H:=by
 refine⟨fun i m acc H=>m=xs.length - i∧i≤xs.length∧Pv i acc H,⟨xs.length,by simp,Nat.zero_le _,h0⟩,?_⟩
 rintro i m acc H2 ⟨rfl,hi,p⟩
 obtain⟨q,hz⟩:=hl i acc H2 hi p
 refine⟨hz,?_⟩
 by_cases hlt:i < xs.length
 · refine .inr ⟨⟨xs,xs[i],q,by simp [hlt]⟩,fun x H3 y=>?_⟩
   obtain⟨e,y⟩:=y
   subst e
   exact hs i x acc _ hlt (y xs q) p
 · have e:i=xs.length:=by omega
   subst e
   exact .inl ⟨⟨xs,q,Nat.le_refl _⟩,hd acc H2 p⟩
theorem qEu {lo:Int}{n:Nat}{js:List Nat}{te:TE}{σ:L2.St}{H:Hp}{Q:VK}(Pv:Nat→List V→Hp→Prop)(h0:Pv 0 [] H)(hl:∀ i acc H,i≤n→Pv i acc H→acc.length < sizeLine)
 (hs:∀ i acc H,i < n→Pv i acc H→te (some (.int (lo+i))::wr js σ) H fun v H'=>Nxt n i (Pv (i+1) (acc++[v]) H')) (hd:∀ acc H,Pv n acc H→∀ D,H D=none→Q (.ref D) (upd H D (.lst acc))):CompEnd js te σ Q (Itr lo n) H:=by
 refine⟨fun i m acc H=>m=n - i∧i≤n∧Pv i acc H,⟨n,by simp,Nat.zero_le _,h0⟩,?_⟩
 rintro i m acc H2 ⟨rfl,hi,p⟩
 refine⟨hl i acc H2 hi p,?_⟩
 by_cases hlt:i < n
 · refine .inr ⟨hlt,fun x H3 y=>?_⟩
   obtain⟨e,y⟩:=y
   subst e y
   exact hs i acc _ hlt p
 · have e:i=n:=by omega
   subst e
   exact .inl ⟨Nat.le_refl _,hd acc H2 p⟩
structure Def (K:PySem.W.Frag)(mg:Str→Option Value)(x:Str)(st:Stmt)(ps:List Str)(f:Addr)(fd:FuncData):Prop where
 F:Fun K x x st f fd
 b:Binds K fd ps []
 m:mg x=some (.ref f)
section
variable {X : Cx}
theorem qK {k j:Nat}{x:Str}{st:Stmt}{ps:List Str}{f:Addr}{fd:FuncData}{sp:Sp}{e:Expr}{es:List Expr}{t:TA}{p pos:Pos}(D:Def X.K X.mg x st ps f fd)(F:FnOk X.prog X.w X.K X.mg X.base CX0 j f fd ps sp)(hr:Room k X.A)(hg:Gl X x)(ha:PA X (e::es) t)(hj:j≤k:=by decide)
 (hdb:(x == ("__debug__":Str))=false:=by decide) (he:starEach (e::es) X.env=(false,eval e X.env)::starEach es X.env:=by rfl) (hpl:(backTo pos (starEach es X.env)).any (·.1)=false:=by rfl):
 PE X (.Call (.Name x p) (e::es) [] pos) (qQ7 sp [] E0 t):=qNq F (hr.mono hj) hg D.m D.F.kp D.b .nil qU8 ha hdb he hpl
theorem qI2 {x:Str}{n:String}{pos:Pos}(hg:Gl X x)(hm:X.mg x=none)(hv:bootBuiltins x=some (.type n))(hn:x≠"__name__":=by decide)(hd:(x == ("__debug__":Str))=false:=by decide):PE X (.Name x pos) (tC (.ty n)):=
 qR5 hg hm hv rfl hn hd
end
theorem qPi {X:Cx}{K:PySem.W.Frag}(h:X.K=K):IxR X (qVu K):=h ▸ qZ
theorem qB3 {X:Cx}{K:PySem.W.Frag}(h:X.K=K):IxR X (qSf K):=h ▸ wg
def qVk (t:TS):TS:=fun D σ H=>∃ R:L2.St→Hp→Prop,t {D with nx:=R} σ H∧∀ σ' H',R σ' H'→D.nx σ' H'
theorem vR {X:Cx}{st:Stmt}{t:TS}(h:PS X st t):PS X st (qVk t):=by
 rintro pins s σ H D I ⟨R,ht,hR⟩
 refine thn (h pins s σ H {D with nx:=R} I ht) fun f s' q=>?_
 cases f with
 | next=>obtain⟨σ',H',I',r⟩:=q;exact⟨σ',H',I',hR _ _ r⟩
 | brk=>exact q
 | cont=>exact q
 | ret u=>exact q
theorem qF {H:Hp}{p:Addr}(h:H p=none)(o:HO):Same H (upd H p o):=fun b u q=>by rw [qV (qS q h)];exact q
theorem Same.tup {K:PySem.W.Frag}{H H':Hp}{a:Addr}{xs:List V}(e:Same H H')(h:SqT K H a xs):SqT K H' a xs:=by
 rcases h with (h | ⟨o,h⟩) | h
 · exact .inl (.inl (e _ _ h))
 · exact .inl (.inr ⟨o,e _ _ h⟩)
 · exact .inr h
section
variable {X : Cx}
end
abbrev EC:=Value × Option Addr
def zp (h:Heap)(e:Addr)(C:EC)(hd:Option Addr):Prop:=
 ∃ (vs:Array Value) (sl:Array (Option Value)),h.get? e=some {cls:=C.1,dict:=C.2,data:=.fields vs,slots:=sl}∧
  match hd with
  | none=>vs[1]? =some .none
  | some T=>vs[1]? =some (.ref T)∧T≠e∧∃ oT ts m,h.get? T=some oT∧oT.data= .fields ts∧ts[3]? =some m
structure Noted (fs:List Addr)(e:Addr)(hd:Option Addr)(C:EC)(h h':Heap):Prop where
 keep:∀ b o,h.get? b=some o→b ∉ fs→b≠e→some b≠hd→h'.get? b=some o
 slot:∀ b o,h.get? b=some o→b∈fs→b≠e→some b≠hd→∃ sl,h'.get? b=some {o with slots:=sl}
 ent:∃ T,(h.get? T=none∨hd=some T)∧zp h' e C (some T)
theorem Noted.before {fs:List Addr}{e T:Addr}{C:EC}{h h1 h':Heap}(x:Noted fs e none C h1 h')(k:∀ b,b≠T→h1.get? b=h.get? b)(t:∃ o,h1.get? T=some o):Noted fs e (some T) C h h':=by
 refine⟨fun b o q hf he ht=>x.keep b o ?_ hf he (by simp),fun b o q hf he ht=>x.slot b o ?_ hf he (by simp),?_⟩
 · rw [k b (fun z=>ht (by rw [z]))];exact q
 · rw [k b (fun z=>ht (by rw [z]))];exact q
 · obtain⟨T',n | n,r⟩:=x.ent
   · refine⟨T',.inl ?_,r⟩
     rw [← k T' (fun z=>?_)];exact n
     obtain⟨o,q⟩:=t
     rw [z,q] at n;cases n
   · cases n
section
variable {M : Model} {A : Around} {E : Value → Shared → Prop} {s : Shared}
theorem Noted.then {fs:List Addr}{e T:Addr}{hd:Option Addr}{C:EC}{h h1 h2:Heap}(x:Noted fs e hd C h h1)(hT:h.get? T=none∨hd=some T)(y:Noted fs e (some T) C h1 h2):Noted fs e hd C h h2:=by
 have nt:∀ b o,h.get? b=some o→some b≠hd→(some b:Option Addr)≠some T:=fun b o q hb z=>by
  cases z
  rcases hT with n | n
  · rw [q] at n;cases n
  · exact hb n.symm
 have n1:∀ T',h1.get? T'=none→T'≠e→some T'≠hd→h.get? T'=none:=fun T' n he ht=>by
  cases q:h.get? T' with
  | none=>rfl
  | some o=>
   by_cases hs:T'∈fs
   · obtain⟨sl,z⟩:=x.slot T' o q hs he ht
     rw [n] at z;cases z
   · have z:=x.keep T' o q hs he ht
     rw [n] at z;cases z
 refine⟨fun b o q hf he ht=>y.keep b o (x.keep b o q hf he ht) hf he (nt b o q ht),fun b o q hf he ht=>?_,?_⟩
 · obtain⟨sl,z⟩:=x.slot b o q hf he ht
   obtain⟨sl',z'⟩:=y.slot b _ z hf he (nt b o q ht)
   exact⟨sl',z'⟩
 · obtain⟨T',n,r⟩:=y.ent
   refine⟨T',?_,r⟩
   rcases n with n | n
   · by_cases hh:hd=some T'
     · exact .inr hh
     · refine .inl (n1 T' n (fun z=>?_) (Ne.symm hh))
       obtain⟨vs,sl,q,r1,nT,_⟩:=r
       exact nT z
   · cases n
     exact hT
theorem qH1 {base:Heap}{env:Env}{outer:List Env}{L e:Addr}{C:EC}{head:Value}{vs:Array Value}{sl:Array (Option Value)}{had:Bool}{Q:Unit→Shared→Prop}
 (fr:A.frames=some (env::outer)) (ff:s.heap.FunFrames base (env::outer)) (ef:env.frame=some L) (re:s.heap.get? e=some {cls:=C.1,dict:=C.2,data:=.fields vs,slots:=sl}) (v1:1 < vs.size)
 (k:∀ h',Noted (frs (env::outer)) e none C s.heap h'→Q () {s with heap:=h'}):
 wpAny M A (do let a ← frameOf env;let pl ← entryPlaceOf L had;let b ← EntryCells.newEntry head a .none (rawInt L) .none pl;setField (.ref e) 1 b) Q E s:=by
 have efs:e ∉ frs (env::outer):=fun z=>by
  obtain⟨_,o,q,nf⟩:=ff.mem z
  rw [re] at q;cases q
  exact nf vs rfl
 refine wpAny_bind (wpAny_frameOf_fun fr ff ef fun g so=>?_)
 refine wpAny_bind (wpAny_entryPlaceOf fun pl ip=>?_)
 unfold EntryCells.newEntry newFields
 refine wpAny_bind (wpAny_newObj_type ?_ (ip.sizeOk5 _ _ _ _ _))
 generalize hN:({cls:=.type "traceback",dict:=none,data:=.fields ([head,.ref L,.none,rawInt L,.none]++(if pl.isEmpty then List.replicate 6 Value.none else pl)).toArray}:Obj)=N
 have Nd:N.data= .fields ([head,.ref L,.none,rawInt L,.none]++(if pl.isEmpty then List.replicate 6 Value.none else pl)).toArray:=by rw [← hN]
 have q1:g.get? e=some {cls:=C.1,dict:=C.2,data:=.fields vs,slots:=sl}:=(so.2.1 e efs).trans re
 have q2:=Heap.get?_push_of_some (h:=g) N q1
 have ne:g.objs.size≠e:=Nat.ne_of_gt (Heap.lt_size q1)
 refine wpAny_setField q2 rfl v1 (k _ ?_)
 have q3:=Heap.get?_update_self (Obj.mapFields (·.setIfInBounds 1 (Value.ref g.objs.size))) q2 rfl
 have nf:N.isFreed=false:=Obj.isFreed_of_fields Nd
 have t3:((g.push N).update e (Obj.mapFields (·.setIfInBounds 1 (Value.ref g.objs.size)))).get? g.objs.size=some N:=
  (Heap.get?_update_other (g.push N) _ (Ne.symm ne)).trans (Heap.get?_push_size g nf)
 have oth:∀ b o,b≠e→g.get? b=some o→((g.push N).update e (Obj.mapFields (·.setIfInBounds 1 (Value.ref g.objs.size)))).get? b=some o:=fun b o hb q=>by
  rw [Heap.get?_update_other _ _ (Ne.symm hb)]
  exact Heap.get?_push_of_some _ q
 refine⟨fun b o q hf he _=>oth b o he ((so.2.1 b hf).trans q),fun b o q hf he _=>?_,g.objs.size,.inl ?_,vs.setIfInBounds 1 (.ref g.objs.size),sl,q3,by simp [v1],ne,N,_,rawInt L,t3,Nd,?_⟩
 · obtain⟨sl',q'⟩:=so.2.2 b o q
   exact⟨sl',oth b _ he q'⟩
 · rw [so.1]
   exact Heap.get?_none_of_le (Nat.le_refl _)
 · simp
theorem qKo {base:Heap}{env:Env}{outer:List Env}{L e:Addr}{C:EC}{hd:Option Addr}{Q:Unit→Shared→Prop}
 (fr:A.frames=some (env::outer)) (ff:s.heap.FunFrames base (env::outer)) (ef:env.frame=some L) (re:zp s.heap e C hd)
 (k:∀ h',Noted (frs (env::outer)) e hd C s.heap h'→Q () {s with heap:=h'}):wpAny M A (noteFrame (.ref e) env) Q E s:=by
 have re0:=re
 obtain⟨vs,sl,q,r⟩:=re
 unfold noteFrame
 simp only [ef]
 cases hd with
 | none=>
  refine wpAny_bind (wpAny_field q rfl r ?_)
  rw [if_neg (by decide)]
  exact qH1 fr ff ef q (Array.getElem?_eq_some_iff.mp r).1 k
 | some T=>
  obtain⟨r1,nT,oT,ts,m,qT,dT,r3⟩:=r
  refine wpAny_bind (wpAny_field q rfl r1 ?_)
  rw [if_pos (by simp)]
  refine wpAny_bind (wpAny_field qT dT r3 ?_)
  by_cases hm:(m == rawInt L)=true
  · rw [if_pos hm]
    exact wpAny_pure (k s.heap ⟨fun b o q _ _ _=>q,fun b o q _ _ _=>⟨o.slots,q⟩,T,.inr rfl,re0⟩)
  rw [if_neg hm]
  refine wpAny_bind (wpAny_setField qT dT (Array.getElem?_eq_some_iff.mp r3).1 ?_)
  have oth:∀ b,b≠T→(s.heap.update T (Obj.mapFields (·.setIfInBounds 3 Value.none))).get? b=s.heap.get? b:=fun b z=>Heap.get?_update_other _ _ (Ne.symm z)
  have qT':=Heap.get?_update_self (Obj.mapFields (·.setIfInBounds 3 Value.none)) qT (Obj.isFreed_of_fields (Obj.data_mapFields dT _))
  have nf:∀ b o,s.heap.get? b=some o→(∀ vs,o.data≠ .fields vs)→b≠T:=fun b o z n w=>by
   rw [w,qT] at z;cases z
   exact n ts dT
  refine qH1 (s:={s with heap:=s.heap.update T (Obj.mapFields (·.setIfInBounds 3 Value.none))}) fr (ff.of_keeps fun b o z n=>⟨o,(oth b (nf b o z n)).trans z,rfl⟩) ef ((oth e (Ne.symm nT)).trans q) (Array.getElem?_eq_some_iff.mp r1).1 fun h' x=>?_
  exact k h' (x.before oth ⟨_,qT'⟩)
theorem qEt {e T:Addr}{C:EC}{fo:Option Addr}{Q:Unit→Shared→Prop}(re:zp s.heap e C (some T))
 (k:∀ h',(∀ fs,Noted fs e (some T) C s.heap h')→Q () {s with heap:=h'}):wpAny M A (setFlight (.ref e) fo) Q E s:=by
 obtain⟨vs,sl,q,r1,nT,oT,ts,m,qT,dT,r3⟩:=re
 unfold setFlight
 refine wpAny_bind (wpAny_field q rfl r1 ?_)
 rw [if_pos (by simp)]
 have oth:∀ b,b≠T→(s.heap.update T (Obj.mapFields (·.setIfInBounds 3 (fo.elim Value.none fun f=>rawInt f)))).get? b=s.heap.get? b:=fun b z=>Heap.get?_update_other _ _ (Ne.symm z)
 refine wpAny_setField qT dT (Array.getElem?_eq_some_iff.mp r3).1 (k _ fun fs=>⟨fun b o q _ _ z=>?_,fun b o q _ _ z=>⟨o.slots,?_⟩,T,.inr rfl,?_⟩)
 · rw [oth b fun w=>z (by rw [w])];exact q
 · rw [oth b fun w=>z (by rw [w])];exact q
 · refine⟨vs,sl,(Heap.get?_update_other _ _ nT).trans q,r1,nT,_,_,fo.elim Value.none fun f=>rawInt f,Heap.get?_update_self _ qT (Obj.isFreed_of_fields (Obj.data_mapFields dT _)),Obj.data_mapFields dT _,?_⟩
   have h3:=(Array.getElem?_eq_some_iff.mp r3).1
   simp [h3]
theorem zG {e T:Addr}{C:EC}{Q:Unit→Shared→Prop}(re:zp s.heap e C (some T))
 (k:∀ h',(∀ fs,Noted fs e (some T) C s.heap h')→Q () {s with heap:=h'}):wpAny M A (setFlight (.ref e) none) Q E s:=qEt re k
theorem qFs {base:Heap}{env:Env}{outer:List Env}{L e:Addr}{C:EC}{hd:Option Addr}{Q:Unit→Shared→Prop}
 (fr:A.frames=some (env::outer)) (ff:s.heap.FunFrames base (env::outer)) (ef:env.frame=some L) (re:zp s.heap e C hd)
 (k:∀ h',Noted (frs (env::outer)) e hd C s.heap h'→Q () {s with heap:=h'}):wpAny M A (noteFrame (.ref e) env) (fun _ s'=>wpAny M A (setFlight (.ref e) none) Q E s') E s:=by
 refine qKo fr ff ef re fun h1 N1=>?_
 obtain⟨T,hT,rT⟩:=N1.ent
 exact zG (s:={s with heap:=h1}) rT fun h2 N2=>k h2 (N1.then hT (N2 _))
theorem qPb {base:Heap}{env:Env}{outer:List Env}{L e:Addr}{C:EC}{hd:Option Addr}{E2:Value→Shared→Prop}
 (fr:A.frames=some (env::outer)) (ff:s.heap.FunFrames base (env::outer)) (ef:env.frame=some L) (re:zp s.heap e C hd)
 (k:∀ h',Noted (frs (env::outer)) e hd C s.heap h'→E2 (.ref e) {s with heap:=h'}):notedBy M A env (cameBackBy M A env E2) (.ref e) s:=by
 refine qKo fr ff ef re fun h1 N1=>?_
 obtain⟨T,hT,rT⟩:=N1.ent
 obtain⟨vs,sl,q,r1,_⟩:=id rT
 show wpAny M A _ _ _ _
 refine wpAny_bind (wpAny_field (s:={s with heap:=h1}) q rfl r1 ?_)
 rw [if_neg (by simp)]
 exact qEt (s:={s with heap:=h1}) rT fun h2 N2=>k h2 (N1.then hT (N2 _))
end
theorem qQa {P:Program}{w:World}{H:Hp}{h:Heap}{a:Addr}{o:HO}(x:ObjOk P w H h a o):∃ ob,h.get? a=some ob:=by
 cases o with
 | lst xs=>obtain⟨_,_,_,_,e⟩:=x;exact⟨_,e⟩
 | tup xs=>obtain⟨_,_,_,ob,e,_⟩:=x;exact⟨ob,e⟩
 | dK kvs=>obtain⟨_,_,_,_,o,_,_,e,_⟩:=x;exact⟨_,e⟩
 | dT kvs=>obtain⟨_,_,_,_,o,_,_,e,_⟩:=x;exact⟨_,e⟩
 | set S n=>obtain⟨o,_,_,_,e,_⟩:=x;exact⟨_,e⟩
 | ins C dx fs=>obtain⟨_,_,_,e,_⟩:=x;exact⟨_,e⟩
 | own y=>exact x
 | xd fs=>obtain⟨_,⟨_,_,_,e,_⟩,_⟩:=x;exact⟨_,e⟩
 | rng lo hi=>obtain⟨_,_,_,e⟩:=x;exact⟨_,e⟩
 | frz ob u=>obtain⟨e,_⟩:=x;exact⟨_,e⟩
 | tbl ps=>exact⟨_,x⟩
 | met f y=>exact⟨_,x⟩
 | ext φ=>exact x.2.1
def qMj (h₀:Heap)(H:Hp)(ps:List (Addr × Obj))(e:Addr):Prop:=h₀.get? e=none∧H e=none∧∀ p∈ps,p.1≠e
def qPw (h₀:Heap)(H:Hp)(ps:List (Addr × Obj))(h:Heap)(e:Addr)(C:EC):Prop:=
 qMj h₀ H ps e∧∃ hd,zp h e C hd∧∀ T,hd=some T→qMj h₀ H ps T
def CXR (P:Program)(w:World):CXT:=fun outer H s E e s'=>∃ ea C H',e= .ref ea∧s'.os=s.os∧AllBare s'.gens∧Un (frs outer) [] H H' s.heap s'.heap∧HOk P w H' s'.heap∧qPw s.heap H' [] s'.heap ea C∧E C.1 C.2 H'
def XE (X:Cx)(Ex:Value→Option Addr→Hp→Prop):Value→Shared→Prop:=fun e s'=>∃ ea C σ H',e= .ref ea∧Inv X [] σ H' s'∧qPw X.s₀.heap H' X.pn s'.heap ea C∧Ex C.1 C.2 H'
section
variable {X : Cx} {σ : L2.St} {H : Hp} {s : Shared}
theorem jq {e:Addr}{hd:Option Addr}{C:EC}{h':Heap}(I:Inv X [] σ H s)(hex:X.ex=[])(re:zp s.heap e C hd)(n1:qMj X.s₀.heap H X.pn e)(n3:∀ T,hd=some T→qMj X.s₀.heap H X.pn T)
 (N:Noted (frs X.stack) e hd C s.heap h'):Inv X [] σ H {s with heap:=h'}∧qPw X.s₀.heap H X.pn h' e C:=by
 have B:=I.base
 rw [hex] at B
 have ne:∀ b o,X.s₀.heap.get? b=some o→b≠e∧some b≠hd∧b≠X.env.locals:=fun b o q=>by
  refine⟨fun z=>?_,fun z=>?_,Nat.ne_of_lt (Nat.lt_of_lt_of_le (Heap.lt_size q) I.ok.above)⟩
  · rw [z,n1.1] at q;cases q
  · rw [(n3 b z.symm).1] at q;cases q
 have nin:∀ b,b ∉ ([]:List Addr):=fun b z=>nomatch z
 have nfl:∀ b o,s.heap.get? b=some o→(∀ vs,o.data≠ .fields vs)→b≠e∧some b≠hd:=fun b o q nf=>by
  obtain⟨vs,sl,qe,r⟩:=re
  refine⟨fun z=>?_,fun z=>?_⟩
  · rw [z,qe] at q;cases q
    exact nf vs rfl
  · subst z
    obtain⟨_,_,oT,ts,_,qT,dT,_⟩:=r
    rw [qT] at q;cases q
    exact nf ts dT
 have up:∀ b o,s.heap.get? b=some o→b≠e→some b≠hd→∃ sl,h'.get? b=some {o with slots:=sl}:=fun b o q z1 z2=>by
  by_cases hs:b∈frs X.stack
  · exact N.slot b o q hs z1 z2
  · exact⟨o.slots,N.keep b o q hs z1 z2⟩
 have un:Un X.fs [] X.H₀ H X.s₀.heap h':=by
  refine⟨fun b o q n hb hx=>?_,fun b o q n hb hx=>?_,fun b o q n hx=>B.free b o q n hx,fun b o q hx=>?_,B.tups,B.frzs,B.tbls⟩
  · obtain⟨z1,z2,z3⟩:=ne b o q
    refine N.keep b o (B.keep b o q n hb hx) (fun z=>?_) z1 z2
    rcases List.mem_cons.mp (I.stkSub b z) with w | w
    · exact z3 w
    · exact hb w
  · obtain⟨z1,z2,z3⟩:=ne b o q
    obtain⟨sl,q1⟩:=B.slot b o q n hb hx
    obtain⟨sl',q2⟩:=up b _ q1 z1 z2
    exact⟨sl',q2⟩
  · obtain⟨z1,z2,z3⟩:=ne b o q
    obtain⟨o',q1⟩:=B.there b o q hx
    obtain⟨sl',q2⟩:=up b _ q1 z1 z2
    exact⟨_,q2⟩
 have hok:HOk X.prog X.w H h':=fun a u q=>by
  have key:∀ c,H c=none→¬ (c=a∨H c=some (.own a)):=fun c z w=>by
   rcases w with w | w
   · rw [w,q] at z;cases z
   · rw [z] at w;cases w
  exact(I.hok a u q).stay (fun c v hc z=>N.keep c v z (fun w=>key c (I.stkFree c w) hc) (fun w=>key c (by rw [w];exact n1.2.1) hc) fun w=>key c (n3 c w.symm).2.1 hc) (fun _ z=>z) fun _ _ z=>z
 have cellK:∀ c v,s.heap.IsCell c v→h'.IsCell c v:=fun c v ⟨o,q,d⟩=>by
  obtain⟨z1,z2⟩:=nfl c o q fun vs w=>by rw [d] at w;cases w
  obtain⟨sl,q'⟩:=up c o q z1 z2
  exact⟨_,q',d⟩
 have I':Inv X [] σ H {s with heap:=h'}:=by
  refine⟨I.ok,I.os,I.bare,by rw [hex];exact un,?_,fun y c e=>?_,I.free,I.freeC,fun p hp=>?_,hok,I.len⟩
  · obtain⟨m,⟨o,es,ep,ho,hd',r⟩,hl⟩:=I.loc
    obtain⟨z1,z2⟩:=nfl _ o ho fun vs w=>by rw [hd'] at w;cases w
    obtain⟨sl,q'⟩:=up _ o ho z1 z2
    refine⟨m,⟨_,es,ep,q',hd',r⟩,fun i x v e1 e2 e3=>?_⟩
    obtain⟨u,r,l⟩:=hl i x v e1 e2 e3
    refine⟨u,r,?_⟩
    rcases l with l | ⟨k,c,ec,z⟩
    · exact .inl l
    · exact .inr ⟨k,c,ec,cellK c _ z⟩
  · obtain⟨v,z⟩:=I.cell y c e
    exact⟨v,cellK c v z⟩
  · obtain⟨q,n,nl,nf,d⟩:=I.pin p hp
    have hp':p∈X.pn:=by simpa using hp
    refine⟨N.keep p.1 p.2 q (fun z=>?_) (n1.2.2 p hp') fun z=>(n3 p.1 z.symm).2.2 p hp' rfl,n,nl,nf,d⟩
    rcases List.mem_cons.mp (I.stkSub p.1 z) with w | w
    · exact nl w
    · exact nf w
 refine⟨I',n1,?_⟩
 obtain⟨T,nT,r⟩:=N.ent
 refine⟨some T,r,fun T' e'=>?_⟩
 cases e'
 rcases nT with nT | nT
 rotate_left
 · exact n3 T nT
 refine⟨?_,?_,fun p hp z=>?_⟩
 · cases q:X.s₀.heap.get? T with
   | none=>rfl
   | some o=>
    obtain⟨o',z⟩:=B.there T o q (nin T)
    rw [nT] at z;cases z
 · cases q:H T with
   | none=>rfl
   | some u=>
    obtain⟨o',z⟩:=qQa (I.hok T u q)
    rw [nT] at z;cases z
 · have q:=(I.pin p (List.mem_append_left _ hp)).1
   rw [z,nT] at q;cases q
end
theorem qVa {X:Cx}{Ex:Value→Option Addr→Hp→Prop}{L:Addr}{env:Env}{outer:List Env}(hst:X.stack=env::outer)(he:X.env=env)(hf:env.frame=some L)(hex:X.ex=[]):PassesOwn (model X.prog X.w) X.A X.env (XE X Ex):=by
 rintro e s' ⟨ea,C,σ,H',rfl,I,⟨n1,hd,r,n3⟩,z⟩
 subst he
 have fr:=I.ok.frames
 rw [hst] at fr
 have ff:=I.stack
 rw [hst] at ff
 refine qPb fr ff hf r fun h' N'=>?_
 rw [← hst] at N'
 obtain⟨I',x'⟩:=jq I hex r n1 n3 N'
 exact⟨ea,C,σ,H',rfl,I',x',z⟩
theorem qRo {X:Cx}{E:Value→Shared→Prop}{st:List Stmt}{t:TS}(h:PSs (X.wish E) st t)(hE:∀ e s',E e s'→X.xe e s'):PSs X st t:=fun pins s σ H D I hw=>
 wpAny_mono (h pins s σ H D (I.wish E) hw) (fun _ _ q=>q.unwish) hE
section
variable {P : Program} {w : World} {K : PySem.W.Frag} {mg : Str → Option Value} {base : Heap}
theorem okX {x qual:Str}{st:Stmt}{f:Addr}{fd:FuncData}{N ps:List Str}{k:Nat}{sp:Sp}(F:Fun K x qual st f fd)(S:qO N ps (qH st))(len:∀ vs H Q E,sp vs H Q E→vs.length=ps.length)
 (hbody:∀ (cdv:Value) (A:Around) (outer:List Env) (s:Shared) (H:Hp) (vs:List V) (Q:VK) (E:XK),Room k (A.deeper (envOfC qual (qH st) s.heap.objs.size f cdv))→sp vs H Q E→
   ∃ t,PSs ((qOn (CXR P w) P w K mg base N qual (qH st) f cdv A outer s H E).wish (XE (qOn (CXR P w) P w K mg base N qual (qH st) f cdv A outer s H E) E)) (zW st) t∧
    t {nx:=fun _ H'=>Q .non H',rt:=Q} (start N vs) H):FnOk P w K mg base (CXR P w) (k+1) f fd ps sp:=by
 obtain⟨oc,od,kV,doc,pm,an,cdv,ct,osl,rfl,lk,hcd⟩:=F.ex
 refine qSy lk hcd S len fun A outer s H vs Q E hr hsp=>?_
 obtain⟨t,h,q⟩:=hbody cdv A outer s H vs Q E hr hsp
 refine⟨t,qRo h ?_,q⟩
 rintro e s' ⟨ea,C,σ,H',rfl,I,⟨n1,hd,r,n3⟩,z⟩
 show wpAny _ _ (leaving _ _) _ _ _
 unfold leaving
 refine wpAny_bind (qFs I.ok.frames I.stack rfl r fun h' N'=>?_)
 obtain⟨I',x'⟩:=jq I rfl r n1 n3 N'
 exact⟨ea,C,H',rfl,I.os,I.bare,I'.base,I'.hok,x',z⟩
end
theorem qVh {X:Cx}{Ex:Value→Option Addr→Hp→Prop}(hex:X.ex=[]):qJ5 (CXR X.prog X.w) (X.wish (XE X Ex)) Ex:=by
 rintro pins σ H s e s' I ⟨ea,C,H',rfl,os,bare,un,hok,⟨n1,hd,r,n3⟩,q⟩
 have I0:=I.unwish
 have I1:Inv X pins σ H' s':=I0.call' (ch:=[]) os un hok bare fun b z=>nomatch z
 have old:∀ b,s.heap.get? b=none→X.s₀.heap.get? b=none:=fun b z=>by
  cases w:X.s₀.heap.get? b with
  | none=>rfl
  | some o=>
   obtain⟨o',w'⟩:=I0.base.there b o w (by rw [hex];intro y;cases y)
   rw [z] at w';cases w'
 have pn:∀ b,s.heap.get? b=none→∀ p∈X.pn,p.1≠b:=fun b z p hp w=>by
  have q:=(I0.pin p (List.mem_append_left _ hp)).1
  rw [w,z] at q;cases q
 exact⟨ea,C,σ,H',rfl,I1.pins_of (pins':=[]) fun p hp=>(nomatch hp),⟨⟨old _ n1.1,n1.2.1,pn _ n1.1⟩,hd,r,fun T e=>⟨old _ (n3 T e).1,(n3 T e).2.1,pn _ (n3 T e).1⟩⟩,q⟩
theorem xy {X:Cx}{Ex:Value→Option Addr→Hp→Prop}{k j:Nat}{x:Str}{st:Stmt}{ps:List Str}{f:Addr}{fd:FuncData}{sp:Sp}{e:Expr}{es:List Expr}{t:TA}{p pos:Pos}(D:Def X.K X.mg x st ps f fd)(F:FnOk X.prog X.w X.K X.mg X.base (CXR X.prog X.w) j f fd ps sp)(hr:Room k X.A)(hg:Gl X x)
 (ha:PA (X.wish (XE X Ex)) (e::es) t) (hj:j≤k:=by decide) (hex:X.ex=[]:=by rfl)
 (hdb:(x == ("__debug__":Str))=false:=by decide) (he:starEach (e::es) X.env=(false,eval e X.env)::starEach es X.env:=by rfl) (hpl:(backTo pos (starEach es X.env)).any (·.1)=false:=by rfl):
 PE (X.wish (XE X Ex)) (.Call (.Name x p) (e::es) [] pos) (qQ7 sp [] Ex t):=
 qNq (X:=X.wish (XE X Ex)) (CX:=CXR X.prog X.w) F (hr.mono hj) hg D.m D.F.kp D.b .nil (qVh hex) ha hdb he hpl
def qQz:List Value:=[.type "ValueError",.type "Exception",.type "BaseException",.type "object"]
def OwnX (K:PySem.W.Frag)(C:Addr):Prop:=PySem.W.excIn K C qQz "ValueError.__new__"=true
theorem qQ1 {K:PySem.W.Frag}{h:Heap}{mg:Str→Option Value}{x:Str}{C:Addr}(X:K.In h)(b:mg x=some (.ref C))(q:OwnX K C):OwnCls x C qQz "ValueError.__new__" mg h:=by
 refine⟨b,?_⟩
 unfold OwnX PySem.W.excIn at q
 split at q
 · rename_i dd cd sl ho
   split at q
   · rename_i C' bm k0 k1 k2 k3 n k5 hm hs
     simp only [Bool.and_eq_true,beq_iff_eq,Bool.not_eq_true'] at q
     obtain⟨⟨⟨⟨⟨eC,en⟩,del⟩,ht⟩,ok⟩,ni⟩:=q
     subst eC en
     obtain⟨nm,bs,mro,ns,qn,hd,sn,sub,ab,col,dl⟩:=cd
     dsimp only at hm del ok ni
     subst hm del
     have hsl:sl=#[k0,k1,k2,k3,some (.builtin "ValueError.__new__"),k5]:=by
      obtain⟨l⟩:=sl
      simp only at hs
      rw [hs]
     subst hsl
     exact⟨bm,ns,nm,qn,bs,hd,sn,sub,ab,col,dd,k0,k1,k2,k3,k5,_,X _ _ ho,.of_isNs (PySem.W.isNs_of_in X ok),PySem.W.nsMap_none_of_in X ok ni,PySem.W.tail_of_in X ht⟩
   · cases q
 · cases q
def qS5 (C:Addr)(Ex:Value→Option Addr→Hp→Prop)(t:TA):TS:=fun _ σ H=>t σ H fun vs H1=>vs.length≤sizeLine∧Ex (.ref C) none H1
theorem xR {X:Cx}{Ex:Value→Option Addr→Hp→Prop}{x:Str}{C:Addr}{np cpos pos:Pos}{e₀:Expr}{rest:List Expr}{t:TA}(hcm:X.calm=true)(hg:Gl X x)(hm:X.mg x=some (.ref C))(hx:OwnX X.K C)(ha:PA (X.wish (XE X Ex)) (e₀::rest) t)
 (he:starEach (e₀::rest) X.env=(false,eval e₀ X.env)::starEach rest X.env:=by rfl) (hpl:(backTo cpos (starEach rest X.env)).any (·.1)=false:=by rfl) (hex:X.ex=[]:=by rfl) (hdb:(x == ("__debug__":Str))=false:=by decide):
 PS (X.wish (XE X Ex)) (.Raise (some (.Call (.Name x np) (e₀::rest) [] cpos)) none pos) (qS5 C Ex t):=by
 intro pins s σ H D I h
 obtain⟨tl,N,nm,q,bs,hdct,sn,sub,ab,col,dd,k0,k1,k2,k3,k5,mN,hC,hN,hni,T⟩:=
  (qQ1 (X:=I.ok.mod.kin) hm hx).obj
 refine wpAny_Raise_call_subT (bm:=tl) (C:=C) (N:=N) (nm:=nm) (q:=q) (bs:=bs) (hdct:=hdct) (sn:=sn) (sub:=sub) (ab:=ab) (col:=col) (dd:=dd) (k5:=k5) (k0:=k0) (k1:=k1) (k2:=k2) (k3:=k3)
  PySem.F.excBase_ValueError (mN:=mN) (T.hasType PySem.F.excBase_ValueError.hasBase) (I.ok.hd hcm) (by rw [he];show (false || (backTo cpos (starEach rest X.env)).any (·.1))=false;rw [hpl];rfl) hni (vF I hg hm ⟨rfl,?_⟩ hdb)
 have z:=ha cpos pins s σ H _ I h
 rw [show (X.wish (XE X Ex)).env=X.env from rfl] at z
 rw [he] at z ⊢
 refine Calls.evalArgs_plain (wpAny_mono z (fun us s2 w=>?_) fun _ _ y=>y)
 obtain⟨vs,H1,I1,r1,hl,ex⟩:=w
 have I1':=I1.unwish
 refine⟨rfl,by rw [← r1.length];exact hl,I1.bk _ _ hC,hN.keeps I1.bk,T.keeps I1.bk,fun h' e hmk=>?_⟩
 obtain⟨tt,q1,q2,q3⟩:=hmk.there
 have I2:Inv X pins σ H1 {s2 with heap:=h'}:=I1'.kept (t':=s2.toks) hmk.keeps
 refine⟨e,(.ref C,none),σ,H1,rfl,I2.pins_of (pins':=[]) fun p hp=>(nomatch hp),⟨⟨?_,?_,fun p hp z=>?_⟩,none,⟨_,_,q1,rfl⟩,fun T e'=>nomatch e'⟩,ex⟩
 · cases w:X.s₀.heap.get? e with
   | none=>rfl
   | some o=>
    obtain⟨o',w'⟩:=I1'.base.there e o w (by rw [hex];intro y;cases y)
    rw [hmk.new] at w';cases w'
 · cases w:H1 e with
   | none=>rfl
   | some u=>
    obtain⟨o',w'⟩:=qQa (I1'.hok e u w)
    rw [hmk.new] at w';cases w'
 · have q':=(I1'.pin p (List.mem_append_left _ hp)).1
   rw [z,hmk.new] at q';cases q'
def pnX (X:Cx)(l:List (Addr × Obj)):Cx:={X with pn:=l}
def hdX (X:Cx)(ea:Addr):Cx:={X with A:=X.A.mark (some (.ref ea)),calm:=false}
section
variable {X : Cx} {pins : List (Addr × Obj)} {σ : L2.St} {H : Hp} {s : Shared}
theorem qN0 (I:Inv X pins σ H s):Inv (pnX X (X.pn++pins)) [] σ H s:=by
 obtain⟨a1,a2,a3,a4,a5,a6,a7,a8,a9,a10,a11,a12,a13,a14,a15,a16,a17,a18⟩:=I.ok
 exact⟨⟨a1,a2,a3,a4,a5,a6,a7,a8,a9,a10,a11,a12,a13,a14,a15,a16,a17,a18⟩,I.os,I.bare,I.base,I.loc,I.cell,I.free,I.freeC,fun p hp=>I.pin p (by have z:p∈(X.pn++pins)++[]:=hp;simpa using z),I.hok,I.len⟩
theorem jk (I:Inv (pnX X (X.pn++pins)) [] σ H s):Inv X pins σ H s:=by
 obtain⟨a1,a2,a3,a4,a5,a6,a7,a8,a9,a10,a11,a12,a13,a14,a15,a16,a17,a18⟩:=I.ok
 exact⟨⟨a1,a2,a3,a4,a5,a6,a7,a8,a9,a10,a11,a12,a13,a14,a15,a16,a17,a18⟩,I.os,I.bare,I.base,I.loc,I.cell,I.free,I.freeC,fun p hp=>I.pin p (by show p∈(X.pn++pins)++[];simpa using hp),I.hok,I.len⟩
theorem wV {ea:Addr}(I:Inv X pins σ H s):Inv (hdX X ea) pins σ H s:=by
 obtain⟨a1,a2,a3,a4,a5,a6,a7,a8,a9,a10,a11,a12,a13,a14,a15,a16,a17,a18⟩:=I.ok
 exact⟨⟨a1,a2,a3,a4,a5,a6,a7,a8,fun h=>absurd (show false=true from h) Bool.false_ne_true,a10,a11,a12,a13,a14,a15,a16,a17,a18⟩,I.os,I.bare,I.base,I.loc,I.cell,I.free,I.freeC,I.pin,I.hok,I.len⟩
theorem xp {ea:Addr}(I:Inv (hdX X ea) pins σ H s)(hd:X.calm=true→X.A.handled=none):Inv X pins σ H s:=by
 obtain⟨a1,a2,a3,a4,a5,a6,a7,a8,a9,a10,a11,a12,a13,a14,a15,a16,a17,a18⟩:=I.ok
 exact⟨⟨a1,a2,a3,a4,a5,a6,a7,a8,hd,a10,a11,a12,a13,a14,a15,a16,a17,a18⟩,I.os,I.bare,I.base,I.loc,I.cell,I.free,I.freeC,I.pin,I.hok,I.len⟩
def qDz (e:Addr)(C:EC):HO:=.ext fun h=>∃ (vs:Array Value) (sl:Array (Option Value)),h.get? e=some {cls:=C.1,dict:=C.2,data:=.fields vs,slots:=sl}
theorem zr {a:Addr}{C:EC}{hd:Option Addr}(I:Inv X [] σ H s)(_:X.ex=[])(n:qMj X.s₀.heap H X.pn a)(r:zp s.heap a C hd):Inv X [] σ (upd H a (qDz a C)) s:=by
 obtain⟨vs,sl,q,_⟩:=r
 have B:=I.base
 have ne:∀ b o,X.s₀.heap.get? b=some o→b≠a:=fun b o w z=>by rw [z,n.1] at w;cases w
 refine⟨I.ok,I.os,I.bare,⟨B.keep,B.slot,fun b o w z hx=>?_,B.there,fun b xs w=>?_,fun b o u w=>?_,fun b ps w=>?_⟩,I.loc,I.cell,?_,fun y c e=>?_,fun p hp=>?_,fun b u w=>?_,I.len⟩
 · rw [qV (ne b o w)];exact B.free b o w z hx
 · have z:=B.tups b xs w
   rw [qV (qS z n.2.1)];exact z
 · have z:=B.frzs b o u w
   rw [qV (qS z n.2.1)];exact z
 · obtain⟨more,z⟩:=B.tbls b ps w
   exact⟨more,by rw [qV (qS z n.2.1)];exact z⟩
 · obtain⟨m,⟨o,es,ep,ho,hd',_⟩,_⟩:=I.loc
   rw [qV (fun z=>by rw [z,q] at ho;cases ho;cases hd')]
   exact I.free
 · obtain⟨v,o,ho,hd'⟩:=I.cell y c e
   rw [qV (fun z=>by rw [z,q] at ho;cases ho;cases hd')]
   exact I.freeC y c e
 · obtain⟨w1,w2,w3⟩:=I.pin p hp
   have hp':p∈X.pn:=by simpa using hp
   rw [qV (n.2.2 p hp')]
   exact⟨w1,w2,w3⟩
 · by_cases hb:b=a
   · subst hb
     rw [qD] at w
     cases w
     refine⟨⟨vs,sl,q⟩,⟨_,q⟩,fun h1 h2 z k=>?_⟩
     obtain⟨vs',sl',z⟩:=z
     exact⟨vs',sl',k _ z⟩
   · rw [qV hb] at w
     exact(I.hok b u w).stay (fun _ _ _ z=>z) (fun c z=>by rw [qV (qS z n.2.1)];exact z) fun c xs z=>by rw [qV (qS z n.2.1)];exact z
theorem jd {M:Model}{A:Around}{E:Value→Shared→Prop}{i:Nat}{n:Str}{pos:Pos}{Q:Unit→Shared→Prop}(I:Inv X pins σ H s)(hN:X.N.Nodup)(hi:X.N[i]? =some n)(hl:X.env.scope.names.lookup n=some .local)
 (h:∀ s',Inv X pins (σ.set i none) H s'→Q () s'):wpAny M A (do bindName X.env n .none;unbindBehindTheSuite X.env n pos) Q E s:=by
 refine wpAny_bind (wpAny_bindName (zJ (v:=.non) I hN hi (.inl hl) rfl (fun s1 I1=>?_) (.inr hl)))
 unfold unbindBehindTheSuite
 refine wpAny_onRaise ?_
 have hcls:(X.env.scope.kind == .class || (X.env.scope.kind == .module && X.env.locals != X.env.globals))=false:=by rw [I1.ok.kind];rfl
 have hiσ:i < σ.length:=by rw [I.len];exact(List.getElem?_eq_some_iff.mp hi).1
 obtain⟨m,hn,hlk⟩:=I1.loc
 obtain⟨u,r,lk⟩:=hlk i n .non hi (by rw [List.getElem?_set_self hiσ]) (.inl hl)
 have hm:m n=some u:=by
  rcases lk with ⟨_,z⟩ | ⟨z,_⟩
  · exact z
  · have hl':X.env.kindOf n=some .local:=hl
    rw [hl'] at z
    rcases z with z | z <;> cases z
 obtain⟨oL,es,ep,hoL,hdL,_⟩:=id hn
 refine wpAny_unbindName_local hl hn hm hcls fun h' u' hn' hs=>h _ ?_
 have B:=I1.base
 have neL:∀ b o,X.s₀.heap.get? b=some o→b≠X.env.locals:=fun b o e=>Nat.ne_of_lt (Nat.lt_of_lt_of_le (Heap.lt_size e) I1.ok.above)
 refine⟨I1.ok,I1.os,I1.bare,⟨fun b o e n hb hx=>(hs.2 b (neL b o e)).trans (B.keep b o e n hb hx),fun b o e n hb hx=>?_,B.free,fun b o e hx=>?_,B.tups,B.frzs,B.tbls⟩,⟨_,hn',fun j y v e1 e2 e3=>?_⟩,fun y c e=>?_,I1.free,I1.freeC,fun p hp=>?_,fun b ob e=>?_,?_⟩
 · obtain⟨sl,z⟩:=B.slot b o e n hb hx
   exact⟨sl,(hs.2 b (neL b o e)).trans z⟩
 · obtain⟨o',z⟩:=B.there b o e hx
   exact⟨o',(hs.2 b (neL b o e)).trans z⟩
 · have hj:j≠i:=fun z=>by
    subst z
    rw [List.getElem?_set_self hiσ] at e2
    cases e2
   rw [List.getElem?_set_ne (Ne.symm hj)] at e2
   obtain⟨u2,r2,l2⟩:=hlk j y v e1 (by rw [List.getElem?_set_ne (Ne.symm hj)];exact e2) e3
   refine⟨u2,r2,?_⟩
   rcases l2 with ⟨k,z⟩ | ⟨k,c,ec,z⟩
   · refine .inl ⟨k,?_⟩
     have:y≠n:=fun w=>hj (qGb hN e1 (w ▸ hi))
     simp [this,z]
   · exact .inr ⟨k,c,ec,z.sameBut hs (I1.cne y c ec)⟩
 · obtain⟨w',z⟩:=I1.cell y c e
   exact⟨w',z.sameBut hs (I1.cne y c e)⟩
 · obtain⟨e,n,ne,nf,d⟩:=I1.pin p hp
   exact⟨(hs.2 p.1 ne).trans e,n,ne,nf,d⟩
 · refine(I1.hok b ob e).stay (fun c w' hc q=>(hs.2 c fun z=>?_).trans q) (fun _ q=>q) fun _ _ q=>q
   have fr:=I1.free
   rcases hc with hc | hc
   · rw [← hc,z,fr] at e;cases e
   · rw [z,fr] at hc;cases hc
 · have:=I1.len
   simpa using this
end
def qGg (D:qK1)(i:Option Nat):qK1:=
 let f:(L2.St→Hp→Prop)→L2.St→Hp→Prop:=fun q σ H=>match i with | some i=>q (σ.set i none) H | none=>q σ H
 {nx:=f D.nx,rt:=D.rt,bk:=f D.bk,ct:=f D.ct}
def qRh (i:Option Nat)(ea:Addr)(σ:L2.St):L2.St:=match i with | some i=>σ.set i (some (.ref ea)) | none=>σ
def qV0 (K:PySem.W.Frag)(Ex:Value→Option Addr→Hp→Prop)(C:Addr)(i:Option Nat)(tb ts:TS):TS:=fun D σ H=>tb D σ H∧∀ (ea:Addr) (B:EC) (σ':L2.St) (H':Hp),Ex B.1 B.2 H'→H' ea=none→σ'.length=σ.length→
 PySem.W.exmOne K B.1 (.ref C)=some true∧ts (qGg D i) (qRh i ea σ') (upd H' ea (qDz ea B))
def qUu (K:PySem.W.Frag)(Ex:Value→Option Addr→Hp→Prop)(C:Addr)(i:Option Nat)(tb ts te:TS):TS:=fun D σ H=>qV0 K Ex C i (fun _=>tb {D with nx:=te D}) ts D σ H
inductive qB4 (X:Cx):Option Str→Option Nat→Prop where
 | none:qB4 X none none
 | some {n:Str} {i:Nat} (hi:X.N[i]? =some n) (hl:X.env.scope.names.lookup n=some .local):qB4 X (some n) (some i)
theorem qQ4 {X:Cx}{body:List Stmt}{b₀:Stmt}{suite:List Stmt}{x:Str}{C:Addr}{nm:Option Str}{i:Option Nat}{np hpos pos:Pos}{oe:List Stmt}{tb ts te:TS}(Ex:Value→Option Addr→Hp→Prop)
 (hcl:qB4 X nm i) (hN:X.N.Nodup) (hg:Gl X x) (hm:X.mg x=some (.ref C))
 (hb:∀ l,PSs ((pnX X l).wish (XE (pnX X l) Ex)) body tb) (hs:∀ l ea,PSs (hdX (pnX X l) ea).nox (b₀::suite) ts) (ho:PSs X oe te)
 (hstk:X.stack=X.env::X.outer:=by rfl) (hfr:X.env.frame=some X.env.locals:=by rfl) (hex:X.ex=[]:=by rfl) (hdb:(x == ("__debug__":Str))=false:=by decide):
 PS X (.Try body [.ExceptHandler (some (.Name x np)) nm (b₀::suite) hpos] oe [] pos) (qUu X.K Ex C i tb ts te):=by
 rintro pins s σ H D I ⟨h1,h2⟩
 have I0:=qN0 I
 refine wpAny_Try_except (wpAny_mono (hb (X.pn++pins) [] s σ H {D with nx:=te D} (I0.wish _) h1) (fun f s1 q=>?_) fun e s1 q=>?_)
 · have q:=q.unwish
   cases f with
   | next=>
    obtain⟨σ',H',J,z⟩:=q
    exact ho pins s1 σ' H' D (jk J) z
   | brk=>
    obtain⟨σ',H',J,z⟩:=q
    exact⟨σ',H',jk J,z⟩
   | cont=>
    obtain⟨σ',H',J,z⟩:=q
    exact⟨σ',H',jk J,z⟩
   | ret u=>
    obtain⟨v,σ',H',J,r,z⟩:=q
    exact⟨v,σ',H',jk J,r,z⟩
 · obtain⟨ea,B,σ',H',rfl,I1,⟨n1,hd,r,n3⟩,ex⟩:=q
   have hlen:σ'.length=σ.length:=I1.len.trans I.len.symm
   obtain⟨hx,ht⟩:=h2 ea B σ' H' ex n1.2.1 hlen
   have fr:X.A.frames=some (X.env::X.outer):=by rw [← hstk];exact I.ok.frames
   have ff:s1.heap.FunFrames X.base (X.env::X.outer):=by
    have z:=I1.stack
    rw [show (pnX X (X.pn++pins)).stack=X.env::X.outer from hstk] at z
    exact z
   refine qFs fr ff hfr r fun h' N'=>?_
   have N':Noted (frs X.stack) ea hd B s1.heap h':=by rw [hstk];exact N'
   obtain⟨I2,n1,hd2,r2,n3⟩:=jq I1 hex r n1 n3 N'
   refine wpAny_handleBy_cons (codeAny_handlers_test (vF (X:=hdX (pnX X (X.pn++pins)) ea) (wV I2) hg hm ?_ hdb)) (by intro z;cases z)
   have LT:PySem.W.Looks (model X.prog X.w) h' (typeOf (.ref ea)) B.1:=by
    obtain⟨vs,sl,qe,_⟩:=r2
    exact(PySem.W.Looks.ld qe).andThen .now
   refine(PySem.W.exm_one (M:=model X.prog X.w) I2.kIn LT hx).here ?_
   show codeAny _ _ _ _ _
   obtain⟨T,rfl,r3⟩:∃ T,hd2=some T∧zp h' ea B (some T):=by
    obtain⟨T,_,_⟩:=N'.ent
    cases hd2 with
    | some T=>exact⟨T,rfl,r2⟩
    | none=>
     obtain⟨T,_,rT⟩:=N'.ent
     obtain⟨vs,sl,q1,q2⟩:=r2
     obtain⟨vs',sl',q1',q2',_⟩:=rT
     rw [q1] at q1'
     cases q1'
     rw [q2] at q2'
     cases q2'
   have run:∀ (s4:Shared) (σ4:L2.St) (Q:Flow→Shared→Prop) (E:Value→Shared→Prop),Inv (hdX (pnX X (X.pn++pins)) ea) [] σ4 (upd H' ea (qDz ea B)) s4→ts (qGg D i) σ4 (upd H' ea (qDz ea B))→
    (∀ f s5,SP (hdX (pnX X (X.pn++pins)) ea) [] (qGg D i) f s5→Q f s5)→wpAny (model X.prog X.w) (X.A.mark (some (.ref ea))) (execs (b₀::suite) X.env) Q E s4:=fun s4 σ4 Q E I4 z k=>
    wpAny_mono (hs (X.pn++pins) ea [] s4 σ4 _ _ (I4.wish _) z) (fun f s5 q=>k f s5 q.unwish) fun _ _ z=>z.elim
   have hdn:(pnX X (X.pn++pins)).calm=true→(pnX X (X.pn++pins)).A.handled=none:=I2.ok.hd
   cases hcl with
   | none=>
    refine codeAny_handlers_suite (zG r3 fun h3 N3=>?_)
    obtain⟨I3,n1,hd3,r4,n3⟩:=jq I2 hex r3 n1 n3 (N3 _)
    refine run _ _ _ _ (wV (zr I3 hex n1 r4)) ht fun f s5 q=>?_
    cases f with
    | next=>obtain⟨σ5,H5,J,z⟩:=q;exact⟨σ5,H5,jk (xp J hdn),z⟩
    | brk=>obtain⟨σ5,H5,J,z⟩:=q;exact⟨σ5,H5,jk (xp J hdn),z⟩
    | cont=>obtain⟨σ5,H5,J,z⟩:=q;exact⟨σ5,H5,jk (xp J hdn),z⟩
    | ret u=>obtain⟨v,σ5,H5,J,rv,z⟩:=q;exact⟨v,σ5,H5,jk (xp J hdn),rv,z⟩
   | some hi hl=>
    refine codeAny_handlers_suite_as (zG r3 fun h3 N3=>?_)
    obtain⟨I3,n1,hd3,r4,n3⟩:=jq I2 hex r3 n1 n3 (N3 _)
    refine zJ (X:=hdX (pnX X (X.pn++pins)) ea) (v:=.ref ea) (wV (zr I3 hex n1 r4)) hN hi (.inl hl) rfl (fun s4 I4=>?_) (.inr hl)
    refine run _ _ _ _ I4 ht fun f s5 q=>?_
    cases f with
    | next=>obtain⟨σ5,H5,J,z⟩:=q;exact jd (X:=pnX X (X.pn++pins)) (xp J hdn) hN hi hl fun s6 J6=>⟨_,H5,jk J6,z⟩
    | brk=>obtain⟨σ5,H5,J,z⟩:=q;exact jd (X:=pnX X (X.pn++pins)) (xp J hdn) hN hi hl fun s6 J6=>⟨_,H5,jk J6,z⟩
    | cont=>obtain⟨σ5,H5,J,z⟩:=q;exact jd (X:=pnX X (X.pn++pins)) (xp J hdn) hN hi hl fun s6 J6=>⟨_,H5,jk J6,z⟩
    | ret u=>obtain⟨v,σ5,H5,J,rv,z⟩:=q;exact jd (X:=pnX X (X.pn++pins)) (xp J hdn) hN hi hl fun s6 J6=>⟨v,_,H5,jk J6,rv,z⟩
theorem qTr {X:Cx}{body:List Stmt}{b₀:Stmt}{suite:List Stmt}{x:Str}{C:Addr}{nm:Option Str}{i:Option Nat}{np hpos pos:Pos}{tb ts:TS}(Ex:Value→Option Addr→Hp→Prop)
 (hcl:qB4 X nm i) (hN:X.N.Nodup) (hg:Gl X x) (hm:X.mg x=some (.ref C))
 (hb:∀ l,PSs ((pnX X l).wish (XE (pnX X l) Ex)) body tb) (hs:∀ l ea,PSs (hdX (pnX X l) ea).nox (b₀::suite) ts)
 (hstk:X.stack=X.env::X.outer:=by rfl) (hfr:X.env.frame=some X.env.locals:=by rfl) (hex:X.ex=[]:=by rfl) (hdb:(x == ("__debug__":Str))=false:=by decide):
 PS X (.Try body [.ExceptHandler (some (.Name x np)) nm (b₀::suite) hpos] [] [] pos) (qV0 X.K Ex C i tb ts):=
 qQ4 Ex hcl hN hg hm hb hs qQ hstk hfr hex hdb
end L3
set_option maxRecDepth 100000
namespace L3
open PySem PySem.Spec PySem.Calls PyProof.Rows PySem.W
section
variable {prog : Program} {w : World} {A : Around} {E : Value → Shared → Prop} {K : Frag} {h : Heap} {g : Array GenState} {d : Drawn} {t : Nat} {os : OsState} {a D : Addr} {ox : Obj} {od : Option Obj}
end
end L3
namespace L3
open PySem PySem.Spec PyProof.Rows L2
end L3
set_option maxRecDepth 100000
namespace L3
open PySem PySem.Spec PySem.Calls PySem.Builtin PySem.Builtin.ObjectAttr PyProof.Rows
def exOver (K:PySem.W.Frag)(C D:Addr):Bool:=(PySem.W.clsIn K C).any fun cd=>cd.mro == .ref C:: .ref D::qQz
section
variable {prog : Program} {w : World} {A : Around} {E : Value → Shared → Prop} {K : PySem.W.Frag} {s : Shared} {x C D : Addr} {vs : Array Value} {sl : Array (Option Value)} {R : Result → Shared → Prop}
open PySem.W in
theorem qOe {ox:Obj}{od:Option Obj}{name:Str}{tk:Tok}{v:Value}(X:K.In s.heap)(I:InstAt s.heap x ox C od)(hp:exOver K C D=true)(ht:takerIn K C name=some none)
 (h:∀ b,wpAny (model prog w) A.in1 (storeInOwnDict (.ref x) (.ref C) (.str name tk) name v b)
   (fun fin s'=>match fin with | .done f=>R (.ok f) s' | .again c'=>c'.quiet=true∧codeAny (model prog w) A c' R s') (fun e s'=>R (.error e) s') s):
 codeAny (model prog w) A (.call (.builtin "object.__setattr__") ⟨[.ref x,.str name tk,v],[]⟩) R s:=by
 have SF:=PySem.F.store_object
 obtain⟨cd,hc,ho⟩:=any_some hp
 have ho:cd.mro= .ref C:: .ref D::qQz:=beq_iff_eq.mp ho
 have sub:Looks (model prog w) s.heap (isInstance (.ref x) (.type "object")) true:=I.type.andThen (looks_mroIn X (by unfold mroIn;rw [hc,Option.bind_some,ho];rfl))
 refine codeAny_call_builtin SF.slot.plain SF.entry (@check_slot (model prog w) _ _ s "object.__setattr__" "object" "__setattr__" (.ref x) [.str name tk,v] [] _ SF.kind SF.split sub (SF.args (.ref x) (.str name tk) v) ?_)
 obtain⟨attr,ha,hr⟩:=Option.bind_eq_some_iff.mp ht
 have hm:Looks (model prog w) s.heap (mroOf (.ref C)) cd.mro:=(looks_clsIn X hc).andThen .now
 have L3:Looks (model prog w) s.heap (storeTaker? attr) none:=by
  cases attr with
  | none=>cases hr;exact .now
  | some a=>
   obtain⟨b,hb,hb2⟩:=Option.map_eq_some_iff.mp hr
   refine(looks_takesIn X hb).andThen ?_
   cases b
   · exact .now
   · cases hb2
 rw [osa_eq,refuse_eq]
 refine wpAny_bind (wpAny_bind (I.type.here (wpAny_bind (hm.here ?_))))
 rw [ho,refuseLoop_ref,refuseLoop_ref]
 rw [show refuseLoop (.ref x) "__setattr__" qQz=pure () from PySem.F.store_ValueError.passes (.ref x)]
 refine wpAny_pure (wpAny_bind (I.type.here (wpAny_bind ((looks_findIn X ha).here (wpAny_bind (L3.here ?_))))))
 exact h _
open PySem.W in
theorem qR8 {name:Str}{v:Value}{Q:Unit→Shared→Prop}(X:K.In s.heap)(hx:s.heap.get? x=some {cls:=.ref C,dict:=none,data:=.fields vs,slots:=sl})
 (hs:findIn K (.ref C) "__setattr__"=some (some (.builtin "object.__setattr__"))) (hp:exOver K C D=true) (ht:takerIn K C name=some none) (hh:hasDictIn K C=true)
 (h:∀ h' tk,h'.get? x=some {cls:=.ref C,dict:=some s.heap.objs.size,data:=.fields vs,slots:=sl}→h'.Ns1 s.heap.objs.size (fun y=>if y=name then some v else none)→(∀ b o,b≠x→s.heap.get? b=some o→h'.get? b=some o)→Q () {s with heap:=h',toks:=tk}):
 wpAny (model prog w) A (setAttr (.ref x) name v) Q E s:=by
 have J:InstAt s.heap x {cls:=.ref C,dict:=none,data:=.fields vs,slots:=sl} C none:=⟨hx,rfl,rfl,trivial⟩
 refine PySem.W.set_plain X J hs (qOe (s:={s with toks:=s.toks+1}) X J hp ht fun b=>?_)
 obtain⟨cd,hc,hd'⟩:=PySem.W.any_some hh
 refine wpAny_bind (wpAny_pure (wpAny_bind (wpAny_bind (wpAny_loadPart hx (wpAny_bind (PySem.W.Looks.here (s:={s with toks:=s.toks+1}) (PySem.W.looks_clsIn X hc) ?_))))))
 rw [hd']
 have hx₁:(s.heap.push {cls:=.type "dict",data:=.dict #[]}).get? x=some {cls:=.ref C,dict:=none,data:=.fields vs,slots:=sl}:=Heap.get?_push_of_some _ hx
 have hxs:x≠s.heap.objs.size:=Nat.ne_of_lt (Heap.lt_size hx)
 refine wpAny_bind (wpAny_alloc' ?_)
 refine wpAny_bind (wpAny_update' hx₁ ?_)
 refine wpAny_pure ?_
 have hgd:((s.heap.push {cls:=.type "dict",data:=.dict #[]}).update x fun o=>{o with dict:=some s.heap.objs.size}).get? s.heap.objs.size=some {cls:=.type "dict",data:=.dict #[]}:=
  (Heap.get?_update_ne _ _ _ _ hxs.symm).trans (Heap.get?_push_at rfl rfl)
 have hnd:((s.heap.push {cls:=.type "dict",data:=.dict #[]}).update x fun o=>{o with dict:=some s.heap.objs.size}).Ns s.heap.objs.size (fun _=>none):=
  ⟨_,#[],_,hgd,rfl,fun e he=>absurd he (by simp),fun _=>rfl⟩
 refine wpAny_bind (wpAny_pure (wpAny_bind ?_))
 refine wpAny_nsSet1 (s:={s with heap:=_,toks:=s.toks+1}) (Heap.Ns1.of_empty hnd) fun h' hn' hs2=>?_
 obtain⟨oD,esD,epD,hoD,hdD,hcD⟩:=hn'.count (Within.cons name v Within.nil)
 refine wpAny_bind (wpAny_lookBehind hoD (by rw [hdD];exact pastItsLine_dict (Nat.le_trans hcD (by rw [List.length_cons,List.length_nil,sizeLine_eq];omega))) ?_)
 refine wpAny_pure (h _ _ ?_ hn' ?_)
 · refine(hs2.2 x hxs).trans (Heap.get?_update_self _ hx₁ rfl)
 · intro b o hb ho
   exact(hs2.2 b (Nat.ne_of_lt (Heap.lt_size ho))).trans ((Heap.get?_update_ne _ _ _ _ hb).trans (Heap.get?_push_of_some _ ho))
end
section
variable {prog : Program} {w : World} {A : Around} {E : Value → Shared → Prop} {h : Heap} {g : Array GenState} {d : Drawn} {t : Nat} {os : OsState}
variable {nm q : Str} {C N : Addr} {bs bm bmB : List Value} {hdct : Bool} {sn : List Str} {sub : List Value} {ab : Bool} {col : Option Bool} {dd : Option Addr} {k0 k1 k2 k3 k5 : Option Value} {B newId initId : String}
theorem qDn (F:ExcBaseFacts B newId initId bmB)(T:OwnTail h bmB bm){mN:Str→Option Value}{rest:List Value}{fI:Addr}{oI:Obj}{Q:PySem.Fin→Shared→Prop}
 (hC:h.get? C=some (excClassObj nm q C N bs bm hdct sn sub ab col dd k0 k1 k2 k3 k5 newId)) (hn:h.Ns N mN) (hi:mN "__init__"=some (.ref fI))
 (hfI:h.get? fI=some oI) (hfc:oI.cls= .type "function")
 (hq:∀ h' e,Heap.MadeExcOf h h' e (.ref C) rest→h'.objs.size=h.objs.size+2→e=h.objs.size+1→
   wpAny (model prog w) A (call (.ref fI) (.ref e::rest)) (fun r s'=>r= .none∧Q (.done (.ret (.ref e))) s') E ⟨h',g,d,t,os⟩) (hrest:rest.length≤sizeLine:=by size_fits):
 wpAny (model prog w) A (Builtin.«type.__call__» ⟨.ref C::rest,[]⟩) Q E ⟨h,g,d,t,os⟩:=by
 repeat (first | with_reducible refine wpAny_loadPart_at hC ?_ | with_reducible refine wpAny_madeBy_exc hC ?_ | wp_step)
 refine codeAny_call_builtin_code (Code.quiet_builtin _ F.quiet) (wpAny_check_new_subT F T hC ?_)
 refine codeAny_exc_new_subT F T hC ?_ hrest
 show wpAny _ _ _ _ _ _
 have hC₁:=Heap.get?_push_of_some {cls:=.ref C,data:=.fields #[.ref h.objs.size,.none,.none,.none,.bool false,.none]}
  (Heap.get?_push_of_some {cls:=.type "tuple",data:=.seq rest.toArray} hC)
 have hfI₁:=Heap.get?_push_of_some {cls:=.ref C,data:=.fields #[.ref h.objs.size,.none,.none,.none,.bool false,.none]}
  (Heap.get?_push_of_some {cls:=.type "tuple",data:=.seq rest.toArray} hfI)
 have hn₁:((h.push {cls:=.type "tuple",data:=.seq rest.toArray}).push {cls:=.ref C,data:=.fields #[.ref h.objs.size,.none,.none,.none,.bool false,.none]}).Ns N mN:=
  let ⟨o,es,ep,e,r⟩:=hn;⟨o,es,ep,Heap.get?_push_of_some _ (Heap.get?_push_of_some _ e),r⟩
 have hget:((h.push {cls:=.type "tuple",data:=.seq rest.toArray}).push
  {cls:=.ref C,data:=.fields #[.ref h.objs.size,.none,.none,.none,.bool false,.none]}).get? (h.objs.size+1)=some
  {cls:=.ref C,data:=.fields #[.ref h.objs.size,.none,.none,.none,.bool false,.none]}:=by heap_get
 have hcC:(Value.ref C::bm).contains (.ref C)=true:=by simp
 have T₁:=T.keeps (h':=(h.push {cls:=.type "tuple",data:=.seq rest.toArray}).push {cls:=.ref C,data:=.fields #[.ref h.objs.size,.none,.none,.none,.bool false,.none]})
  fun b o e=>Heap.get?_push_of_some _ (Heap.get?_push_of_some _ e)
 unfold isInstance
 repeat (first | with_reducible refine wpAny_loadPart_at hget ?_ | (with_reducible refine wpAny_isSubtype_exc hC₁ ?_;rw [hcC]) | wp_step)
 show wpAny _ _ (typeLookup (.ref C) _) _ _ _
 refine wpAny_typeLookup_tail hC₁ hn₁ T₁ F.mroIs F.init.lookup ?_
 rw [hi]
 refine wpAny_holding (wpAny_bind ?_)
 unfold bindSpecial
 refine wpAny_bind (wpAny_typeOf (T:="function") ⟨_,hfI₁,hfc⟩ ?_)
 rw [if_pos (by decide)]
 refine wpAny_pure (wpAny_bind (wpAny_mono (hq _ (h.objs.size+1) ⟨fun b o hb=>Heap.get?_push_of_some _ (Heap.get?_push_of_some _ hb),Heap.get?_none_of_le (Nat.le_succ _),h.objs.size,hget,Heap.get?_none_of_le (Nat.le_refl _),?_⟩ (by simp only [Heap.size_push]) rfl) (fun r s' hr=>?_) fun _ _ x=>x))
 · exact Heap.get?_push_of_some _ (Heap.get?_push_at rfl rfl)
 · obtain⟨rfl,hQ⟩:=hr
   wp_walk
   exact hQ
theorem qL1 (F:ExcBaseFacts B newId initId bmB)(T:OwnTail h bmB bm){mN:Str→Option Value}{rest:List Value}{fI:Addr}{oI:Obj}{Q:Value→Shared→Prop}
 (hC:h.get? C=some (excClassObj nm q C N bs bm hdct sn sub ab col dd k0 k1 k2 k3 k5 newId)) (hn:h.Ns N mN) (hi:mN "__init__"=some (.ref fI))
 (hfI:h.get? fI=some oI) (hfc:oI.cls= .type "function")
 (hq:∀ h' e,Heap.MadeExcOf h h' e (.ref C) rest→h'.objs.size=h.objs.size+2→e=h.objs.size+1→
   wpAny (model prog w) (A.under (.builtin "type.__call__" ⟨.ref C::rest,[]⟩)) (call (.ref fI) (.ref e::rest)) (fun r s'=>r= .none∧Q (.ref e) s') E ⟨h',g,d,t,os⟩) (hrest:rest.length≤sizeLine:=by size_fits):
 wpAny (model prog w) A (call (.ref C) rest) Q E ⟨h,g,d,t,os⟩:=by
 have f1:=tc_lookup
 have f2:=tc_bind (.ref C)
 have hT:(⟨h,g,d,t,os⟩:Shared).TypeIs (.ref C) "type":=⟨_,hC,rfl⟩
 refine wpAny_call (codeAny_of_tree ?_)
 show wpAny _ _ (callAny (.ref C) _) _ _ _
 repeat (any_goals (first | assumption | with_reducible refine wpAny_loadPart_at hC ?_ | wp_step))
 refine⟨rfl,?_⟩
 refine codeAny_call_builtin_at (Code.quiet_builtin _ (by decide+kernel)) entry_typeCall (wpAny_check_type_call_sub hC (qDn (hrest:=hrest) F T hC hn hi hfI hfc fun h' e hm h1 h2=>?_))
 exact hq h' e hm h1 h2
end
section
variable {prog : Program} {w : World} {A : Around} {E : Value → Shared → Prop} {s : Shared} {env : Env}
variable {nm q : Str} {C N : Addr} {bs bm bmB : List Value} {hdct : Bool} {sn : List Str} {sub : List Value} {ab : Bool} {col : Option Bool} {dd : Option Addr} {k0 k1 k2 k3 k5 : Option Value} {B newId initId : String}
theorem qK9 {M:Model}{x:Sem Value}{Q:Flow→Shared→Prop}(hbase:bm.contains (.type "BaseException")=true)(hh:A.handled=none)
 (h:wpAny M A x (fun v s₁=>∃ e od vs sl,v= .ref e∧s₁.heap.get? C=some (excClassObj nm q C N bs bm hdct sn sub ab col dd k0 k1 k2 k3 k5 newId)∧
   s₁.heap.get? e=some {cls:=.ref C,dict:=od,data:=.fields vs,slots:=sl}∧vs[1]? =some .none∧E (.ref e) s₁) E s):
 wpAny M A (raiseStmt env (some x) none) Q E s:=by
 have hcB:(Value.ref C::bm).contains (.type "BaseException")=true:=by rw [List.contains_cons,hbase,Bool.or_true]
 unfold raiseStmt
 refine wpAny_bind (wpAny_mono h (fun v s₁ h₁=>?_) fun _ _ x=>x)
 obtain⟨e,od,vs,sl,rfl,hC,he,hv,hE⟩:=h₁
 obtain⟨hp,g,d,tk,os⟩:=s₁
 repeat (first | with_reducible refine wpAny_loadPart_at he ?_ | with_reducible refine wpAny_loadPart_at hC ?_ | (with_reducible refine wpAny_isSubtype_exc hC ?_;rw [hcB]) | wp_step)
 rw [hv]
 refine wpAny_pure ?_
 rw [if_neg (by decide)]
 refine wpAny_pure ?_
 exact wpAny_raiseNew_none hh hE
theorem qJk (F:ExcBaseFacts B newId initId bmB){mN:Str→Option Value}{x:Str}{np cpos pos:Pos}{args:List Expr}{fI:Addr}{oI:Obj}{Q:Flow→Shared→Prop}
 (hbase:bm.contains (.type "BaseException")=true) (hh:A.handled=none) (hplain:(backTo cpos (starEach args env)).any (·.1)=false) (hi:mN "__init__"=some (.ref fI)) (hfc:oI.cls= .type "function")
 (h:wpAny (model prog w) A (eval (.Name x np) env) (fun f s₁=>f= .ref C∧wpAny (model prog w) A (evalArgs (.ref C) true (backTo cpos (starEach args env)) [])
   (fun a s₂=>a.kw=[]∧a.pos.length≤sizeLine∧s₂.heap.get? C=some (excClassObj nm q C N bs bm hdct sn sub ab col dd k0 k1 k2 k3 k5 newId)∧s₂.heap.Ns N mN∧OwnTail s₂.heap bmB bm∧s₂.heap.get? fI=some oI∧
     ∀ h' e,Heap.MadeExcOf s₂.heap h' e (.ref C) a.pos→h'.objs.size=s₂.heap.objs.size+2→e=s₂.heap.objs.size+1→
      wpAny (model prog w) (A.under (.builtin "type.__call__" ⟨.ref C::a.pos,[]⟩)) (call (.ref fI) (.ref e::a.pos))
       (fun r s'=>r= .none∧s'.heap.get? C=some (excClassObj nm q C N bs bm hdct sn sub ab col dd k0 k1 k2 k3 k5 newId)∧(∃ od vs sl,s'.heap.get? e=some {cls:=.ref C,dict:=od,data:=.fields vs,slots:=sl}∧vs[1]? =some .none)∧E (.ref e) s') E {s₂ with heap:=h'}) E s₁) E s):
 wpAny (model prog w) A (exec (.Raise (some (.Call (.Name x np) args [] cpos)) none pos) env) Q E s:=by
 rw [arm_exec_Raise]
 refine wpAny_bind (wpAny_standAt (qK9 (C:=C) (nm:=nm) (q:=q) (N:=N) (bs:=bs) (bm:=bm) (hdct:=hdct) (sn:=sn) (sub:=sub) (ab:=ab) (col:=col) (dd:=dd) (k0:=k0) (k1:=k1) (k2:=k2) (k3:=k3) (k5:=k5) (newId:=newId) hbase hh (wpAny_bind (wpAny_mono (wpAny_Call_ofName (wpAny_mono h (fun f s₁ h₁=>?_) fun _ _ x=>x)) (fun v s₃ h₃=>wpAny_bind (wpAny_standAt (wpAny_pure h₃))) fun _ _ x=>x))))
 obtain⟨rfl,h₁⟩:=h₁
 unfold callWith
 refine wpAny_bind (wpAny_holding (wpAny_mono h₁ (fun a s₂ h₂=>wpAny_bind (wpAny_standAt ?_)) fun _ _ x=>x))
 obtain⟨apos,akw⟩:=a
 obtain⟨hkw,hlen,hC,hn,T,hfI,h₂⟩:=h₂
 obtain rfl:akw=[]:=hkw
 obtain⟨hp,g,d,tk,os⟩:=s₂
 simp only [hplain]
 refine wpAny_bind (wpAny_keeperOf_exc hC ?_)
 refine wpAny_bind (qL1 (hrest:=hlen) F T hC hn hi hfI hfc fun h' e hm h1 h2=>wpAny_mono (h₂ h' e hm h1 h2) (fun r s' z=>⟨z.1,?_⟩) fun _ _ x=>x)
 obtain⟨_,hC',⟨od,vs,sl,he,hv⟩,hE⟩:=z
 refine wpAny_bind (wpAny_holding (wpAny_point (wpAny_pure ?_)))
 exact⟨e,od,vs,sl,rfl,hC',he,hv,hE⟩
end
end L3
namespace L3
open PySem PySem.Spec PyProof.Rows L2
def qBv (e:Addr)(C:Value):HO:=.ext fun h=>∃ (vs:Array Value) (sl:Array (Option Value)),h.get? e=some {cls:=C,dict:=none,data:=.fields vs,slots:=sl}∧vs[1]? =some .none
def qC2 (e:Addr)(C:EC):HO:=.ext fun h=>zp h e C none
def excInitIn (K:PySem.W.Frag)(C f:Addr):Bool:=match K.lookup C with
 | some ⟨.type "type",_,.cls cd,sl⟩=>(match cd.mro,sl.toList with
  | .ref C'::bm,[_,_,_,_,some (.builtin n),_]=>C' == C && n == "ValueError.__new__" && !cd.hasDel && PySem.W.tailIn K qQz bm && PySem.W.nsOkIn K cd.ns && PySem.W.nsIn K cd.ns "__init__" == some (some (.ref f))
  | _,_=>false)
 | _=>false
structure XMk (K:PySem.W.Frag)(C D f:Addr):Prop where
 ov:exOver K C D=true
 hd:PySem.W.hasDictIn K C=true
 sa:PySem.W.findIn K (.ref C) "__setattr__"=some (some (.builtin "object.__setattr__"))
 ex:excInitIn K C f=true
 fn:PySem.W.isFn K (.ref f)=true
theorem qLo {K:PySem.W.Frag}{h:Heap}{N:Addr}{mg:Str→Option Value}{n:Str}{v:Value}(X:K.In h)(G:h.Ns N mg)(e:PySem.W.nsIn K N n=some (some v)):mg n=some v:=by
 obtain⟨o,es,ep,ho,hd,_,hf⟩:=G
 unfold PySem.W.nsIn at e
 split at e
 · rename_i c d es' n' sl q
   have:=X _ _ q
   rw [ho] at this
   cases this
   cases hd
   split at e
   · rename_i en he
     cases e
     rw [← hf]
     unfold nsFind findBy
     rw [← Array.find?_toList,he]
     rfl
   · split at e <;> cases e
 · cases e
theorem qPf {K:PySem.W.Frag}{h:Heap}{C f:Addr}(X:K.In h)(q:excInitIn K C f=true):
 ∃ bm N nm qn bs hdct sn sub ab col dd k0 k1 k2 k3 k5 mN,h.get? C=some (excClassObj nm qn C N bs bm hdct sn sub ab col dd k0 k1 k2 k3 k5 "ValueError.__new__")∧h.Ns N mN∧mN "__init__"=some (.ref f)∧OwnTail h qQz bm:=by
 unfold excInitIn at q
 split at q
 · rename_i dd cd sl ho
   split at q
   · rename_i C' bm k0 k1 k2 k3 n k5 hm hs
     simp only [Bool.and_eq_true,beq_iff_eq,Bool.not_eq_true'] at q
     obtain⟨⟨⟨⟨⟨eC,en⟩,del⟩,ht⟩,ok⟩,ni⟩:=q
     subst eC en
     obtain⟨nm,bs,mro,ns,qn,hd,sn,sub,ab,col,dl⟩:=cd
     dsimp only at hm del ok ni
     subst hm del
     have hsl:sl=#[k0,k1,k2,k3,some (.builtin "ValueError.__new__"),k5]:=by
      obtain⟨l⟩:=sl
      simp only at hs
      rw [hs]
     subst hsl
     have N1:h.Ns ns (h.nsMap ns):=.of_isNs (PySem.W.isNs_of_in X ok)
     refine⟨bm,ns,nm,qn,bs,hd,sn,sub,ab,col,dd,k0,k1,k2,k3,k5,_,X _ _ ho,N1,qLo X N1 ni,PySem.W.tail_of_in X ht⟩
   · cases q
 · cases q
section
variable {X : Cx} {pins : List (Addr × Obj)} {σ : L2.St} {H : Hp} {s : Shared}
theorem qO6 {e:Addr}{φ:Heap→Prop}(I:Inv X pins σ (upd H e (.ext φ)) s)(h0:H e=none)(hs:X.s₀.heap.get? e=none):Inv X pins σ H s:=by
 have B:=I.base
 have nn:∀ b u,upd H e (.ext φ) b=some u→(∀ ψ,u≠ .ext ψ)→H b=some u:=fun b u z n=>by
  by_cases hb:b=e
  · subst hb
    rw [qD] at z
    cases z
    exact absurd rfl (n φ)
  · rwa [qV hb] at z
 have n0:∀ b,upd H e (.ext φ) b=none→H b=none:=fun b z=>by
  by_cases hb:b=e
  · rw [hb,qD] at z;cases z
  · rwa [qV hb] at z
 refine⟨I.ok,I.os,I.bare,⟨B.keep,B.slot,fun b o w z hx=>n0 _ (B.free b o w z hx),B.there,fun b xs w=>nn _ _ (B.tups b xs w) (fun _ z=>nomatch z),fun b o u w=>nn _ _ (B.frzs b o u w) (fun _ z=>nomatch z),fun b ps w=>?_⟩,I.loc,I.cell,n0 _ I.free,fun y c z=>n0 _ (I.freeC y c z),fun p hp=>?_,fun b u w=>?_,I.len⟩
 · obtain⟨more,z⟩:=B.tbls b ps w
   exact⟨more,nn _ _ z (fun _ z=>nomatch z)⟩
 · obtain⟨w1,w2,w3⟩:=I.pin p hp
   exact⟨w1,n0 _ w2,w3⟩
 · have hb:b≠e:=fun z=>by rw [z,h0] at w;cases w
   refine(I.hok b u (by rw [qV hb];exact w)).stay (fun _ _ _ z=>z) (fun c z=>nn _ _ z (fun _ z=>nomatch z)) fun c xs z=>nn _ _ z (fun _ z=>nomatch z)
end
theorem qLr {X:Cx}{pins:List (Addr × Obj)}{σ:L2.St}{H:Hp}{s:Shared}{dx:Addr}{fs:List (Str × V)}(I:Inv X pins σ H s)(h0:H dx=none)(hs0:X.s₀.heap.get? dx=none)(hp:∀ p∈X.pn++pins,p.1≠dx)
 (hl:dx≠X.env.locals) (hc:∀ y c,X.env.cells.lookup y=some c→c≠dx) (ok:∃ mA,s.heap.Ns1 dx mA∧∀ f,RelO (fs.lookup f) (mA f)):Inv X pins σ (upd H dx (.xd fs)) s:=by
 have B:=I.base
 have ne:∀ b o,X.s₀.heap.get? b=some o→b≠dx:=fun b o w z=>by rw [z,hs0] at w;cases w
 refine⟨I.ok,I.os,I.bare,⟨B.keep,B.slot,fun b o w z hx=>?_,B.there,fun b xs w=>?_,fun b o u w=>?_,fun b ps w=>?_⟩,I.loc,I.cell,?_,fun y c e=>?_,fun p hp'=>?_,fun b u w=>?_,I.len⟩
 · rw [qV (ne b o w)];exact B.free b o w z hx
 · have z:=B.tups b xs w
   rw [qV (qS z h0)];exact z
 · have z:=B.frzs b o u w
   rw [qV (qS z h0)];exact z
 · obtain⟨more,z⟩:=B.tbls b ps w
   exact⟨more,by rw [qV (qS z h0)];exact z⟩
 · rw [qV (Ne.symm hl)];exact I.free
 · rw [qV (hc y c e)];exact I.freeC y c e
 · obtain⟨w1,w2,w3⟩:=I.pin p hp'
   rw [qV (hp p hp')]
   exact⟨w1,w2,w3⟩
 · by_cases hb:b=dx
   · subst hb
     rw [qD] at w
     cases w
     exact ok
   · rw [qV hb] at w
     exact(I.hok b u w).stay (fun _ _ _ z=>z) (fun c z=>by rw [qV (qS z h0)];exact z) fun c xs z=>by rw [qV (qS z h0)];exact z
def qUo (K:PySem.W.Frag)(ta tv:TE)(f:Str):TS:=fun D σ H=>tv σ H fun y H1=>ta σ H1 fun x H2=>∃ a C B,x= .ref a∧H2 a=some (qBv a (.ref C))∧exOver K C B=true∧PySem.W.hasDictIn K C=true∧
 PySem.W.findIn K (.ref C) "__setattr__"=some (some (.builtin "object.__setattr__"))∧PySem.W.takerIn K C f=some none∧∀ dx,H2 dx=none→D.nx σ (upd (upd H2 a (qC2 a (.ref C,some dx))) dx (.xd [(f,y)]))
theorem qRc {X:Cx}{o value:Expr}{f:Str}{pos pos':Pos}{ta tv:TE}(ha:PE X o ta)(hv:PE X value tv)(hs:swapsWith value (some (.Attribute o f pos')) pos.line X.env=pure false:=by rfl):
 PS X (.Assign [.Attribute o f pos'] value pos) (qUo X.K ta tv f):=by
 intro pins s σ H D I h
 refine plainObj_wpAny_Assign_Attribute (thn (hv pins s σ H _ I h) fun u s1 ⟨y,H1,I1,ry,q⟩=>thn (ha pins s1 σ H1 _ I1 q) fun ov s2 ⟨x,H2,I2,rx,a,C,B,ex,ea,o1,o2,o3,o4,q2⟩=>?_) hs
 subst ex
 obtain rfl:ov=Value.ref a:=rx
 obtain⟨⟨vs,sl,he,hv1⟩,_,_⟩:=I2.hok a _ ea
 have hf:H2 s2.heap.objs.size=none:=I2.hok.fresh (Nat.le_refl _)
 refine qR8 I2.kIn he o3 o1 o4 o2 fun h' tk he' hn k=>⟨σ,_,?_,q2 _ hf⟩
 have I3:Inv X pins σ (upd H2 a (qC2 a (.ref C,some s2.heap.objs.size))) {s2 with heap:=h',toks:=tk}:=by
  refine I2.write (x:=a) (e:=a) (by rw [ea];exact True.intro) (.inl rfl) k ⟨_,he'⟩ ?_
  refine⟨⟨vs,sl,he',hv1⟩,⟨_,he'⟩,fun h1 h2 z k=>?_⟩
  obtain⟨vs',sl',z,z2⟩:=z
  exact⟨vs',sl',k _ z,z2⟩
 have na:s2.heap.objs.size≠a:=fun z=>by rw [z,ea] at hf;cases hf
 refine qLr I3 (by rw [qV na];exact hf) ?_ (fun p hp=>Nat.ne_of_lt (Heap.lt_size (I2.pin p hp).1)) (Nat.ne_of_gt I2.lt) (fun y c e=>?_) ⟨_,hn,fun g=>?_⟩
 · cases w:X.s₀.heap.get? s2.heap.objs.size with
   | none=>rfl
   | some o=>exact absurd (Nat.lt_of_lt_of_le (Heap.lt_size w) I2.sz) (Nat.lt_irrefl _)
 · obtain⟨v,o,ho,_⟩:=I2.cell y c e
   exact Nat.ne_of_lt (Heap.lt_size ho)
 · by_cases hg:g=f
   · subst hg
     simp [List.lookup]
     exact ry
   · have e1:([(f,y)]:List (Str × V)).lookup g=none:=by
      rw [List.lookup_cons]
      have:(g == f)=false:=beq_eq_false_iff_ne.mpr hg
      rw [this]
      rfl
     rw [e1,if_neg hg]
     trivial
inductive qIz (C:Addr)(f:Str)(vs:List V)(H:Hp)(Q:VK)(_:XK):Prop
| mk (e:Addr) (v:V) (_:vs=[.ref e,v]) (_:H e=some (qBv e (.ref C))) (_:∀ dx,H dx=none→Q .non (upd (upd H e (qC2 e (.ref C,some dx))) dx (.xd [(f,v)])))
def qQ0 (C:Addr)(fn:Str)(Ex:Value→Option Addr→Hp→Prop)(t:TA):TS:=fun _ σ H=>t σ H fun vs H1=>∃ v,vs=[v]∧∀ dx,H1 dx=none→Ex (.ref C) (some dx) (upd H1 dx (.xd [(fn,v)]))
theorem qMy {X:Cx}{Ex:Value→Option Addr→Hp→Prop}{fn:Str}{k:Nat}{x:Str}{C B f:Addr}{fd:FuncData}{ps:List Str}{np cpos pos:Pos}{e₀:Expr}{rest:List Expr}{t:TA}(M:XMk X.K C B f)
 (F:FnOk X.prog X.w X.K X.mg X.base CX0 k f fd ps (qIz C fn)) (hb:Binds X.K fd ps []) (hr:Room (k+1) X.A) (hcm:X.calm=true) (hg:Gl X x) (hm:X.mg x=some (.ref C)) (ha:PA (X.wish (XE X Ex)) (e₀::rest) t)
 (he:starEach (e₀::rest) X.env=(false,eval e₀ X.env)::starEach rest X.env:=by rfl) (hpl:(backTo cpos (starEach rest X.env)).any (·.1)=false:=by rfl) (hex:X.ex=[]:=by rfl) (hdb:(x == ("__debug__":Str))=false:=by decide):
 PS (X.wish (XE X Ex)) (.Raise (some (.Call (.Name x np) (e₀::rest) [] cpos)) none pos) (qQ0 C fn Ex t):=by
 intro pins s σ H D I h
 obtain⟨tl,N,nm,q,bs,hdct,sn,sub,ab,col,dd,k0,k1,k2,k3,k5,mN,hC,hN,hni,T⟩:=qPf (K:=X.K) I.ok.mod.kin M.ex
 have hfn:PySem.W.typeIn X.K (.ref f)=some (.type "function"):=beq_iff_eq.mp M.fn
 have hfo:∃ oI:Obj,X.base.get? f=some oI∧oI.cls= .type "function":=by
  replace hfn:(X.K.lookup f).map (·.cls)=some (.type "function"):=hfn
  cases hl:X.K.lookup f with
  | none=>rw [hl] at hfn;cases hfn
  | some o=>
   rw [hl] at hfn
   exact⟨o,I.ok.mod.kin _ _ hl,by simpa using hfn⟩
 obtain⟨oI,hfI,hfc⟩:=hfo
 refine qJk (bm:=tl) (C:=C) (N:=N) (nm:=nm) (q:=q) (bs:=bs) (hdct:=hdct) (sn:=sn) (sub:=sub) (ab:=ab) (col:=col) (dd:=dd) (k5:=k5) (k0:=k0) (k1:=k1) (k2:=k2) (k3:=k3)
  PySem.F.excBase_ValueError (mN:=mN) (fI:=f) (oI:=oI) (T.hasType PySem.F.excBase_ValueError.hasBase) (I.ok.hd hcm) (by rw [he];show (false || (backTo cpos (starEach rest X.env)).any (·.1))=false;rw [hpl];rfl) hni hfc (vF I hg hm ⟨rfl,?_⟩ hdb)
 have z:=ha cpos pins s σ H _ I h
 rw [show (X.wish (XE X Ex)).env=X.env from rfl] at z
 rw [he] at z ⊢
 refine Calls.evalArgs_plain (wpAny_mono z (fun us s2 w=>?_) fun _ _ y=>y)
 obtain⟨vs,H1,I1,r1,v,rfl,ex⟩:=w
 have I1':=I1.unwish
 have hl1:us.length=1:=r1.length.symm
 refine⟨rfl,by rw [hl1,sizeLine_eq];decide,I1.bk _ _ hC,hN.keeps I1.bk,T.keeps I1.bk,I1.bk _ _ hfI,fun h' e hmk hsz hes=>?_⟩
 obtain⟨tt,q1,q2,q3⟩:=hmk.there
 have hle:s2.heap.objs.size≤e:=by rw [hes];exact Nat.le_succ _
 have e0:H1 e=none:=I1'.hok.fresh hle
 have I2:Inv X pins σ (upd H1 e (qBv e (.ref C))) {s2 with heap:=h'}:=I1'.laid (t':=s2.toks) hmk.keeps hle ⟨⟨_,_,q1,rfl⟩,⟨_,q1⟩,fun h1 h2 z k=>by
  obtain⟨vs',sl',z,z2⟩:=z
  exact⟨vs',sl',k _ z,z2⟩⟩
 have r2:Vals [V.ref e,v] (Value.ref e::us):=.cons rfl r1
 have hsp:qIz C fn [V.ref e,v] (upd H1 e (qBv e (.ref C))) (fun u H2=>u= .non∧∃ dx,H1 dx=none∧dx≠e∧H2=upd (upd H1 dx (.xd [(fn,v)])) e (qC2 e (.ref C,some dx))) E0:=⟨e,v,rfl,qD,fun dx hdx=>⟨rfl,dx,?_⟩⟩
 rotate_left
 · have hne:dx≠e:=fun z=>by rw [z,qD] at hdx;cases hdx
   refine⟨by rwa [qV hne] at hdx,hne,?_⟩
   funext b
   by_cases hb:b=e
   · subst hb
     rw [qD,qV (Ne.symm hne),qD]
   · rw [qV hb (o:=qC2 e (.ref C,some dx)) (H:=upd H1 dx (.xd [(fn,v)]))]
     by_cases hb2:b=dx
     · subst hb2
       rw [qD,qD]
     · rw [qV hb2,qV hb,qV hb,qV hb2]
 have hl:((Value.ref e::us)++[]).length=ps.length:=by
  have:=F.len _ _ _ _ hsp
  rw [List.append_nil,List.length_cons,hl1]
  simpa using this
 have hbb:=hb _ (Value.ref e::us) I2.kIn hl
 rw [List.append_nil] at hbb
 refine wpAny_call (codeAny_mono (F.run _ X.stack _ _ ⟨Value.ref e::us,[]⟩ (Value.ref e::us) _ _ E0 (hr.make C us []) (I2.env0.make C us []) hbb r2 hsp) fun r s' hq'=>?_)
 cases r with
 | error e=>exact False.elim hq'
 | ok fl=>
  cases fl with
  | ret u=>
   obtain⟨v',H',I3,rv,ev,dx,hdx,hne,rfl⟩:=I2.after hq'
   subst ev
   cases rv
   obtain⟨⟨vs',sl',g1,g2⟩,_,_⟩:=I3.hok e _ qD
   have e0':(upd H1 dx (.xd [(fn,v)])) e=none:=by rw [qV (Ne.symm hne)];exact e0
   have hs0:X.s₀.heap.get? e=none:=by
    cases w:X.s₀.heap.get? e with
    | none=>rfl
    | some o=>
     obtain⟨o',w'⟩:=I1'.base.there e o w (by rw [hex];intro y;cases y)
     rw [hmk.new] at w';cases w'
   refine⟨rfl,I3.bk _ _ hC,⟨some dx,vs',sl',g1,g2⟩,e,(.ref C,some dx),σ,upd H1 dx (.xd [(fn,v)]),rfl,(qO6 I3 e0' hs0).pins_of (pins':=[]) fun p hp=>(nomatch hp),⟨⟨hs0,e0',fun p hp z=>?_⟩,none,⟨vs',sl',g1,g2⟩,fun T e'=>nomatch e'⟩,ex dx hdx⟩
   have q':=(I1'.pin p (List.mem_append_left _ hp)).1
   rw [z,hmk.new] at q';cases q'
  | next=>exact False.elim hq'
  | brk=>exact False.elim hq'
  | cont=>exact False.elim hq'
end L3
set_option maxRecDepth 100000
namespace L3
open PySem PySem.Spec PySem.Calls PyProof.Rows PySem.W
section
variable {prog : Program} {w : World} {A : Around} {E : Value → Shared → Prop} {K : Frag} {h : Heap} {g : Array GenState} {d : Drawn} {t : Nat} {os : OsState} {a D : Addr} {ox o : Obj} {name : Str} {v : Value}
end
end L3
namespace L3
open PySem PySem.Spec PyProof.Rows L2
end L3
set_option maxRecDepth 100000
namespace L3
open PySem PySem.Spec PyProof.Rows L2
inductive PHs (X:Cx):List ExceptHandler→List (Addr × Option Nat × TS)→Prop where
 | nil:PHs X [] []
 | cons {x:Str} {np hpos:Pos} {nm:Option Str} {i:Option Nat} {b₀:Stmt} {suite:List Stmt} {C:Addr} {ts:TS} {hs:List ExceptHandler} {cs:List (Addr × Option Nat × TS)} (hcl:qB4 X nm i) (hg:Gl X x) (hm:X.mg x=some (.ref C))
  (h:∀ l ea,PSs (hdX (pnX X l) ea).nox (b₀::suite) ts) (r:PHs X hs cs) (hdb:(x == ("__debug__":Str))=false:=by decide):PHs X (.ExceptHandler (some (.Name x np)) nm (b₀::suite) hpos::hs) ((C,i,ts)::cs)
def qP3 (K:PySem.W.Frag)(D:qK1)(ea:Addr)(B:EC)(σ':L2.St)(H':Hp):List (Addr × Option Nat × TS)→Prop
 | []=>False
 | (C,i,ts)::cs=>∃ b,PySem.W.exmOne K B.1 (.ref C)=some b∧if b=true then ts (qGg D i) (qRh i ea σ') (upd H' ea (qDz ea B)) else qP3 K D ea B σ' H' cs
def qUc (K:PySem.W.Frag)(Ex:Value→Option Addr→Hp→Prop)(cs:List (Addr × Option Nat × TS))(tb:TS):TS:=fun D σ H=>tb D σ H∧∀ (ea:Addr) (B:EC) (σ':L2.St) (H':Hp),Ex B.1 B.2 H'→H' ea=none→σ'.length=σ.length→qP3 K D ea B σ' H' cs
theorem qR2 {X:Cx}{body:List Stmt}{h₀:ExceptHandler}{hs:List ExceptHandler}{cs:List (Addr × Option Nat × TS)}{pos:Pos}{tb:TS}(Ex:Value→Option Addr→Hp→Prop)(hN:X.N.Nodup)
 (hb:∀ l,PSs ((pnX X l).wish (XE (pnX X l) Ex)) body tb) (hh:PHs X (h₀::hs) cs)
 (hstk:X.stack=X.env::X.outer:=by rfl) (hfr:X.env.frame=some X.env.locals:=by rfl) (hex:X.ex=[]:=by rfl):
 PS X (.Try body (h₀::hs) [] [] pos) (qUc X.K Ex cs tb):=by
 rintro pins s σ H D I ⟨h1,h2⟩
 have I0:=qN0 I
 refine wpAny_Try_except (wpAny_mono (hb (X.pn++pins) [] s σ H D (I0.wish _) h1) (fun f s1 q=>?_) fun e s1 q=>?_)
 · have q:=q.unwish
   cases f with
   | next=>
    obtain⟨σ',H',J,z⟩:=q
    exact wpAny_execs_nil ⟨σ',H',jk J,z⟩
   | brk=>
    obtain⟨σ',H',J,z⟩:=q
    exact⟨σ',H',jk J,z⟩
   | cont=>
    obtain⟨σ',H',J,z⟩:=q
    exact⟨σ',H',jk J,z⟩
   | ret u=>
    obtain⟨v,σ',H',J,r,z⟩:=q
    exact⟨v,σ',H',jk J,r,z⟩
 · obtain⟨ea,B,σ',H',rfl,I1,⟨n1,hd,r,n3⟩,ex⟩:=q
   have hlen:σ'.length=σ.length:=I1.len.trans I.len.symm
   have ht:=h2 ea B σ' H' ex n1.2.1 hlen
   have fr:X.A.frames=some (X.env::X.outer):=by rw [← hstk];exact I.ok.frames
   have ff:s1.heap.FunFrames X.base (X.env::X.outer):=by
    have z:=I1.stack
    rw [show (pnX X (X.pn++pins)).stack=X.env::X.outer from hstk] at z
    exact z
   refine qFs fr ff hfr r fun h' N'=>?_
   have N':Noted (frs X.stack) ea hd B s1.heap h':=by rw [hstk];exact N'
   obtain⟨I2,n1,hd2,r2,n3⟩:=jq I1 hex r n1 n3 N'
   clear h2
   generalize h₀::hs=hl0 at hh
   induction hh with
   | nil=>exact False.elim ht
   | @cons x np hpos nm i b₀ suite C ts hs cs hcl hg hm hs' r' hdb ih=>
    obtain⟨b,hx,ht⟩:=ht
    refine wpAny_handleBy_cons (codeAny_handlers_test (vF (X:=hdX (pnX X (X.pn++pins)) ea) (wV I2) hg hm ?_ hdb)) (by intro z;cases z)
    have LT:PySem.W.Looks (model X.prog X.w) h' (typeOf (.ref ea)) B.1:=by
     obtain⟨vs,sl,qe,_⟩:=r2
     exact(PySem.W.Looks.ld qe).andThen .now
    refine(PySem.W.exm_one (M:=model X.prog X.w) I2.kIn LT hx).here ?_
    cases b with
    | false=>
     rw [if_neg (by decide)] at ht
     exact ih ht
    | true=>
     rw [if_pos rfl] at ht
     show codeAny _ _ _ _ _
     obtain⟨T,rfl,r3⟩:∃ T,hd2=some T∧zp h' ea B (some T):=by
      obtain⟨T,_,_⟩:=N'.ent
      cases hd2 with
      | some T=>exact⟨T,rfl,r2⟩
      | none=>
       obtain⟨T,_,rT⟩:=N'.ent
       obtain⟨vs,sl,q1,q2⟩:=r2
       obtain⟨vs',sl',q1',q2',_⟩:=rT
       rw [q1] at q1'
       cases q1'
       rw [q2] at q2'
       cases q2'
     have run:∀ (s4:Shared) (σ4:L2.St) (Q:Flow→Shared→Prop) (E:Value→Shared→Prop),Inv (hdX (pnX X (X.pn++pins)) ea) [] σ4 (upd H' ea (qDz ea B)) s4→ts (qGg D i) σ4 (upd H' ea (qDz ea B))→
      (∀ f s5,SP (hdX (pnX X (X.pn++pins)) ea) [] (qGg D i) f s5→Q f s5)→wpAny (model X.prog X.w) (X.A.mark (some (.ref ea))) (execs (b₀::suite) X.env) Q E s4:=fun s4 σ4 Q E I4 z k=>
      wpAny_mono (hs' (X.pn++pins) ea [] s4 σ4 _ _ (I4.wish _) z) (fun f s5 q=>k f s5 q.unwish) fun _ _ z=>z.elim
     have hdn:(pnX X (X.pn++pins)).calm=true→(pnX X (X.pn++pins)).A.handled=none:=I2.ok.hd
     cases hcl with
     | none=>
      refine codeAny_handlers_suite (zG r3 fun h3 N3=>?_)
      obtain⟨I3,n1,hd3,r4,n3⟩:=jq I2 hex r3 n1 n3 (N3 _)
      refine run _ _ _ _ (wV (zr I3 hex n1 r4)) ht fun f s5 q=>?_
      cases f with
      | next=>obtain⟨σ5,H5,J,z⟩:=q;exact⟨σ5,H5,jk (xp J hdn),z⟩
      | brk=>obtain⟨σ5,H5,J,z⟩:=q;exact⟨σ5,H5,jk (xp J hdn),z⟩
      | cont=>obtain⟨σ5,H5,J,z⟩:=q;exact⟨σ5,H5,jk (xp J hdn),z⟩
      | ret u=>obtain⟨v,σ5,H5,J,rv,z⟩:=q;exact⟨v,σ5,H5,jk (xp J hdn),rv,z⟩
     | some hi hl=>
      refine codeAny_handlers_suite_as (zG r3 fun h3 N3=>?_)
      obtain⟨I3,n1,hd3,r4,n3⟩:=jq I2 hex r3 n1 n3 (N3 _)
      refine zJ (X:=hdX (pnX X (X.pn++pins)) ea) (v:=.ref ea) (wV (zr I3 hex n1 r4)) hN hi (.inl hl) rfl (fun s4 I4=>?_) (.inr hl)
      refine run _ _ _ _ I4 ht fun f s5 q=>?_
      cases f with
      | next=>obtain⟨σ5,H5,J,z⟩:=q;exact jd (X:=pnX X (X.pn++pins)) (xp J hdn) hN hi hl fun s6 J6=>⟨_,H5,jk J6,z⟩
      | brk=>obtain⟨σ5,H5,J,z⟩:=q;exact jd (X:=pnX X (X.pn++pins)) (xp J hdn) hN hi hl fun s6 J6=>⟨_,H5,jk J6,z⟩
      | cont=>obtain⟨σ5,H5,J,z⟩:=q;exact jd (X:=pnX X (X.pn++pins)) (xp J hdn) hN hi hl fun s6 J6=>⟨_,H5,jk J6,z⟩
      | ret u=>obtain⟨v,σ5,H5,J,rv,z⟩:=q;exact jd (X:=pnX X (X.pn++pins)) (xp J hdn) hN hi hl fun s6 J6=>⟨v,_,H5,jk J6,rv,z⟩
section
variable {X : Cx}
end
section
variable {X : Cx}
end
inductive D where
 | leaf (v:V)
 | tup (xs:List D)
 | lst (xs:List D)
mutual
def Rep (K:PySem.W.Frag)(H:Hp):D→V→Prop
 | .leaf v,x=>x=v∧zc v=true
 | .tup ds,x=>∃ p xs,x= .ref p∧SqT K H p xs∧Reps K H ds xs
 | .lst ds,x=>∃ p xs,x= .ref p∧SqL K H p xs∧Reps K H ds xs
def Reps (K:PySem.W.Frag)(H:Hp):List D→List V→Prop
 | [],[]=>True
 | d::ds,x::xs=>Rep K H d x∧Reps K H ds xs
 | _,_=>False
end
mutual
def eqD:D→D→Bool
 | .leaf v,.leaf w=>eqV v w
 | .tup xs,.tup ys=>zj xs ys
 | .lst xs,.lst ys=>zj xs ys
 | _,_=>false
def zj:List D→List D→Bool
 | [],[]=>true
 | x::xs,y::ys=>eqD x y && zj xs ys
 | _,_=>false
end
mutual
def dep:D→Nat
 | .leaf _=>0
 | .tup xs=>ke xs+1
 | .lst xs=>ke xs+1
def ke:List D→Nat
 | []=>0
 | x::xs=>max (dep x) (ke xs)
end
theorem Reps.length {K:PySem.W.Frag}{H:Hp}:∀ {ds:List D} {xs:List V},Reps K H ds xs→ds.length=xs.length
 | [],[],_=>rfl
 | _::_,_::_,h=>by
  unfold Reps at h
  rw [List.length_cons,List.length_cons,h.2.length]
 | [],_::_,h=>by unfold Reps at h;exact h.elim
 | _::_,[],h=>by unfold Reps at h;exact h.elim
theorem qO3 {v:V}(h:zc v=true):eqV v v=true:=by
 cases v <;> simp_all [zc,eqV]
theorem qBw:∀ {xs ys:List D},zj xs ys=true→xs.length=ys.length
 | [],[],_=>rfl
 | x::xs,y::ys,h=>by
  unfold zj at h
  rw [Bool.and_eq_true] at h
  rw [List.length_cons,List.length_cons,qBw h.2]
 | [],_::_,h=>by simp [zj] at h
 | _::_,[],h=>by simp [zj] at h
def itE (xs ys:List D)(j:Nat):Bool:=match xs[j]?,ys[j]? with
 | some a,some b=>eqD a b
 | _,_=>false
theorem qHo:∀ (xs ys:List D),((List.range (min xs.length ys.length)).all (itE xs ys) && xs.length == ys.length)=zj xs ys
 | [],[]=>by simp [zj]
 | [],y::ys=>by simp [zj]
 | x::xs,[]=>by simp [zj]
 | x::xs,y::ys=>by
  have ih:=qHo xs ys
  have e:min (x::xs).length (y::ys).length=min xs.length ys.length+1:=by simp only [List.length_cons];omega
  rw [e,List.range_succ_eq_map,List.all_cons,List.all_map]
  have e2:(itE (x::xs) (y::ys)) ∘ Nat.succ=itE xs ys:=by
   funext j
   simp [itE]
  have e3:itE (x::xs) (y::ys) 0=eqD x y:=by simp [itE]
  have e4:((x::xs).length == (y::ys).length)=(xs.length == ys.length):=by
   rw [Bool.eq_iff_iff];simp
  rw [e2,e3,e4,Bool.and_assoc,ih]
  conv=>rhs;unfold zj
theorem qIw {xs ys:List D}(h:xs.length=ys.length):(List.range xs.length).all (itE xs ys)=zj xs ys:=by
 have:=qHo xs ys
 rw [← h,Nat.min_self] at this
 simpa using this
section
variable {X : Cx} {pins : List (Addr × Obj)} {σ : L2.St} {H : Hp} {s : Shared}
mutual
theorem qGd (I:Inv X pins σ H s):∀ (d e:D) {x:V},Rep X.K H d x→Rep X.K H e x→eqD d e=true
 | .leaf v,.leaf w,x,h1,h2=>by
  unfold Rep at h1 h2
  obtain⟨rfl,f⟩:=h1
  obtain⟨rfl,_⟩:=h2
  unfold eqD
  exact qO3 f
 | .leaf v,.tup ds,x,h1,h2=>by
  unfold Rep at h1 h2
  obtain⟨rfl,f⟩:=h1
  obtain⟨p,xs,rfl,_⟩:=h2
  cases f
 | .leaf v,.lst ds,x,h1,h2=>by
  unfold Rep at h1 h2
  obtain⟨rfl,f⟩:=h1
  obtain⟨p,xs,rfl,_⟩:=h2
  cases f
 | .tup ds,.leaf w,x,h1,h2=>by
  unfold Rep at h1 h2
  obtain⟨rfl,f⟩:=h2
  obtain⟨p,xs,rfl,_⟩:=h1
  cases f
 | .lst ds,.leaf w,x,h1,h2=>by
  unfold Rep at h1 h2
  obtain⟨rfl,f⟩:=h2
  obtain⟨p,xs,rfl,_⟩:=h1
  cases f
 | .tup ds,.tup es,x,h1,h2=>by
  unfold Rep at h1 h2
  obtain⟨p,xs,rfl,t1,r1⟩:=h1
  obtain⟨q,ys,e,t2,r2⟩:=h2
  cases e
  rw [I.tuple_inj t1 t2] at r1
  unfold eqD
  exact qCa I ds es r1 r2
 | .lst ds,.lst es,x,h1,h2=>by
  unfold Rep at h1 h2
  obtain⟨p,xs,rfl,t1,r1⟩:=h1
  obtain⟨q,ys,e,t2,r2⟩:=h2
  cases e
  rw [I.list_inj t1 t2] at r1
  unfold eqD
  exact qCa I ds es r1 r2
 | .tup ds,.lst es,x,h1,h2=>by
  unfold Rep at h1 h2
  obtain⟨p,xs,rfl,t1,r1⟩:=h1
  obtain⟨q,ys,e,t2,r2⟩:=h2
  cases e
  obtain⟨_,_,i1,_⟩:=I.tuple t1
  obtain⟨_,_,i2,_⟩:=I.list t2
  exact(SeqAt.ne_of_list_tuple i2.isList i1 rfl).elim
 | .lst ds,.tup es,x,h1,h2=>by
  unfold Rep at h1 h2
  obtain⟨p,xs,rfl,t1,r1⟩:=h1
  obtain⟨q,ys,e,t2,r2⟩:=h2
  cases e
  obtain⟨_,_,i1,_⟩:=I.list t1
  obtain⟨_,_,i2,_⟩:=I.tuple t2
  exact(SeqAt.ne_of_list_tuple i1.isList i2 rfl).elim
theorem qCa (I:Inv X pins σ H s):∀ (ds es:List D) {xs:List V},Reps X.K H ds xs→Reps X.K H es xs→zj ds es=true
 | [],[],_,_,_=>by simp [zj]
 | d::ds,e::es,[],h1,_=>by unfold Reps at h1;exact h1.elim
 | d::ds,e::es,x::xs,h1,h2=>by
  unfold Reps at h1 h2
  unfold zj
  rw [qGd I d e h1.1 h2.1,qCa I ds es h1.2 h2.2]
  rfl
 | [],e::es,[],_,h2=>by unfold Reps at h2;exact h2.elim
 | [],e::es,_::_,h1,_=>by unfold Reps at h1;exact h1.elim
 | d::ds,[],[],h1,_=>by unfold Reps at h1;exact h1.elim
 | d::ds,[],_::_,_,h2=>by unfold Reps at h2;exact h2.elim
end
theorem vU {A:Around}{x:V}{u:Value}{p:Addr}{its:Array Value}(f:zc x=true)(r:RelV x u)(hu:A.units < cLine)(h:s.heap.IsTuple p its∨s.heap.IsList p its):SeqAt.EqAt A s u (.ref p) false∧SeqAt.EqAt A s (.ref p) u false:=by
 cases x with
 | non=>cases r;rcases h with h | h <;> exact⟨by first | exact SeqAt.EqAt.none_tuple h hu | exact SeqAt.EqAt.none_list h hu,by first | exact SeqAt.EqAt.tuple_none h hu | exact SeqAt.EqAt.list_none h hu⟩
 | bl b=>cases r;rcases h with h | h <;> exact⟨by first | exact SeqAt.EqAt.bool_tuple _ h hu | exact SeqAt.EqAt.bool_list _ h hu,by first | exact SeqAt.EqAt.tuple_bool _ h hu | exact SeqAt.EqAt.list_bool _ h hu⟩
 | int i=>obtain⟨t,rfl⟩:=r;rcases h with h | h <;> exact⟨by first | exact SeqAt.EqAt.int_tuple _ _ h hu | exact SeqAt.EqAt.int_list _ _ h hu,by first | exact SeqAt.EqAt.tuple_int _ _ h hu | exact SeqAt.EqAt.list_int _ _ h hu⟩
 | str i=>obtain⟨t,rfl⟩:=r;rcases h with h | h <;> exact⟨by first | exact SeqAt.EqAt.str_tuple _ _ h hu | exact SeqAt.EqAt.str_list _ _ h hu,by first | exact SeqAt.EqAt.tuple_str _ _ h hu | exact SeqAt.EqAt.list_str _ _ h hu⟩
 | _=>cases f
theorem Reps.get {K:PySem.W.Frag}{H:Hp}:∀ {ds:List D} {xs:List V},Reps K H ds xs→∀ (j:Nat) (d:D),ds[j]? =some d→∃ x,xs[j]? =some x∧Rep K H d x
 | [],[],_,j,d,e=>by simp at e
 | a::ds,x::xs,h,0,d,e=>by
  unfold Reps at h
  have:a=d:=by simpa using e
  subst this
  exact⟨x,rfl,h.1⟩
 | a::ds,x::xs,h,j+1,d,e=>by
  unfold Reps at h
  exact h.2.get j d (by simpa using e)
 | [],_::_,h,_,_,_=>by unfold Reps at h;exact h.elim
 | _::_,[],h,_,_,_=>by unfold Reps at h;exact h.elim
theorem qE7:∀ {ds:List D} {j:Nat} {d:D},ds[j]? =some d→dep d≤ke ds
 | a::ds,0,d,e=>by
  have:a=d:=by simpa using e
  subst this
  unfold ke
  exact Nat.le_max_left _ _
 | a::ds,j+1,d,e=>by
  have:=qE7 (ds:=ds) (j:=j) (d:=d) (by simpa using e)
  unfold ke
  exact Nat.le_trans this (Nat.le_max_right _ _)
 | [],_,_,e=>by simp at e
theorem qNl {A:Around}{ds es:List D}{xs ys:List V}{us ws:List Value}(r1:Reps X.K H ds xs)(r2:Reps X.K H es ys)(v1:Vals xs us)(v2:Vals ys ws)
 (ih:∀ d e x y u w,d∈ds→Rep X.K H d x→Rep X.K H e y→RelV x u→RelV y w→SeqAt.EqAt A s u w (eqD d e)):
 ∀ j (h1:j < us.toArray.size) (h2:j < ws.toArray.size),SeqAt.EqAt A s us.toArray[j] ws.toArray[j] (itE ds es j):=by
 intro j h1 h2
 have l1:=v1.length
 have l2:=v2.length
 have m1:=r1.length
 have m2:=r2.length
 rw [List.size_toArray] at h1 h2
 have g1:ds[j]? =some ds[j]:=List.getElem?_eq_getElem (by omega)
 have g2:es[j]? =some es[j]:=List.getElem?_eq_getElem (by omega)
 obtain⟨x,ex,rx⟩:=r1.get j _ g1
 obtain⟨y,ey,ry⟩:=r2.get j _ g2
 obtain⟨u,eu,qu⟩:=v1.get ex
 obtain⟨w,ew,qw⟩:=v2.get ey
 have c1:us.toArray[j]=u:=by
  have:=(List.getElem?_eq_some_iff.mp eu).2
  simpa using this
 have c2:ws.toArray[j]=w:=by
  have:=(List.getElem?_eq_some_iff.mp ew).2
  simpa using this
 have e:itE ds es j=eqD ds[j] es[j]:=by unfold itE;rw [g1,g2]
 rw [c1,c2,e]
 exact ih _ _ _ _ _ _ (List.getElem_mem _) rx ry qu qw
theorem qTz (I:Inv X pins σ H s):∀ (n:Nat) (A:Around) (d e:D) (x y:V) (u w:Value),dep d≤n→A.units+n < cLine→Rep X.K H d x→Rep X.K H e y→RelV x u→RelV y w→SeqAt.EqAt A s u w (eqD d e):=by
 intro n
 induction n with
 | zero=>
  intro A d e x y u w hd hu r1 r2 q1 q2
  cases d with
  | leaf v=>
   unfold Rep at r1
   obtain⟨rfl,f1⟩:=r1
   cases e with
   | leaf v'=>
    unfold Rep at r2
    obtain⟨rfl,f2⟩:=r2
    unfold eqD
    exact qJ8 q1 q2 f1 f2
   | tup es=>
    unfold Rep at r2
    obtain⟨p,ys,rfl,t,_⟩:=r2
    cases q2
    obtain⟨_,_,i,_⟩:=I.tuple t
    unfold eqD
    exact(vU f1 q1 hu (.inl i)).1
   | lst es=>
    unfold Rep at r2
    obtain⟨p,ys,rfl,t,_⟩:=r2
    cases q2
    obtain⟨_,_,i,_⟩:=I.list t
    unfold eqD
    exact(vU f1 q1 hu (.inr i.isList)).1
  | tup ds=>unfold dep at hd;omega
  | lst ds=>unfold dep at hd;omega
 | succ n ih=>
  intro A d e x y u w hd hu r1 r2 q1 q2
  have hu0:A.units < cLine:=by omega
  have hu1:A.in1.units+n < cLine:=by show A.units+1+n < cLine;omega
  cases d with
  | leaf v=>
   unfold Rep at r1
   obtain⟨rfl,f1⟩:=r1
   cases e with
   | leaf v'=>
    unfold Rep at r2
    obtain⟨rfl,f2⟩:=r2
    unfold eqD
    exact qJ8 q1 q2 f1 f2
   | tup es=>
    unfold Rep at r2
    obtain⟨p,ys,rfl,t,_⟩:=r2
    cases q2
    obtain⟨_,_,i,_⟩:=I.tuple t
    unfold eqD
    exact(vU f1 q1 hu0 (.inl i)).1
   | lst es=>
    unfold Rep at r2
    obtain⟨p,ys,rfl,t,_⟩:=r2
    cases q2
    obtain⟨_,_,i,_⟩:=I.list t
    unfold eqD
    exact(vU f1 q1 hu0 (.inr i.isList)).1
  | tup ds=>
   have r1':=r1
   unfold Rep at r1
   obtain⟨p,xs,rfl,t1,s1⟩:=r1
   cases q1
   obtain⟨us,v1,i1,_⟩:=I.tuple t1
   cases e with
   | leaf v'=>
    unfold Rep at r2
    obtain⟨rfl,f2⟩:=r2
    unfold eqD
    exact(vU f2 q2 hu0 (.inl i1)).2
   | lst es=>
    unfold Rep at r2
    obtain⟨q,ys,rfl,t2,_⟩:=r2
    cases q2
    obtain⟨_,_,i2,_⟩:=I.list t2
    unfold eqD
    exact SeqAt.EqAt.tuple_list i1 i2.isList hu0
   | tup es=>
    have r2':=r2
    unfold Rep at r2
    obtain⟨q,ys,rfl,t2,s2⟩:=r2
    cases q2
    by_cases pq:p=q
    · subst pq
      rw [qGd I _ _ r1' r2']
      exact SeqAt.EqAt.same _
    obtain⟨ws,v2,i2,_⟩:=I.tuple t2
    have hdd:ke ds≤n:=by unfold dep at hd;omega
    have:=SeqAt.EqAt.of_refs pq (SeqAt.RcAt.tuples i1 i2 hu0 (qNl s1 s2 v1 v2 fun d e x y u w hm ra rb qa qb=>by
     obtain⟨j,hj,ej⟩:=List.mem_iff_getElem.mp hm
     have hde:dep d≤ke ds:=qE7 (j:=j) (by rw [List.getElem?_eq_getElem hj,ej])
     exact ih A.in1 d e x y u w (by omega) hu1 ra rb qa qb))
    rw [List.size_toArray,List.size_toArray,← v1.length,← v2.length,← s1.length,← s2.length,qHo] at this
    unfold eqD
    exact this
  | lst ds=>
   have r1':=r1
   unfold Rep at r1
   obtain⟨p,xs,rfl,t1,s1⟩:=r1
   cases q1
   obtain⟨us,v1,i1,_⟩:=I.list t1
   cases e with
   | leaf v'=>
    unfold Rep at r2
    obtain⟨rfl,f2⟩:=r2
    unfold eqD
    exact(vU f2 q2 hu0 (.inr i1.isList)).2
   | tup es=>
    unfold Rep at r2
    obtain⟨q,ys,rfl,t2,_⟩:=r2
    cases q2
    obtain⟨_,_,i2,_⟩:=I.tuple t2
    unfold eqD
    exact SeqAt.EqAt.list_tuple i1.isList i2 hu0
   | lst es=>
    have r2':=r2
    unfold Rep at r2
    obtain⟨q,ys,rfl,t2,s2⟩:=r2
    cases q2
    by_cases pq:p=q
    · subst pq
      rw [qGd I _ _ r1' r2']
      exact SeqAt.EqAt.same _
    obtain⟨ws,v2,i2,_⟩:=I.list t2
    have hdd:ke ds≤n:=by unfold dep at hd;omega
    unfold eqD
    by_cases hl:ds.length=es.length
    · have hsz:us.toArray.size=ws.toArray.size:=by rw [List.size_toArray,List.size_toArray,← v1.length,← v2.length,← s1.length,← s2.length];exact hl
      have:=SeqAt.EqAt.of_refs pq (SeqAt.RcAt.lists i1.isList i2.isList hsz hu0 (qNl s1 s2 v1 v2 fun d e x y u w hm ra rb qa qb=>by
       obtain⟨j,hj,ej⟩:=List.mem_iff_getElem.mp hm
       have hde:dep d≤ke ds:=qE7 (j:=j) (by rw [List.getElem?_eq_getElem hj,ej])
       exact ih A.in1 d e x y u w (by omega) hu1 ra rb qa qb))
      rw [List.size_toArray,← v1.length,← s1.length,qIw hl] at this
      exact this
    · have hsz:(us.toArray.size != ws.toArray.size)=true:=by
       rw [List.size_toArray,List.size_toArray,← v1.length,← v2.length,← s1.length,← s2.length]
       simpa using hl
      have e:zj ds es=false:=by
       rw [Bool.eq_false_iff]
       intro z
       exact hl (qBw z)
      rw [e]
      exact SeqAt.EqAt.of_refs pq (SeqAt.RcAt.lists_lengths i1.isList i2.isList hsz hu0)
def kin:D→D→Bool
 | .tup _,.tup _=>true
 | .lst _,.lst _=>true
 | _,_=>false
inductive qR1 (K:PySem.W.Frag)(neg:Bool)(x:V)(y:V)(H:Hp)(Q:VK):Prop
| mk (d e:D) (_:Rep K H d x) (_:Rep K H e y) (_:kin d e=true) (_:dep d≤60) (_:Q (.bl (if neg then !eqD d e else eqD d e)) H)
theorem vV {A:Around}(I:Inv X pins σ H s)(hu:A.units+64 < cLine){ds es:List D}{xs ys:List V}{us ws:List Value}(hd:ke ds≤60)(s1:Reps X.K H ds xs)(s2:Reps X.K H es ys)(v1:Vals xs us)(v2:Vals ys ws):
 ∀ j (h1:j < us.toArray.size) (h2:j < ws.toArray.size),SeqAt.EqAt A.in1 s us.toArray[j] ws.toArray[j] (itE ds es j):=
 qNl s1 s2 v1 v2 fun d e x y u w hm ra rb qa qb=>by
  obtain⟨j,hj,ej⟩:=List.mem_iff_getElem.mp hm
  have hde:dep d≤ke ds:=qE7 (j:=j) (by rw [List.getElem?_eq_getElem hj,ej])
  exact qTz I 60 A.in1 d e x y u w (by omega) (by show A.units+1+60 < cLine;omega) ra rb qa qb
theorem qQe (hu:X.A.units+64 < cLine):OpR X (compareOp .Eq) (qR1 X.K false):=by
 intro pins s σ H x y v u Q I rx ry h
 obtain⟨d,e,r1,r2,hk,hd,q⟩:=h
 have hu0:X.A.units < cLine:=by omega
 cases d with
 | leaf a=>cases e <;> cases hk
 | tup ds=>
  cases e with
  | leaf b=>cases hk
  | lst es=>cases hk
  | tup es=>
   unfold Rep at r1 r2
   obtain⟨p,xs,rfl,t1,s1⟩:=r1
   obtain⟨p',ys,rfl,t2,s2⟩:=r2
   cases rx;cases ry
   obtain⟨us,v1,i1,_⟩:=I.tuple t1
   obtain⟨ws,v2,i2,_⟩:=I.tuple t2
   refine SeqAt.eq_tupleAt i1 i2 hu0 (vV I hu (by unfold dep at hd;omega) s1 s2 v1 v2) ?_
   rw [List.size_toArray,List.size_toArray,← v1.length,← v2.length,← s1.length,← s2.length,qHo]
   refine⟨.bl _,H,I,rfl,?_⟩
   unfold eqD at q
   exact q
 | lst ds=>
  cases e with
  | leaf b=>cases hk
  | tup es=>cases hk
  | lst es=>
   unfold Rep at r1 r2
   obtain⟨p,xs,rfl,t1,s1⟩:=r1
   obtain⟨p',ys,rfl,t2,s2⟩:=r2
   cases rx;cases ry
   obtain⟨us,v1,i1,_⟩:=I.list t1
   obtain⟨ws,v2,i2,_⟩:=I.list t2
   unfold eqD at q
   by_cases hl:ds.length=es.length
   · have hsz:us.toArray.size=ws.toArray.size:=by rw [List.size_toArray,List.size_toArray,← v1.length,← v2.length,← s1.length,← s2.length];exact hl
     refine SeqAt.eq_listAt i1.isList i2.isList hsz hu0 (vV I hu (by unfold dep at hd;omega) s1 s2 v1 v2) ?_
     rw [List.size_toArray,← v1.length,← s1.length,qIw hl]
     exact⟨.bl _,H,I,rfl,q⟩
   · have hsz:(us.toArray.size != ws.toArray.size)=true:=by
      rw [List.size_toArray,List.size_toArray,← v1.length,← v2.length,← s1.length,← s2.length]
      simpa using hl
     have e:zj ds es=false:=by
      rw [Bool.eq_false_iff]
      intro z
      exact hl (qBw z)
     rw [e] at q
     exact SeqAt.eq_list_lengthsAt i1.isList i2.isList hsz hu0 ⟨.bl _,H,I,rfl,q⟩
theorem qOa (hu:X.A.units+64 < cLine):OpR X (compareOp .NotEq) (qR1 X.K true):=by
 intro pins s σ H x y v u Q I rx ry h
 obtain⟨d,e,r1,r2,hk,hd,q⟩:=h
 have hu0:X.A.units < cLine:=by omega
 cases d with
 | leaf a=>cases e <;> cases hk
 | tup ds=>
  cases e with
  | leaf b=>cases hk
  | lst es=>cases hk
  | tup es=>
   unfold Rep at r1 r2
   obtain⟨p,xs,rfl,t1,s1⟩:=r1
   obtain⟨p',ys,rfl,t2,s2⟩:=r2
   cases rx;cases ry
   obtain⟨us,v1,i1,_⟩:=I.tuple t1
   obtain⟨ws,v2,i2,_⟩:=I.tuple t2
   refine SeqAt.RcNeAt.tuples i1 i2 hu0 (vV I hu (by unfold dep at hd;omega) s1 s2 v1 v2) _ _ _ _ ?_
   rw [List.size_toArray,List.size_toArray,← v1.length,← v2.length,← s1.length,← s2.length,qHo]
   refine⟨.bl _,H,I,rfl,?_⟩
   unfold eqD at q
   exact q
 | lst ds=>
  cases e with
  | leaf b=>cases hk
  | tup es=>cases hk
  | lst es=>
   unfold Rep at r1 r2
   obtain⟨p,xs,rfl,t1,s1⟩:=r1
   obtain⟨p',ys,rfl,t2,s2⟩:=r2
   cases rx;cases ry
   obtain⟨us,v1,i1,_⟩:=I.list t1
   obtain⟨ws,v2,i2,_⟩:=I.list t2
   unfold eqD at q
   by_cases hl:ds.length=es.length
   · have hsz:us.toArray.size=ws.toArray.size:=by rw [List.size_toArray,List.size_toArray,← v1.length,← v2.length,← s1.length,← s2.length];exact hl
     refine SeqAt.RcNeAt.lists i1.isList i2.isList hsz hu0 (vV I hu (by unfold dep at hd;omega) s1 s2 v1 v2) _ _ _ _ ?_
     rw [List.size_toArray,← v1.length,← s1.length,qIw hl]
     exact⟨.bl _,H,I,rfl,q⟩
   · have hsz:(us.toArray.size != ws.toArray.size)=true:=by
      rw [List.size_toArray,List.size_toArray,← v1.length,← v2.length,← s1.length,← s2.length]
      simpa using hl
     have e:zj ds es=false:=by
      rw [Bool.eq_false_iff]
      intro z
      exact hl (qBw z)
     rw [e] at q
     exact SeqAt.RcNeAt.lists_lengths i1.isList i2.isList hsz hu0 _ _ _ _ ⟨.bl _,H,I,rfl,q⟩
end
end L3
namespace L3
open PySem PySem.Spec PyProof.Rows L2
def CompEndF (js:List Nat)(tc:TT)(te:TE)(σ:L2.St)(Q:VK)(J:It)(H1:Hp):Prop:=∃ W:Nat→Nat→List V→Hp→Prop,(∃ m,W 0 m [] H1)∧∀ i m acc H2,W i m acc H2→
 acc.length < sizeLine∧((J.stop i H2∧∀ D,H2 D=none→Q (.ref D) (upd H2 D (.lst acc)))∨
  (J.go i H2∧∀ x H3,J.yld i H2 x H3→tc (some x::wr js σ) H3 fun ok H4=>if ok=true then te (some x::wr js σ) H4 fun v H5=>∃ m',m' < m∧W (i+1) m' (acc++[v]) H5 else ∃ m',m' < m∧W (i+1) m' acc H4))
def qP1 (js:List Nat)(wi:TI)(tc:TT)(te:TE):TE:=fun σ H Q=>wi σ H (CompEndF js tc te σ Q)
theorem CompEndF.g {js:List Nat}{tc:TT}{te:TE}(σ:L2.St)(Q:VK)(J:It)(H1:Hp):CompEndF js tc te σ Q J H1→vW 1 js (qA5 0) tc te σ Q J H1:=fun⟨W,w0,st⟩=>
 ⟨W,w0,fun i m acc H2 w=>⟨(st i m acc H2 w).1,(st i m acc H2 w).2.imp id fun⟨go,y⟩=>⟨go,fun x H3 z=>⟨[some x],rfl,rfl,y x H3 z⟩⟩⟩⟩
theorem qGc {X:Cx}{elt iter cnd:Expr}{x:Str}{px:Pos}{scope:Scope}{cl:List (Str × Addr)}{pos:Pos}{wi:TI}{tc:TT}{te:TE}(ys:List Str)(js:List Nat)
 (hcm:X.calm=true) (hi:PI X (.Name x px) iter wi) (hc:∀ C s H fp,PT (jL X scope cl C (x::ys) s H fp).nox cnd tc) (he:∀ C s H fp,PE (jL X scope cl C (x::ys) s H fp).nox elt te) (hx:scope.names.lookup x=some .local:=by rfl) (hC:COk X scope cl iter [x] ys js:=by exact⟨rfl,rfl,rfl,rfl,rfl,rfl,rfl,rfl,fun _=>rfl,by decide⟩):PE X (.ListComp elt [⟨.Name x px,iter,[cnd],0⟩] scope pos) (qP1 js wi tc te):=
 qKv (xs:=[x]) (T:=CompEndF js tc te) hcm hi (fun _ _ _ _=>qt (i:=0) hC.nd rfl (.inl (lookup_relabel_local hx)) (.inr (lookup_relabel_local hx))) (fun C s H fp=>qIs (hc C s H fp)) he hC CompEndF.g
theorem qO8 {X:Cx}{elt iter cnd:Expr}{x:Str}{px:Pos}{scope:Scope}{cl:List (Str × Addr)}{pos:Pos}{wi:TI}{tc:TT}{te:TE}(ys:List Str)(js:List Nat){i:Nat}{y:Str}{py spos:Pos}(hN:X.N.Nodup)(hi':X.N[i]? =some y)(hy:X.env.kindOf y=some .local)
 (hcm:X.calm=true) (hi:PI X (.Name x px) iter wi) (hc:∀ C s H fp,PT (jL X scope cl C (x::ys) s H fp).nox cnd tc) (he:∀ C s H fp,PE (jL X scope cl C (x::ys) s H fp).nox elt te) (hx:scope.names.lookup x=some .local:=by rfl) (hC:COk X scope cl iter [x] ys js:=by exact⟨rfl,rfl,rfl,rfl,rfl,rfl,rfl,rfl,fun _=>rfl,by decide⟩) (hsw:swapsWith (.ListComp elt [⟨.Name x px,iter,[cnd],0⟩] scope pos) (some (.Name y py)) spos.line X.env=pure true:=by rfl):PS X (.Assign [.Name y py] (.ListComp elt [⟨.Name x px,iter,[cnd],0⟩] scope pos) spos) (qRj (qP1 js wi tc te) (qA5 i)):=
 qFe (xs:=[x]) (T:=CompEndF js tc te) hN hi' hy hcm hi (fun _ _ _ _=>qt (i:=0) hC.nd rfl (.inl (lookup_relabel_local hx)) (.inr (lookup_relabel_local hx))) (fun C s H fp=>qIs (hc C s H fp)) he hC CompEndF.g hsw
theorem wy {K:PySem.W.Frag}{a:Addr}{xs:List V}{js:List Nat}{tc:TT}{te:TE}{σ:L2.St}{H:Hp}{Q:VK}(Pv:Nat→List V→Hp→Prop)(h0:Pv 0 [] H)(hl:∀ i acc H,i≤xs.length→Pv i acc H→SqL K H a xs∧acc.length < sizeLine)
 (hs:∀ i x acc H,i < xs.length→xs[i]? =some x→Pv i acc H→tc (some x::wr js σ) H fun ok H'=>if ok=true then te (some x::wr js σ) H' fun v H''=>Nxt xs.length i (Pv (i+1) (acc++[v]) H'') else Nxt xs.length i (Pv (i+1) acc H')) (hd:∀ acc H,Pv xs.length acc H→∀ D,H D=none→Q (.ref D) (upd H D (.lst acc))):CompEndF js tc te σ Q (Itl K a) H:=by
 refine⟨fun i m acc H=>m=xs.length - i∧i≤xs.length∧Pv i acc H,⟨xs.length,by simp,Nat.zero_le _,h0⟩,?_⟩
 rintro i m acc H2 ⟨rfl,hi,p⟩
 obtain⟨q,hz⟩:=hl i acc H2 hi p
 refine⟨hz,?_⟩
 by_cases hlt:i < xs.length
 · refine .inr ⟨⟨xs,xs[i],q,by simp [hlt]⟩,fun x H3 y=>?_⟩
   obtain⟨e,y⟩:=y
   subst e
   exact hs i x acc _ hlt (y xs q) p
 · have e:i=xs.length:=by omega
   subst e
   exact .inl ⟨⟨xs,q,Nat.le_refl _⟩,hd acc H2 p⟩
theorem qNz (n:Nat):sliceRange (sliceBounds none none (some (-1)) n).1 (sliceBounds none none (some (-1)) n).2.1 (sliceBounds none none (some (-1)) n).2.2=(List.range n).map fun k=>n - 1 - k:=by
 have e1:(sliceBounds none none (some (-1)) n).1=(n:Int) - 1:=by simp [sliceBounds]
 have e2:(sliceBounds none none (some (-1)) n).2.1= -1:=by simp [sliceBounds]
 have e3:(sliceBounds none none (some (-1)) n).2.2= -1:=by simp [sliceBounds]
 rw [e1,e2,e3]
 unfold sliceRange
 have h0:¬ ((-1:Int) > 0):=by decide
 have hc:(if (-1:Int) > 0 then (if (n:Int) - 1 < -1 then (-1 - ((n:Int) - 1)+ -1 - 1) / -1 else 0) else (if (n:Int) - 1 > -1 then ((n:Int) - 1 - -1 - -1 - 1) / (- -1) else 0)).toNat=n:=by
  rw [if_neg h0]
  by_cases hn:(n:Int) - 1 > -1
  · rw [if_pos hn]
    have e:(- -1:Int)=1:=by decide
    rw [e,Int.ediv_one]
    omega
  · rw [if_neg hn]
    omega
 simp only [] at hc ⊢
 rw [hc]
 refine List.map_congr_left fun k hk=>?_
 have:=List.mem_range.mp hk
 omega
theorem qPv (its:List Value):slicePick its.toArray none none (some (-1))=its.reverse.toArray:=by
 unfold slicePick
 rw [qNz]
 congr 1
 rw [List.filterMap_map]
 apply List.ext_getElem?
 intro j
 have key:∀ n,n≤its.length→(List.range n).filterMap ((fun x=>its.toArray[x]?) ∘ fun k=>its.toArray.size - 1 - k)=its.reverse.take n:=by
  intro n
  induction n with
  | zero=>intro _;simp
  | succ n ih=>
   intro hn
   rw [List.range_succ,List.filterMap_append,ih (by omega),List.take_add_one]
   have hi:its.length - 1 - n < its.length:=by omega
   have e:its.reverse[n]? =some its[its.length - 1 - n]:=by
    rw [List.getElem?_reverse (by omega),List.getElem?_eq_getElem hi]
   rw [e]
   simp [hi]
 rw [List.size_toArray] at key ⊢
 rw [key its.length (Nat.le_refl _),List.take_of_length_le (by simp)]
theorem Vals.rev {xs:List V}{us:List Value}(r:Vals xs us):Vals xs.reverse us.reverse:=by
 induction r with
 | nil=>exact .nil
 | cons h t ih=>
  rw [List.reverse_cons,List.reverse_cons]
  exact ih.append (.cons h .nil)
inductive qUe (K:PySem.W.Frag)(Q:VK)(x:V)(H1:Hp):Prop
| mk a xs (_:x= .ref a) (_:SqL K H1 a xs) (_:∀ p,H1 p=none→Q (.ref p) (upd H1 p (.lst xs.reverse)))
def qWb (K:PySem.W.Frag)(te:TE):TE:=fun σ H Q=>te σ H fun x H1=>qUe K Q x H1
theorem qTo {X:Cx}{e:Expr}{te:TE}{j:Nat}{pc pu p2 pos:Pos}(he:PE X e te):PE X (.Subscript e (.Slice none none (some (.UnaryOp .USub (.Constant (.int 1) j pc) pu)) p2) pos) (qWb X.K te):=by
 intro pins s σ H Q I h
 refine Subscript_ (thn (he pins s σ H _ I h) fun v s1 ⟨x,H1,I1,r1,q1⟩=>?_)
 obtain⟨a,xs,rfl,hx,q⟩:=q1
 cases r1
 refine wpAny_Slice ?_
 rw [evalPart_none]
 refine wpAny_pure (wpAny_pure ?_)
 have po:=(qA0 (X:=X) (ka (X:=X) (pos:=pu) xK (qG (X:=X) (i:=1) (j:=j) (pos:=pc)))) pins s1 σ H1 (fun i H2=>i=some (-1)∧H2=H1) I1 ⟨1,rfl,-1,rfl,rfl,rfl⟩
 refine thn po fun vs s3 h3=>?_
 obtain⟨st,H3,I3,ps,rfl,rfl⟩:=h3
 have I4:Inv X pins σ H3 {s3 with heap:=s3.heap.push {cls:=.type "slice",data:=.fields #[.none,.none,vs]}}:=I3.kept (t':=s3.toks) fun b ob q=>Heap.get?_push_of_some _ q
 obtain⟨its,r,ht,hz⟩:=I4.list hx
 have hlen:=r.length
 show wpAny (model X.prog X.w) X.A (subscriptTail e (.Slice none none (some (.UnaryOp .USub (.Constant (.int 1) j pc) pu)) p2) (.ref a) (.ref s3.heap.objs.size)) (EP X pins σ Q) X.xe {s3 with heap:=s3.heap.push {cls:=.type "slice",data:=.fields #[.none,.none,vs]}}
 refine tail_any (ops:=[.ref a,.ref s3.heap.objs.size]) ht.isList.typeIs slot_list_getitem.lookup ?_ (by with_unfolding_all rfl)
 refine wpAny_getItem_list_slice ht.isList (Heap.IsSliceOf.new ..) .none .none ps (by simp) ?_ (by rw [List.size_toArray] <;> omega)
 rw [qPv]
 refine⟨.ref _,_,I4.laid (t':=s3.toks) (o:=.lst xs.reverse) (fun b ob q=>Heap.get?_push_of_some _ q) (Nat.le_refl _) ?_,rfl,q _ (I4.hok.fresh (Nat.le_refl _))⟩
 exact⟨by rw [List.length_reverse];exact hz,_,0,L3.Vals.rev r,Heap.get?_push_size _ rfl⟩
theorem qMw {X:Cx}{pins:List (Addr × Obj)}{σ:L2.St}{H:Hp}{s:Shared}{h':Heap}{t':Nat}{ch:List Addr}(I:Inv X pins σ H s)(hf:∀ b∈ch,qO7 X pins H b)
 (k:∀ b o,b ∉ ch→s.heap.get? b=some o→h'.get? b=some o):Inv X pins σ H {s with heap:=h',toks:=t'}:=by
 have nit:∀ b u,H b=some u→b ∉ ch:=fun b u e z=>by rw [(hf b z).1] at e;cases e
 refine I.step (g':=s.gens) (d':=s.drawn) (ch:=ch) (fun b hb=>?_) (fun b o _ _ hc e _=>k b o hc e) (fun b o _ _ hc e _=>⟨o.slots,k b o hc e⟩) (fun _ _ _ _ n=>n)
  (fun b o hc e=>⟨o,k b o hc e⟩) (fun _ _ e=>e) (fun _ _ _ e=>e) (fun b ps e=>⟨#[],by rw [e];simp⟩) (fun m hm=>?_) (fun b u e=>?_) I.bare
 · obtain⟨_,f1,_,f3,f4,f5⟩:=hf b hb
   exact⟨f3,f1,f4,f5⟩
 · obtain⟨o,es,ep,ho,r⟩:=hm
   exact⟨o,es,ep,k _ o (fun z=>(hf _ z).2.1 rfl) ho,r⟩
 · refine(I.hok b u e).stay (fun c v hc q=>k c v ?_ q) (fun _ q=>q) fun _ _ q=>q
   rcases hc with z | z
   · rw [z];exact nit b u e
   · exact nit c _ z
theorem qQk {X:Cx}{pins:List (Addr × Obj)}{σ:L2.St}{H:Hp}{s:Shared}{h':Heap}{t':Nat}{ch:List Addr}{xs:List V}{us:Array Value}(I:Inv X pins σ H s)(hf:∀ b∈ch,qO7 X pins H b)(hlt:∀ b∈ch,b < s.heap.objs.size)
 (k:∀ b o,b ∉ ch→s.heap.get? b=some o→h'.get? b=some o) (hT:h'.get? s.heap.objs.size=some {cls:=.type "tuple",data:=.seq us}) (r:Vals xs us.toList) (hz:xs.length≤sizeLine):
 Inv X pins σ (upd H s.heap.objs.size (.tup xs)) {s with heap:=h',toks:=t'}∧∀ b∈ch,upd H s.heap.objs.size (.tup xs) b=none:=by
 have hn:∀ b∈ch,upd H s.heap.objs.size (.tup xs) b=none:=fun b hb=>by
  rw [qV (Nat.ne_of_lt (hlt b hb))];exact(hf b hb).1
 have I1:Inv X pins σ (upd H s.heap.objs.size (.tup xs)) {s with heap:=s.heap.push {cls:=.type "tuple",data:=.seq us},toks:=t'}:=
  I.laid (t':=t') (fun b o e=>Heap.get?_push_of_some _ e) (Nat.le_refl _) ⟨hz,us.toList,r,⟨_,Heap.get?_push_size _ rfl,rfl,_,rfl⟩⟩
 have I2:=qMw (h':=h') (t':=t') (ch:=ch) I1 (fun b hb=>⟨hn b hb,(hf b hb).2⟩) (fun b o hb e=>?_)
 · exact⟨I2,hn⟩
 rcases Heap.get?_push_cases e with ⟨e1,e2⟩ | e1
 · rw [e1,e2];exact hT
 · exact k b o hb e1
def Ite (K:PySem.W.Frag)(a:Addr):It:=
 ⟨fun i H=>∃ xs x,SqL K H a xs∧xs[i]? =some x,fun i H x H'=>∃ p v,H p=none∧x= .ref p∧(∀ xs,SqL K H a xs→xs[i]? =some v)∧H'=upd H p (.tup [.int i,v]),fun i H=>∃ xs,SqL K H a xs∧xs.length≤i⟩
theorem qMm {P:Program}{w:World}{K:PySem.W.Frag}{elts:List Expr}{k1:Nat}{pos:Pos}(a e it:Addr)(hne:e≠it):
 qTv P w K (.Tuple elts k1 pos) (Ite K a) [e,it] e (fun i h=>(∃ old,IsEnum h e it (i:Nat) old)∧h.IsListIter it a i) where
 mem:=by simp
 obj:=fun i h st b hb=>by
  obtain⟨⟨old,he⟩,o,ho,c,d⟩:=st
  rcases List.mem_cons.mp hb with rfl | hb
  · exact⟨_,he,fun v z=>by cases z⟩
  · have e:b=it:=by simpa using hb
    subst e
    exact⟨o,ho,fun v z=>by rw [d] at z;cases z⟩
 keep:=fun i h h' st k=>by
  obtain⟨⟨old,he⟩,hi⟩:=st
  exact⟨⟨old,k e (by simp) _ he⟩,hi.at fun o q=>k it (by simp) o q⟩
 item:=by
  intro X hP hw hK hc i pins s σ H E I hf st hg
  subst hP hw hK
  obtain⟨⟨old,he⟩,hit⟩:=st
  obtain⟨xs,x,hq,hx⟩:=hg
  obtain⟨its,rv,p,hz⟩:=I.list hq
  obtain⟨u,hu,ru⟩:=rv.get hx
  refine wpAny_pyNext_enum_item he hit p.isList (x:=u) (by simpa using hu) hne fun h' heo hit' hT hsz hk=>?_
  refine⟨_,rfl,wpAny_letOwnedTupleGo_enum heo fun h'' he'' hs''=>?_⟩
  have hel:e < s.heap.objs.size:=Heap.lt_size he
  have hil:it < s.heap.objs.size:=by obtain⟨_,q,_⟩:=hit;exact Heap.lt_size q
  have T:=qQk (h':=h'') (t':=s.toks+1) (ch:=[e,it]) (xs:=[.int i,x]) (us:=#[.int i s.toks,u]) I hf (fun b hb=>by
   rcases List.mem_cons.mp hb with rfl | hb
   · exact hel
   · have z:b=it:=by simpa using hb
     subst z;exact hil)
   (fun b o hb q=>(hs''.2 b (fun z=>hb (by simp [z]))).trans (hk b o (fun z=>hb (by simp [z])) (fun z=>hb (by simp [z])) q))
   ((hs''.2 _ (Nat.ne_of_gt hel)).trans hT) (.cons ⟨_,rfl⟩ (.cons ru .nil)) (by show 2≤sizeLine;decide)
  refine⟨.ref s.heap.objs.size,_,T.1,rfl,⟨_,x,I.hok.fresh (Nat.le_refl _),rfl,fun ys hy=>by rw [I.list_inj hy hq];exact hx,rfl⟩,⟨⟨u,by simpa using he''⟩,hit'.at fun o q=>(hs''.2 it hne.symm).trans q⟩,T.2⟩
 done:=by
  intro X hP hw hK hc i pins s σ H E I hf st hg
  subst hP hw hK
  obtain⟨⟨old,he⟩,hit⟩:=st
  obtain⟨xs,hq,hx⟩:=hg
  obtain⟨its,rv,p,hz⟩:=I.list hq
  obtain⟨f0,f1,f2,f3,f4,f5⟩:=hf it (by simp)
  have hl:=rv.length
  exact wpAny_pyNext_enum_end (I.ok.hd hc) he hit p.isList (by simp;omega) fun h' eb=>⟨rfl,I.turned (t':=s.toks) (fun b o hb e=>eb b o hb e) f0 f1 f3 f4 f5⟩
 self:=fun _ _ _ _ _ st h=>by
  obtain⟨⟨old,he⟩,_⟩:=st
  exact wpAny_pyIter_enum he h
inductive qT1 (K:PySem.W.Frag)(R:It→Hp→Prop)(vs:List V)(H1:Hp):Prop
| mk a (_:vs=[.ref a]) (_:(∃ xs,SqL K H1 a xs)) (_:R (Ite K a) H1)
def qVj (K:PySem.W.Frag)(t:TA):TI:=fun σ H R=>t σ H fun vs H1=>qT1 K R vs H1
theorem qMd {X:Cx}{l:Expr}{tl:TA}{elts:List Expr}{k1:Nat}{tpos p pos:Pos}(hg:Gl X "enumerate")(hm:X.mg "enumerate"=none)(hl:PA X [l] tl)(hs:starEach [l] X.env=[(false,eval l X.env)]:=by rfl):
 PI X (.Tuple elts k1 tpos) (.Call (.Name "enumerate" p) [l] [] pos) (qVj X.K tl):=by
 intro pins s σ H R I h
 refine Call_ (qEv I hg hm boot_enumerate (PyProof.Rows.callWith_type1 (thn (hl pos pins s σ H _ I h) fun us s1 ⟨vs,H1,I1,r1,q1⟩=>?_) hs rfl))
 obtain⟨a,e,⟨xs,hq⟩,q⟩:=q1
 subst e
 cases r1 with
 | cons r rr=>
  cases rr
  cases r
  obtain⟨its,rv,pl,hz⟩:=I1.list hq
  refine call_enumerate_list pl.isList fun h' he hit hsz hk=>?_
  refine wpAny_pyIter_enum he ?_
  refine⟨s1.heap.objs.size+1,[s1.heap.objs.size+1,s1.heap.objs.size],_,_,H1,rfl,I1.kept (t':=s1.toks) fun b o e=>hk b o e,qMm a _ _ (Nat.succ_ne_self _),⟨⟨_,he⟩,hit⟩,fun b hb=>?_,q⟩
  rcases List.mem_cons.mp hb with rfl | hb
  · exact I1.fpOk (Nat.le_succ _) (I1.hok.fresh (Nat.le_succ _))
  · have e:b=s1.heap.objs.size:=by simpa using hb
    subst e
    exact I1.fpOk (Nat.le_refl _) (I1.hok.fresh (Nat.le_refl _))
theorem qPz {K:PySem.W.Frag}{a:Addr}{xs:List V}{g:TG}{tb:TS}{D:qK1}{σ:L2.St}{H:Hp}(Pv:Nat→L2.St→Hp→Prop)(h0:Pv 0 σ H)(hl:∀ i σ H,i≤xs.length→Pv i σ H→SqL K H a xs)
 (hs:∀ i x σ H p,xs[i]? =some x→Pv i σ H→H p=none→g (.ref p) σ (upd H p (.tup [.int i,x])) fun σ2 H2=>tb {D with nx:=Pv (i+1),ct:=Pv (i+1),bk:=D.nx} σ2 H2) (hd:∀ σ H,Pv xs.length σ H→D.nx σ H):
 ∃ W:Nat→Nat→L2.St→Hp→Prop,(∃ m,W 0 m σ H)∧∀ i m σ H,W i m σ H→
  ((Ite K a).stop i H∧D.nx σ H)∨((Ite K a).go i H∧∃ N:L2.St→Hp→Prop,(∀ σ' H',N σ' H'→∃ m',m' < m∧W (i+1) m' σ' H')∧∀ x H',(Ite K a).yld i H x H'→g x σ H' fun σ2 H2=>tb {D with nx:=N,ct:=N,bk:=D.nx} σ2 H2):=by
 refine⟨fun i m σ H=>m=xs.length - i∧i≤xs.length∧Pv i σ H,⟨xs.length,by simp,Nat.zero_le _,h0⟩,?_⟩
 rintro i m σ H ⟨rfl,hi,p⟩
 have q:=hl i σ H hi p
 by_cases hlt:i < xs.length
 · refine .inr ⟨⟨xs,xs[i],q,by simp [hlt]⟩,Pv (i+1),fun σ' H' p'=>⟨xs.length - (i+1),by omega,rfl,hlt,p'⟩,fun x H' y=>?_⟩
   obtain⟨z,v,hz,rfl,y,rfl⟩:=y
   exact hs i v σ _ z (y xs q) p hz
 · have e:i=xs.length:=by omega
   subst e
   exact .inl ⟨⟨xs,q,Nat.le_refl _⟩,hd σ H p⟩
theorem qNo:∀ {ns:List Int} {us:List Value},Vals (ns.map V.int) us→∃ xs:List (Int × Tok),us.toArray=intItems xs.toArray∧xs.map (·.1)=ns
 | [],us,r=>by cases r;exact⟨[],by simp [intItems],rfl⟩
 | n::ns,us,r=>by
  rw [List.map_cons] at r
  cases r with
  | cons h t=>
   obtain⟨xs,e1,e2⟩:=qNo t
   obtain⟨tk,rfl⟩:=h
   refine⟨(n,tk)::xs,?_,by rw [List.map_cons,e2]⟩
   have e3:=congrArg Array.toList e1
   simp only [intItems,List.map_toArray] at e3 ⊢
   rw [e3]
   rfl
theorem qH6 {X:Cx}(hc:X.calm=true):qDr X (.builtin "sum") (fun xs H Q=>∃ (p:Addr) (ns:List Int),xs=[.ref p]∧SqL X.K H p (ns.map V.int)∧Q (.int ns.sum) H):=by
 intro pins s σ H xs us Q I r h
 obtain⟨p,ns,rfl,hq,q⟩:=h
 obtain⟨u,rfl,rx⟩:=qMp r
 cases rx
 obtain⟨its,rv,pl,hz⟩:=I.list hq
 obtain⟨ys,e1,e2⟩:=qNo rv
 have pl':=pl.isList
 rw [e1] at pl'
 refine sum_intListG (I.ok.hd hc) pl' fun h' tk t' hk=>?_
 rw [preSum_eq,List.take_of_length_le (by simp)]
 have e3:ys.toArray.toList.map (·.1)=ns:=by simpa using e2
 rw [e3]
 exact⟨.int ns.sum,H,I.kept fun b o e=>hk b o e,⟨_,rfl⟩,q⟩
def qWp (t:TT):TT:=fun σ H Q=>∃ R:Bool→Hp→Prop,t σ H R∧∀ b H',R b H'→Q b H'
theorem qEq {X:Cx}{e:Expr}{t:TT}(h:PT X e t):PT X e (qWp t):=by
 rintro pins s σ H Q I ⟨R,ht,hR⟩
 exact thn (h pins s σ H R I ht) fun b s' ⟨H',I',r⟩=>⟨H',I',hR b H' r⟩
def CompEndP (K:PySem.W.Frag)(js:List Nat)(tc:TT)(te:TE)(σ:L2.St)(Q:VK)(J:It)(H1:Hp):Prop:=∃ W:Nat→Nat→List V→Hp→Prop,(∃ m,W 0 m [] H1)∧∀ i m acc H2,W i m acc H2→
 acc.length < sizeLine∧((J.stop i H2∧∀ D,H2 D=none→Q (.ref D) (upd H2 D (.lst acc)))∨
  (J.go i H2∧∀ x H3,J.yld i H2 x H3→∃ p va vb,x= .ref p∧SqT K H3 p [va,vb]∧tc (some va::some vb::wr js σ) H3 fun ok H4=>if ok=true then te (some va::some vb::wr js σ) H4 fun v H5=>∃ m',m' < m∧W (i+1) m' (acc++[v]) H5 else ∃ m',m' < m∧W (i+1) m' acc H4))
def qTa (K:PySem.W.Frag)(js:List Nat)(wi:TI)(tc:TT)(te:TE):TE:=fun σ H Q=>wi σ H (CompEndP K js tc te σ Q)
theorem CompEndP.g {K:PySem.W.Frag}{js:List Nat}{tc:TT}{te:TE}(σ:L2.St)(Q:VK)(J:It)(H1:Hp):CompEndP K js tc te σ Q J H1→vW 2 js (qUk K 2 (qM3 (qA5 0) (qM3 (qA5 1) qUp))) tc te σ Q J H1:=fun⟨W,w0,st⟩=>
 ⟨W,w0,fun i m acc H2 w=>⟨(st i m acc H2 w).1,(st i m acc H2 w).2.imp id fun⟨go,y⟩=>⟨go,fun x H3 z=>let ⟨p,va,vb,e,q,r⟩:=y x H3 z;⟨p,_,e,q,rfl,va,_,rfl,vb,_,rfl,rfl,[some va,some vb],rfl,rfl,r⟩⟩⟩⟩
theorem qQ2 {X:Cx}{scope:Scope}{cl:List (Str × Addr)}{x1 x2:Str}{px1 px2:Pos}{tk:Nat}{tpos:Pos}{ys:List Str}(hcm:X.calm=true)(hnd:([x1,x2]++ys).Nodup)(hx1:scope.names.lookup x1=some .local)(hx2:scope.names.lookup x2=some .local)(C:Addr)(s:Shared)(H:Hp)(fp:List Addr):PG (jL X scope cl C ([x1,x2]++ys) s H fp).nox (.Tuple [.Name x1 px1,.Name x2 px2] tk tpos) (qUk X.K 2 (qM3 (qA5 0) (qM3 (qA5 1) qUp))):=
 qOc (X:=(jL X scope cl C ([x1,x2]++ys) s H fp).nox) hcm (vd (qt (i:=0) hnd rfl (.inl (lookup_relabel_local hx1)) (.inr (lookup_relabel_local hx1))) (vd (qt (i:=1) hnd rfl (.inl (lookup_relabel_local hx2)) (.inr (lookup_relabel_local hx2))) qIt))
theorem qPn {X:Cx}{elt iter cnd:Expr}{x1 x2:Str}{px1 px2:Pos}{tk:Nat}{tpos:Pos}{scope:Scope}{cl:List (Str × Addr)}{pos:Pos}{wi:TI}{tc:TT}{te:TE}(ys:List Str)(js:List Nat){i:Nat}{y:Str}{py spos:Pos}(hN:X.N.Nodup)(hi':X.N[i]? =some y)(hy:X.env.kindOf y=some .local)
 (hcm:X.calm=true) (hi:PI X (.Tuple [.Name x1 px1,.Name x2 px2] tk tpos) iter wi) (hc:∀ C s H fp,PT (jL X scope cl C (x1::x2::ys) s H fp).nox cnd tc) (he:∀ C s H fp,PE (jL X scope cl C (x1::x2::ys) s H fp).nox elt te) (hx1:scope.names.lookup x1=some .local:=by rfl) (hx2:scope.names.lookup x2=some .local:=by rfl) (hC:COk X scope cl iter [x1,x2] ys js:=by exact⟨rfl,rfl,rfl,rfl,rfl,rfl,rfl,rfl,fun _=>rfl,by decide⟩) (hsw:swapsWith (.ListComp elt [⟨.Tuple [.Name x1 px1,.Name x2 px2] tk tpos,iter,[cnd],0⟩] scope pos) (some (.Name y py)) spos.line X.env=pure true:=by rfl):PS X (.Assign [.Name y py] (.ListComp elt [⟨.Tuple [.Name x1 px1,.Name x2 px2] tk tpos,iter,[cnd],0⟩] scope pos) spos) (qRj (qTa X.K js wi tc te) (qA5 i)):=
 qFe (xs:=[x1,x2]) (T:=CompEndP X.K js tc te) hN hi' hy hcm hi (qQ2 hcm hC.nd hx1 hx2) (fun C s H fp=>qIs (hc C s H fp)) he hC CompEndP.g hsw
theorem qL3 {K:PySem.W.Frag}{a:Addr}{xs:List V}{js:List Nat}{tc:TT}{te:TE}{σ:L2.St}{H:Hp}{Q:VK}(Pv:Nat→List V→Hp→Prop)(h0:Pv 0 [] H)(hl:∀ i acc H,i≤xs.length→Pv i acc H→SqL K H a xs∧acc.length < sizeLine)
 (hs:∀ i x acc H p,i < xs.length→xs[i]? =some x→Pv i acc H→H p=none→tc (some (.int i)::some x::wr js σ) (upd H p (.tup [.int i,x])) fun ok H'=>if ok=true then te (some (.int i)::some x::wr js σ) H' fun v H''=>Nxt xs.length i (Pv (i+1) (acc++[v]) H'') else Nxt xs.length i (Pv (i+1) acc H')) (hd:∀ acc H,Pv xs.length acc H→∀ D,H D=none→Q (.ref D) (upd H D (.lst acc))):CompEndP K js tc te σ Q (Ite K a) H:=by
 refine⟨fun i m acc H=>m=xs.length - i∧i≤xs.length∧Pv i acc H,⟨xs.length,by simp,Nat.zero_le _,h0⟩,?_⟩
 rintro i m acc H2 ⟨rfl,hi,p⟩
 obtain⟨q,hz⟩:=hl i acc H2 hi p
 refine⟨hz,?_⟩
 by_cases hlt:i < xs.length
 · refine .inr ⟨⟨xs,xs[i],q,by simp [hlt]⟩,fun x H3 y=>?_⟩
   obtain⟨z,v,hz,rfl,y,rfl⟩:=y
   exact⟨z,_,_,rfl,SqT.of qD,hs i v acc _ z hlt (y xs q) p hz⟩
 · have e:i=xs.length:=by omega
   subst e
   exact .inl ⟨⟨xs,q,Nat.le_refl _⟩,hd acc H2 p⟩
def Itz (K:PySem.W.Frag)(a b:Addr):It:=
 ⟨fun i H=>∃ xs ys x y,SqL K H a xs∧SqL K H b ys∧xs[i]? =some x∧ys[i]? =some y,
  fun i H x H'=>∃ p v u,H p=none∧x= .ref p∧(∀ xs,SqL K H a xs→xs[i]? =some v)∧(∀ ys,SqL K H b ys→ys[i]? =some u)∧H'=upd H p (.tup [v,u]),
  fun i H=>∃ xs ys,SqL K H a xs∧SqL K H b ys∧(xs.length≤i∨ys.length≤i)⟩
theorem qO5 {P:Program}{w:World}{K:PySem.W.Frag}{elts:List Expr}{k1:Nat}{pos:Pos}(z TI TO i1 i2 a b:Addr)(n0:z≠TI∧z≠TO∧z≠i1∧z≠i2∧TI≠TO∧TI≠i1∧TI≠i2∧TO≠i1∧TO≠i2∧i1≠i2):
 qTv P w K (.Tuple elts k1 pos) (Itz K a b) [z,TI,TO,i1,i2] z (fun i h=>IsZip h z TI TO .none∧IsPair h TI (.ref i1) (.ref i2)∧(∃ u v,IsPair h TO u v)∧h.IsListIter i1 a i∧h.IsListIter i2 b i) where
 mem:=by simp
 obj:=fun i h st c hc=>by
  obtain⟨hz,hTI,⟨u,v,hTO⟩,⟨o1,e1,_,d1⟩,o2,e2,_,d2⟩:=st
  simp only [List.mem_cons,List.not_mem_nil,or_false] at hc
  rcases hc with rfl | rfl | rfl | rfl | rfl
  · exact⟨_,hz,fun v z=>by cases z⟩
  · exact⟨_,hTI,fun v z=>by cases z⟩
  · exact⟨_,hTO,fun v z=>by cases z⟩
  · exact⟨o1,e1,fun v z=>by rw [d1] at z;cases z⟩
  · exact⟨o2,e2,fun v z=>by rw [d2] at z;cases z⟩
 keep:=fun i h h' st k=>by
  obtain⟨hz,hTI,⟨u,v,hTO⟩,h1,h2⟩:=st
  exact⟨k z (by simp) _ hz,k TI (by simp) _ hTI,⟨u,v,k TO (by simp) _ hTO⟩,h1.at fun o q=>k i1 (by simp) o q,h2.at fun o q=>k i2 (by simp) o q⟩
 item:=by
  intro X hP hw hK hc i pins s σ H E I hf st hg
  subst hP hw hK
  obtain⟨hz,hTI,⟨u0,v0,hTO⟩,h1,h2⟩:=st
  obtain⟨xs,ys,x,y,hq1,hq2,hx,hy⟩:=hg
  obtain⟨its1,rv1,p1,hz1⟩:=I.list hq1
  obtain⟨its2,rv2,p2,hz2⟩:=I.list hq2
  obtain⟨u,hu,ru⟩:=rv1.get hx
  obtain⟨u',hu',ru'⟩:=rv2.get hy
  have free:∀ c∈[z,TI,TO,i1,i2],H c=none:=fun c hc=>(hf c hc).1
  have nl:∀ (l:Addr) (zs:List V),SqL X.K H l zs→∀ c∈[z,TI,TO,i1,i2],l≠c:=fun l zs hl c hc e=>by
   subst e
   rcases hl with (q | ⟨o,q⟩) | ⟨o,its,n,q,_⟩
   · rw [free _ hc] at q;cases q
   · rw [free _ hc] at q;cases q
   · have q1:=(I.bs l o (I.ok.mod.kin l o q)).1
     have:=hf l hc
     rcases this.2.2.2.1 with q2 | q2
     · exact I.ok.noex l o (I.ok.mod.kin l o q) q2
     · exact Nat.lt_irrefl _ (Nat.lt_of_lt_of_le (Nat.lt_of_lt_of_le (Heap.lt_size (I.ok.mod.kin l o q)) I.ok.bsz) q2)
  obtain⟨n1,n2,n3,n4,n5,n6,n7,n8,n9,n10⟩:=n0
  have D:ZipApart z TI TO i1 i2 a b:=⟨n1.symm,n2.symm,n3.symm,n4.symm,n5,n6,n7,n8,n9,n10,nl a xs hq1 z (by simp),nl a xs hq1 TO (by simp),nl a xs hq1 i1 (by simp),nl a xs hq1 i2 (by simp),nl b ys hq2 z (by simp),nl b ys hq2 TO (by simp),nl b ys hq2 i1 (by simp),nl b ys hq2 i2 (by simp)⟩
  refine wpAny_pyNext_zip_item D hz hTI hTO h1 h2 p1.isList p2.isList (x:=u) (y:=u') (by simpa using hu) (by simpa using hu') fun h' hz' hTO' h1' h2' hT hsz hk=>?_
  refine⟨_,rfl,wpAny_letOwnedTupleGo_zip hz' fun h'' hz'' hs''=>?_⟩
  have lt:∀ c∈[z,TI,TO,i1,i2],c < s.heap.objs.size:=fun c hc=>by
   simp only [List.mem_cons,List.not_mem_nil,or_false] at hc
   rcases hc with rfl | rfl | rfl | rfl | rfl
   · exact Heap.lt_size hz
   · exact Heap.lt_size hTI
   · exact Heap.lt_size hTO
   · obtain⟨_,q,_⟩:=h1;exact Heap.lt_size q
   · obtain⟨_,q,_⟩:=h2;exact Heap.lt_size q
  have up:∀ c o,c≠z→h'.get? c=some o→h''.get? c=some o:=fun c o hc q=>(hs''.2 c hc).trans q
  have T:=qQk (h':=h'') (t':=s.toks) (ch:=[z,TI,TO,i1,i2]) (xs:=[x,y]) (us:=#[u,u']) I hf lt
   (fun c o hc q=>up c o (fun e=>hc (by simp [e])) (hk c o (fun e=>hc (by simp [e])) (fun e=>hc (by simp [e])) (fun e=>hc (by simp [e])) (fun e=>hc (by simp [e])) q))
   (up _ _ (Nat.ne_of_gt (lt z (by simp))) hT) (.cons ru (.cons ru' .nil)) (by show 2≤sizeLine;decide)
  refine⟨.ref s.heap.objs.size,_,T.1,rfl,⟨_,x,y,I.hok.fresh (Nat.le_refl _),rfl,fun zs hzs=>by rw [I.list_inj hzs hq1];exact hx,fun zs hzs=>by rw [I.list_inj hzs hq2];exact hy,rfl⟩,?_,T.2⟩
  exact⟨hz'',up _ _ n1.symm (hk _ _ n1.symm n5 n6 n7 hTI),⟨_,_,up _ _ n2.symm hTO'⟩,h1'.at fun o q=>up _ o n3.symm q,h2'.at fun o q=>up _ o n4.symm q⟩
 done:=by
  intro X hP hw hK hc i pins s σ H E I hf st hg
  subst hP hw hK
  obtain⟨hz,hTI,⟨u0,v0,hTO⟩,h1,h2⟩:=st
  obtain⟨xs,ys,hq1,hq2,hend⟩:=hg
  obtain⟨its1,rv1,p1,hz1⟩:=I.list hq1
  obtain⟨its2,rv2,p2,hz2⟩:=I.list hq2
  have free:∀ c∈[z,TI,TO,i1,i2],H c=none:=fun c hc=>(hf c hc).1
  have nl:∀ (l:Addr) (zs:List V),SqL X.K H l zs→∀ c∈[z,TI,TO,i1,i2],l≠c:=fun l zs hl c hc e=>by
   subst e
   rcases hl with (q | ⟨o,q⟩) | ⟨o,its,n,q,_⟩
   · rw [free _ hc] at q;cases q
   · rw [free _ hc] at q;cases q
   · rcases (hf l hc).2.2.2.1 with q2 | q2
     · exact I.ok.noex l o (I.ok.mod.kin l o q) q2
     · exact Nat.lt_irrefl _ (Nat.lt_of_lt_of_le (Nat.lt_of_lt_of_le (Heap.lt_size (I.ok.mod.kin l o q)) I.ok.bsz) q2)
  obtain⟨n1,n2,n3,n4,n5,n6,n7,n8,n9,n10⟩:=n0
  have D:ZipApart z TI TO i1 i2 a b:=⟨n1.symm,n2.symm,n3.symm,n4.symm,n5,n6,n7,n8,n9,n10,nl a xs hq1 z (by simp),nl a xs hq1 TO (by simp),nl a xs hq1 i1 (by simp),nl a xs hq1 i2 (by simp),nl b ys hq2 z (by simp),nl b ys hq2 TO (by simp),nl b ys hq2 i1 (by simp),nl b ys hq2 i2 (by simp)⟩
  have l1:=rv1.length
  have l2:=rv2.length
  refine wpAny_pyNext_zip_end (I.ok.hd hc) D hz hTI hTO h1 h2 p1.isList p2.isList ?_ fun h' hk=>⟨rfl,qMw (t':=s.toks) (ch:=[z,TI,TO,i1,i2]) I hf fun c o hc q=>hk c o (fun e=>hc (by simp [e])) (fun e=>hc (by simp [e])) (fun e=>hc (by simp [e])) (fun e=>hc (by simp [e])) q⟩
  rcases hend with q | q
  · exact .inl (by simp;omega)
  · exact .inr (by simp;omega)
 self:=fun _ _ _ _ _ st h=>wpAny_pyIter_zip st.1 h
theorem qLw (n:Nat):n+4≠n+2∧n+4≠n+3∧n+4≠n∧n+4≠n+1∧n+2≠n+3∧n+2≠n∧n+2≠n+1∧n+3≠n∧n+3≠n+1∧n≠n+1:=by omega
def qWe (K:PySem.W.Frag)(t:TA):TI:=fun σ H R=>t σ H fun vs H1=>∃ a b,vs=[.ref a,.ref b]∧(∃ xs,SqL K H1 a xs)∧(∃ ys,SqL K H1 b ys)∧R (Itz K a b) H1
theorem qTd {X:Cx}{l l':Expr}{tl:TA}{elts:List Expr}{k1:Nat}{tpos p pos:Pos}(hg:Gl X "zip")(hm:X.mg "zip"=none)(hl:PA X [l,l'] tl)(hs:starEach [l,l'] X.env=[(false,eval l X.env),(false,eval l' X.env)]:=by rfl)(hs2:starEach [l'] X.env=[(false,eval l' X.env)]:=by rfl):
 PI X (.Tuple elts k1 tpos) (.Call (.Name "zip" p) [l,l'] [] pos) (qWe X.K tl):=by
 intro pins s σ H R I h
 refine Call_ (qEv I hg hm boot_zip (PyProof.Rows.callWith_type1 (thn (hl pos pins s σ H _ I h) fun us s1 ⟨vs,H1,I1,r1,q1⟩=>?_) (by rw [hs,hs2]) (by rw [hs2];rfl)))
 obtain⟨a,b,e,⟨xs,hq1⟩,⟨ys,hq2⟩,q⟩:=q1
 subst e
 cases r1 with
 | cons r rr=>
  cases rr with
  | cons r' rr=>
   cases rr
   cases r
   cases r'
   obtain⟨its1,rv1,p1,hz1⟩:=I1.list hq1
   obtain⟨its2,rv2,p2,hz2⟩:=I1.list hq2
   refine call_zip_2 p1.isList p2.isList fun h' hz hTI hTO h1 h2 hsz hk=>?_
   refine wpAny_pyIter_zip hz ?_
   refine⟨s1.heap.objs.size+4,[s1.heap.objs.size+4,s1.heap.objs.size+2,s1.heap.objs.size+3,s1.heap.objs.size,s1.heap.objs.size+1],_,_,H1,rfl,I1.kept (t':=s1.toks) fun c o e=>hk c o e,qO5 _ _ _ _ _ a b (qLw _),⟨hz,hTI,⟨_,_,hTO⟩,h1,h2⟩,fun c hc=>?_,q⟩
   have hle:s1.heap.objs.size≤c:=by
    simp only [List.mem_cons,List.not_mem_nil,or_false] at hc
    rcases hc with rfl | rfl | rfl | rfl | rfl <;> omega
   exact I1.fpOk hle (I1.hok.fresh hle)
theorem qRi {K:PySem.W.Frag}{a b:Addr}{xs ys:List V}{g:TG}{tb:TS}{D:qK1}{σ:L2.St}{H:Hp}(Pv:Nat→L2.St→Hp→Prop)(hlen:xs.length=ys.length)(h0:Pv 0 σ H)(hl:∀ i σ H,i≤xs.length→Pv i σ H→SqL K H a xs∧SqL K H b ys)
 (hs:∀ i x y σ H p,xs[i]? =some x→ys[i]? =some y→Pv i σ H→H p=none→g (.ref p) σ (upd H p (.tup [x,y])) fun σ2 H2=>tb {D with nx:=Pv (i+1),ct:=Pv (i+1),bk:=D.nx} σ2 H2) (hd:∀ σ H,Pv xs.length σ H→D.nx σ H):
 ∃ W:Nat→Nat→L2.St→Hp→Prop,(∃ m,W 0 m σ H)∧∀ i m σ H,W i m σ H→
  ((Itz K a b).stop i H∧D.nx σ H)∨((Itz K a b).go i H∧∃ N:L2.St→Hp→Prop,(∀ σ' H',N σ' H'→∃ m',m' < m∧W (i+1) m' σ' H')∧∀ x H',(Itz K a b).yld i H x H'→g x σ H' fun σ2 H2=>tb {D with nx:=N,ct:=N,bk:=D.nx} σ2 H2):=by
 refine⟨fun i m σ H=>m=xs.length - i∧i≤xs.length∧Pv i σ H,⟨xs.length,by simp,Nat.zero_le _,h0⟩,?_⟩
 rintro i m σ H ⟨rfl,hi,p⟩
 obtain⟨q1,q2⟩:=hl i σ H hi p
 by_cases hlt:i < xs.length
 · have hlt2:i < ys.length:=by omega
   refine .inr ⟨⟨xs,ys,xs[i],ys[i],q1,q2,by simp [hlt],by simp [hlt2]⟩,Pv (i+1),fun σ' H' p'=>⟨xs.length - (i+1),by omega,rfl,hlt,p'⟩,fun x H' y=>?_⟩
   obtain⟨z,v,u,hz,rfl,y1,y2,rfl⟩:=y
   exact hs i v u σ _ z (y1 xs q1) (y2 ys q2) p hz
 · have e:i=xs.length:=by omega
   subst e
   exact .inl ⟨⟨xs,ys,q1,q2,.inl (Nat.le_refl _)⟩,hd σ H p⟩
section
variable {P : Program} {w : World} {K : PySem.W.Frag}
end
section
variable {X : Cx} {pins : List (Addr × Obj)} {σ : L2.St} {H : Hp} {s : Shared}
end
theorem wN {X:Cx}{K:PySem.W.Frag}(h:X.K=K):qDr X (.type "list") (fun xs H Q=>∃ p ys,xs=[.ref p]∧(SqL K H p ys∨SqT K H p ys)∧∀ l,H l=none→Q (.ref l) (upd H l (.lst ys))):=h ▸ kr
end L3
set_option maxRecDepth 100000
namespace L3
open PySem PySem.Spec PyProof.Rows L2
variable {X : Cx}
end L3
namespace L3
open PySem PySem.Spec PyProof.Rows L2 PySem.NumText PySem.Builtin.Str
def qU3 (l:List Nat):List Nat:=if l.head?=some 45 then l.tail else l
def qWt (c:Nat):Bool:=!(occurrences "0123456789" ⟨#[c]⟩ 0 ("0123456789":Str).length 1).isEmpty
structure Fig (l:List Nat):Prop where
 ne:qU3 l≠[]
 len:(qU3 l).length≤60
 all:(qU3 l).all qWt=true
end L3
namespace L3
open PySem PySem.Spec PyProof.Rows L2 PySem.NumText PySem.Builtin.Str
inductive qOu (l:List Nat):List Str→Prop where
 | none (h:l=[]):qOu l []
 | one {p:Str} (h:l=p.cps.toList) (hf:47 ∉ l):qOu l [p]
 | two {p q:Str} (h:l=p.cps.toList++47::q.cps.toList) (hp:47 ∉ p.cps.toList) (hq:47 ∉ q.cps.toList):qOu l [p,q]
 | more {p q r:Str} {t:List Str} (rest:List Nat) (h:l=p.cps.toList++47::rest) (hp:47 ∉ p.cps.toList) (hq:47∈rest):qOu l (p::q::r::t)
def XES (X:Cx)(Ex:Value→Option Addr→L2.St→Hp→Prop):Value→Shared→Prop:=fun e s'=>∃ ea C σ H',e= .ref ea∧Inv X [] σ H' s'∧qPw X.s₀.heap H' X.pn s'.heap ea C∧Ex C.1 C.2 σ H'
def qT5 (sp:Sp)(Ex:Value→Option Addr→L2.St→Hp→Prop)(t:TA):TE:=fun σ H Q=>t σ H fun vs H1=>sp (vs++[]) H1 Q fun C od H'=>Ex C od σ H'
theorem qTi {X:Cx}{Ex:Value→Option Addr→L2.St→Hp→Prop}(hex:X.ex=[]){pins:List (Addr × Obj)}{σ:L2.St}{H:Hp}{s:Shared}{e:Value}{s':Shared}(I:Inv (X.wish (XES X Ex)) pins σ H s)
 (h:CXR X.prog X.w X.stack H s (fun C od H'=>Ex C od σ H') e s'):XES X Ex e s':=by
 obtain⟨ea,C,H',rfl,os,bare,un,hok,⟨n1,hd,r,n3⟩,q⟩:=h
 have I0:=I.unwish
 have I1:Inv X pins σ H' s':=I0.call' (ch:=[]) os un hok bare fun b z=>nomatch z
 have old:∀ b,s.heap.get? b=none→X.s₀.heap.get? b=none:=fun b z=>by
  cases w:X.s₀.heap.get? b with
  | none=>rfl
  | some o=>
   obtain⟨o',w'⟩:=I0.base.there b o w (by rw [hex];intro y;cases y)
   rw [z] at w';cases w'
 have pn:∀ b,s.heap.get? b=none→∀ p∈X.pn,p.1≠b:=fun b z p hp w=>by
  have q:=(I0.pin p (List.mem_append_left _ hp)).1
  rw [w,z] at q;cases q
 exact⟨ea,C,σ,H',rfl,I1.pins_of (pins':=[]) fun p hp=>(nomatch hp),⟨⟨old _ n1.1,n1.2.1,pn _ n1.1⟩,hd,r,fun T e=>⟨old _ (n3 T e).1,(n3 T e).2.1,pn _ (n3 T e).1⟩⟩,q⟩
theorem qPs {X:Cx}{Ex:Value→Option Addr→L2.St→Hp→Prop}{k j:Nat}{x:Str}{st:Stmt}{ps:List Str}{f:Addr}{fd:FuncData}{sp:Sp}{e:Expr}{es:List Expr}{t:TA}{p pos:Pos}(D:Def X.K X.mg x st ps f fd)(F:FnOk X.prog X.w X.K X.mg X.base (CXR X.prog X.w) j f fd ps sp)(hr:Room k X.A)(hg:Gl X x)
 (ha:PA (X.wish (XES X Ex)) (e::es) t) (hj:j≤k:=by decide) (hex:X.ex=[]:=by rfl)
 (hdb:(x == ("__debug__":Str))=false:=by decide) (he:starEach (e::es) X.env=(false,eval e X.env)::starEach es X.env:=by rfl) (hpl:(backTo pos (starEach es X.env)).any (·.1)=false:=by rfl):
 PE (X.wish (XES X Ex)) (.Call (.Name x p) (e::es) [] pos) (qT5 sp Ex t):=by
 intro pins s σ H Q I h
 refine wpAny_Call_Name_kw (vF I hg D.m ?_ hdb)
 refine PySem.W.callWith_K (h₀:=X.base) I.ok.mod.kin D.F.kp (thn (ha pos pins s σ H _ I h) fun us s1 ⟨vs,H1,I1,r,q⟩=>⟨I1.kIn,?_⟩) he hpl
 have r2:Vals (vs++[]) (us++[]):=r.append .nil
 have hl:(us++[]).length=ps.length:=by rw [← r2.length];exact F.len _ _ _ _ q
 refine wpAny_call (codeAny_mono (F.run X.A X.stack s1 H1 ⟨us,[]⟩ (us++[]) (vs++[]) Q _ (hr.mono hj) I1.env0 (D.b s1 us I1.kIn hl) r2 q) fun r s' hq=>?_)
 cases r with
 | error e=>exact qTi hex I1 hq
 | ok fl=>
  cases fl with
  | ret u=>exact I1.after hq
  | next=>exact False.elim hq
  | brk=>exact False.elim hq
  | cont=>exact False.elim hq
def qSx (K:PySem.W.Frag)(Ex:Value→Option Addr→L2.St→Hp→Prop)(C:Addr)(i:Option Nat)(tb ts:TS):TS:=fun D σ H=>tb D σ H∧∀ (ea:Addr) (B:EC) (σ':L2.St) (H':Hp),Ex B.1 B.2 σ' H'→H' ea=none→σ'.length=σ.length→
 PySem.W.exmOne K B.1 (.ref C)=some true∧ts (qGg D i) (qRh i ea σ') (upd H' ea (qDz ea B))
theorem qRx {X:Cx}{body:List Stmt}{b₀:Stmt}{suite:List Stmt}{x:Str}{C:Addr}{nm:Option Str}{i:Option Nat}{np hpos pos:Pos}{tb ts:TS}(Ex:Value→Option Addr→L2.St→Hp→Prop)
 (hcl:qB4 X nm i) (hN:X.N.Nodup) (hg:Gl X x) (hm:X.mg x=some (.ref C))
 (hb:∀ l,PSs ((pnX X l).wish (XES (pnX X l) Ex)) body tb) (hs:∀ l ea,PSs (hdX (pnX X l) ea).nox (b₀::suite) ts)
 (hstk:X.stack=X.env::X.outer:=by rfl) (hfr:X.env.frame=some X.env.locals:=by rfl) (hex:X.ex=[]:=by rfl) (hdb:(x == ("__debug__":Str))=false:=by decide):
 PS X (.Try body [.ExceptHandler (some (.Name x np)) nm (b₀::suite) hpos] [] [] pos) (qSx X.K Ex C i tb ts):=by
 rintro pins s σ H D I ⟨h1,h2⟩
 have I0:=qN0 I
 refine wpAny_Try_except (wpAny_mono (hb (X.pn++pins) [] s σ H D (I0.wish _) h1) (fun f s1 q=>?_) fun e s1 q=>?_)
 · have q:=q.unwish
   cases f with
   | next=>
    obtain⟨σ',H',J,z⟩:=q
    exact wpAny_execs_nil ⟨σ',H',jk J,z⟩
   | brk=>
    obtain⟨σ',H',J,z⟩:=q
    exact⟨σ',H',jk J,z⟩
   | cont=>
    obtain⟨σ',H',J,z⟩:=q
    exact⟨σ',H',jk J,z⟩
   | ret u=>
    obtain⟨v,σ',H',J,r,z⟩:=q
    exact⟨v,σ',H',jk J,r,z⟩
 · obtain⟨ea,B,σ',H',rfl,I1,⟨n1,hd,r,n3⟩,ex⟩:=q
   have hlen:σ'.length=σ.length:=I1.len.trans I.len.symm
   obtain⟨hx,ht⟩:=h2 ea B σ' H' ex n1.2.1 hlen
   have fr:X.A.frames=some (X.env::X.outer):=by rw [← hstk];exact I.ok.frames
   have ff:s1.heap.FunFrames X.base (X.env::X.outer):=by
    have z:=I1.stack
    rw [show (pnX X (X.pn++pins)).stack=X.env::X.outer from hstk] at z
    exact z
   refine qFs fr ff hfr r fun h' N'=>?_
   have N':Noted (frs X.stack) ea hd B s1.heap h':=by rw [hstk];exact N'
   obtain⟨I2,n1,hd2,r2,n3⟩:=jq I1 hex r n1 n3 N'
   refine wpAny_handleBy_cons (codeAny_handlers_test (vF (X:=hdX (pnX X (X.pn++pins)) ea) (wV I2) hg hm ?_ hdb)) (by intro z;cases z)
   have LT:PySem.W.Looks (model X.prog X.w) h' (typeOf (.ref ea)) B.1:=by
    obtain⟨vs,sl,qe,_⟩:=r2
    exact(PySem.W.Looks.ld qe).andThen .now
   refine(PySem.W.exm_one (M:=model X.prog X.w) I2.kIn LT hx).here ?_
   show codeAny _ _ _ _ _
   obtain⟨T,rfl,r3⟩:∃ T,hd2=some T∧zp h' ea B (some T):=by
    obtain⟨T,_,_⟩:=N'.ent
    cases hd2 with
    | some T=>exact⟨T,rfl,r2⟩
    | none=>
     obtain⟨T,_,rT⟩:=N'.ent
     obtain⟨vs,sl,q1,q2⟩:=r2
     obtain⟨vs',sl',q1',q2',_⟩:=rT
     rw [q1] at q1'
     cases q1'
     rw [q2] at q2'
     cases q2'
   have run:∀ (s4:Shared) (σ4:L2.St) (Q:Flow→Shared→Prop) (E:Value→Shared→Prop),Inv (hdX (pnX X (X.pn++pins)) ea) [] σ4 (upd H' ea (qDz ea B)) s4→ts (qGg D i) σ4 (upd H' ea (qDz ea B))→
    (∀ f s5,SP (hdX (pnX X (X.pn++pins)) ea) [] (qGg D i) f s5→Q f s5)→wpAny (model X.prog X.w) (X.A.mark (some (.ref ea))) (execs (b₀::suite) X.env) Q E s4:=fun s4 σ4 Q E I4 z k=>
    wpAny_mono (hs (X.pn++pins) ea [] s4 σ4 _ _ (I4.wish _) z) (fun f s5 q=>k f s5 q.unwish) fun _ _ z=>z.elim
   have hdn:(pnX X (X.pn++pins)).calm=true→(pnX X (X.pn++pins)).A.handled=none:=I2.ok.hd
   cases hcl with
   | none=>
    refine codeAny_handlers_suite (zG r3 fun h3 N3=>?_)
    obtain⟨I3,n1,hd3,r4,n3⟩:=jq I2 hex r3 n1 n3 (N3 _)
    refine run _ _ _ _ (wV (zr I3 hex n1 r4)) ht fun f s5 q=>?_
    cases f with
    | next=>obtain⟨σ5,H5,J,z⟩:=q;exact⟨σ5,H5,jk (xp J hdn),z⟩
    | brk=>obtain⟨σ5,H5,J,z⟩:=q;exact⟨σ5,H5,jk (xp J hdn),z⟩
    | cont=>obtain⟨σ5,H5,J,z⟩:=q;exact⟨σ5,H5,jk (xp J hdn),z⟩
    | ret u=>obtain⟨v,σ5,H5,J,rv,z⟩:=q;exact⟨v,σ5,H5,jk (xp J hdn),rv,z⟩
   | some hi hl=>
    refine codeAny_handlers_suite_as (zG r3 fun h3 N3=>?_)
    obtain⟨I3,n1,hd3,r4,n3⟩:=jq I2 hex r3 n1 n3 (N3 _)
    refine zJ (X:=hdX (pnX X (X.pn++pins)) ea) (v:=.ref ea) (wV (zr I3 hex n1 r4)) hN hi (.inl hl) rfl (fun s4 I4=>?_) (.inr hl)
    refine run _ _ _ _ I4 ht fun f s5 q=>?_
    cases f with
    | next=>obtain⟨σ5,H5,J,z⟩:=q;exact jd (X:=pnX X (X.pn++pins)) (xp J hdn) hN hi hl fun s6 J6=>⟨_,H5,jk J6,z⟩
    | brk=>obtain⟨σ5,H5,J,z⟩:=q;exact jd (X:=pnX X (X.pn++pins)) (xp J hdn) hN hi hl fun s6 J6=>⟨_,H5,jk J6,z⟩
    | cont=>obtain⟨σ5,H5,J,z⟩:=q;exact jd (X:=pnX X (X.pn++pins)) (xp J hdn) hN hi hl fun s6 J6=>⟨_,H5,jk J6,z⟩
    | ret u=>obtain⟨v,σ5,H5,J,rv,z⟩:=q;exact jd (X:=pnX X (X.pn++pins)) (xp J hdn) hN hi hl fun s6 J6=>⟨v,_,H5,jk J6,rv,z⟩
theorem qP0 {A:Around}{s:Shared}{y x:V}{u v:Value}(ry:RelV y u)(rx:RelV x v)(fy:zc y=true)(fx:zc x=true):SeqAt.RcAt A s u v (eqV y x)∧SeqAt.RcNeAt A s u v (!eqV y x):=by
 cases y with
 | non=>
  cases ry
  cases x with
  | non=>cases rx;exact⟨SeqAt.RcAt.none_none,SeqAt.RcNeAt.none_none⟩
  | bl b=>cases rx;exact⟨SeqAt.RcAt.none_bool b,SeqAt.RcNeAt.none_bool b⟩
  | int b=>obtain⟨t,rfl⟩:=rx;exact⟨SeqAt.RcAt.none_int b t,SeqAt.RcNeAt.none_int b t⟩
  | str b=>obtain⟨t,rfl⟩:=rx;exact⟨SeqAt.RcAt.none_str b t,SeqAt.RcNeAt.none_str b t⟩
  | _=>exact absurd (show false=true from fx) Bool.false_ne_true
 | bl a=>
  cases ry
  cases x with
  | non=>cases rx;exact⟨SeqAt.RcAt.bool_none a,SeqAt.RcNeAt.bool_none a⟩
  | bl b=>cases rx;exact⟨SeqAt.RcAt.bool_bool a b,SeqAt.RcNeAt.bool_bool a b⟩
  | int b=>obtain⟨t,rfl⟩:=rx;exact⟨SeqAt.RcAt.bool_int a b t,SeqAt.RcNeAt.bool_int a b t⟩
  | str b=>obtain⟨t,rfl⟩:=rx;exact⟨SeqAt.RcAt.bool_str a b t,SeqAt.RcNeAt.bool_str a b t⟩
  | _=>exact absurd (show false=true from fx) Bool.false_ne_true
 | int a=>
  obtain⟨t',rfl⟩:=ry
  cases x with
  | non=>cases rx;exact⟨SeqAt.RcAt.int_none a t',SeqAt.RcNeAt.int_none a t'⟩
  | bl b=>cases rx;exact⟨SeqAt.RcAt.int_bool a t' b,SeqAt.RcNeAt.int_bool a t' b⟩
  | int b=>obtain⟨t,rfl⟩:=rx;exact⟨SeqAt.RcAt.int_int a t' b t,SeqAt.RcNeAt.int_int a t' b t⟩
  | str b=>obtain⟨t,rfl⟩:=rx;exact⟨SeqAt.RcAt.int_str a t' b t,SeqAt.RcNeAt.int_str a t' b t⟩
  | _=>exact absurd (show false=true from fx) Bool.false_ne_true
 | str a=>
  obtain⟨t',rfl⟩:=ry
  cases x with
  | non=>cases rx;exact⟨SeqAt.RcAt.str_none a t',SeqAt.RcNeAt.str_none a t'⟩
  | bl b=>cases rx;exact⟨SeqAt.RcAt.str_bool a t' b,SeqAt.RcNeAt.str_bool a t' b⟩
  | int b=>obtain⟨t,rfl⟩:=rx;exact⟨SeqAt.RcAt.str_int a t' b t,SeqAt.RcNeAt.str_int a t' b t⟩
  | str b=>obtain⟨t,rfl⟩:=rx;exact⟨SeqAt.RcAt.str_str a t' b t,SeqAt.RcNeAt.str_str a t' b t⟩
  | _=>exact absurd (show false=true from fx) Bool.false_ne_true
 | _=>exact absurd (show false=true from fy) Bool.false_ne_true
theorem jm {A:Around}{s:Shared}{x:V}{u:Value}{p:Addr}{its:Array Value}(f:zc x=true)(r:RelV x u)(hu:A.units < cLine)(h:s.heap.IsTuple p its∨s.heap.IsList p its):
 (SeqAt.RcAt A s u (.ref p) false∧SeqAt.RcAt A s (.ref p) u false)∧SeqAt.RcNeAt A s u (.ref p) true∧SeqAt.RcNeAt A s (.ref p) u true:=by
 cases x with
 | non=>
  cases r
  rcases h with h | h
  · exact⟨⟨SeqAt.RcAt.none_tuple h hu,SeqAt.RcAt.tuple_none h hu⟩,SeqAt.RcNeAt.none_tuple h hu,SeqAt.RcNeAt.tuple_none h hu⟩
  · exact⟨⟨SeqAt.RcAt.none_list h hu,SeqAt.RcAt.list_none h hu⟩,SeqAt.RcNeAt.none_list h hu,SeqAt.RcNeAt.list_none h hu⟩
 | bl b=>
  cases r
  rcases h with h | h
  · exact⟨⟨SeqAt.RcAt.bool_tuple _ h hu,SeqAt.RcAt.tuple_bool _ h hu⟩,SeqAt.RcNeAt.bool_tuple _ h hu,SeqAt.RcNeAt.tuple_bool _ h hu⟩
  · exact⟨⟨SeqAt.RcAt.bool_list _ h hu,SeqAt.RcAt.list_bool _ h hu⟩,SeqAt.RcNeAt.bool_list _ h hu,SeqAt.RcNeAt.list_bool _ h hu⟩
 | int i=>
  obtain⟨t,rfl⟩:=r
  rcases h with h | h
  · exact⟨⟨SeqAt.RcAt.int_tuple _ _ h hu,SeqAt.RcAt.tuple_int _ _ h hu⟩,SeqAt.RcNeAt.int_tuple _ _ h hu,SeqAt.RcNeAt.tuple_int _ _ h hu⟩
  · exact⟨⟨SeqAt.RcAt.int_list _ _ h hu,SeqAt.RcAt.list_int _ _ h hu⟩,SeqAt.RcNeAt.int_list _ _ h hu,SeqAt.RcNeAt.list_int _ _ h hu⟩
 | str i=>
  obtain⟨t,rfl⟩:=r
  rcases h with h | h
  · exact⟨⟨SeqAt.RcAt.str_tuple _ _ h hu,SeqAt.RcAt.tuple_str _ _ h hu⟩,SeqAt.RcNeAt.str_tuple _ _ h hu,SeqAt.RcNeAt.tuple_str _ _ h hu⟩
  · exact⟨⟨SeqAt.RcAt.str_list _ _ h hu,SeqAt.RcAt.list_str _ _ h hu⟩,SeqAt.RcNeAt.str_list _ _ h hu,SeqAt.RcNeAt.list_str _ _ h hu⟩
 | _=>cases f
inductive qQm (K:PySem.W.Frag)(neg:Bool)(x:V)(y:V)(H:Hp)(Q:VK):Prop
| mk (d e:D) (_:Rep K H d x) (_:Rep K H e y) (_:dep d≤60) (_:Q (.bl (if neg then !eqD d e else eqD d e)) H)
theorem qSk {X:Cx}(hu:X.A.units+64 < cLine):OpR X (compareOp .Eq) (qQm X.K false):=by
 intro pins s σ H x y v u Q I rx ry h
 obtain⟨d,e,r1,r2,hd,q⟩:=h
 have hu0:X.A.units < cLine:=by omega
 by_cases hk:kin d e=true
 · exact qQe hu pins s σ H x y v u Q I rx ry ⟨d,e,r1,r2,hk,hd,q⟩
 have ep:∀ b,b=eqD d e→EP X pins σ Q (.bool b) s:=fun b h=>⟨.bl b,H,I,rfl,by rw [h];exact q⟩
 cases d with
 | leaf a=>
  have r1':=r1
  unfold Rep at r1'
  obtain⟨rfl,f1⟩:=r1'
  cases e with
  | leaf b=>
   have r2':=r2
   unfold Rep at r2'
   obtain⟨rfl,f2⟩:=r2'
   exact(qP0 rx ry f1 f2).1 _ _ _ _ (ep _ (by unfold eqD;rfl))
  | tup es=>
   have r2':=r2
   unfold Rep at r2'
   obtain⟨p,ys,rfl,t,_⟩:=r2'
   cases ry
   obtain⟨_,_,i,_⟩:=I.tuple t
   exact(jm f1 rx hu0 (.inl i)).1.1 _ _ _ _ (ep _ (by unfold eqD;rfl))
  | lst es=>
   have r2':=r2
   unfold Rep at r2'
   obtain⟨p,ys,rfl,t,_⟩:=r2'
   cases ry
   obtain⟨_,_,i,_⟩:=I.list t
   exact(jm f1 rx hu0 (.inr i.isList)).1.1 _ _ _ _ (ep _ (by unfold eqD;rfl))
 | tup ds=>
  have r1':=r1
  unfold Rep at r1'
  obtain⟨p,xs,rfl,t1,_⟩:=r1'
  cases rx
  obtain⟨_,_,i1,_⟩:=I.tuple t1
  cases e with
  | leaf b=>
   have r2':=r2
   unfold Rep at r2'
   obtain⟨rfl,f2⟩:=r2'
   exact(jm f2 ry hu0 (.inl i1)).1.2 _ _ _ _ (ep _ (by unfold eqD;rfl))
  | tup es=>exact absurd rfl hk
  | lst es=>
   have r2':=r2
   unfold Rep at r2'
   obtain⟨p',ys,rfl,t,_⟩:=r2'
   cases ry
   obtain⟨_,_,i,_⟩:=I.list t
   exact SeqAt.RcAt.tuple_list i1 i.isList hu0 _ _ _ _ (ep _ (by unfold eqD;rfl))
 | lst ds=>
  have r1':=r1
  unfold Rep at r1'
  obtain⟨p,xs,rfl,t1,_⟩:=r1'
  cases rx
  obtain⟨_,_,i1,_⟩:=I.list t1
  cases e with
  | leaf b=>
   have r2':=r2
   unfold Rep at r2'
   obtain⟨rfl,f2⟩:=r2'
   exact(jm f2 ry hu0 (.inr i1.isList)).1.2 _ _ _ _ (ep _ (by unfold eqD;rfl))
  | lst es=>exact absurd rfl hk
  | tup es=>
   have r2':=r2
   unfold Rep at r2'
   obtain⟨p',ys,rfl,t,_⟩:=r2'
   cases ry
   obtain⟨_,_,i,_⟩:=I.tuple t
   exact SeqAt.RcAt.list_tuple i1.isList i hu0 _ _ _ _ (ep _ (by unfold eqD;rfl))
theorem wT {X:Cx}(hu:X.A.units+64 < cLine):OpR X (compareOp .NotEq) (qQm X.K true):=by
 intro pins s σ H x y v u Q I rx ry h
 obtain⟨d,e,r1,r2,hd,q⟩:=h
 have hu0:X.A.units < cLine:=by omega
 by_cases hk:kin d e=true
 · exact qOa hu pins s σ H x y v u Q I rx ry ⟨d,e,r1,r2,hk,hd,q⟩
 have ep:∀ b,b=(!eqD d e)→EP X pins σ Q (.bool b) s:=fun b h=>⟨.bl b,H,I,rfl,by rw [h];exact q⟩
 cases d with
 | leaf a=>
  have r1':=r1
  unfold Rep at r1'
  obtain⟨rfl,f1⟩:=r1'
  cases e with
  | leaf b=>
   have r2':=r2
   unfold Rep at r2'
   obtain⟨rfl,f2⟩:=r2'
   exact(qP0 rx ry f1 f2).2 _ _ _ _ (ep _ (by unfold eqD;rfl))
  | tup es=>
   have r2':=r2
   unfold Rep at r2'
   obtain⟨p,ys,rfl,t,_⟩:=r2'
   cases ry
   obtain⟨_,_,i,_⟩:=I.tuple t
   exact(jm f1 rx hu0 (.inl i)).2.1 _ _ _ _ (ep _ (by unfold eqD;rfl))
  | lst es=>
   have r2':=r2
   unfold Rep at r2'
   obtain⟨p,ys,rfl,t,_⟩:=r2'
   cases ry
   obtain⟨_,_,i,_⟩:=I.list t
   exact(jm f1 rx hu0 (.inr i.isList)).2.1 _ _ _ _ (ep _ (by unfold eqD;rfl))
 | tup ds=>
  have r1':=r1
  unfold Rep at r1'
  obtain⟨p,xs,rfl,t1,_⟩:=r1'
  cases rx
  obtain⟨_,_,i1,_⟩:=I.tuple t1
  cases e with
  | leaf b=>
   have r2':=r2
   unfold Rep at r2'
   obtain⟨rfl,f2⟩:=r2'
   exact(jm f2 ry hu0 (.inl i1)).2.2 _ _ _ _ (ep _ (by unfold eqD;rfl))
  | tup es=>exact absurd rfl hk
  | lst es=>
   have r2':=r2
   unfold Rep at r2'
   obtain⟨p',ys,rfl,t,_⟩:=r2'
   cases ry
   obtain⟨_,_,i,_⟩:=I.list t
   exact SeqAt.RcNeAt.tuple_list i1 i.isList hu0 _ _ _ _ (ep _ (by unfold eqD;rfl))
 | lst ds=>
  have r1':=r1
  unfold Rep at r1'
  obtain⟨p,xs,rfl,t1,_⟩:=r1'
  cases rx
  obtain⟨_,_,i1,_⟩:=I.list t1
  cases e with
  | leaf b=>
   have r2':=r2
   unfold Rep at r2'
   obtain⟨rfl,f2⟩:=r2'
   exact(jm f2 ry hu0 (.inr i1.isList)).2.2 _ _ _ _ (ep _ (by unfold eqD;rfl))
  | lst es=>exact absurd rfl hk
  | tup es=>
   have r2':=r2
   unfold Rep at r2'
   obtain⟨p',ys,rfl,t,_⟩:=r2'
   cases ry
   obtain⟨_,_,i,_⟩:=I.tuple t
   exact SeqAt.RcNeAt.list_tuple i1.isList i hu0 _ _ _ _ (ep _ (by unfold eqD;rfl))
theorem qL {G:Prop}(k:∀ X:Prop,(G→X)→X):G:=k G id
section
variable {X : Cx}
theorem qI {a:Expr}{ta:TE}{i:Int}{j}{p pos:Pos}(ha:PE X a ta):PE X (.Subscript a (.Constant (.int i) j p) pos) (tOp (qSf X.K) ta (tC (.int i))):=qv wg ha qG (fun _ _=>rfl)
theorem qU (i:Nat){x:Str}{e:Expr}{te:TE}{pos pos':Pos}(hN:X.N.Nodup)(he:PE X e te)(hi:X.N[i]? =some x:=by rfl)(hx:Loc X.env.scope x:=by exact Or.inl rfl)(hs:swapsWith e (some (.Name x pos')) pos.line X.env=pure false:=by rfl)(hf:X.fn x=true∨X.env.scope.names.lookup x=some .local:=by first | exact .inl rfl | exact .inr rfl | assumption):
 PS X (.Assign [.Name x pos'] e pos) (qRj te (qA5 i)):=qQp hN hi hx he hs hf
end
end L3
set_option maxRecDepth 100000
namespace L3
open PySem PySem.Spec PyProof.Rows L2
end L3
set_option maxRecDepth 100000
namespace L3
open PySem PySem.Spec PyProof.Rows L2
theorem qKn:∀ {ns:List Int} {us:List Value},Vals (ns.map V.int) us→IntsAre us ns
 | [],us,r=>by cases r;exact .nil
 | n::ns,us,r=>by
  rw [List.map_cons] at r
  cases r with
  | cons h t=>
   obtain⟨tk,rfl⟩:=h
   exact .cons _ _ (qKn t)
theorem qKs:∀ {ns:List Int} {us:List Value},IntsAre us ns→Vals (ns.map V.int) us
 | _,_,.nil=>.nil
 | _,_,.cons _ _ h=>.cons ⟨_,rfl⟩ (qKs h)
theorem qGy {X:Cx}:qDr X (.builtin "sorted") (fun xs H Q=>∃ (p:Addr) (ns:List Int),xs=[.ref p]∧SqL X.K H p (ns.map V.int)∧ns.length < 64∧∀ (D:Addr) (ns':List Int),H D=none→ns'.Perm ns→ns'.Pairwise (· ≤ ·)→Q (.ref D) (upd H D (.lst (ns'.map V.int)))):=by
 intro pins s σ H xs us Q I r h
 obtain⟨p,ns,rfl,hq,h64,q⟩:=h
 obtain⟨u,rfl,rx⟩:=qMp r
 cases rx
 obtain⟨its,rv,pl,hz⟩:=I.list hq
 have hi:=qKn rv
 have hl:=hi.length
 refine sorted_ints pl.isList hi (by omega) fun out ns' a1 a2 a3=>?_
 obtain⟨e,he⟩:=sortedAll_at s.heap its out
 refine⟨.ref (s.heap.objs.size+1),_,I.laid (fun b o=>sortedAll_old) (Nat.le_succ _) (show ObjOk X.prog X.w _ _ _ (.lst (ns'.map V.int)) from ⟨?_,out.toList,e,qKs a1,by simpa using he⟩),rfl,q _ ns' (I.hok.fresh (Nat.le_succ _)) a2 a3⟩
 rw [List.length_map,a2.length_eq]
 exact Nat.le_trans (Nat.le_of_lt h64) (by decide)
end L3
set_option maxRecDepth 100000
namespace Lw
open PySem L2 L3 Mt
seal L2.PSs L2.PS L2.PE L2.PA L2.PT L2.PW L2.PC L2.PI L2.PG L2.PGs L2.PO
def top (i:Nat):Stmt:=PySem.Challenge.pw_reelcut_k45_cut_and_healed.main.body.getD i (.Pass ⟨0,0,0,0⟩)
theorem scA {N P:List Str}{sc:Scope}(h1:sc.kind= .function:=by rfl)(h2:sc.isCoroutine=false:=by rfl)(h3:sc.isGenerator=false:=by rfl)(h4:N.Nodup:=by decide+kernel)(h5:N.take P.length=P:=by rfl)(h6:∀ x∈P,sc.names.lookup x=some .local∨sc.names.lookup x=some .cell:=by decide+kernel)(h7:∀ y∈sc.names,y.2≠ .free:=by decide+kernel):qO N P sc:=⟨h1,h2,h3,h4,h5,h6,h7⟩
abbrev wv:Stmt:=top 8
abbrev xf:Stmt:=top 9
abbrev wn:Stmt:=top 10
abbrev qAf:Stmt:=top 11
abbrev qGp:Stmt:=top 12
abbrev qCg:Stmt:=top 13
abbrev qAz:Stmt:=top 14
abbrev qA4:Stmt:=top 15
abbrev vv:Stmt:=top 16
abbrev qAy:Stmt:=top 17
abbrev qB8:Stmt:=top 23
abbrev zF:Stmt:=top 24
abbrev qA2:Stmt:=top 25
abbrev kj:Stmt:=top 26
abbrev qAe:Stmt:=top 27
abbrev ku:Stmt:=top 28
abbrev vx:Stmt:=top 29
abbrev qDl:Stmt:=top 30
abbrev zH:Stmt:=top 31
abbrev vw:Stmt:=top 32
abbrev wE:Stmt:=top 33
abbrev v8:Stmt:=top 35
abbrev x8:Stmt:=top 36
abbrev kh:Stmt:=top 37
abbrev wu:Stmt:=top 38
abbrev wB:Stmt:=top 39
abbrev vC:Stmt:=top 40
abbrev qC7:Stmt:=top 41
abbrev qCk:Stmt:=top 42
abbrev kI:Stmt:=top 43
abbrev vf:Stmt:=top 44
abbrev x9:Stmt:=top 45
abbrev xO:Stmt:=top 46
abbrev kF:Stmt:=top 47
abbrev v9:Stmt:=top 48
abbrev zC:Stmt:=top 49
abbrev kx:Stmt:=top 51
abbrev kT:Stmt:=top 52
abbrev wA:Stmt:=top 53
abbrev vI:Stmt:=top 54
abbrev qFx:Stmt:=top 55
abbrev kO:Stmt:=top 56
abbrev xj:Stmt:=top 57
abbrev zX:Stmt:=top 58
abbrev qAp:Stmt:=top 59
abbrev kA:Stmt:=top 62
abbrev qEm:Stmt:=top 63
abbrev qA8:Stmt:=top 64
abbrev kX:Stmt:=top 65
abbrev vi:Stmt:=top 66
abbrev qGt:Stmt:=top 67
abbrev wa:Stmt:=top 68
abbrev qCh:Stmt:=top 69
abbrev qDf:Stmt:=top 70
abbrev qGz:Stmt:=top 71
abbrev zN:Stmt:=top 72
abbrev vA:Stmt:=top 73
abbrev qKj:Stmt:=top 74
abbrev vB:Stmt:=top 80
abbrev qDs:Stmt:=top 81
abbrev zg:Stmt:=top 82
abbrev xg:Stmt:=top 83
abbrev zD:Stmt:=top 84
abbrev kH:Stmt:=top 85
abbrev z9:Stmt:=top 86
abbrev zd:Stmt:=top 87
abbrev zZ:Stmt:=top 88
abbrev qAn:Stmt:=top 89
abbrev qFv:Stmt:=top 90
abbrev qI1:Stmt:=top 91
abbrev qHs:Stmt:=top 92
abbrev qGk:Stmt:=top 93
abbrev qCr:Stmt:=top 94
abbrev vz:Stmt:=top 95
abbrev qCj:Stmt:=top 98
abbrev wU:Stmt:=top 99
abbrev zU:Stmt:=top 101
abbrev kR:Stmt:=top 102
abbrev kD:Stmt:=top 103
abbrev kC:Stmt:=top 104
abbrev vP:Stmt:=top 105
abbrev vE:Stmt:=top 106
abbrev kq:Stmt:=top 107
abbrev vN:Stmt:=top 108
abbrev kK:Stmt:=top 109
abbrev vt:Stmt:=top 110
abbrev wH:Stmt:=top 112
abbrev qAd:Stmt:=top 113
abbrev zh:Stmt:=top 114
abbrev zI:Stmt:=top 115
abbrev qA6:Stmt:=top 116
abbrev kL:Stmt:=top 117
abbrev xY:Stmt:=top 118
abbrev ze:Stmt:=top 119
abbrev qRq:Stmt:=top 120
theorem qC9:qO ["x"] ["x"] (qH wv):=scA
theorem jx:qO ["one","other","rest"] ["one","other"] (qH xf):=scA
theorem wD:qO ["top","bottom","divisor"] ["top","bottom"] (qH qAf):=scA
theorem qNp:qO ["one","other"] ["one","other"] (qH qGp):=scA
theorem qLq:qO ["one","other"] ["one","other"] (qH qCg):=scA
theorem qIi:qO ["one","other"] ["one","other"] (qH qAz):=scA
theorem qIv:qO ["one","other"] ["one","other"] (qH qA4):=scA
theorem qHg:qO ["one","other"] ["one","other"] (qH vv):=scA
theorem qIj:qO ["one"] ["one"] (qH qAy):=scA
theorem sc_is_name:qO ["thing"] ["thing"] (qH qB8):=scA
theorem sc_has_clip_form:qO ["item"] ["item"] (qH zF):=scA
theorem qJg:qO ["clip","k"] ["clip","k"] (qH qA2):=scA
theorem qE6:qO ["clip","k"] ["clip","k"] (qH kj):=scA
theorem qIx:qO ["picture","many"] ["picture","many"] (qH qAe):=scA
theorem qE5:qO ["item","reels","many"] ["item","reels"] (qH ku):=scA
theorem qHu:qO ["clip","low","high"] ["clip","low","high"] (qH vx):=scA
theorem qK6:qO ["one","other"] ["one","other"] (qH qDl):=scA
theorem xZ:qO ["first","step","many","room"] ["first","step","many"] (qH zH):=scA
theorem qH5:qO ["clip","reels"] ["clip","reels"] (qH vw):=scA
theorem qG2:qO ["clip","reels"] ["clip","reels"] (qH wE):=scA
theorem qH2:qO ["thing"] ["thing"] (qH v8):=scA
theorem qBi:qO ["item"] ["item"] (qH x8):=scA
theorem qFb:qO ["item"] ["item"] (qH kh):=scA
theorem xQ:qO ["some","track","waiting","item"] ["some"] (qH wu):=scA
theorem qH4:qO ["track"] ["track"] (qH wB):=scA
theorem z8:qO ["track","borders","item"] ["track"] (qH vC):=scA
theorem xt:qO ["track","moment","begin","place","item","end"] ["track","moment"] (qH qC7):=scA
theorem qLp:qO ["track","place"] ["track","place"] (qH qCk):=scA
theorem qEb:qO ["track","place"] ["track","place"] (qH kI):=scA
theorem kW:qO ["track","moment","found"] ["track","moment"] (qH x9):=scA
theorem zP:qO ["track","moment","places"] ["track","moment"] (qH xO):=scA
theorem vo:qO ["track","moment","found"] ["track","moment"] (qH kF):=scA
theorem qG5:qO ["item","low","high"] ["item","low","high"] (qH v9):=scA
theorem qx:qO ["track","low","high","parts","begin","item","end","first","last"] ["track","low","high"] (qH zC):=scA
theorem qFn:qO ["length"] ["length"] (qH kx):=scA
theorem qDw:qO ["length"] ["length"] (qH kT):=scA
theorem xV:qO ["track","spans","border","item"] ["track"] (qH wA):=scA
theorem qFa:qO ["length","j"] ["length","j"] (qH vI):=scA
theorem wR:qO ["track","moment","places","place","span"] ["track","moment"] (qH qFx):=scA
theorem jH:qO ["track","place","j","length","ahead","behind","shares","from_border","first","second"] ["track","place","j"] (qH kO):=scA
theorem qAg:qO ["track","place"] ["track","place"] (qH xj):=scA
theorem qB9:qO ["track","place"] ["track","place"] (qH zX):=scA
theorem xM:qO ["track","moment","reels","places","ahead","behind","most_ahead","most_behind"] ["track","moment","reels"] (qH qAp):=scA
theorem qEe:qO ["table","number","moment"] ["table","number","moment"] (qH kA):=scA
theorem wM:qO ["table","number","track","tracks"] ["table","number","track"] (qH vA):=scA
theorem qFi:qO ["deed"] ["deed"] (qH vB):=scA
theorem qL2:qO ["deed"] ["deed"] (qH qDs):=scA
theorem qDj:qO ["deed"] ["deed"] (qH zg):=scA
theorem qAc:qO ["table","deed"] ["table","deed"] (qH xg):=scA
theorem qBl:qO ["deed"] ["deed"] (qH zD):=scA
theorem ve:qO ["track","low","high","span"] ["track","low","high"] (qH kH):=scA
theorem zT:qO ["table","deed","stretch","number"] ["table","deed"] (qH z9):=scA
theorem qDb:qO ["table","deed","reels"] ["table","deed","reels"] (qH zd):=scA
theorem qDh:qO ["one","other"] ["one","other"] (qH zZ):=scA
theorem wI:qO ["track","places","one","other"] ["track","places"] (qH qAn):=scA
theorem vG:qO ["table","deed","track","places","one","whole"] ["table","deed"] (qH qFv):=scA
theorem qBz:qO ["table","deed","reels","track","places","most"] ["table","deed","reels"] (qH qI1):=scA
theorem qIe:qO ["track","low","high","laid","filling"] ["track","low","high","laid"] (qH qGk):=scA
theorem xr:qO ["table","deed","stretch","told","number","laid"] ["table","deed"] (qH qCr):=scA
theorem qHb:qO ["table","deed","reels"] ["table","deed","reels"] (qH vz):=scA
theorem vX:qO ["track","moment","room","mixed","found","item"] ["track","moment","room"] (qH qCj):=scA
theorem zz:qO ["room","name","moment","tracks","track","told"] ["room","name","moment"] (qH wU):=scA
theorem qDg:qO ["_law_script","_law_k"] ["_law_script","_law_k"] (qH zU):=scA
theorem jG:qO ["_law_cell","_law_size","_law_found","_law_rest","_law_k","_law_number"] ["_law_cell","_law_size"] (qH kR):=scA
theorem xS:qO ["_law_top","_law_bottom","_law_one","_law_other"] ["_law_top","_law_bottom"] (qH kD):=scA
theorem qy:qO ["_law_xs","_law_reels_here","_law_size","_law_reel","_law_length","_law_top","_law_bottom","_law_far","_law_low","_law_rest","_law_start"] ["_law_xs","_law_reels_here","_law_size"] (qH kC):=scA
theorem xm:qO ["_law_xs","_law_reels_here","_law_size","_law_track_here","_law_k","_law_form"] ["_law_xs","_law_reels_here","_law_size"] (qH vP):=scA
theorem qGi:qO ["_law_cell"] ["_law_cell"] (qH vE):=scA
theorem jO:qO ["_law_table_here","_law_reels_here","_law_cell","_law_number","_law_moment","_law_most"] ["_law_table_here","_law_reels_here","_law_cell"] (qH kq):=scA
theorem xq:qO ["_law_cell","_law_reels_here","_law_tracks","_law_size","_law_xs","_law_tied","_law_table_here"] ["_law_cell","_law_reels_here","_law_tracks","_law_size"] (qH vN):=scA
theorem qEd:qO ["_law_table_here"] ["_law_table_here"] (qH kK):=scA
theorem qHw:qO ["_law_track_here","_law_room","_law_last"] ["_law_track_here","_law_room","_law_last"] (qH vt):=scA
theorem j9:qO ["_law_table_here","_law_deed","_law_reels_here","_law_found"] ["_law_table_here","_law_deed","_law_reels_here"] (qH wH):=scA
theorem xN:qO ["_law_track_here","_law_moment","_law_begin","_law_inside","_law_item"] ["_law_track_here","_law_moment"] (qH qAd):=scA
theorem vO:qO ["_law_one","_law_item","_law_top"] ["_law_one","_law_item"] (qH zh):=scA
theorem jN:qO ["_law_track_here","_law_moment","_law_begin","_law_place","_law_item","_law_one"] ["_law_track_here","_law_moment"] (qH zI):=scA
theorem xP:qO ["_law_table_here","_law_number","_law_moment","_law_reels_here","_law_room","_law_last","_law_found","_law_due_here","_law_k","_law_back","_law_track_here"] ["_law_table_here","_law_number","_law_moment","_law_reels_here","_law_room","_law_last"] (qH qA6):=scA
theorem zf:qO ["_law_table_here","_law_found","_law_number","_law_moment","_law_room","_law_last","_law_left","_law_track_here"] ["_law_table_here","_law_found","_law_number","_law_moment","_law_room","_law_last"] (qH kL):=scA
theorem jB:qO ["_law_table_here","_law_number","_law_script","_law_reels_here","_law_k","_law_cell","_law_place","_law_found"] ["_law_table_here","_law_number","_law_script","_law_reels_here"] (qH xY):=scA
theorem jt:qO ["_law_track_here","_law_place","_law_reels_here","_law_most"] ["_law_track_here","_law_place","_law_reels_here"] (qH ze):=scA
theorem kn:qO ["_law_script","_law_reels_here","_law_table_here","_law_room","_law_number","_law_copy","_law_last","_law_moment","_law_found","_law_due_here"] ["_law_script"] (qH qRq):=scA
abbrev vZ:Stmt:=qSd (top 6) 0
theorem qM0:qO ["self","most"] ["self","most"] (qH vZ):=⟨rfl,rfl,rfl,by decide+kernel,rfl,by decide+kernel,by decide+kernel⟩
set_option genInjectivity false
set_option genSizeOf false
structure Ads where
 A0:Addr
 B0:FuncData
 A1:Addr
 B1:FuncData
 A2:Addr
 B2:FuncData
 A3:Addr
 B3:FuncData
 A4:Addr
 B4:FuncData
 A5:Addr
 B5:FuncData
 A6:Addr
 B6:FuncData
 A7:Addr
 B7:FuncData
 A8:Addr
 B8:FuncData
 A9:Addr
 B9:FuncData
 A10:Addr
 B10:FuncData
 A11:Addr
 B11:FuncData
 A12:Addr
 B12:FuncData
 A13:Addr
 B13:FuncData
 A14:Addr
 B14:FuncData
 A15:Addr
 B15:FuncData
 A16:Addr
 B16:FuncData
 A17:Addr
 B17:FuncData
 A18:Addr
 B18:FuncData
 A19:Addr
 B19:FuncData
 A20:Addr
 B20:FuncData
 A21:Addr
 B21:FuncData
 A22:Addr
 B22:FuncData
 A23:Addr
 B23:FuncData
 A24:Addr
 B24:FuncData
 A25:Addr
 B25:FuncData
 A26:Addr
 B26:FuncData
 A27:Addr
 B27:FuncData
 A28:Addr
 B28:FuncData
 A29:Addr
 B29:FuncData
 A30:Addr
 B30:FuncData
 A31:Addr
 B31:FuncData
 A32:Addr
 B32:FuncData
 A33:Addr
 B33:FuncData
 A34:Addr
 B34:FuncData
 A35:Addr
 B35:FuncData
 A36:Addr
 B36:FuncData
 A37:Addr
 B37:FuncData
 A38:Addr
 B38:FuncData
 A39:Addr
 B39:FuncData
 A40:Addr
 B40:FuncData
 A41:Addr
 B41:FuncData
 A42:Addr
 B42:FuncData
 A43:Addr
 B43:FuncData
 A44:Addr
 B44:FuncData
 A45:Addr
 B45:FuncData
 A46:Addr
 B46:FuncData
 A47:Addr
 B47:FuncData
 A48:Addr
 B48:FuncData
 A49:Addr
 B49:FuncData
 A50:Addr
 B50:FuncData
 A51:Addr
 B51:FuncData
 A52:Addr
 B52:FuncData
 A53:Addr
 B53:FuncData
 A54:Addr
 B54:FuncData
 A55:Addr
 B55:FuncData
 A56:Addr
 B56:FuncData
 A57:Addr
 B57:FuncData
 A58:Addr
 B58:FuncData
 A59:Addr
 B59:FuncData
 A60:Addr
 B60:FuncData
 A61:Addr
 B61:FuncData
 A62:Addr
 B62:FuncData
 A63:Addr
 B63:FuncData
 A64:Addr
 B64:FuncData
 A65:Addr
 B65:FuncData
 A66:Addr
 B66:FuncData
 A67:Addr
 B67:FuncData
 A68:Addr
 B68:FuncData
 A69:Addr
 B69:FuncData
 A70:Addr
 B70:FuncData
 A71:Addr
 B71:FuncData
 A72:Addr
 B72:FuncData
 A73:Addr
 B73:FuncData
 A74:Addr
 B74:FuncData
 A75:Addr
 B75:FuncData
 A76:Addr
 B76:FuncData
 A77:Addr
 B77:FuncData
 A78:Addr
 B78:FuncData
 A79:Addr
 B79:FuncData
 A80:Addr
 B80:FuncData
 A81:Addr
 B81:FuncData
 A82:Addr
 B82:FuncData
 A83:Addr
 B83:FuncData
 A84:Addr
 B84:FuncData
 A85:Addr
 B85:FuncData
 A86:Addr
 B86:FuncData
 A87:Addr
 B87:FuncData
 A88:Addr
 B88:FuncData
 A89:Addr
 B89:FuncData
 A90:Addr
 B90:FuncData
 A91:Addr
 B91:FuncData
 A92:Addr
 B92:FuncData
 A93:Addr
 B93:FuncData
 A94:Addr
 B94:FuncData
 k_CutError:Addr
 k_NoNumber:Addr
 k_NoClip:Addr
 k_NoPlace:Addr
 k_Mixed:Addr
 k_Short:Addr
 t_LETTERS:Tok
 t_LONGEST_NAME:Tok
 t_MOST_ROOM:Tok
 n_NOUGHT:Addr
 t_MOST_BY:Tok
 n_ROLLS:Addr
 n_LAYS:Addr
 n_PUSHES:Addr
 n_CHANGES:Addr
 n_WHOLE_SHARE:Addr
 fi_Short:Addr
 gi_Short:FuncData
structure Tx (K:PySem.W.Frag)(mg:Str→Option Value)(a:Ads):Prop where
 D0:L3.Def K mg "is_whole" wv ["x"] a.A0 a.B0
 D1:L3.Def K mg "common_divisor" xf ["one","other"] a.A1 a.B1
 D2:L3.Def K mg "is_fraction" wn ["x"] a.A2 a.B2
 D3:L3.Def K mg "fraction" qAf ["top","bottom"] a.A3 a.B3
 D4:L3.Def K mg "sum_of" qGp ["one","other"] a.A4 a.B4
 D5:L3.Def K mg "less_by" qCg ["one","other"] a.A5 a.B5
 D6:L3.Def K mg "times_of" qAz ["one","other"] a.A6 a.B6
 D7:L3.Def K mg "quotient" qA4 ["one","other"] a.A7 a.B7
 D8:L3.Def K mg "is_before" vv ["one","other"] a.A8 a.B8
 D9:L3.Def K mg "floor_of" qAy ["one"] a.A9 a.B9
 D10:L3.Def K mg "is_name" qB8 ["thing"] a.A10 a.B10
 D11:L3.Def K mg "has_clip_form" zF ["item"] a.A11 a.B11
 D12:L3.Def K mg "place_at" qA2 ["clip","k"] a.A12 a.B12
 D13:L3.Def K mg "picture_at" kj ["clip","k"] a.A13 a.B13
 D14:L3.Def K mg "is_there" qAe ["picture","many"] a.A14 a.B14
 D15:L3.Def K mg "check_clip" ku ["item","reels"] a.A15 a.B15
 D16:L3.Def K mg "clip_part" vx ["clip","low","high"] a.A16 a.B16
 D17:L3.Def K mg "goes_on" qDl ["one","other"] a.A17 a.B17
 D18:L3.Def K mg "moments_there" zH ["first","step","many"] a.A18 a.B18
 D19:L3.Def K mg "head_room" vw ["clip","reels"] a.A19 a.B19
 D20:L3.Def K mg "tail_room" wE ["clip","reels"] a.A20 a.B20
 D21:L3.Def K mg "is_length" v8 ["thing"] a.A21 a.B21
 D22:L3.Def K mg "has_nest_form" x8 ["item"] a.A22 a.B22
 D23:L3.Def K mg "moments_of" kh ["item"] a.A23 a.B23
 D24:L3.Def K mg "one_form" wu ["some"] a.A24 a.B24
 D25:L3.Def K mg "length_of" wB ["track"] a.A25 a.B25
 D26:L3.Def K mg "borders_of" vC ["track"] a.A26 a.B26
 D27:L3.Def K mg "item_at" qC7 ["track","moment"] a.A27 a.B27
 D28:L3.Def K mg "kind_at" qCk ["track","place"] a.A28 a.B28
 D29:L3.Def K mg "place_ahead" kI ["track","place"] a.A29 a.B29
 D30:L3.Def K mg "place_behind" vf ["track","place"] a.A30 a.B30
 D31:L3.Def K mg "neighbours_at" x9 ["track","moment"] a.A31 a.B31
 D32:L3.Def K mg "clips_at_border" xO ["track","moment"] a.A32 a.B32
 D33:L3.Def K mg "lies_within" kF ["track","moment"] a.A33 a.B33
 D34:L3.Def K mg "item_part" v9 ["item","low","high"] a.A34 a.B34
 D35:L3.Def K mg "part_of_track" zC ["track","low","high"] a.A35 a.B35
 D36:L3.Def K mg "part_ahead" kx ["length"] a.A36 a.B36
 D37:L3.Def K mg "part_behind" kT ["length"] a.A37 a.B37
 D38:L3.Def K mg "mix_spans" wA ["track"] a.A38 a.B38
 D39:L3.Def K mg "mix_shares" vI ["length","j"] a.A39 a.B39
 D40:L3.Def K mg "mix_at" qFx ["track","moment"] a.A40 a.B40
 D41:L3.Def K mg "told_in_mix" kO ["track","place","j"] a.A41 a.B41
 D42:L3.Def K mg "taken_at_begin" xj ["track","place"] a.A42 a.B42
 D43:L3.Def K mg "taken_at_end" zX ["track","place"] a.A43 a.B43
 D44:L3.Def K mg "most_mix" qAp ["track","moment","reels"] a.A44 a.B44
 D45:L3.Def K mg "check_place" kA ["table","number","moment"] a.A45 a.B45
 D46:L3.Def K mg "check_by" qEm ["by"] a.A46 a.B46
 D47:L3.Def K mg "clip_there" qA8 ["track","moment"] a.A47 a.B47
 D48:L3.Def K mg "clip_and_sides" kX ["track","moment"] a.A48 a.B48
 D49:L3.Def K mg "places_named" vi ["track","deed"] a.A49 a.B49
 D50:L3.Def K mg "has_mix" qGt ["track","place"] a.A50 a.B50
 D51:L3.Def K mg "check_short" wa ["most","by"] a.A51 a.B51
 D52:L3.Def K mg "most_slip" qCh ["clip","by","reels"] a.A52 a.B52
 D53:L3.Def K mg "most_roll" qDf ["left","right","by","reels"] a.A53 a.B53
 D54:L3.Def K mg "slipped" qGz ["track","place","by","reels"] a.A54 a.B54
 D55:L3.Def K mg "with_rolled_ends" zN ["track","first","last","by","reels"] a.A55 a.B55
 D56:L3.Def K mg "table_with" vA ["table","number","track"] a.A56 a.B56
 D57:L3.Def K mg "rolled" qKj ["table","deed","reels"] a.A57 a.B57
 D58:L3.Def K mg "stretch_of" vB ["deed"] a.A58 a.B58
 D59:L3.Def K mg "laid_by" qDs ["deed"] a.A59 a.B59
 D60:L3.Def K mg "laid_on_tied" zg ["deed"] a.A60 a.B60
 D61:L3.Def K mg "tracks_changed" xg ["table","deed"] a.A61 a.B61
 D62:L3.Def K mg "check_numbers" zD ["deed"] a.A62 a.B62
 D63:L3.Def K mg "touches_mix" kH ["track","low","high"] a.A63 a.B63
 D64:L3.Def K mg "check_mixes" z9 ["table","deed"] a.A64 a.B64
 D65:L3.Def K mg "check_change" zd ["table","deed","reels"] a.A65 a.B65
 D66:L3.Def K mg "nest_goes_on" zZ ["one","other"] a.A66 a.B66
 D67:L3.Def K mg "can_heal" qAn ["track","places"] a.A67 a.B67
 D68:L3.Def K mg "healed" qFv ["table","deed"] a.A68 a.B68
 D69:L3.Def K mg "mixed" qI1 ["table","deed","reels"] a.A69 a.B69
 D70:L3.Def K mg "unmixed" qHs ["table","deed"] a.A70 a.B70
 D71:L3.Def K mg "relaid" qGk ["track","low","high","laid"] a.A71 a.B71
 D72:L3.Def K mg "changed" qCr ["table","deed"] a.A72 a.B72
 D73:L3.Def K mg "deed_done" vz ["table","deed","reels"] a.A73 a.B73
 D74:L3.Def K mg "told_on" qCj ["track","moment","room"] a.A74 a.B74
 D75:L3.Def K mg "told_at" wU ["room","name","moment"] a.A75 a.B75
 D76:L3.Def K mg "_law_cell_at" zU ["_law_script","_law_k"] a.A76 a.B76
 D77:L3.Def K mg "_law_stream" kR ["_law_cell","_law_size"] a.A77 a.B77
 D78:L3.Def K mg "_law_lowest" kD ["_law_top","_law_bottom"] a.A78 a.B78
 D79:L3.Def K mg "_law_clip" kC ["_law_xs","_law_reels_here","_law_size"] a.A79 a.B79
 D80:L3.Def K mg "_law_track" vP ["_law_xs","_law_reels_here","_law_size"] a.A80 a.B80
 D81:L3.Def K mg "_law_reels" vE ["_law_cell"] a.A81 a.B81
 D82:L3.Def K mg "_law_mixed" kq ["_law_table_here","_law_reels_here","_law_cell"] a.A82 a.B82
 D83:L3.Def K mg "_law_table" vN ["_law_cell","_law_reels_here","_law_tracks","_law_size"] a.A83 a.B83
 D84:L3.Def K mg "_law_copied" kK ["_law_table_here"] a.A84 a.B84
 D85:L3.Def K mg "_law_told" vt ["_law_track_here","_law_room","_law_last"] a.A85 a.B85
 D86:L3.Def K mg "_law_done" wH ["_law_table_here","_law_deed","_law_reels_here"] a.A86 a.B86
 D87:L3.Def K mg "_law_due" qAd ["_law_track_here","_law_moment"] a.A87 a.B87
 D88:L3.Def K mg "_law_goes_on" zh ["_law_one","_law_item"] a.A88 a.B88
 D89:L3.Def K mg "_law_heal_due" zI ["_law_track_here","_law_moment"] a.A89 a.B89
 D90:L3.Def K mg "_law_cut" qA6 ["_law_table_here","_law_number","_law_moment","_law_reels_here","_law_room","_law_last"] a.A90 a.B90
 D91:L3.Def K mg "_law_healed" kL ["_law_table_here","_law_found","_law_number","_law_moment","_law_room","_law_last"] a.A91 a.B91
 D92:L3.Def K mg "_law_cut_twice" xY ["_law_table_here","_law_number","_law_script","_law_reels_here"] a.A92 a.B92
 D93:L3.Def K mg "_law_most_at" ze ["_law_track_here","_law_place","_law_reels_here"] a.A93 a.B93
 D94:L3.Def K mg "law" qRq ["_law_script"] a.A94 a.B94
 c_CutError:mg "CutError"=some (.ref a.k_CutError)
 c_NoNumber:mg "NoNumber"=some (.ref a.k_NoNumber)
 c_NoClip:mg "NoClip"=some (.ref a.k_NoClip)
 c_NoPlace:mg "NoPlace"=some (.ref a.k_NoPlace)
 c_Mixed:mg "Mixed"=some (.ref a.k_Mixed)
 c_Short:mg "Short"=some (.ref a.k_Short)
 b_isinstance:mg "isinstance"=none
 b_int:mg "int"=none
 b_bool:mg "bool"=none
 b_abs:mg "abs"=none
 b_tuple:mg "tuple"=none
 b_len:mg "len"=none
 b_all:mg "all"=none
 b_str:mg "str"=none
 b_min:mg "min"=none
 b_sum:mg "sum"=none
 b_enumerate:mg "enumerate"=none
 b_max:mg "max"=none
 b_zip:mg "zip"=none
 b_list:mg "list"=none
 b_any:mg "any"=none
 b_range:mg "range"=none
 b_sorted:mg "sorted"=none
 g_LETTERS:mg "LETTERS"=some (.str "abcdefghijklmnopqrstuvwxyz" a.t_LETTERS)
 g_LONGEST_NAME:mg "LONGEST_NAME"=some (.int 8 a.t_LONGEST_NAME)
 g_MOST_ROOM:mg "MOST_ROOM"=some (.int 1000000 a.t_MOST_ROOM)
 g_NOUGHT:mg "NOUGHT"=some (.ref a.n_NOUGHT)
 sq_NOUGHT:∀ H,SqT K H a.n_NOUGHT [.int 0,.int 1]
 g_MOST_BY:mg "MOST_BY"=some (.int 1000000 a.t_MOST_BY)
 g_ROLLS:mg "ROLLS"=some (.ref a.n_ROLLS)
 sq_ROLLS:∀ H,SqT K H a.n_ROLLS [.str "roll",.str "slip",.str "slide"]
 g_LAYS:mg "LAYS"=some (.ref a.n_LAYS)
 sq_LAYS:∀ H,SqT K H a.n_LAYS [.str "lay_in",.str "lay_over"]
 g_PUSHES:mg "PUSHES"=some (.ref a.n_PUSHES)
 sq_PUSHES:∀ H,SqT K H a.n_PUSHES [.str "lay_in",.str "open",.str "close"]
 g_CHANGES:mg "CHANGES"=some (.ref a.n_CHANGES)
 sq_CHANGES:∀ H,SqT K H a.n_CHANGES [.str "cut",.str "lay_in",.str "open",.str "close",.str "lift",.str "lay_over"]
 g_WHOLE_SHARE:mg "WHOLE_SHARE"=some (.ref a.n_WHOLE_SHARE)
 sq_WHOLE_SHARE:∀ H,SqT K H a.n_WHOLE_SHARE [.int 1,.int 1]
 x_NoPlace:L3.OwnX K a.k_NoPlace
 x_Mixed:L3.OwnX K a.k_Mixed
 yPP:PySem.W.exmOne K (.ref a.k_NoPlace) (.ref a.k_NoPlace)=some true
 yMM:PySem.W.exmOne K (.ref a.k_Mixed) (.ref a.k_Mixed)=some true
 yMP:PySem.W.exmOne K (.ref a.k_Mixed) (.ref a.k_NoPlace)=some false
 i_Short:Fun K "__init__" "Short.__init__" vZ a.fi_Short a.gi_Short
 ib_Short:Binds K a.gi_Short ["self","most"] []
 m_Short:L3.XMk K a.k_Short a.k_CutError a.fi_Short
 tk_Short:PySem.W.takerIn K a.k_Short "most"=some none
inductive qPk (K:PySem.W.Frag)(vs:List V)(H:Hp)(Q:VK)(_:XK):Prop
| mk (a:Addr) (ns:List Int) (_:vs=[.ref a]) (_:SqL K H a (ns.map V.int)) (_:ns.length≤63) (_:∀ H',Q (.bl true) H')
def qO0 (H:Hp)(Q:VK)(p q:Int):Prop:=∀ z,H z=none→Q (.ref z) (upd H z (.tup [.int p,.int q]))
theorem je {CX:CXT}{P:Program}{w:World}{K:PySem.W.Frag}{mg:Str→Option Value}{base:Heap}{ns:List Str}{n:Str}{sc:Scope}{ad:Addr}{cdv:Value}{A:Around}{outer:List Env}{s:Shared}{H:Hp}{E:XK}:(qOn CX P w K mg base ns n sc ad cdv A outer s H E).K=K:=rfl
theorem qg {CX:CXT}{P:Program}{w:World}{K:PySem.W.Frag}{mg:Str→Option Value}{base:Heap}{ns:List Str}{n:Str}{sc:Scope}{ad:Addr}{cdv:Value}{A:Around}{outer:List Env}{s:Shared}{H:Hp}{E:XK}:(qOn CX P w K mg base ns n sc ad cdv A outer s H E).nox.K=K:=rfl
theorem sL0:(0:Nat)≤sizeLine:=by decide
theorem sL1:(1:Nat)≤sizeLine:=by decide
theorem sL2:(2:Nat)≤sizeLine:=by decide
theorem sL3:(3:Nat)≤sizeLine:=by decide
theorem sL4:(4:Nat)≤sizeLine:=by decide
theorem sL5:(5:Nat)≤sizeLine:=by decide
theorem glt {α:Type}{xs:List α}{i:Nat}{x:α}(h:xs[i]? =some x):i < xs.length:=(List.getElem?_eq_some_iff.mp h).1
theorem ixT {K:PySem.W.Frag}{σ:St}{H:Hp}{p:Addr}{xs:List V}{i:Int}{v:V}{Q:VK}(h:SqT K H p xs)(a:atI xs i=some v)(q:Q v H):tC (.int i) σ H (fun y H2=>qSf K (.ref p) y H2 Q):=⟨p,xs,i,v,rfl,rfl,h,a,q⟩
theorem zA {K:PySem.W.Frag}{σ:St}{H:Hp}{p:Addr}{xs:List V}{i:Int}{v:V}{Q:VK}{j:Nat}(e:σ[j]? =some (some (.ref p)))(h:SqT K H p xs)(a:atI xs i=some v)(q:Q v H):tOp (qSf K) (qT9 j) (tC (.int i)) σ H Q:=⟨.ref p,e,p,xs,i,v,rfl,rfl,h,a,q⟩
theorem ixO {K:PySem.W.Frag}{σ:St}{H:Hp}{p:Addr}{xs:List V}{i:Int}{v:V}{Q:VK}{j:Nat}(h:H p=some (.tup xs))(a:atI xs i=some v)(q:Q v H)(e:σ[j]? =some (some (.ref p)):=by rfl):tOp (qSf K) (qT9 j) (tC (.int i)) σ H Q:=zA e (SqT.of h) a q
section
variable {P : Program} {w : World} {K : W.Frag} {mg : Str → Option Value} {base : Heap} {a : Ads}
inductive qI9 (vs:List V)(H:Hp)(Q:VK)(_:XK):Prop
| mk (i:Int) (_:vs=[.int i]) (_:Q (.bl true) H)
theorem qC4 (T:Tx K mg a):FnOk P w K mg base CX0 1 a.A0 a.B0 ["x"] qI9:=by
 refine T.D0.F.ok qC9 (fun vs H Q E h=>?_) (fun cdv A outer s H vs Q E hr h=>?_)
 · obtain⟨i,rfl,_⟩:=h
   rfl
 refine qL fun _ Y=>?_
 obtain⟨i,rfl,q⟩:=h
 apply Y
 refine⟨_,(qE (qM (vk (qi j8 rfl T.b_isinstance rfl (qA (pv 0) (qA (qI2 rfl T.b_int rfl) qC))) (qBc (qQg (qi j8 rfl T.b_isinstance rfl (qA (pv 0) (qA (qI2 rfl T.b_bool rfl) qC)))))))),?_⟩
 try dsimp only [je,qg]
 refine⟨_,rfl,_,_,_,true,rfl,.int i,⟨_,.inl ⟨rfl,rfl⟩⟩,true,rfl,xE ?_⟩
 refine⟨_,rfl,_,_,_,false,rfl,.int i,⟨_,.inl ⟨rfl,by kernel_rfl⟩⟩,false,rfl,?_⟩
 exact q
inductive qAh (vs:List V)(H:Hp)(Q:VK)(_:XK):Prop
| mk (i j:Int) (_:vs=[.int i,.int j]) (_:Q (.int ((Int.gcd i j:Nat):Int)) H)
theorem qAb (T:Tx K mg a):FnOk P w K mg base CX0 1 a.A1 a.B1 ["one","other"] qAh:=by
 refine T.D1.F.ok jx (fun vs H Q E h=>?_) (fun cdv A outer s H vs Q E hr h=>?_)
 · obtain⟨i,j,rfl,_⟩:=h
   rfl
 refine qL fun _ Y=>?_
 obtain⟨i,j,rfl,q⟩:=h
 apply Y
 refine⟨_,(qB (qKh PassesOwn.never (qJ xo (pv 1) qG (qN _)) (qB (qU 2 jx.nd (qP jA (pv 0) (pv 1)))
  (qB (qU 0 jx.nd (pv 1))
  (qE (qU 1 jx.nd (pv 2))))))
  (qE (qM (qi qFq rfl T.b_abs rfl (qA (pv 0) qC))))),?_⟩
 try dsimp only [je,qg]
 refine qKd (fun σ H'=>H'=H∧∃ (x y:Int) (v:Option V),σ=[some (.int x),some (.int y),v]∧Int.gcd x y=Int.gcd i j)
  (fun σ _=>match σ with | [_,some (.int y),_]=>y.natAbs | _=>0) ⟨rfl,i,j,none,rfl,rfl⟩ ?_ ?_
 · rintro σ H1 ⟨rfl,x,y,v,rfl,e⟩
   refine⟨_,rfl,rfl,_,rfl,?_⟩
   refine jf (fun c=>?_) (fun c=>?_)
   · have hy:y≠0:=by simpa using c
     refine⟨_,rfl,_,rfl,_,_,rfl,rfl,hy,_,rfl,_,rfl,⟨rfl,y,x.fmod y,_,rfl,?_⟩,?_⟩
     · rw [qJ4];exact e
     · exact qN7 x y hy
   · have hy:y=0:=by simpa using c
     subst hy
     refine⟨_,rfl,x,rfl,?_⟩
     have e2:(if x < 0 then -x else x)=((Int.gcd i j:Nat):Int):=by
      rw [← e,Int.gcd_zero_right]
      split <;> omega
     rw [e2]
     exact q
 · rintro σ H1 Q1 Q2 hq h
   refine qL fun _ Y=>?_
   obtain⟨v,e,s,k,hk,z⟩:=h
   apply Y
   exact⟨v,e,s,k,hk,hq _ _ z⟩
theorem qJ3 {t b:Int}(h:b≠0)(hb:b.natAbs < 2 ^ 8000):CDivB t (sg t b)∧CDivB b (sg t b):=by
 have h1:=qVb (t:=t) h
 have h2:(sg t b).natAbs < 2 ^ 8000:=by
  rw [qKl]
  exact Nat.lt_of_le_of_lt (Nat.le_of_dvd (by omega) (Int.gcd_dvd_natAbs_right ..)) hb
 exact⟨⟨h1,h2⟩,⟨h1,h2⟩⟩
inductive qJl (vs:List V)(H:Hp)(Q:VK)(_:XK):Prop
| mk (t b:Int) (_:vs=[.int t,.int b]) (_:b≠0) (_:b.natAbs < 2 ^ 8000) (_:qO0 H Q (ji t b) (jY t b))
theorem jo (T:Tx K mg a):FnOk P w K mg base CX0 2 a.A3 a.B3 ["top","bottom"] qJl:=by
 refine T.D3.F.ok wD (fun vs H Q E h=>?_) (fun cdv A outer s H vs Q E hr h=>?_)
 · obtain⟨t,b,rfl,_⟩:=h
   rfl
 refine qL fun _ Y=>?_
 obtain⟨t,b,rfl,hb,hs,q⟩:=h
 apply Y
 refine⟨_,(qB (qd (PW.pt (z6 (zS (j4 (qK T.D0 (qC4 T) hr rfl (qA (pv 0) qC)))) (xk (zS (j4 (qK T.D0 (qC4 T) hr rfl (qA (pv 1) qC))))))) wm qQ)
  (qB (qd (qJ jU (pv 1) qG (qN _)) wm qQ)
  (qB (qU 2 wD.nd (qK T.D1 (qAb T) hr rfl (qA (pv 0) (qA (pv 1) qC))))
  (qB (qd (qJ zo (pv 1) qG (qN _)) (qE (qU 2 wD.nd (ka xK (pv 2)))) qQ)
  (qE (qM (ql (qA (qP qj (pv 0) (pv 2)) (qA (qP qj (pv 1) (pv 2)) qC))))))))),?_⟩
 try dsimp only [je,qg]
 refine⟨_,rfl,t,rfl,true,rfl,jQ ?_⟩
 refine⟨_,rfl,b,rfl,true,rfl,jQ ?_⟩
 refine⟨_,rfl,rfl,_,rfl,?_⟩
 refine jf (fun c=>absurd (by simpa using c) hb) (fun _=>?_)
 refine⟨_,rfl,_,rfl,t,b,rfl,?_⟩
 refine⟨_,rfl,_,_,rfl,rfl,_,rfl,?_⟩
 obtain⟨d1,d2⟩:=qJ3 (t:=t) hb hs
 refine jf (fun c=>?_) (fun c=>?_)
 · have c':b < 0:=by simpa using c
   have e:-((Int.gcd t b:Nat):Int)=sg t b:=by unfold sg;rw [if_pos c']
   have q':qO0 H Q (t.fdiv (-((Int.gcd t b:Nat):Int))) (b.fdiv (-((Int.gcd t b:Nat):Int))):=by rw [e];exact q
   exact⟨_,rfl,_,rfl,_,rfl,_,rfl,_,_,rfl,rfl,(by rw [e];exact d1),_,rfl,_,rfl,_,_,rfl,rfl,(by rw [e];exact d2),sL2,q'⟩
 · have c':¬ b < 0:=by simpa using c
   have e:((Int.gcd t b:Nat):Int)=sg t b:=by unfold sg;rw [if_neg c']
   have q':qO0 H Q (t.fdiv ((Int.gcd t b:Nat):Int)) (b.fdiv ((Int.gcd t b:Nat):Int)):=by rw [e];exact q
   exact⟨_,rfl,_,rfl,_,_,rfl,rfl,(by rw [e];exact d1),_,rfl,_,rfl,_,_,rfl,rfl,(by rw [e];exact d2),sL2,q'⟩
def Pr (K:W.Frag)(H:Hp)(v:V)(p q:Int):Prop:=∃ z,v= .ref z∧SqT K H z [.int p,.int q]
def Sm (i:Int):Prop:=i.natAbs < 2 ^ 3000
theorem Sm.mul {i j:Int}(h1:Sm i)(h2:Sm j):CMulB i j:=by
 unfold Sm at h1 h2
 have:(2:Nat) ^ 3000≤2 ^ 60000:=Nat.pow_le_pow_right (by decide) (by decide)
 exact .inr ⟨by omega,by omega⟩
theorem Sm.prod {i j:Int}(h1:Sm i)(h2:Sm j):(i*j).natAbs < 2 ^ 8000:=by
 unfold Sm at h1 h2
 rw [Int.natAbs_mul]
 have h3:i.natAbs*j.natAbs < 2 ^ 3000*2 ^ 3000:=Nat.mul_lt_mul'' h1 h2
 rw [← Nat.pow_add] at h3
 exact Nat.lt_of_lt_of_le h3 (Nat.pow_le_pow_right (by decide) (by decide))
theorem at0 {x y:V}:atI [x,y] 0=some x:=rfl
theorem at1 {x y:V}:atI [x,y] 1=some y:=rfl
inductive qNu (K:W.Frag)(vs:List V)(H:Hp)(Q:VK)(_:XK):Prop
| mk (x y:V) (p q r s:Int) (_:vs=[x,y]) (_:Pr K H x p q) (_:Pr K H y r s) (_:q≠0) (_:s≠0) (_:Sm p) (_:Sm q) (_:Sm r) (_:Sm s) (_:qO0 H Q (ji (p*s+r*q) (q*s)) (jY (p*s+r*q) (q*s)))
theorem qMl (T:Tx K mg a):FnOk P w K mg base CX0 3 a.A4 a.B4 ["one","other"] (qNu K):=by
 refine T.D4.F.ok qNp (fun vs H Q E h=>?_) (fun cdv A outer s H vs Q E hr h=>?_)
 · obtain⟨x,y,p,q,r,s,rfl,_⟩:=h
   rfl
 refine qL fun _ Y=>?_
 obtain⟨x,y,p,q,r,s',rfl,⟨z1,rfl,h1⟩,⟨z2,rfl,h2⟩,hq,hs,bp,bq,br,bs,k⟩:=h
 apply Y
 refine⟨_,(qE (qM (qK T.D3 (jo T) hr rfl (qA (qP qo (qP qr (qI (pv 0)) (qI (pv 1))) (qP qr (qI (pv 1)) (qI (pv 0)))) (qA (qP qr (qI (pv 0)) (qI (pv 1))) qC))))),?_⟩
 try dsimp only [je,qg]
 refine(zA rfl h1 at0 (zA rfl h2 at1 ⟨_,_,rfl,rfl,bp.mul bs,?_⟩))
 refine(zA rfl h2 at0 (zA rfl h1 at1 ⟨_,_,rfl,rfl,br.mul bq,_,_,rfl,rfl,?_⟩))
 refine(zA rfl h1 at1 (zA rfl h2 at1 ⟨_,_,rfl,rfl,bq.mul bs,?_⟩))
 exact⟨_,_,rfl,Int.mul_ne_zero hq hs,bq.prod bs,k⟩
inductive qI8 (K:W.Frag)(vs:List V)(H:Hp)(Q:VK)(_:XK):Prop
| mk (x:V) (p q:Int) (_:vs=[x]) (_:Pr K H x p q) (_:q≠0) (_:q.natAbs < 2 ^ 8000) (_:Q (.int (p.fdiv q)) H)
theorem kP (T:Tx K mg a):FnOk P w K mg base CX0 1 a.A9 a.B9 ["one"] (qI8 K):=by
 refine T.D9.F.ok qIj (fun vs H Q E h=>?_) (fun cdv A outer s H vs Q E hr h=>?_)
 · obtain⟨x,p,q,rfl,_⟩:=h
   rfl
 refine qL fun _ Y=>?_
 obtain⟨x,p,q,rfl,⟨z1,rfl,h1⟩,hq,bq,k⟩:=h
 apply Y
 refine⟨_,(qE (qM (qP qj (qI (pv 0)) (qI (pv 0))))),?_⟩
 try dsimp only [je,qg]
 exact(zA rfl h1 at0 (zA rfl h1 at1 ⟨_,_,rfl,rfl,⟨hq,bq⟩,k⟩))
theorem nz {j:Int}(h:j≠0:=by decide):j≠0:=h
theorem cdB {i j:Int}(h0:j≠0)(h:j.natAbs < 18446744073709551616):CDivB i j:=
 ⟨h0,Nat.lt_of_lt_of_le h (Nat.le_trans (by decide:18446744073709551616≤2 ^ 64) (Nat.pow_le_pow_right (by decide) (by decide)))⟩
theorem cmR {i j:Int}(h1:-(18446744073709551616:Int) < j)(h2:j < 18446744073709551616):CMulB i j:=.inl (.inr ⟨h1,h2⟩)
theorem cmL {i j:Int}(h1:-(18446744073709551616:Int) < i)(h2:i < 18446744073709551616):CMulB i j:=.inl (.inl ⟨h1,h2⟩)
theorem at2 {x y:V}{i:Int}(h0:0≤i)(h1:i < 2):∃ v,atI [x,y] i=some v∧(v=x∨v=y):=by
 have:i=0∨i=1:=by omega
 rcases this with rfl | rfl
 · exact⟨x,rfl,.inl rfl⟩
 · exact⟨y,rfl,.inr rfl⟩
theorem fm (i:Int){j:Int}(h:0 < j):0≤i.fmod j∧i.fmod j < j:=⟨Int.fmod_nonneg_of_pos i h,Int.fmod_lt_of_pos i h⟩
theorem cpw {n:Nat}(h:n≤1000000):qVw 10 (n:Int):=⟨by omega,by omega,by decide⟩
def qJc (n:Nat)(p q:Int):Prop:=0 < q∧Int.gcd p q=1∧p.natAbs < 2 ^ n∧q.natAbs < 2 ^ n
theorem Sm.of200 {i:Int}(h:i.natAbs < 2 ^ 200):Sm i:=Nat.lt_of_lt_of_le h (Nat.pow_le_pow_right (by decide) (by decide))
theorem qBy {n:Nat}{t b:Int}(hb:0 < b)(h1:t.natAbs < 2 ^ n)(h2:b.natAbs < 2 ^ n):qJc n (ji t b) (jY t b):=
 ⟨xc (by omega),qCc (by omega),Nat.lt_of_le_of_lt (qB0 (by omega)) h1,Nat.lt_of_le_of_lt (kJ (by omega)) h2⟩
inductive qI4 (K:W.Frag)(vs:List V)(H:Hp)(Q:VK)(_:XK):Prop
| mk (x y:V) (p q r s:Int) (_:vs=[x,y]) (_:Pr K H x p q) (_:Pr K H y r s) (_:q≠0) (_:s≠0) (_:Sm p) (_:Sm q) (_:Sm r) (_:Sm s) (_:qO0 H Q (ji (p*r) (q*s)) (jY (p*r) (q*s)))
theorem qIy (T:Tx K mg a):FnOk P w K mg base CX0 3 a.A6 a.B6 ["one","other"] (qI4 K):=by
 refine T.D6.F.ok qIi (fun vs H Q E h=>?_) (fun cdv A outer s H vs Q E hr h=>?_)
 · obtain⟨x,y,p,q,r,s,rfl,_⟩:=h
   rfl
 refine qL fun _ Y=>?_
 obtain⟨x,y,p,q,r,s',rfl,⟨z1,rfl,h1⟩,⟨z2,rfl,h2⟩,hq,hs,bp,bq,br,bs,k⟩:=h
 apply Y
 refine⟨_,(qE (qM (qK T.D3 (jo T) hr rfl (qA (qP qr (qI (pv 0)) (qI (pv 1))) (qA (qP qr (qI (pv 0)) (qI (pv 1))) qC))))),?_⟩
 try dsimp only [je,qg]
 refine(zA rfl h1 at0 (zA rfl h2 at0 ⟨_,_,rfl,rfl,bp.mul br,?_⟩))
 refine(zA rfl h1 at1 (zA rfl h2 at1 ⟨_,_,rfl,rfl,bq.mul bs,?_⟩))
 exact⟨_,_,rfl,Int.mul_ne_zero hq hs,bq.prod bs,k⟩
inductive qK7 (K:W.Frag)(vs:List V)(H:Hp)(Q:VK)(_:XK):Prop
| mk (x y:V) (p q r s:Int) (_:vs=[x,y]) (_:Pr K H x p q) (_:Pr K H y r s) (_:q≠0) (_:s≠0) (_:Sm p) (_:Sm q) (_:Sm r) (_:Sm s) (_:qO0 H Q (ji (p*s - r*q) (q*s)) (jY (p*s - r*q) (q*s)))
theorem qAs (T:Tx K mg a):FnOk P w K mg base CX0 3 a.A5 a.B5 ["one","other"] (qK7 K):=by
 refine T.D5.F.ok qLq (fun vs H Q E h=>?_) (fun cdv A outer s H vs Q E hr h=>?_)
 · obtain⟨x,y,p,q,r,s,rfl,_⟩:=h
   rfl
 refine qL fun _ Y=>?_
 obtain⟨x,y,p,q,r,s',rfl,⟨z1,rfl,h1⟩,⟨z2,rfl,h2⟩,hq,hs,bp,bq,br,bs,k⟩:=h
 apply Y
 refine⟨_,(qE (qM (qK T.D3 (jo T) hr rfl (qA (qP jJ (qP qr (qI (pv 0)) (qI (pv 1))) (qP qr (qI (pv 1)) (qI (pv 0)))) (qA (qP qr (qI (pv 0)) (qI (pv 1))) qC))))),?_⟩
 try dsimp only [je,qg]
 refine(zA rfl h1 at0 (zA rfl h2 at1 ⟨_,_,rfl,rfl,bp.mul bs,?_⟩))
 refine(zA rfl h2 at0 (zA rfl h1 at1 ⟨_,_,rfl,rfl,br.mul bq,_,_,rfl,rfl,?_⟩))
 refine(zA rfl h1 at1 (zA rfl h2 at1 ⟨_,_,rfl,rfl,bq.mul bs,?_⟩))
 exact⟨_,_,rfl,Int.mul_ne_zero hq hs,bq.prod bs,k⟩
inductive qJn (K:W.Frag)(vs:List V)(H:Hp)(Q:VK)(_:XK):Prop
| mk (x y:V) (p q r s:Int) (_:vs=[x,y]) (_:Pr K H x p q) (_:Pr K H y r s) (_:q≠0) (_:r≠0) (_:Sm p) (_:Sm q) (_:Sm r) (_:Sm s) (_:qO0 H Q (ji (p*s) (q*r)) (jY (p*s) (q*r)))
theorem qCe (T:Tx K mg a):FnOk P w K mg base CX0 3 a.A7 a.B7 ["one","other"] (qJn K):=by
 refine T.D7.F.ok qIv (fun vs H Q E h=>?_) (fun cdv A outer s H vs Q E hr h=>?_)
 · obtain⟨x,y,p,q,r,s,rfl,_⟩:=h
   rfl
 refine qL fun _ Y=>?_
 obtain⟨x,y,p,q,r,s',rfl,⟨z1,rfl,h1⟩,⟨z2,rfl,h2⟩,hq,hr',bp,bq,br,bs,k⟩:=h
 apply Y
 refine⟨_,(qE (qM (qK T.D3 (jo T) hr rfl (qA (qP qr (qI (pv 0)) (qI (pv 1))) (qA (qP qr (qI (pv 0)) (qI (pv 1))) qC))))),?_⟩
 try dsimp only [je,qg]
 refine(zA rfl h1 at0 (zA rfl h2 at1 ⟨_,_,rfl,rfl,bp.mul bs,?_⟩))
 refine(zA rfl h1 at1 (zA rfl h2 at0 ⟨_,_,rfl,rfl,bq.mul br,?_⟩))
 exact⟨_,_,rfl,Int.mul_ne_zero hq hr',bq.prod br,k⟩
inductive NoW (H:Hp):V→Prop where
 | non:NoW H .non
 | bl (b:Bool):NoW H (.bl b)
 | str (z:Str):NoW H (.str z)
 | lst {a:Addr} {xs:List V} (e:H a=some (.lst xs)):NoW H (.ref a)
 | tup {a:Addr} {xs:List V} (e:H a=some (.tup xs)):NoW H (.ref a)
theorem NoW.same {H H':Hp}{x:V}(s:Same H H'):NoW H x→NoW H' x
 | .non=>.non
 | .bl b=>.bl b
 | .str z=>.str z
 | .lst e=>.lst (s _ _ e)
 | .tup e=>.tup (s _ _ e)
def WhB (H:Hp)(x:V)(b:Bool):Prop:=(∃ i:Int,x= .int i∧b=true)∨(NoW H x∧b=false)
theorem WhB.int {H:Hp}(i:Int):WhB H (.int i) true:=.inl ⟨i,rfl,rfl⟩
theorem WhB.no {H:Hp}{x:V}(h:NoW H x):WhB H x false:=.inr ⟨h,rfl⟩
theorem WhB.ty {H:Hp}{x:V}{b:Bool}(h:WhB H x b):∃ t i c,qJu K H x t∧W.kitOne K t (.type "int")=some i∧W.kitOne K t (.type "bool")=some c∧b=(i && !c):=by
 rcases h with ⟨i,rfl,rfl⟩ | ⟨h,rfl⟩
 · exact⟨_,true,false,.int i,by kernel_rfl,by kernel_rfl,rfl⟩
 · cases h with
   | non=>exact⟨_,false,false,.non,by kernel_rfl,by kernel_rfl,rfl⟩
   | bl b=>exact⟨_,true,true,.bl b,by kernel_rfl,by kernel_rfl,rfl⟩
   | str z=>exact⟨_,false,false,.str z,by kernel_rfl,by kernel_rfl,rfl⟩
   | lst e=>exact⟨_,false,false,.lst e,by kernel_rfl,by kernel_rfl,rfl⟩
   | tup e=>exact⟨_,false,false,.tup e,by kernel_rfl,by kernel_rfl,rfl⟩
inductive qF1 (vs:List V)(H:Hp)(Q:VK)(_:XK):Prop
| mk (x:V) (b:Bool) (_:vs=[x]) (_:WhB H x b) (_:Q (.bl b) H)
theorem xG (T:Tx K mg a):FnOk P w K mg base CX0 1 a.A0 a.B0 ["x"] qF1:=by
 refine T.D0.F.ok qC9 (fun vs H Q E h=>?_) (fun cdv A outer s H vs Q E hr h=>?_)
 · obtain⟨x,b,rfl,_⟩:=h
   rfl
 refine qL fun _ Y=>?_
 obtain⟨x,b,rfl,hx,q⟩:=h
 apply Y
 refine⟨_,(qE (qM (vk (qi j8 rfl T.b_isinstance rfl (qA (pv 0) (qA (qI2 rfl T.b_int rfl) qC))) (qBc (qQg (qi j8 rfl T.b_isinstance rfl (qA (pv 0) (qA (qI2 rfl T.b_bool rfl) qC)))))))),?_⟩
 try dsimp only [je,qg]
 refine qL fun _ Y=>?_
 obtain⟨t,i,c,ty,e1,e2,rfl⟩:=hx.ty (K:=K)
 apply Y
 refine⟨_,rfl,_,_,_,i,rfl,ty,⟨_,.inl ⟨rfl,e1⟩⟩,i,rfl,?_⟩
 cases i with
 | false=>exact jQ q
 | true=>exact xE ⟨_,rfl,_,_,_,c,rfl,ty,⟨_,.inl ⟨rfl,e2⟩⟩,c,rfl,q⟩
inductive FrB (K:W.Frag)(H:Hp):V→Bool→Prop where
 | no {x:V} {t:Value} (ty:qJu K H x t) (e:W.kitOne K t (.type "tuple")=some false):FrB K H x false
 | len {z:Addr} {xs:List V} (e:H z=some (.tup xs)) (h:xs.length≠2):FrB K H (.ref z) false
 | one {z:Addr} {x y:V} (e:H z=some (.tup [x,y])) (h:NoW H x):FrB K H (.ref z) false
 | two {z:Addr} {i:Int} {y:V} (e:H z=some (.tup [.int i,y])) (h:NoW H y):FrB K H (.ref z) false
 | nums {z:Addr} {p q:Int} (e:H z=some (.tup [.int p,.int q])):FrB K H (.ref z) (decide (1≤q) && decide (Int.gcd p q=1))
inductive qHe (K:W.Frag)(vs:List V)(H:Hp)(Q:VK)(_:XK):Prop
| mk (x y:V) (p q r s:Int) (_:vs=[x,y]) (_:Pr K H x p q) (_:Pr K H y r s) (_:Sm p) (_:Sm q) (_:Sm r) (_:Sm s) (_:Q (.bl (decide (p*s < r*q))) H)
theorem qHd (T:Tx K mg a):FnOk P w K mg base CX0 1 a.A8 a.B8 ["one","other"] (qHe K):=by
 refine T.D8.F.ok qHg (fun vs H Q E h=>?_) (fun cdv A outer s H vs Q E hr h=>?_)
 · obtain⟨x,y,p,q,r,s,rfl,_⟩:=h
   rfl
 refine qL fun _ Y=>?_
 obtain⟨x,y,p,q,r,s',rfl,⟨z1,rfl,h1⟩,⟨z2,rfl,h2⟩,bp,bq,br,bs,k⟩:=h
 apply Y
 refine⟨_,(qE (qM (jp zo (qP qr (qI (pv 0)) (qI (pv 1))) (qP qr (qI (pv 1)) (qI (pv 0))) (qN _)))),?_⟩
 try dsimp only [je,qg]
 refine(zA rfl h1 at0 (zA rfl h2 at1 ⟨_,_,rfl,rfl,bp.mul bs,?_⟩))
 exact(zA rfl h2 at0 (zA rfl h1 at1 ⟨_,_,rfl,rfl,br.mul bq,_,_,rfl,rfl,k⟩))
structure Cp (K:W.Frag)(H:Hp)(v:V)(n:Str)(p q r s len:Int):Prop where
 ex:∃ z z1 z2,v= .ref z∧SqT K H z [.str "clip",.str n,.ref z1,.ref z2,.int len]∧SqT K H z1 [.int p,.int q]∧SqT K H z2 [.int r,.int s]
theorem Cp.same {H H':Hp}{v:V}{n:Str}{p q r s len:Int}(e:Same H H')(h:Cp K H v n p q r s len):Cp K H' v n p q r s len:=
 let ⟨z,z1,z2,h1,h2,h3,h4⟩:=h.ex;⟨z,z1,z2,h1,L3.Same.tup e h2,L3.Same.tup e h3,L3.Same.tup e h4⟩
theorem qJ1 {x0 x1 x2 x3 x4:V}:atI [x0,x1,x2,x3,x4] 2=some x2:=rfl
theorem qB5 {x0 x1 x2 x3 x4:V}:atI [x0,x1,x2,x3,x4] 3=some x3:=rfl
theorem qOz {p q r s k:Int}(hq:0 < q)(hs:0 < s):
 ji (p*jY (k*r) (1*s)+ji (k*r) (1*s)*q) (q*jY (k*r) (1*s))=ji (p*s+k*r*q) (q*s)∧
 jY (p*jY (k*r) (1*s)+ji (k*r) (1*s)*q) (q*jY (k*r) (1*s))=jY (p*s+k*r*q) (q*s):=by
 rw [Int.one_mul]
 have c:=zy (k*r) s
 have n0:=xc (t:=k*r) (b:=s) (by omega)
 generalize ji (k*r) s=m at c ⊢
 generalize jY (k*r) s=n at c n0 ⊢
 have b1:q*s≠0:=Int.mul_ne_zero (by omega) (by omega)
 have b2:q*n≠0:=Int.mul_ne_zero (by omega) (by omega)
 refine qEs b2 (xc b1) (qCc b1) ?_
 have e:=zy (p*s+k*r*q) (q*s)
 generalize ji (p*s+k*r*q) (q*s)=u at e ⊢
 generalize jY (p*s+k*r*q) (q*s)=v at e ⊢
 have h:(u*(q*n))*s=((p*n+m*q)*v)*s:=by
  calc (u*(q*n))*s=(u*(q*s))*n:=by rw [Int.mul_assoc,Int.mul_assoc,Int.mul_assoc,Int.mul_assoc,Int.mul_comm n s]
   _=((p*s+k*r*q)*v)*n:=by rw [e]
   _=(p*n*s+(k*r*n)*q)*v:=by
    have h1:(p*s+k*r*q)*v*n=(p*s+k*r*q)*n*v:=by rw [Int.mul_assoc,Int.mul_comm v n,← Int.mul_assoc]
    have h2:(p*s+k*r*q)*n=p*n*s+k*r*n*q:=by
     rw [Int.add_mul,Int.mul_assoc p s n,Int.mul_comm s n,← Int.mul_assoc,Int.mul_assoc (k*r) q n,Int.mul_comm q n,← Int.mul_assoc]
    rw [h1,h2]
   _=(p*n*s+(m*s)*q)*v:=by rw [← c]
   _=((p*n+m*q)*v)*s:=by
    have h3:p*n*s+m*s*q=(p*n+m*q)*s:=by rw [Int.add_mul,Int.mul_assoc m s q,Int.mul_comm s q,← Int.mul_assoc]
    rw [h3,Int.mul_assoc,Int.mul_comm s v,← Int.mul_assoc]
 exact Int.eq_of_mul_eq_mul_right (by omega) h
def Sm2 (i:Int):Prop:=i.natAbs < 2 ^ 700
theorem Sm2.sm {i:Int}(h:Sm2 i):Sm i:=Nat.lt_of_lt_of_le h (Nat.pow_le_pow_right (by decide) (by decide))
theorem jI {i j:Int}{n m:Nat}(h1:i.natAbs < 2 ^ n)(h2:j.natAbs < 2 ^ m):(i*j).natAbs < 2 ^ (n+m):=by
 rw [Int.natAbs_mul,Nat.pow_add]
 exact Nat.mul_lt_mul'' h1 h2
inductive qIp (K:W.Frag)(vs:List V)(H:Hp)(Q:VK)(_:XK):Prop
| mk (v:V) (n:Str) (p q r s len k:Int) (_:vs=[v,.int k]) (_:Cp K H v n p q r s len) (_:0 < q) (_:0 < s) (_:Sm2 p) (_:Sm2 q) (_:Sm2 r) (_:Sm2 s) (_:Sm2 k) (_:∀ z H',Same H H'→H' z=some (.tup [.int (ji (p*s+k*r*q) (q*s)),.int (jY (p*s+k*r*q) (q*s))])→Q (.ref z) H')
theorem zB (T:Tx K mg a):FnOk P w K mg base CX0 4 a.A12 a.B12 ["clip","k"] (qIp K):=by
 refine T.D12.F.ok qJg (fun vs H Q E h=>?_) (fun cdv A outer s H vs Q E hr h=>?_)
 · obtain⟨v,n,p,q,r,s,len,k,rfl,_⟩:=h
   rfl
 refine qL fun _ Y=>?_
 obtain⟨v,n,p,q,r,s',len,k,rfl,⟨z,z1,z2,rfl,hc,h1,h2⟩,hq,hs,bp,bq,br,bs,bk,kk⟩:=h
 apply Y
 refine⟨_,(qE (qM (qK T.D4 (qMl T) hr rfl (qA (qI (pv 0)) (qA (qK T.D6 (qIy T) hr rfl (qA (qK T.D3 (jo T) hr rfl (qA (pv 1) (qA qG qC))) (qA (qI (pv 0)) qC))) qC))))),?_⟩
 try dsimp only [je,qg]
 refine⟨_,rfl,z,_,_,_,rfl,rfl,hc,qJ1,_,rfl,k,1,rfl,by decide,Nat.lt_of_lt_of_le (m:=2 ^ 1) (by decide) (Nat.pow_le_pow_right (by decide) (by decide)),fun y hy=>?_⟩
 have s1:=qF hy (.tup [.int (ji k 1),.int (jY k 1)])
 obtain⟨l1,l2⟩:=qKt (p:=k) (q:=1) (by decide) (Int.gcd_one_right ..)
 refine⟨_,rfl,z,_,_,_,rfl,rfl,L3.Same.tup s1 hc,qB5,?_⟩
 have one:Sm 1:=Nat.lt_of_lt_of_le (m:=2 ^ 1) (by decide) (Nat.pow_le_pow_right (by decide) (by decide))
 refine⟨_,_,k,1,r,s',rfl,⟨y,rfl,?_⟩,⟨z2,rfl,L3.Same.tup s1 h2⟩,by decide,by omega,bk.sm,one,br.sm,bs.sm,fun x hx=>?_⟩
 · have e:SqT K (upd H y (.tup [.int (ji k 1),.int (jY k 1)])) y [.int (ji k 1),.int (jY k 1)]:=SqT.of qD
   rw [l1,l2] at e ⊢
   exact e
 have s2:=s1.trans (qF hx (.tup [.int (ji (k*r) (1*s')),.int (jY (k*r) (1*s'))]))
 have b1:(1*s')≠0:=by omega
 have n0:=xc (t:=k*r) b1
 have bm:Sm (ji (k*r) (1*s')):=by
  refine Nat.lt_of_le_of_lt (qB0 b1) (Nat.lt_of_lt_of_le (jI bk br) (Nat.pow_le_pow_right (by decide) (by decide)))
 have bn:Sm (jY (k*r) (1*s')):=by
  refine Nat.lt_of_le_of_lt (kJ b1) ?_
  rw [Int.one_mul]
  exact bs.sm
 refine⟨_,_,p,q,_,_,rfl,⟨z1,rfl,L3.Same.tup s2 h1⟩,⟨x,rfl,SqT.of qD⟩,by omega,by omega,bp.sm,bq.sm,bm,bn,fun u hu=>?_⟩
 obtain⟨e1,e2⟩:=qOz (p:=p) (r:=r) (k:=k) hq hs
 refine kk u _ (s2.trans (qF hu _)) ?_
 rw [qD,e1,e2]
theorem qC5 {t b:Int}(hb:0 < b):(ji t b).fdiv (jY t b)=t.fdiv b:=by
 have e1:=qOw t b
 have e2:=qM9 t b
 have sp:0 < sg t b:=by
  have g:=wx (t:=t) (b:=b) (by omega)
  unfold sg
  rw [if_neg (by omega)]
  omega
 have q0:=xc (t:=t) (b:=b) (by omega)
 obtain⟨h1,h2⟩:=q9 (p:=ji t b) q0
 obtain⟨h3,h4⟩:=q9 (p:=t) hb
 generalize (ji t b).fdiv (jY t b)=f at h1 h2 ⊢
 generalize t.fdiv b=g at h3 h4 ⊢
 generalize ji t b=u at e1 h1 h2
 generalize jY t b=v at e2 h1 h2 q0
 generalize sg t b=w at e1 e2 sp
 subst e1 e2
 have k1:g*v≤u:=by
  rw [← Int.mul_assoc] at h3
  exact Int.le_of_mul_le_mul_right h3 sp
 have k2:u < (g+1)*v:=by
  rw [← Int.mul_assoc] at h4
  exact Int.lt_of_mul_lt_mul_right h4 (by omega)
 have k3:f < g+1:=Int.lt_of_mul_lt_mul_right (a:=v) (by omega) (by omega)
 have k4:g < f+1:=Int.lt_of_mul_lt_mul_right (a:=v) (by omega) (by omega)
 omega
inductive qFj (K:W.Frag)(vs:List V)(H:Hp)(Q:VK)(_:XK):Prop
| mk (v:V) (n:Str) (p q r s len k:Int) (_:vs=[v,.int k]) (_:Cp K H v n p q r s len) (_:0 < q) (_:0 < s) (_:Sm2 p) (_:Sm2 q) (_:Sm2 r) (_:Sm2 s) (_:Sm2 k) (_:∀ H',Same H H'→Q (.int ((p*s+k*r*q).fdiv (q*s))) H')
theorem kN (T:Tx K mg a):FnOk P w K mg base CX0 5 a.A13 a.B13 ["clip","k"] (qFj K):=by
 refine T.D13.F.ok qE6 (fun vs H Q E h=>?_) (fun cdv A outer s H vs Q E hr h=>?_)
 · obtain⟨v,n,p,q,r,s,len,k,rfl,_⟩:=h
   rfl
 refine qL fun _ Y=>?_
 obtain⟨v,n,p,q,r,s',len,k,rfl,hc,hq,hs,bp,bq,br,bs,bk,kk⟩:=h
 apply Y
 refine⟨_,(qE (qM (qK T.D9 (kP T) hr rfl (qA (qK T.D12 (zB T) hr rfl (qA (pv 0) (qA (pv 1) qC))) qC)))),?_⟩
 try dsimp only [je,qg]
 refine⟨_,rfl,_,rfl,v,n,p,q,r,s',len,k,rfl,hc,hq,hs,bp,bq,br,bs,bk,fun z H' sH hz=>?_⟩
 have b1:q*s'≠0:=Int.mul_ne_zero (by omega) (by omega)
 refine⟨_,_,_,rfl,⟨z,rfl,SqT.of hz⟩,?_,?_,?_⟩
 · have:=xc (t:=p*s'+k*r*q) b1;omega
 · exact Nat.lt_of_le_of_lt (kJ b1) (Nat.lt_of_lt_of_le (jI bq bs) (Nat.pow_le_pow_right (by decide) (by decide)))
 · rw [qC5 (Int.mul_pos hq hs)]
   exact kk H' sH
theorem qT6 {x0 x1 x2 x3 x4:V}:atI [x0,x1,x2,x3,x4] 0=some x0:=rfl
theorem qD8 {x0 x1 x2 x3 x4:V}:atI [x0,x1,x2,x3,x4] 1=some x1:=rfl
theorem qMn {x0 x1 x2 x3 x4:V}:atI [x0,x1,x2,x3,x4] 4=some x4:=rfl
theorem eq2 (a b c d:Int):qG1 [.int a,.int b] [.int c,.int d]=(a == c && b == d):=by
 simp [qG1,eqV,List.range_succ]
structure Bn (n:Nat)(p q r s:Int):Prop where
 q0:0 < q
 s0:0 < s
 bp:p.natAbs < 2 ^ n
 bq:q.natAbs < 2 ^ n
 br:r.natAbs < 2 ^ n
 bs:s.natAbs < 2 ^ n
theorem kf {i:Int}{n m:Nat}(h:i.natAbs < 2 ^ n)(l:n≤m:=by decide):i.natAbs < 2 ^ m:=Nat.lt_of_lt_of_le h (Nat.pow_le_pow_right (by decide) l)
theorem Bn.mono {n m:Nat}{p q r s:Int}(h:Bn n p q r s)(l:n≤m:=by decide):Bn m p q r s:=⟨h.q0,h.s0,kf h.bp l,kf h.bq l,kf h.br l,kf h.bs l⟩
theorem Bn.part {p q r s k:Int}(h:Bn 110 p q r s)(hk:k.natAbs < 2 ^ 30):Bn 340 (plP p q r s k) (plQ p q r s k) r s:=by
 obtain⟨hq,hs,bp,bq,br,bs⟩:=h
 refine⟨qEl hq hs,hs,Nat.lt_of_le_of_lt (qJh hq hs) ?_,Nat.lt_of_le_of_lt (qIk hq hs) (kf (jI bq bs)),kf br,kf bs⟩
 have h1:=jI bp bs
 have h2:=jI (jI hk br) bq
 have e:(2:Nat) ^ (110+110)+2 ^ (30+110+110)≤2 ^ 340:=by decide
 omega
theorem qPu {i:Int}{n:Nat}(h:i.natAbs < 2 ^ n)(l:n≤8000:=by decide):i.natAbs < 2 ^ 8000:=kf h l
inductive qC0 (K:W.Frag)(vs:List V)(H:Hp)(Q:VK)(_:XK):Prop
| mk (z:Addr) (ns:List Int) (i:Int) (_:vs=[.ref z,.int i]) (_:SqL K H z (ns.map V.int)) (_:ns.length≤63) (_:0≤i) (_:∀ c:Int,Q (.int c) H)
theorem jr (T:Tx K mg a):FnOk P w K mg base CX0 1 a.A76 a.B76 ["_law_script","_law_k"] (qC0 K):=by
 refine T.D76.F.ok qDg (fun vs H Q E h=>?_) (fun cdv A outer s H vs Q E hr h=>?_)
 · obtain⟨z,ns,i,rfl,_⟩:=h
   rfl
 refine qL fun _ Y=>?_
 obtain⟨z,ns,i,rfl,hS,hl,h0,k⟩:=h
 apply Y
 refine⟨_,(qB (qd (qJ zo (pv 1) (qi xA rfl T.b_len rfl (qA (pv 0) qC)) (qN _)) (qE (qM (qv qZ (pv 0) (pv 1) (fun _ _=>rfl)))) qQ)
  (qE (qM qG))),?_⟩
 try dsimp only [je,qg]
 have hml:(ns.map V.int).length=ns.length:=List.length_map _
 refine⟨_,rfl,_,rfl,z,_,rfl,.inl hS,_,_,rfl,rfl,_,rfl,?_⟩
 refine jf (fun c=>?_) (fun _=>?_)
 · have c':i < ((ns.map V.int).length:Int):=of_decide_eq_true c
   rw [hml] at c'
   have hi:i.toNat < ns.length:=by omega
   have e:i=((i.toNat:Nat):Int):=by omega
   have hat:atI (ns.map V.int) ((i.toNat:Nat):Int)=some (.int ns[i.toNat]):=qX (by rw [List.getElem?_map,List.getElem?_eq_getElem hi];rfl)
   rw [← e] at hat
   exact⟨_,rfl,_,rfl,z,_,_,.int ns[i.toNat],rfl,rfl,hS,hat,k _⟩
 · exact k 0
def thB (i m:Int):Bool:=decide (0≤i) && decide (i < m)
inductive qIq (vs:List V)(H:Hp)(Q:VK)(_:XK):Prop
| mk (i m:Int) (_:vs=[.int i,.int m]) (_:Q (.bl (thB i m)) H)
theorem qI3 (T:Tx K mg a):FnOk P w K mg base CX0 1 a.A14 a.B14 ["picture","many"] qIq:=by
 refine T.D14.F.ok qIx (fun vs H Q E h=>?_) (fun cdv A outer s H vs Q E hr h=>?_)
 · obtain⟨i,m,rfl,_⟩:=h
   rfl
 refine qL fun _ Y=>?_
 obtain⟨i,m,rfl,q⟩:=h
 apply Y
 refine⟨_,(qE (qM (vk (jp qN9 qG (pv 0) (qN _)) (qBc (jp zo (pv 0) (pv 1) (qN _)))))),?_⟩
 try dsimp only [je,qg]
 refine⟨_,rfl,_,_,rfl,rfl,_,rfl,?_⟩
 unfold thB at q
 by_cases h0:0≤i
 · rw [decide_eq_true h0] at q ⊢
   exact xE ⟨_,rfl,_,rfl,_,_,rfl,rfl,q⟩
 · rw [decide_eq_false h0] at q ⊢
   exact jQ q
theorem qGq {c d:Int}(hd:0 < d)(g:Int.gcd c d=1):ji (0*d - c*1) (1*d)= -c∧jY (0*d - c*1) (1*d)=d:=by
 refine qEs (by omega) hd (by rw [Int.neg_gcd];exact g) ?_
 grind
inductive qBh (K:W.Frag)(vs:List V)(H:Hp)(Q:VK)(_:XK):Prop
| mk (x y:V) (A B c d m:Int) (_:vs=[x,y,.int m]) (_:Pr K H x A B) (_:Pr K H y c d) (_:0 < B) (_:0 < d) (_:Int.gcd c d=1) (_:A.natAbs < 2 ^ 700) (_:B.natAbs < 2 ^ 700) (_:c.natAbs < 2 ^ 700) (_:d.natAbs < 2 ^ 700) (_:m.natAbs < 2 ^ 700) (_:∀ H',Same H H'→Q (.int (wt (A*d) (c*B) (B*d) m)) H')
theorem kU (T:Tx K mg a):FnOk P w K mg base CX0 4 a.A18 a.B18 ["first","step","many"] (qBh K):=by
 refine T.D18.F.ok xZ (fun vs H Q E h=>?_) (fun cdv A outer s H vs Q E hr h=>?_)
 · obtain⟨x,y,A,B,c,d,m,rfl,_⟩:=h
   rfl
 refine qL fun _ Y=>?_
 obtain⟨x,y,A',B,c,d,m,rfl,⟨z1,rfl,h1⟩,⟨z2,rfl,h2⟩,hB,hd,hg,bA,bB,bc,bd,bm,kk⟩:=h
 apply Y
 have hu:=hr.units0
 refine⟨_,(qB (qd (qJ (qP2 hu) (pv 1) (xh (v:=.ref a.n_NOUGHT) rfl T.g_NOUGHT rfl) (qN _)) (qE (qM (xh (v:=.int 1000000) rfl T.g_MOST_ROOM ⟨_,rfl⟩))) qQ)
  (qB (qd (zS (j4 (qK T.D14 (qI3 T) hr rfl (qA (qK T.D9 (kP T) hr rfl (qA (pv 0) qC)) (qA (pv 2) qC))))) (qE (qM qG)) qQ)
  (qB (vR (qd (j4 (qK T.D8 (qHd T) hr rfl (qA (pv 1) (qA (xh (v:=.ref a.n_NOUGHT) rfl T.g_NOUGHT rfl) qC)))) (qE (qU 3 xZ.nd (qP qo (qK T.D9 (kP T) hr rfl (qA (qK T.D7 (qCe T) hr rfl (qA (pv 0) (qA (qK T.D5 (qAs T) hr rfl (qA (xh (v:=.ref a.n_NOUGHT) rfl T.g_NOUGHT rfl) (qA (pv 1) qC))) qC))) qC)) qG))) (qE (qU 3 xZ.nd (ka xK (qK T.D9 (kP T) hr rfl (qA (qK T.D7 (qCe T) hr rfl (qA (qK T.D5 (qAs T) hr rfl (qA (pv 0) (qA (qK T.D3 (jo T) hr rfl (qA (pv 2) (qA qG qC))) qC))) (qA (pv 1) qC))) qC)))))))
  (qE (qM (qi (vS rfl) rfl T.b_min rfl (qA (pv 3) (qA (xh (v:=.int 1000000) rfl T.g_MOST_ROOM ⟨_,rfl⟩) qC)))))))),?_⟩
 try dsimp only [je,qg]
 have S:∀ {i:Int},i.natAbs < 2 ^ 700→Sm i:=fun h=>kf h
 have one:Sm 1:=Sm.of200 (by decide)
 have nul:Sm 0:=Sm.of200 (by decide)
 have hBd:=Int.mul_pos hB hd
 have H1:∀ {H':Hp},Same H H'→SqT K H' z1 [.int A',.int B]:=fun e=>L3.Same.tup e h1
 have H2:∀ {H':Hp},Same H H'→SqT K H' z2 [.int c,.int d]:=fun e=>L3.Same.tup e h2
 refine⟨_,rfl,_,_,_,_,rfl,rfl,h2,T.sq_NOUGHT _,rfl,rfl,_,rfl,?_⟩
 rw [if_neg (by decide:¬ (false=true)),eq2]
 by_cases hc:c=0
 · have d1:d=1:=by
    subst hc
    rw [Int.gcd_zero_left] at hg
    omega
   rw [show (c == 0 && d == 1)=true by simp [hc,d1]]
   refine xE ?_
   have:=kk H (Same.refl _)
   unfold wt at this
   rw [if_pos (by rw [hc,Int.zero_mul])] at this
   exact this
 rw [show (c == 0 && d == 1)=false by simp [hc]]
 refine jQ ?_
 have hcB:¬ (c*B=0):=Int.mul_ne_zero hc (by omega)
 have ef:A'.fdiv B=(A'*d).fdiv (B*d):=qAi hB hBd (by grind)
 refine⟨_,rfl,_,A',B,rfl,⟨z1,rfl,h1⟩,by omega,qPu bB,_,rfl,_,_,rfl,_,rfl,?_⟩
 by_cases ht:0≤A'.fdiv B∧A'.fdiv B < m
 rotate_left
 · rw [show thB (A'.fdiv B) m=false by unfold thB;rw [Bool.eq_false_iff];simpa using ht]
   refine xE ?_
   have:=kk H (Same.refl _)
   unfold wt at this
   rw [if_neg hcB,if_pos (by rw [← ef];exact ht)] at this
   exact this
 rw [show thB (A'.fdiv B) m=true by simp [thB,ht]]
 refine jQ ?_
 have res:∀ H',Same H H'→Q (.int (if 1000000 < (if c*B < 0 then (A'*d).fdiv (-(c*B))+1 else -((A'*d - m*(B*d)).fdiv (c*B))) then 1000000 else (if c*B < 0 then (A'*d).fdiv (-(c*B))+1 else -((A'*d - m*(B*d)).fdiv (c*B))))) H':=fun H' e=>by
  have:=kk H' e
  unfold wt at this
  rw [if_neg hcB,if_neg (by rw [← ef];simpa using ht)] at this
  exact this
 generalize hgg:(if c*B < 0 then (A'*d).fdiv (-(c*B))+1 else -((A'*d - m*(B*d)).fdiv (c*B)))=g at res
 refine⟨fun σ' H'=>σ'=[some (.ref z1),some (.ref z2),some (.int m),some (.int g)]∧Same H H',?_,?_⟩
 · refine⟨_,rfl,_,_,c,d,0,1,rfl,⟨z2,rfl,h2⟩,⟨_,rfl,T.sq_NOUGHT _⟩,S bc,S bd,nul,one,_,rfl,?_⟩
   by_cases hn:c*1 < 0*d
   · rw [decide_eq_true hn]
     refine xE ?_
     have c0:c < 0:=by omega
     refine⟨_,rfl,_,rfl,_,_,0,1,c,d,rfl,⟨_,rfl,T.sq_NOUGHT _⟩,⟨z2,rfl,h2⟩,by decide,by omega,nul,one,S bc,S bd,fun u hu'=>?_⟩
     rw [(qGq hd hg).1,(qGq hd hg).2]
     have w1:=qF hu' (.tup [.int (-c),.int d])
     have bnc:(-c).natAbs < 2 ^ 700:=by rw [Int.natAbs_neg];exact bc
     have hpos:0 < B*(-c):=Int.mul_pos hB (by omega)
     refine⟨_,_,A',B,-c,d,rfl,⟨z1,rfl,H1 w1⟩,⟨u,rfl,SqT.of qD⟩,by omega,by omega,S bA,S bB,S bnc,S bd,fun v hv=>?_⟩
     have w2:=w1.trans (qF hv (.tup [.int (ji (A'*d) (B*(-c))),.int (jY (A'*d) (B*(-c)))]))
     have lq:=xc (t:=A'*d) (b:=B*(-c)) (by omega)
     refine⟨_,_,_,rfl,⟨v,rfl,SqT.of qD⟩,by omega,Nat.lt_of_le_of_lt (kJ (by omega)) (qPu (jI bB bnc)),?_⟩
     rw [qC5 hpos]
     refine⟨_,_,rfl,rfl,?_,w2⟩
     have e:g=(A'*d).fdiv (B* -c)+1:=by
      rw [← hgg,if_pos (by have:=Int.mul_neg_of_neg_of_pos c0 hB;exact this)]
      rw [show -(c*B)=B* -c by grind]
     rw [e]
     rfl
   · rw [decide_eq_false hn]
     refine jQ ?_
     have c0:0 < c:=by omega
     obtain⟨l1,l2⟩:=qKt (p:=m) (q:=1) (by decide) (Int.gcd_one_right ..)
     refine⟨_,rfl,_,rfl,m,1,rfl,by decide,qPu (n:=1) (by decide),fun u hu'=>?_⟩
     rw [l1,l2]
     have w1:=qF hu' (.tup [.int m,.int 1])
     refine⟨_,_,A',B,m,1,rfl,⟨z1,rfl,H1 w1⟩,⟨u,rfl,SqT.of qD⟩,by omega,by decide,S bA,S bB,S bm,one,fun v hv=>?_⟩
     have hb1:B*1≠0:=by omega
     have cr:=zy (A'*1 - m*B) (B*1)
     have lq:=xc (t:=A'*1 - m*B) hb1
     have aP:=qB0 (t:=A'*1 - m*B) hb1
     have aQ:=kJ (t:=A'*1 - m*B) hb1
     have w2:=w1.trans (qF hv (.tup [.int (ji (A'*1 - m*B) (B*1)),.int (jY (A'*1 - m*B) (B*1))]))
     have ev:=qD (H:=upd H u (.tup [.int m,.int 1])) (a:=v) (o:=.tup [.int (ji (A'*1 - m*B) (B*1)),.int (jY (A'*1 - m*B) (B*1))])
     generalize upd (upd H u (.tup [.int m,.int 1])) v (.tup [.int (ji (A'*1 - m*B) (B*1)),.int (jY (A'*1 - m*B) (B*1))])=H3 at w2 ev ⊢
     generalize ji (A'*1 - m*B) (B*1)=P' at cr aP ev ⊢
     generalize jY (A'*1 - m*B) (B*1)=Q' at cr aQ lq ev ⊢
     have sP:Sm P':=by
      have t:=jI bm bB
      have:(A'*1 - m*B).natAbs < 2 ^ 1500:=by
       have e:(2:Nat) ^ 700+2 ^ (700+700)≤2 ^ 1500:=by decide
       rw [Int.mul_one]
       exact Nat.lt_of_lt_of_le (Nat.lt_of_le_of_lt (Int.natAbs_sub_le _ _) (Nat.add_lt_add bA t)) e
      exact Nat.lt_of_le_of_lt aP (kf this)
     have bQ:Q'.natAbs < 2 ^ 700:=by rw [Int.mul_one] at aQ;omega
     refine⟨_,rfl,_,_,P',Q',c,d,rfl,⟨v,rfl,SqT.of ev⟩,⟨z2,rfl,H2 w2⟩,by omega,hc,sP,S bQ,S bc,S bd,fun x hx=>?_⟩
     have hpos:0 < Q'*c:=Int.mul_pos lq c0
     have w3:=w2.trans (qF hx (.tup [.int (ji (P'*d) (Q'*c)),.int (jY (P'*d) (Q'*c))]))
     have lq2:=xc (t:=P'*d) (b:=Q'*c) (by omega)
     refine⟨_,_,_,rfl,⟨x,rfl,SqT.of qD⟩,by omega,Nat.lt_of_le_of_lt (kJ (by omega)) (qPu (jI bQ bc)),?_⟩
     rw [qC5 hpos]
     refine⟨_,rfl,?_,w3⟩
     have e:g= -(P'*d).fdiv (Q'*c):=by
      have hcB':=Int.mul_pos c0 hB
      rw [← hgg,if_neg (by omega)]
      rw [qAi hcB' hpos (by grind:(A'*d - m*(B*d))*(Q'*c)=P'*d*(c*B))]
     rw [e]
     rfl
 rintro σ' H' ⟨rfl,sH⟩
 exact⟨_,rfl,_,_,rfl,res H' sH⟩
theorem qI7 {H H':Hp}(e:Same H H'){a:Addr}{u:HO}(h:Rd H a u):Rd H' a u:=by
 rcases h with h | ⟨o,h⟩
 · exact .inl (e _ _ h)
 · exact .inr ⟨o,e _ _ h⟩
def Reel (H:Hp)(rd:Addr)(n:Str)(m:Int):Prop:=∃ kvs,Rd H rd (.dK kvs)∧qL9 kvs (Sum.inr n)=some (.int m)
theorem Reel.same {H H':Hp}{rd:Addr}{n:Str}{m:Int}(e:Same H H')(h:Reel H rd n m):Reel H' rd n m:=let ⟨k,h1,h2⟩:=h;⟨k,qI7 e h1,h2⟩
theorem Reel.get {H:Hp}{rd:Addr}{n:Str}{m:Int}(h:Reel H rd n m):DGet H rd (.str n) (some (.int m)):=let ⟨k,h1,h2⟩:=h;.inl ⟨k,Sum.inr n,h1,rfl,h2.symm⟩
structure Ch (H:Hp)(z:Addr)(n:Str)(p q r s len:Int):Prop where
 ex:∃ z1 z2,H z=some (.tup [.str "clip",.str n,.ref z1,.ref z2,.int len])∧H z1=some (.tup [.int p,.int q])∧H z2=some (.tup [.int r,.int s])
inductive qHn (K:W.Frag)(vs:List V)(H:Hp)(Q:VK)(_:XK):Prop
| mk (v:V) (n:Str) (p q r s len m:Int) (rd:Addr) (_:vs=[v,.ref rd]) (_:Cp K H v n p q r s len) (_:qJc 110 p q) (_:qJc 110 r s) (_:Reel H rd n m) (_:m.natAbs < 2 ^ 700) (_:∀ H',Same H H'→Q (.int (wt (plP p q r s (-1)*s) (-1*r*plQ p q r s (-1)) (plQ p q r s (-1)*s) m)) H')
theorem qHy (T:Tx K mg a):FnOk P w K mg base CX0 5 a.A19 a.B19 ["clip","reels"] (qHn K):=by
 refine T.D19.F.ok qH5 (fun vs H Q E h=>?_) (fun cdv A outer s H vs Q E hr h=>?_)
 · obtain⟨v,n,p,q,r,s,len,m,rd,rfl,_⟩:=h
   rfl
 refine qL fun _ Y=>?_
 obtain⟨v,n,p,q,r,s',len,m,rd,rfl,hc,g1,g2,hrd,bm,kk⟩:=h
 apply Y
 have hu1:=qSz hr
 refine⟨_,(qE (qM (qK T.D18 (kU T) hr rfl (qA (qK T.D12 (zB T) hr rfl (qA (pv 0) (qA (ka xK qG) qC))) (qA (qK T.D5 (qAs T) hr rfl (qA (xh (v:=.ref a.n_NOUGHT) rfl T.g_NOUGHT rfl) (qA (qI (pv 0)) qC))) (qA (qDd hu1 (pv 1) (qI (pv 0)) (fun _ _=>rfl)) qC)))))),?_⟩
 try dsimp only [je,qg]
 have hb:Bn 110 p q r s':=⟨g1.1,g2.1,g1.2.2.1,g1.2.2.2,g2.2.2.1,g2.2.2.2⟩
 have hb7:=hb.mono (m:=700)
 have hp:=(hb.part (k:=-1) (by decide)).mono (m:=700)
 refine⟨_,rfl,_,rfl,v,n,p,q,r,s',len,-1,rfl,hc,hb7.q0,hb7.s0,hb7.bp,hb7.bq,hb7.br,hb7.bs,kf (n:=30) (by decide),fun y H1 s1 e1=>?_⟩
 refine qL fun _ Y=>?_
 obtain⟨z,z1,z2,e,h0,h1,h2⟩:=(hc.same s1).ex
 subst e
 apply Y
 have S:∀ {i:Int},i.natAbs < 2 ^ 700→Sm i:=fun h=>kf h
 refine(zA rfl h0 qB5 ?_)
 refine⟨_,_,0,1,r,s',rfl,⟨_,rfl,T.sq_NOUGHT _⟩,⟨z2,rfl,h2⟩,by decide,by have:=hb.s0;omega,Sm.of200 (by decide),Sm.of200 (by decide),S hb7.br,S hb7.bs,fun u hu'=>?_⟩
 rw [(qGq hb.s0 g2.2.1).1,(qGq hb.s0 g2.2.1).2]
 have w1:=qF hu' (.tup [.int (-r),.int s'])
 refine⟨_,rfl,_,rfl,z,_,_,_,rfl,rfl,L3.Same.tup w1 h0,qD8,rd,_,rfl,(hrd.same (s1.trans w1)).get,?_⟩
 refine⟨_,_,_,_,-r,s',m,rfl,⟨y,rfl,SqT.of (w1 _ _ e1)⟩,⟨u,rfl,SqT.of qD⟩,hp.q0,hb.s0,by rw [Int.neg_gcd];exact g2.2.1,hp.bp,hp.bq,by rw [Int.natAbs_neg];exact hb7.br,hb7.bs,bm,fun H' sH=>?_⟩
 have:=kk H' (s1.trans (w1.trans sH))
 rw [show -1*r*plQ p q r s' (-1)= -r*plQ p q r s' (-1) by grind] at this
 exact this
inductive qGx (K:W.Frag)(vs:List V)(H:Hp)(Q:VK)(_:XK):Prop
| mk (v:V) (n:Str) (p q r s len m:Int) (rd:Addr) (_:vs=[v,.ref rd]) (_:Cp K H v n p q r s len) (_:qJc 110 p q) (_:qJc 110 r s) (_:len.natAbs < 2 ^ 30) (_:Reel H rd n m) (_:m.natAbs < 2 ^ 700) (_:∀ H',Same H H'→Q (.int (wt (plP p q r s len*s) (1*r*plQ p q r s len) (plQ p q r s len*s) m)) H')
theorem qHf (T:Tx K mg a):FnOk P w K mg base CX0 5 a.A20 a.B20 ["clip","reels"] (qGx K):=by
 refine T.D20.F.ok qG2 (fun vs H Q E h=>?_) (fun cdv A outer s H vs Q E hr h=>?_)
 · obtain⟨v,n,p,q,r,s,len,m,rd,rfl,_⟩:=h
   rfl
 refine qL fun _ Y=>?_
 obtain⟨v,n,p,q,r,s',len,m,rd,rfl,hc,g1,g2,bl,hrd,bm,kk⟩:=h
 apply Y
 have hu1:=qSz hr
 refine⟨_,(qE (qM (qK T.D18 (kU T) hr rfl (qA (qK T.D12 (zB T) hr rfl (qA (pv 0) (qA (qI (pv 0)) qC))) (qA (qI (pv 0)) (qA (qDd hu1 (pv 1) (qI (pv 0)) (fun _ _=>rfl)) qC)))))),?_⟩
 try dsimp only [je,qg]
 have hb:Bn 110 p q r s':=⟨g1.1,g2.1,g1.2.2.1,g1.2.2.2,g2.2.2.1,g2.2.2.2⟩
 have hb7:=hb.mono (m:=700)
 have hp:=(hb.part (k:=len) bl).mono (m:=700)
 have hc0:=hc
 refine qL fun _ Y=>?_
 obtain⟨z,z1,z2,e,h0,h1,h2⟩:=hc0.ex
 subst e
 apply Y
 refine⟨_,rfl,zA rfl h0 qMn ⟨_,n,p,q,r,s',len,len,rfl,hc,hb7.q0,hb7.s0,hb7.bp,hb7.bq,hb7.br,hb7.bs,kf bl,fun y H1 s1 e1=>?_⟩⟩
 refine⟨_,rfl,z,_,_,_,rfl,rfl,L3.Same.tup s1 h0,qB5,?_⟩
 refine⟨_,rfl,_,rfl,z,_,_,_,rfl,rfl,L3.Same.tup s1 h0,qD8,rd,_,rfl,(hrd.same s1).get,?_⟩
 refine⟨_,_,_,_,r,s',m,rfl,⟨y,rfl,SqT.of e1⟩,⟨z2,rfl,L3.Same.tup s1 h2⟩,hp.q0,hb.s0,g2.2.1,hp.bp,hp.bq,hb7.br,hb7.bs,bm,fun H' sH=>?_⟩
 have:=kk H' (s1.trans sH)
 rw [Int.one_mul] at this
 exact this
theorem qUy {c A B:Prop} [Decidable c] (hc:¬ c)(h:A):if (!decide c)=true then A else B:=by
 rw [decide_eq_false hc]
 exact xE h
inductive Im where
 | clip (n:Str) (p q r s l:Int)
 | nest (n:Str) (b l:Int)
 | gap (l:Int)
 | mix (l:Int)
def Im.d:Im→D
 | .clip n p q r s l=>.tup [.leaf (.str "clip"),.leaf (.str n),.tup [.leaf (.int p),.leaf (.int q)],.tup [.leaf (.int r),.leaf (.int s)],.leaf (.int l)]
 | .nest n b l=>.tup [.leaf (.str "nest"),.leaf (.str n),.leaf (.int b),.leaf (.int l)]
 | .gap l=>.tup [.leaf (.str "gap"),.leaf (.int l)]
 | .mix l=>.tup [.leaf (.str "mix"),.leaf (.int l)]
def Im.wd:Im→Str
 | .clip .. =>"clip"
 | .nest .. =>"nest"
 | .gap _=>"gap"
 | .mix _=>"mix"
def Im.l:Im→Int
 | .clip _ _ _ _ _ l=>l
 | .nest _ _ l=>l
 | .gap l=>l
 | .mix l=>l
def TS (H H':Hp):Prop:=∀ b xs,H b=some (.tup xs)→H' b=some (.tup xs)
theorem TS.trans {H H1 H2:Hp}(a:TS H H1)(b:TS H1 H2):TS H H2:=fun c o h=>b c o (a c o h)
theorem qc {H H':Hp}(e:Same H H'):TS H H':=fun _ _ h=>e _ _ h
theorem zV {H:Hp}{l:Addr}{xs:List V}{o:HO}(h:H l=some (.lst xs)):TS H (upd H l o):=fun b ys hb=>by
 rw [qV (qK5 hb h (by intro z;cases z))];exact hb
theorem xU {H H':Hp}{y:Addr}{o:HO}(e:Same H H')(h:H y=none):Same H (upd H' y o):=fun b u hb=>by
 rw [qV (qS hb h)];exact e b u hb
def IsI (H:Hp):Im→V→Prop
 | .clip n p q r s l,v=>∃ z x y:Addr,v= .ref z∧H z=some (.tup [.str "clip",.str n,.ref x,.ref y,.int l])∧H x=some (.tup [.int p,.int q])∧H y=some (.tup [.int r,.int s])
 | .nest n b l,v=>∃ z:Addr,v= .ref z∧H z=some (.tup [.str "nest",.str n,.int b,.int l])
 | .gap l,v=>∃ z:Addr,v= .ref z∧H z=some (.tup [.str "gap",.int l])
 | .mix l,v=>∃ z:Addr,v= .ref z∧H z=some (.tup [.str "mix",.int l])
theorem isG {H:Hp}{z:Addr}{l:Int}(h:H z=some (.tup [.str "gap",.int l])):IsI H (.gap l) (.ref z):=⟨z,rfl,h⟩
theorem isM {H:Hp}{z:Addr}{l:Int}(h:H z=some (.tup [.str "mix",.int l])):IsI H (.mix l) (.ref z):=⟨z,rfl,h⟩
theorem isN {H:Hp}{z:Addr}{n:Str}{b l:Int}(h:H z=some (.tup [.str "nest",.str n,.int b,.int l])):IsI H (.nest n b l) (.ref z):=⟨z,rfl,h⟩
theorem isC {H:Hp}{z x y:Addr}{n:Str}{p q r s l:Int}(h:H z=some (.tup [.str "clip",.str n,.ref x,.ref y,.int l]))(hx:H x=some (.tup [.int p,.int q]))(hy:H y=some (.tup [.int r,.int s])):IsI H (.clip n p q r s l) (.ref z):=⟨z,x,y,rfl,h,hx,hy⟩
theorem IsI.ts {H H':Hp}(e:TS H H'):∀ {m:Im} {v:V},IsI H m v→IsI H' m v
 | .clip ..,_,⟨z,x,y,h,hz,hx,hy⟩=>⟨z,x,y,h,e _ _ hz,e _ _ hx,e _ _ hy⟩
 | .nest ..,_,⟨z,h,hz⟩=>⟨z,h,e _ _ hz⟩
 | .gap _,_,⟨z,h,hz⟩=>⟨z,h,e _ _ hz⟩
 | .mix _,_,⟨z,h,hz⟩=>⟨z,h,e _ _ hz⟩
theorem IsI.opn {H:Hp}{m:Im}{v:V}(h:IsI H m v):∃ (z:Addr) (xs:List V),v= .ref z∧H z=some (.tup xs)∧atI xs 0=some (.str m.wd)∧atI xs (-1)=some (.int m.l):=by
 cases m with
 | clip n p q r s l=>obtain⟨z,x,y,h,hz,_⟩:=h;exact⟨z,_,h,hz,rfl,rfl⟩
 | nest n b l=>obtain⟨z,h,hz⟩:=h;exact⟨z,_,h,hz,rfl,rfl⟩
 | gap l=>obtain⟨z,h,hz⟩:=h;exact⟨z,_,h,hz,rfl,rfl⟩
 | mix l=>obtain⟨z,h,hz⟩:=h;exact⟨z,_,h,hz,rfl,rfl⟩
theorem qB1 {H:Hp}:∀ {xs:List V},xs.all zc=true→Reps K H (xs.map D.leaf) xs
 | [],_=>by simp [Reps]
 | x::xs,h=>by
  rw [List.all_cons,Bool.and_eq_true] at h
  rw [List.map_cons];unfold Reps Rep
  exact⟨⟨rfl,h.1⟩,qB1 h.2⟩
theorem wZ {H:Hp}{z:Addr}{xs:List V}(hz:H z=some (.tup xs))(h:xs.all zc=true):Rep K H (.tup (xs.map D.leaf)) (.ref z):=by
 unfold Rep
 exact⟨z,xs,rfl,SqT.of hz,qB1 h⟩
theorem IsI.rep {H:Hp}:∀ {m:Im} {v:V},IsI H m v→Rep K H m.d v
 | .clip n p q r s l,_,⟨z,x,y,h,hz,hx,hy⟩=>by
  subst h
  have h1:Rep K H (.tup [.leaf (.int p),.leaf (.int q)]) (.ref x):=wZ hx rfl
  have h2:Rep K H (.tup [.leaf (.int r),.leaf (.int s)]) (.ref y):=wZ hy rfl
  unfold Im.d Rep
  refine⟨z,_,rfl,SqT.of hz,?_⟩
  unfold Reps Reps Reps Reps Reps Reps
  refine⟨?_,?_,h1,h2,?_,trivial⟩
  · unfold Rep;exact⟨rfl,rfl⟩
  · unfold Rep;exact⟨rfl,rfl⟩
  · unfold Rep;exact⟨rfl,rfl⟩
 | .nest n b l,_,⟨z,h,hz⟩=>by subst h;exact wZ hz rfl
 | .gap l,_,⟨z,h,hz⟩=>by subst h;exact wZ hz rfl
 | .mix l,_,⟨z,h,hz⟩=>by subst h;exact wZ hz rfl
theorem qO4 (m:Im):eqD m.d m.d=true:=by
 cases m <;> simp [Im.d,eqD,zj,eqV]
theorem qUn (m:Im):dep m.d≤2:=by
 cases m <;> simp [Im.d,dep,ke]
def IsIs (H:Hp):List Im→List V→Prop
 | [],[]=>True
 | m::ms,v::vs=>IsI H m v∧IsIs H ms vs
 | _,_=>False
theorem IsIs.len {H:Hp}:∀ {ms:List Im} {vs:List V},IsIs H ms vs→vs.length=ms.length
 | [],[],_=>rfl
 | _::_,_::_,h=>by rw [List.length_cons,List.length_cons,IsIs.len h.2]
 | [],_::_,h=>h.elim
 | _::_,[],h=>h.elim
theorem IsIs.ts {H H':Hp}(e:TS H H'):∀ {ms:List Im} {vs:List V},IsIs H ms vs→IsIs H' ms vs
 | [],[],_=>trivial
 | _::_,_::_,h=>⟨IsI.ts e h.1,IsIs.ts e h.2⟩
 | [],_::_,h=>h.elim
 | _::_,[],h=>h.elim
theorem IsIs.get {H:Hp}:∀ {ms:List Im} {vs:List V} {i:Nat} {v:V},IsIs H ms vs→vs[i]? =some v→∃ m,ms[i]? =some m∧IsI H m v
 | [],[],_,_,_,h=>by simp at h
 | m::_,x::_,0,v,h,e=>by
  have e':x=v:=by simpa using e
  subst e'
  exact⟨m,rfl,h.1⟩
 | _::ms,_::vs,i+1,v,h,e=>by
  obtain⟨m,h1,h2⟩:=IsIs.get (i:=i) h.2 (by simpa using e)
  exact⟨m,by simpa using h1,h2⟩
 | [],_::_,_,_,h,_=>h.elim
 | _::_,[],_,_,h,_=>h.elim
theorem IsIs.get' {H:Hp}{ms:List Im}{vs:List V}{i:Nat}{m:Im}(h:IsIs H ms vs)(e:ms[i]? =some m):∃ v,vs[i]? =some v∧IsI H m v:=by
 have hi:i < vs.length:=by rw [h.len];exact(glt e)
 have ev:vs[i]? =some vs[i]:=List.getElem?_eq_getElem hi
 obtain⟨m',h1,h2⟩:=h.get ev
 rw [e] at h1
 cases h1
 exact⟨_,ev,h2⟩
theorem IsIs.app {H:Hp}:∀ {ms:List Im} {vs:List V} {ms':List Im} {vs':List V},IsIs H ms vs→IsIs H ms' vs'→IsIs H (ms++ms') (vs++vs')
 | [],[],_,_,_,h'=>h'
 | _::_,_::_,_,_,h,h'=>⟨h.1,h.2.app h'⟩
 | [],_::_,_,_,h,_=>h.elim
 | _::_,[],_,_,h,_=>h.elim
theorem IsIs.one {H:Hp}{m:Im}{v:V}(h:IsI H m v):IsIs H [m] [v]:=⟨h,trivial⟩
theorem IsIs.rep {H:Hp}:∀ {ms:List Im} {vs:List V},IsIs H ms vs→Reps K H (ms.map Im.d) vs
 | [],[],_=>by unfold List.map Reps;trivial
 | _::_,_::_,h=>by unfold List.map Reps;exact⟨h.1.rep,h.2.rep⟩
 | [],_::_,h=>h.elim
 | _::_,[],h=>h.elim
theorem wY:∀ ms:List Im,zj (ms.map Im.d) (ms.map Im.d)=true
 | []=>by simp [zj]
 | m::ms=>by unfold List.map zj;rw [qO4,wY ms];rfl
theorem qDi:∀ ms:List Im,ke (ms.map Im.d)≤2
 | []=>by simp [ke]
 | m::ms=>by
  have h1:=qUn m
  have h2:=qDi ms
  unfold List.map ke
  omega
def Tr (H:Hp)(z:Addr)(ms:List Im):Prop:=∃ vs,H z=some (.lst vs)∧IsIs H ms vs
theorem Tr.same {H H':Hp}{z:Addr}{ms:List Im}(e:Same H H')(h:Tr H z ms):Tr H' z ms:=let ⟨vs,h1,h2⟩:=h;⟨vs,e _ _ h1,h2.ts (qc e)⟩
theorem Tr.rep {H:Hp}{z:Addr}{ms:List Im}(h:Tr H z ms):Rep K H (.lst (ms.map Im.d)) (.ref z):=by
 obtain⟨vs,h1,h2⟩:=h
 unfold Rep
 exact⟨z,vs,rfl,SqL.of h1,h2.rep⟩
theorem eqTr {H:Hp}{x y:Addr}{ms:List Im}{Q:VK}(h1:Tr H x ms)(h2:Tr H y ms)(q:Q (.bl true) H):qR1 K false (.ref x) (.ref y) H Q:=by
 refine⟨_,_,h1.rep,h2.rep,rfl,by have:=qDi ms;unfold dep;omega,?_⟩
 have e:eqD (.lst (ms.map Im.d)) (.lst (ms.map Im.d))=true:=by unfold eqD;exact wY ms
 rw [e]
 exact q
theorem qVp {H:Hp}{x y:Addr}{ms:List Im}{Q:VK}(h1:Tr H x ms)(h2:H y=some (.lst []))(q:Q (.bl ms.isEmpty) H):qR1 K false (.ref x) (.ref y) H Q:=by
 refine⟨_,.lst [],h1.rep,?_,rfl,by have:=qDi ms;unfold dep;omega,?_⟩
 · unfold Rep;exact⟨y,[],rfl,SqL.of h2,by unfold Reps;trivial⟩
 · have e:eqD (.lst (ms.map Im.d)) (.lst [])=ms.isEmpty:=by cases ms <;> simp [eqD,zj]
   rw [e]
   exact q
theorem qVd {H:Hp}{x y:Addr}{ms:List Im}{Q:VK}(h1:Tr H x ms)(h2:H y=some (.lst []))(q:Q (.bl (!ms.isEmpty)) H):qR1 K true (.ref x) (.ref y) H Q:=by
 refine⟨_,.lst [],h1.rep,?_,rfl,by have:=qDi ms;unfold dep;omega,?_⟩
 · unfold Rep;exact⟨y,[],rfl,SqL.of h2,by unfold Reps;trivial⟩
 · have e:eqD (.lst (ms.map Im.d)) (.lst [])=ms.isEmpty:=by cases ms <;> simp [eqD,zj]
   rw [e]
   exact q
theorem qF6 {H:Hp}{x:Addr}{ns:List Int}(h:H x=some (.lst (ns.map V.int))):Rep K H (.lst ((ns.map V.int).map D.leaf)) (.ref x):=by
 unfold Rep
 exact⟨x,_,rfl,SqL.of h,qB1 (by rw [List.all_map,List.all_eq_true];intro _ _;rfl)⟩
theorem qF0:∀ ns:List Int,zj ((ns.map V.int).map D.leaf) ((ns.map V.int).map D.leaf)=true
 | []=>by simp [zj]
 | n::ns=>by
  have ih:=qF0 ns
  simp only [List.map_cons]
  unfold zj
  rw [ih]
  simp [eqD,eqV]
theorem qDc:∀ vs:List V,ke (vs.map D.leaf)=0
 | []=>by simp [ke]
 | n::ns=>by
  have ih:=qDc ns
  simp only [List.map_cons]
  unfold ke
  rw [ih]
  simp [dep]
theorem IsIs.dl {H:Hp}:∀ {ms:List Im} {vs:List V},IsIs H ms vs→IsIs H ms.dropLast vs.dropLast
 | [],[],_=>trivial
 | [_],[_],_=>trivial
 | _::_::_,_::_::_,h=>⟨h.1,IsIs.dl h.2⟩
 | [],_::_,h=>h.elim
 | _::_,[],h=>h.elim
 | [_],_::_::_,h=>h.2.elim
 | _::_::_,[_],h=>h.2.elim
theorem IsIs.last {H:Hp}{ms:List Im}{vs:List V}(h:IsIs H ms vs)(hne:ms≠[]):∃ v m,vs[vs.length - 1]? =some v∧ms.getLast?=some m∧m∈ms∧IsI H m v:=by
 have hl:0 < ms.length:=List.length_pos_iff.mpr hne
 have hi:vs.length - 1 < vs.length:=by rw [h.len];omega
 have ev:vs[vs.length - 1]? =some vs[vs.length - 1]:=List.getElem?_eq_getElem hi
 obtain⟨m,h1,h2⟩:=h.get ev
 refine⟨_,m,ev,?_,List.mem_of_getElem? h1,h2⟩
 rw [h.len] at h1
 rw [List.getLast?_eq_getElem?]
 exact h1
theorem qBm {m:Im}(h:m.wd="gap"):∃ l,m= .gap l:=by
 cases m with
 | gap l=>exact⟨l,rfl⟩
 | clip=>exact absurd (show ("clip":Str)="gap" from h) (by decide+kernel)
 | nest=>exact absurd (show ("nest":Str)="gap" from h) (by decide+kernel)
 | mix=>exact absurd (show ("mix":Str)="gap" from h) (by decide+kernel)
def xv:Int→List Im→List Im
 | _,[]=>[]
 | w,.gap l::ms=>xv (w+l) ms
 | w,.clip n p q r s l::ms=>if 0 < w then .gap w:: .clip n p q r s l::xv 0 ms else .clip n p q r s l::xv 0 ms
 | w,.nest n b l::ms=>if 0 < w then .gap w:: .nest n b l::xv 0 ms else .nest n b l::xv 0 ms
 | w,.mix l::ms=>if 0 < w then .gap w:: .mix l::xv 0 ms else .mix l::xv 0 ms
theorem jC {m:Im}(h:m.wd≠"gap")(w:Int)(ms:List Im):xv w (m::ms)=if 0 < w then .gap w::m::xv 0 ms else m::xv 0 ms:=by
 cases m with
 | gap l=>exact absurd rfl h
 | _=>rw [xv]
theorem qDt:∀ (w:Int) (ms:List Im),xv 0 (xv w ms)=xv w ms
 | _,[]=>rfl
 | w,m::ms=>by
  by_cases h:m.wd="gap"
  · obtain⟨l,rfl⟩:=qBm h
    rw [xv]
    exact qDt _ ms
  · rw [jC h]
    by_cases h0:0 < w
    · rw [if_pos h0,xv,jC h,if_pos (by omega),qDt 0 ms,Int.zero_add]
    · rw [if_neg h0,jC h,if_neg (by decide),qDt 0 ms]
inductive qJs (vs:List V)(H:Hp)(Q:VK)(_:XK):Prop
| mk (z:Addr) (ms:List Im) (_:vs=[.ref z]) (_:Tr H z ms) (_:ms.length≤300) (_:∀ (y:Addr) (H':Hp),Same H H'→H y=none→Tr H' y (xv 0 ms)→Q (.ref y) H')
theorem qJx (T:Tx K mg a):FnOk P w K mg base CX0 1 a.A24 a.B24 ["some"] qJs:=by
 refine T.D24.F.ok xQ (fun vs H Q E h=>?_) (fun cdv A outer s H vs Q E hr h=>?_)
 · obtain⟨z,ms,rfl,_⟩:=h
   rfl
 refine qL fun _ Y=>?_
 obtain⟨z,ms,rfl,⟨xs,hz,his⟩,hl,kk⟩:=h
 apply Y
 refine⟨_,(qB (qU 1 xQ.nd (jD qC))
  (qB (qU 2 xQ.nd qG)
  (qB (j2 PassesOwn.never rfl (jX (pv 0)) (qt (i:=3) xQ.nd rfl (Or.inl rfl)) (qE (qd (qJ jU (qI (pv 3)) qR (qN _)) (qE (qU 2 xQ.nd (qP qo (pv 2) (qI (pv 3))))) (qB (qd (qJ qF8 (pv 2) qG (qN _)) (qE (jV (qAo F.plainAttrs_list F.slot_list_append F.type_list_append jT (pv 1) (qA (ql (qA qR (qA (pv 2) qC))) qC)))) qQ)
  (qB (qU 2 xQ.nd qG)
  (qE (jV (qAo F.plainAttrs_list F.slot_list_append F.type_list_append jT (pv 1) (qA (pv 3) qC)))))))))
  (qE (qM (pv 1)))))),?_⟩
 try dsimp only [je,qg]
 refine⟨sL0,fun y hy=>?_⟩
 refine⟨_,rfl,z,rfl,⟨_,SqL.of ((qF hy _) _ _ hz)⟩,jy (K:=K) (a:=z) (xs:=xs) (fun i σ H'=>∃ (w:Int) (as:List Im) (o:Option V) (vs:List V),σ=[some (.ref z),some (.ref y),some (.int w),o]∧H' y=some (.lst vs)∧IsIs H' as vs∧as.length≤2*i∧as++xv w (ms.drop i)=xv 0 ms∧Same H H')
  ⟨0,[],none,[],rfl,qD,trivial,by simp,rfl,qF hy _⟩ ?_ ?_ ?_⟩
 · rintro i σ H' hi ⟨w,as,o,vs,rfl,_,_,_,_,e⟩
   exact SqL.of (e _ _ hz)
 · rintro i x σ H' hx ⟨w,as,o,vs,rfl,hv,hiv,hal,hap,e⟩
   refine qL fun _ Y=>?_
   obtain⟨m,hm,hIx⟩:=his.get hx
   have hI:=hIx.ts (qc e)
   have hi:i < ms.length:=(glt hm)
   have hd:ms.drop i=m::ms.drop (i+1):=by
    rw [List.drop_eq_getElem_cons hi]
    rw [List.getElem?_eq_getElem hi] at hm
    cases hm
    rfl
   have hvl:vs.length≤2*i:=by rw [hiv.len];exact hal
   obtain⟨zi,xi,rfl,hzi,h0,h1⟩:=hI.opn
   apply Y
   refine⟨_,rfl,zi,xi,_,_,rfl,rfl,SqT.of hzi,h0,rfl,_,rfl,jf (fun c=>?_) (fun c=>?_)⟩
   · obtain⟨l,rfl⟩:=qBm (by simpa using c)
     refine qL fun _ Y=>?_
     obtain⟨z2,e2,hz2⟩:=hI
     cases e2
     apply Y
     refine⟨_,rfl,ixO hz2 at1 ⟨_,_,rfl,rfl,w+l,as,_,vs,rfl,hv,hiv,by omega,?_,e⟩⟩
     rw [hd,xv] at hap
     exact hap
   · have hne:m.wd≠"gap":=by simpa using c
     rw [hd,jC hne] at hap
     refine⟨_,rfl,_,_,rfl,rfl,_,rfl,jf (fun c=>?_) (fun c=>?_)⟩
     · have c':0 < w:=by simpa using c
       rw [if_pos c'] at hap
       refine⟨_,rfl,.inl ⟨rfl,_,SqL.of hv⟩,_,rfl,sL2,fun g hg=>?_⟩
       have w1:=qF hg (.tup [.str "gap",.int w])
       refine⟨y,_,_,rfl,rfl,w1 _ _ hv,qf (by omega),?_⟩
       have t2:TS (upd H' g (.tup [.str "gap",.int w])) (upd (upd H' g (.tup [.str "gap",.int w])) y (.lst (vs++[.ref g]))):=zV (w1 _ _ hv)
       have k2:IsIs (upd (upd H' g (.tup [.str "gap",.int w])) y (.lst (vs++[.ref g]))) (as++[.gap w]) (vs++[.ref g]):=((hiv.ts (qc w1)).app (.one (isG qD))).ts t2
       have k1:IsI (upd (upd H' g (.tup [.str "gap",.int w])) y (.lst (vs++[.ref g]))) m (.ref zi):=(hI.ts (qc w1)).ts t2
       have e2:Same H (upd (upd H' g (.tup [.str "gap",.int w])) y (.lst (vs++[.ref g]))):=xU (e.trans w1) hy
       have hv2:(upd (upd H' g (.tup [.str "gap",.int w])) y (.lst (vs++[.ref g]))) y=some (.lst (vs++[.ref g])):=qD
       generalize upd (upd H' g (.tup [.str "gap",.int w])) y (.lst (vs++[.ref g]))=H2 at k1 k2 e2 hv2 ⊢
       refine⟨_,rfl,.inl ⟨rfl,_,SqL.of hv2⟩,_,rfl,y,_,_,rfl,rfl,hv2,qf (by rw [List.length_append];simp;omega),?_⟩
       refine⟨0,as++[.gap w]++[m],_,_,rfl,qD,(k2.app (.one k1)).ts (zV hv2),by simp;omega,?_,xU e2 hy⟩
       rw [← hap];simp
     · have c':¬ 0 < w:=by simpa using c
       rw [if_neg c'] at hap
       refine⟨_,rfl,.inl ⟨rfl,_,SqL.of hv⟩,_,rfl,y,_,_,rfl,rfl,hv,qf (by omega),?_⟩
       refine⟨0,as++[m],_,_,rfl,qD,(hiv.app (.one hI)).ts (zV hv),by simp;omega,?_,xU e hy⟩
       rw [← hap];simp
 · rintro σ H' ⟨w,as,o,vs,rfl,hv,hiv,_,hap,e⟩
   refine⟨_,rfl,kk y H' e hy ⟨vs,hv,?_⟩⟩
   rw [his.len,List.drop_length,xv,List.append_nil] at hap
   rw [← hap]
   exact hiv
def Im.mo:Im→Int
 | .mix _=>0
 | .clip _ _ _ _ _ l=>l
 | .nest _ _ l=>l
 | .gap l=>l
theorem qKg {α:Type}{xs:List α}{v:α}(h:xs[xs.length - 1]? =some v):atI xs (-1)=some v:=by
 have hl:0 < xs.length:=by
  have:=(glt h)
  omega
 have e:ixN xs.length (-1)=some (xs.length - 1):=by
  unfold ixN
  rw [if_neg (by decide),if_pos (by omega)]
  congr 1
  omega
 unfold atI;rw [e];exact h
theorem qz {m:Im}(h:m.wd="mix"):∃ l,m= .mix l:=by
 cases m with
 | mix l=>exact⟨l,rfl⟩
 | clip=>exact absurd (show ("clip":Str)="mix" from h) (by decide+kernel)
 | nest=>exact absurd (show ("nest":Str)="mix" from h) (by decide+kernel)
 | gap=>exact absurd (show ("gap":Str)="mix" from h) (by decide+kernel)
theorem qL7 {m:Im}(h:m.wd≠"mix"):m.mo=m.l:=by
 cases m with
 | mix l=>exact absurd rfl h
 | _=>rfl
theorem qD5 {x y:Str}:decide (V.str x=V.str y)=decide (x=y):=by
 rw [Bool.eq_iff_iff];simp
inductive qFd (vs:List V)(H:Hp)(Q:VK)(_:XK):Prop
| mk (v:V) (m:Im) (_:vs=[v]) (_:IsI H m v) (_:Q (.int m.mo) H)
theorem jz (T:Tx K mg a):FnOk P w K mg base CX0 1 a.A23 a.B23 ["item"] qFd:=by
 refine T.D23.F.ok qFb (fun vs H Q E h=>?_) (fun cdv A outer s H vs Q E hr h=>?_)
 · obtain⟨v,m,rfl,_⟩:=h
   rfl
 refine qL fun _ Y=>?_
 obtain⟨v,m,rfl,hI,kk⟩:=h
 apply Y
 refine⟨_,(qE (qM (qBx (qJ jU (qI (pv 0)) qR (qN _)) qG (qv wg (pv 0) (ka xK qG) (fun _ _=>rfl))))),?_⟩
 try dsimp only [je,qg]
 refine qL fun _ Y=>?_
 obtain⟨z,xs,rfl,hz,h0,h1⟩:=hI.opn
 apply Y
 refine⟨_,rfl,z,xs,_,_,rfl,rfl,SqT.of hz,h0,rfl,_,rfl,jf (fun c=>?_) (fun c=>?_)⟩
 · obtain⟨l,rfl⟩:=qz (by simpa using c)
   exact kk
 · rw [qL7 (by simpa using c)] at kk
   exact⟨_,rfl,_,rfl,z,xs,_,_,rfl,rfl,SqT.of hz,h1,kk⟩
inductive qHm (vs:List V)(H:Hp)(Q:VK)(_:XK):Prop
| mk (z:Addr) (ms:List Im) (_:vs=[.ref z]) (_:Tr H z ms) (_:ms.length≤300) (_:∀ H',Same H H'→Q (.int (ms.map Im.mo).sum) H')
theorem qBa (T:Tx K mg a):FnOk P w K mg base CX0 3 a.A25 a.B25 ["track"] qHm:=by
 refine T.D25.F.ok qH4 (fun vs H Q E h=>?_) (fun cdv A outer s H vs Q E hr h=>?_)
 · obtain⟨z,ms,rfl,_⟩:=h
   rfl
 refine qL fun _ Y=>?_
 obtain⟨z,ms,rfl,⟨xs,hz,his⟩,hl,kk⟩:=h
 apply Y
 refine⟨_,(qE (qM (qi (qH6 rfl) rfl T.b_sum rfl (qA (qFm [] [] rfl (jX (pv 0)) (fun _ _ _ _=>(qK T.D23 (jz T) hr rfl (qA (pv 0) qC)))) qC)))),?_⟩
 try dsimp only [je,qg]
 refine⟨_,rfl,z,rfl,⟨_,SqL.of hz⟩,qCf (K:=K) (a:=z) (xs:=xs) (fun i acc H'=>H'=H∧acc=((ms.take i).map Im.mo).map V.int) ⟨rfl,rfl⟩ ?_ ?_ ?_⟩
 · rintro i acc H' hi ⟨rfl,rfl⟩
   exact⟨SqL.of hz,qf (by simp;omega)⟩
 · rintro i x acc H' hi hx ⟨rfl,rfl⟩
   refine qL fun _ Y=>?_
   obtain⟨m,hm,hI⟩:=his.get hx
   apply Y
   refine⟨_,rfl,x,m,rfl,hI,Nxt.mk hi ⟨rfl,?_⟩⟩
   rw [List.take_add_one,hm]
   simp
 · rintro acc H' ⟨rfl,rfl⟩ d hd
   refine⟨d,(ms.map Im.mo),rfl,?_,kk _ (qF hd _)⟩
   rw [his.len,List.take_length]
   exact SqL.of qD
def qh:Int→List Im→List Int
 | _,[]=>[]
 | b,.mix _::ms=>qh b ms
 | b,.clip _ _ _ _ _ l::ms=>(b+l)::qh (b+l) ms
 | b,.nest _ _ l::ms=>(b+l)::qh (b+l) ms
 | b,.gap l::ms=>(b+l)::qh (b+l) ms
theorem jR {m:Im}(h:m.wd≠"mix")(b:Int)(ms:List Im):qh b (m::ms)=(b+m.l)::qh (b+m.l) ms:=by
 cases m with
 | mix l=>exact absurd rfl h
 | _=>rfl
theorem zq:∀ (b:Int) (ms:List Im),(qh b ms).length≤ms.length
 | _,[]=>by simp [qh]
 | b,m::ms=>by
  by_cases h:m.wd="mix"
  · obtain⟨l,rfl⟩:=qz h
    have:=zq b ms
    rw [qh,List.length_cons];omega
  · have:=zq (b+m.l) ms
    rw [jR h,List.length_cons,List.length_cons];omega
def qV9 (H:Hp)(Q:VK)(ms:List Im):Prop:=∀ (y:Addr) (H':Hp),Same H H'→H y=none→H' y=some (.lst ((0::qh 0 ms).map V.int))→Q (.ref y) H'
inductive qGa (vs:List V)(H:Hp)(Q:VK)(_:XK):Prop
| mk (z:Addr) (ms:List Im) (_:vs=[.ref z]) (_:Tr H z ms) (_:ms.length≤300) (_:qV9 H Q ms)
theorem ju (T:Tx K mg a):FnOk P w K mg base CX0 3 a.A26 a.B26 ["track"] qGa:=by
 refine T.D26.F.ok z8 (fun vs H Q E h=>?_) (fun cdv A outer s H vs Q E hr h=>?_)
 · obtain⟨z,ms,rfl,_⟩:=h
   rfl
 refine qL fun _ Y=>?_
 obtain⟨z,ms,rfl,⟨xs,hz,his⟩,hl,kk⟩:=h
 apply Y
 refine⟨_,(qB (qU 1 z8.nd (jD (qA qG qC)))
  (qB (j2 PassesOwn.never rfl (jX (pv 0)) (qt (i:=2) z8.nd rfl (Or.inl rfl)) (qE (qd (qJ xo (qI (pv 2)) qR (qN _)) (qE (jV (qAo F.plainAttrs_list F.slot_list_append F.type_list_append jT (pv 1) (qA (qP qo (qv qZ (pv 1) (ka xK qG) (fun _ _=>rfl)) (qK T.D23 (jz T) hr rfl (qA (pv 2) qC))) qC)))) qQ)))
  (qE (qM (pv 1))))),?_⟩
 try dsimp only [je,qg]
 refine⟨sL1,fun y hy=>?_⟩
 refine⟨_,rfl,z,rfl,⟨_,SqL.of ((qF hy _) _ _ hz)⟩,jy (K:=K) (a:=z) (xs:=xs) (fun i σ H'=>∃ (b:Int) (as:List Int) (o:Option V),σ=[some (.ref z),some (.ref y),o]∧H' y=some (.lst ((as++[b]).map V.int))∧as.length≤i∧as++[b]++qh b (ms.drop i)=0::qh 0 ms∧Same H H')
  ⟨0,[],none,rfl,qD,by simp,rfl,qF hy _⟩ ?_ ?_ ?_⟩
 · rintro i σ H' hi ⟨b,as,o,rfl,_,_,_,e⟩
   exact SqL.of (e _ _ hz)
 · rintro i x σ H' hx ⟨b,as,o,rfl,hv,hal,hap,e⟩
   refine qL fun _ Y=>?_
   obtain⟨m,hm,hIx⟩:=his.get hx
   have hI:=hIx.ts (qc e)
   have hi:i < ms.length:=(glt hm)
   have hd:ms.drop i=m::ms.drop (i+1):=by
    rw [List.drop_eq_getElem_cons hi]
    rw [List.getElem?_eq_getElem hi] at hm
    cases hm
    rfl
   obtain⟨zi,xi,rfl,hzi,h0,h1⟩:=hI.opn
   apply Y
   rw [hd] at hap
   refine⟨_,rfl,zi,xi,_,_,rfl,rfl,SqT.of hzi,h0,rfl,_,rfl,jf (fun c=>?_) (fun c=>?_)⟩
   · have hne:m.wd≠"mix":=by simpa using c
     rw [jR hne] at hap
     have hb:atI ((as++[b]).map V.int) (-1)=some (.int b):=by rw [List.map_append];exact qKu _ _
     refine⟨_,rfl,.inl ⟨rfl,_,SqL.of hv⟩,_,rfl,_,rfl,y,_,_,_,rfl,rfl,SqL.of hv,hb,?_⟩
     refine⟨_,rfl,_,m,rfl,hI,?_⟩
     rw [qL7 hne]
     refine⟨_,_,rfl,rfl,y,_,_,rfl,rfl,hv,qf (by simp;omega),?_⟩
     refine⟨b+m.l,as++[b],_,rfl,?_,by simp;omega,?_,xU e hy⟩
     · rw [qD];simp
     · rw [← hap];simp
   · obtain⟨l,rfl⟩:=qz (by simpa using c)
     rw [qh] at hap
     exact⟨b,as,_,rfl,hv,by omega,hap,e⟩
 · rintro σ H' ⟨b,as,o,rfl,hv,hal,hap,e⟩
   rw [his.len,List.drop_length,qh,List.append_nil] at hap
   rw [hap] at hv
   exact⟨_,rfl,kk y H' e hy hv⟩
def jn:Int→Nat→List Im→Int→Option (Nat × Int)
 | _,_,[],_=>none
 | b,i,m::ms,t=>if b≤t∧t < b+m.mo then some (i,t - b) else jn (b+m.mo) (i+1) ms t
def AtR (H:Hp)(Q:VK)(r:Option (Nat × Int)):Prop:=match r with
 | none=>∀ H',Same H H'→Q .non H'
 | some (i,d)=>∀ (p:Addr) (H':Hp),Same H H'→H' p=some (.tup [.int (i:Int),.int d])→Q (.ref p) H'
theorem jW {α:Type}{xs:List α}{i:Nat}{x:α}(h:xs[i]? =some x):xs.drop i=x::xs.drop (i+1):=by
 have hi:i < xs.length:=(glt h)
 rw [List.drop_eq_getElem_cons hi]
 rw [List.getElem?_eq_getElem hi] at h
 cases h
 rfl
inductive qLa (vs:List V)(H:Hp)(Q:VK)(_:XK):Prop
| mk (z:Addr) (ms:List Im) (t:Int) (_:vs=[.ref z,.int t]) (_:Tr H z ms) (_:AtR H Q (jn 0 0 ms t))
theorem qAq (T:Tx K mg a):FnOk P w K mg base CX0 3 a.A27 a.B27 ["track","moment"] qLa:=by
 refine T.D27.F.ok xt (fun vs H Q E h=>?_) (fun cdv A outer s H vs Q E hr h=>?_)
 · obtain⟨z,ms,t,rfl,_⟩:=h
   rfl
 refine qL fun _ Y=>?_
 obtain⟨z,ms,t,rfl,⟨xs,hz,his⟩,kk⟩:=h
 apply Y
 refine⟨_,(qB (qU 2 xt.nd qG)
  (qB (j2 PassesOwn.never rfl (qMd rfl T.b_enumerate (qA (pv 0) qC)) (qOc rfl (vd (qt (i:=3) xt.nd rfl (Or.inl rfl)) (vd (qt (i:=4) xt.nd rfl (Or.inl rfl)) qIt))) (qB (qU 5 xt.nd (qP qo (pv 2) (qK T.D23 (jz T) hr rfl (qA (pv 4) qC))))
  (qB (qd (PW.pt (jZ (qJ qN9 (pv 2) (pv 1) (qN _)) (jM (qJ zo (pv 1) (pv 5) (qN _))))) (qE (qM (ql (qA (pv 3) (qA (qP jJ (pv 1) (pv 2)) qC))))) qQ)
  (qE (qU 2 xt.nd (pv 5))))))
  (qE (qM qEz)))),?_⟩
 try dsimp only [je,qg]
 refine⟨_,rfl,z,rfl,⟨_,SqL.of hz⟩,qPz (K:=K) (a:=z) (xs:=xs) (fun i σ H'=>∃ (b:Int) (o1 o2 o3:Option V),σ=[some (.ref z),some (.int t),some (.int b),o1,o2,o3]∧jn b i (ms.drop i) t=jn 0 0 ms t∧Same H H')
  ⟨0,none,none,none,rfl,rfl,Same.refl _⟩ ?_ ?_ ?_⟩
 · rintro i σ H' hi ⟨b,o1,o2,o3,rfl,_,e⟩
   exact SqL.of (e _ _ hz)
 · rintro i x σ H' p hx ⟨b,o1,o2,o3,rfl,hap,e⟩ hp
   refine qL fun _ Y=>?_
   obtain⟨m,hm,hIx⟩:=his.get hx
   apply Y
   have w1:=qF hp (.tup [.int (i:Int),x])
   have e1:=e.trans w1
   have hI:=hIx.ts (qc e1)
   rw [jW hm,jn] at hap
   refine⟨p,_,rfl,SqT.of qD,rfl,_,_,rfl,_,_,rfl,rfl,?_⟩
   generalize upd H' p (.tup [.int (i:Int),x])=H1 at e1 hI ⊢
   refine⟨_,rfl,_,rfl,x,m,rfl,hI,_,_,rfl,rfl,?_⟩
   refine⟨_,rfl,_,rfl,_,_,rfl,rfl,_,rfl,?_⟩
   refine jf (fun c1=>?_) (fun c1=>?_)
   · refine⟨_,rfl,_,rfl,_,_,rfl,rfl,_,rfl,?_⟩
     refine jf (fun c2=>?_) (fun c2=>?_)
     · rw [if_pos ⟨by simpa using c1,by simpa using c2⟩] at hap
       rw [← hap] at kk
       refine⟨_,rfl,_,rfl,_,rfl,_,_,rfl,rfl,sL2,fun q hq=>?_⟩
       exact kk q _ (e1.trans (qF hq _)) qD
     · rw [if_neg (fun c=>c2 (by simpa using c.2))] at hap
       exact⟨_,rfl,_,_,_,_,rfl,hap,e1⟩
   · rw [if_neg (fun c=>c1 (by simpa using c.1))] at hap
     exact jQ ⟨_,rfl,_,_,_,_,rfl,hap,e1⟩
 · rintro σ H' ⟨b,o1,o2,o3,rfl,hap,e⟩
   rw [his.len,List.drop_length,jn] at hap
   rw [← hap] at kk
   exact kk H' e
def Sh (H:Hp)(z:Addr)(p q r s:Int):Prop:=∃ x y:Addr,H z=some (.tup [.ref x,.ref y])∧H x=some (.tup [.int p,.int q])∧H y=some (.tup [.int r,.int s])
inductive qFt (vs:List V)(H:Hp)(Q:VK)(_:XK):Prop
| mk (l j:Int) (_:vs=[.int l,.int j]) (_:0≤j) (_:j < l) (_:l < 2 ^ 60) (_:∀ (z:Addr) (H':Hp),Same H H'→Sh H' z (ji (l - j) (l+1)) (jY (l - j) (l+1)) (ji (j+1) (l+1)) (jY (j+1) (l+1))→Q (.ref z) H')
theorem p60 {b:Int}(h0:0 < b)(h:b < 2 ^ 61):b.natAbs < 2 ^ 8000:=by
 have e:b.natAbs < 2 ^ 61:=by omega
 exact Nat.lt_of_lt_of_le e (Nat.pow_le_pow_right (by decide) (by decide))
theorem qGh (T:Tx K mg a):FnOk P w K mg base CX0 3 a.A39 a.B39 ["length","j"] qFt:=by
 refine T.D39.F.ok qFa (fun vs H Q E h=>?_) (fun cdv A outer s H vs Q E hr h=>?_)
 · obtain⟨l,j,rfl,_⟩:=h
   rfl
 refine qL fun _ Y=>?_
 obtain⟨l,j,rfl,j0,j1,l1,kk⟩:=h
 apply Y
 refine⟨_,(qE (qM (ql (qA (qK T.D3 (jo T) hr rfl (qA (qP jJ (pv 0) (pv 1)) (qA (qP qo (pv 0) qG) qC))) (qA (qK T.D3 (jo T) hr rfl (qA (qP qo (pv 1) qG) (qA (qP qo (pv 0) qG) qC))) qC))))),?_⟩
 try dsimp only [je,qg]
 refine⟨_,rfl,_,rfl,_,_,rfl,rfl,_,rfl,_,_,rfl,rfl,_,_,rfl,by omega,p60 (by omega) (by omega),fun x hx=>?_⟩
 refine⟨_,rfl,_,_,rfl,rfl,_,rfl,_,_,rfl,rfl,_,_,rfl,by omega,p60 (by omega) (by omega),fun y hy=>?_⟩
 refine⟨sL2,fun z hz=>?_⟩
 have w1:=qF hx (.tup [.int (ji (l - j) (l+1)),.int (jY (l - j) (l+1))])
 have w2:=qF hy (.tup [.int (ji (j+1) (l+1)),.int (jY (j+1) (l+1))])
 have w3:=qF hz (.tup [.ref x,.ref y])
 exact kk z _ ((w1.trans w2).trans w3) ⟨x,y,qD,w3 _ _ (w2 _ _ qD),w3 _ _ qD⟩
def jh (ms:List Im)(i:Int):Str:=if i < 0 then "" else match ms[i.toNat]? with
 | some m=>m.wd
 | none=>""
theorem j3 {ms:List Im}{i:Nat}{m:Im}(h:ms[i]? =some m){k:Int}(hk:k=(i:Int)):jh ms k=m.wd:=by
 subst hk
 unfold jh
 rw [if_neg (by omega)]
 have e:((i:Int)).toNat=i:=by omega
 rw [e,h]
inductive qLf (vs:List V)(H:Hp)(Q:VK)(_:XK):Prop
| mk (z:Addr) (ms:List Im) (i:Int) (_:vs=[.ref z,.int i]) (_:Tr H z ms) (_:Q (.str (jh ms i)) H)
theorem xu (T:Tx K mg a):FnOk P w K mg base CX0 1 a.A28 a.B28 ["track","place"] qLf:=by
 refine T.D28.F.ok qLp (fun vs H Q E h=>?_) (fun cdv A outer s H vs Q E hr h=>?_)
 · obtain⟨z,ms,i,rfl,_⟩:=h
   rfl
 refine qL fun _ Y=>?_
 obtain⟨z,ms,i,rfl,⟨vs,hz,his⟩,q⟩:=h
 apply Y
 refine⟨_,(qB (qd (PW.pt (z6 (qJ zo (pv 1) qG (qN _)) (xk (qJ qLj (pv 1) (qi xA rfl T.b_len rfl (qA (pv 0) qC)) (qN _))))) (qE (qM qR)) qQ)
  (qE (qM (qI (qv qZ (pv 0) (pv 1) (fun _ _=>rfl)))))),?_⟩
 try dsimp only [je,qg]
 have hl:=his.len
 refine⟨_,rfl,_,_,rfl,rfl,_,rfl,?_⟩
 by_cases h0:i < 0
 · rw [decide_eq_true h0]
   have e:jh ms i="":=by unfold jh;rw [if_pos h0]
   rw [e] at q
   exact xE (xE q)
 rw [decide_eq_false h0]
 refine jQ ⟨_,rfl,_,rfl,z,_,rfl,.inl (SqL.of hz),_,_,rfl,rfl,_,rfl,?_⟩
 by_cases h1:((vs.length:Nat):Int)≤i
 · rw [decide_eq_true (show i ≥ ((vs.length:Nat):Int) from h1)]
   have e:jh ms i="":=by
    unfold jh
    rw [if_neg h0,List.getElem?_eq_none (by omega)]
   rw [e] at q
   exact xE q
 · rw [decide_eq_false (show ¬ i ≥ ((vs.length:Nat):Int) from h1)]
   refine jQ ?_
   have hi:i.toNat < ms.length:=by omega
   have hm:ms[i.toNat]? =some ms[i.toNat]:=List.getElem?_eq_getElem hi
   refine qL fun _ Y=>?_
   obtain⟨v,hv,hI⟩:=his.get' hm
   obtain⟨zi,xi,rfl,hzi,q0,_⟩:=hI.opn
   apply Y
   have ei:i=((i.toNat:Nat):Int):=by omega
   have hat:atI vs i=some (.ref zi):=by
    rw [ei];exact qX hv
   have e:jh ms i=ms[i.toNat].wd:=j3 hm ei
   rw [e] at q
   exact⟨_,rfl,_,rfl,z,_,_,_,rfl,rfl,SqL.of hz,hat,zi,xi,_,_,rfl,rfl,SqT.of hzi,q0,q⟩
def vj (ms:List Im)(i:Nat):Int:=((ms.take i).map Im.mo).sum
theorem qBd:∀ (xs:List Im) (b:Int) (i0:Nat) (m:Im) (ys:List Im),(∀ x∈xs,0≤x.mo)→0 < m.mo→jn b i0 (xs++m::ys) (b+(xs.map Im.mo).sum)=some (i0+xs.length,0)
 | [],b,i0,m,ys,_,hm=>by
  rw [List.nil_append,jn,if_pos (by simp;omega)]
  simp
 | x::xs,b,i0,m,ys,hx,hm=>by
  have h0:=hx x (by simp)
  have hs:0≤(xs.map Im.mo).sum:=by
   have:∀ (zs:List Im),(∀ z∈zs,0≤z.mo)→0≤(zs.map Im.mo).sum:=fun zs=>by
    induction zs with
    | nil=>intro _;simp
    | cons z zs ih=>intro h;have:=ih fun y hy=>h y (by simp [hy]);have:=h z (by simp);rw [List.map_cons,List.sum_cons];omega
   exact this xs fun y hy=>hx y (by simp [hy])
  have ih:=qBd xs (b+x.mo) (i0+1) m ys (fun y hy=>hx y (by simp [hy])) hm
  rw [List.cons_append,jn,List.map_cons,List.sum_cons,if_neg (by omega)]
  have e:b+(x.mo+(xs.map Im.mo).sum)=b+x.mo+(xs.map Im.mo).sum:=by omega
  rw [e,ih,List.length_cons]
  congr 2
  omega
inductive qEg (vs:List V)(H:Hp)(Q:VK)(_:XK):Prop
| mk (z:Addr) (ms:List Im) (i:Int) (_:vs=[.ref z,.int i]) (_:Tr H z ms) (_:Q (.int (if jh ms (i - 1)="mix" then i - 2 else i - 1)) H)
theorem qD3 (T:Tx K mg a):FnOk P w K mg base CX0 2 a.A29 a.B29 ["track","place"] qEg:=by
 refine T.D29.F.ok qEb (fun vs H Q E h=>?_) (fun cdv A outer s H vs Q E hr h=>?_)
 · obtain⟨z,ms,i,rfl,_⟩:=h
   rfl
 refine qL fun _ Y=>?_
 obtain⟨z,ms,i,rfl,tT,q⟩:=h
 apply Y
 refine⟨_,(qE (qM (qBx (qJ jU (qK T.D28 (xu T) hr rfl (qA (pv 0) (qA (qP jJ (pv 1) qG) qC))) qR (qN _)) (qP jJ (pv 1) qG) (qP jJ (pv 1) qG)))),?_⟩
 try dsimp only [je,qg]
 refine⟨_,rfl,_,rfl,_,_,rfl,rfl,z,ms,_,rfl,tT,rfl,_,rfl,jf (fun c=>?_) (fun c=>?_)⟩
 · rw [if_pos (by simpa using c)] at q
   exact⟨_,rfl,_,_,rfl,rfl,q⟩
 · rw [if_neg (by simpa using c)] at q
   exact⟨_,rfl,_,_,rfl,rfl,q⟩
def nbF (ms:List Im)(t:Int):Option (Int × Int):=match jn 0 0 ms t with
 | some (i,d)=>if d≠0∨(i:Int)=0 then none else some (if jh ms ((i:Int) - 1)="mix" then (i:Int) - 2 else (i:Int) - 1,(i:Int))
 | none=>none
def cbF (ms:List Im)(t:Int):Option (Int × Int):=match nbF ms t with
 | some (i,j)=>if jh ms i="clip"∧jh ms j="clip" then some (i,j) else none
 | none=>none
def PrR (H:Hp)(Q:VK)(r:Option (Int × Int)):Prop:=match r with
 | none=>∀ H',Same H H'→Q .non H'
 | some (i,j)=>∀ (p:Addr) (H':Hp),Same H H'→H' p=some (.tup [.int i,.int j])→Q (.ref p) H'
inductive qBj (vs:List V)(H:Hp)(Q:VK)(_:XK):Prop
| mk (z:Addr) (ms:List Im) (t:Int) (_:vs=[.ref z,.int t]) (_:Tr H z ms) (_:PrR H Q (nbF ms t))
theorem kZ (T:Tx K mg a):FnOk P w K mg base CX0 4 a.A31 a.B31 ["track","moment"] qBj:=by
 refine T.D31.F.ok kW (fun vs H Q E h=>?_) (fun cdv A outer s H vs Q E hr h=>?_)
 · obtain⟨z,ms,t,rfl,_⟩:=h
   rfl
 refine qL fun _ Y=>?_
 obtain⟨z,ms,t,rfl,tT,kk⟩:=h
 apply Y
 refine⟨_,(qB (qU 2 kW.nd (qK T.D27 (qAq T) hr rfl (qA (pv 0) (qA (pv 1) qC))))
  (qB (qd (PW.pt (z6 (qDk (qEo (pv 2))) (z6 (qJ xo (qI (pv 2)) qG (qN _)) (xk (qJ jU (qI (pv 2)) qG (qN _)))))) (qE (qM qEz)) qQ)
  (qE (qM (ql (qA (qK T.D29 (qD3 T) hr rfl (qA (pv 0) (qA (qI (pv 2)) qC))) (qA (qI (pv 2)) qC))))))),?_⟩
 try dsimp only [je,qg]
 refine⟨_,rfl,_,rfl,z,ms,_,rfl,tT,?_⟩
 unfold nbF at kk
 cases hit:jn 0 0 ms t with
 | none=>
  rw [hit] at kk
  intro H1 e1
  exact⟨_,rfl,_,rfl,xE (kk H1 e1)⟩
 | some x=>
  obtain⟨i,d⟩:=x
  rw [hit] at kk
  dsimp only at kk
  intro p H1 e1 hp
  refine⟨_,rfl,_,rfl,jf (fun c=>absurd c (by simp)) (fun _=>?_)⟩
  refine(ixO hp at1 ?_)
  refine⟨rfl,_,rfl,jf (fun c=>?_) (fun c=>?_)⟩
  · rw [if_pos (.inl (by simpa using c))] at kk
    exact kk H1 e1
  · refine(ixO hp at0 ?_)
    refine⟨rfl,_,rfl,jf (fun c2=>?_) (fun c2=>?_)⟩
    · rw [if_pos (.inr (by simpa using c2))] at kk
      exact kk H1 e1
    · rw [if_neg (fun z=>z.elim (fun z=>c (by simpa using z)) (fun z=>c2 (by simpa using z)))] at kk
      refine⟨_,rfl,ixO hp at0 ⟨z,ms,_,rfl,tT.same e1,?_⟩⟩
      refine(ixO hp at0 ⟨sL2,fun q hq=>?_⟩)
      exact kk q _ (e1.trans (qF hq _)) qD
inductive wc (vs:List V)(H:Hp)(Q:VK)(_:XK):Prop
| mk (z:Addr) (ms:List Im) (t:Int) (_:vs=[.ref z,.int t]) (_:Tr H z ms) (_:PrR H Q (cbF ms t))
theorem zO (T:Tx K mg a):FnOk P w K mg base CX0 5 a.A32 a.B32 ["track","moment"] wc:=by
 refine T.D32.F.ok zP (fun vs H Q E h=>?_) (fun cdv A outer s H vs Q E hr h=>?_)
 · obtain⟨z,ms,t,rfl,_⟩:=h
   rfl
 refine qL fun _ Y=>?_
 obtain⟨z,ms,t,rfl,tT,kk⟩:=h
 apply Y
 refine⟨_,(qB (qU 2 zP.nd (qK T.D31 (kZ T) hr rfl (qA (pv 0) (qA (pv 1) qC))))
  (qB (qd (PW.pt (z6 (qDk (qEo (pv 2))) (z6 (qJ xo (qK T.D28 (xu T) hr rfl (qA (pv 0) (qA (qI (pv 2)) qC))) qR (qN _)) (xk (qJ xo (qK T.D28 (xu T) hr rfl (qA (pv 0) (qA (qI (pv 2)) qC))) qR (qN _)))))) (qE (qM qEz)) qQ)
  (qE (qM (pv 2))))),?_⟩
 try dsimp only [je,qg]
 refine⟨_,rfl,_,rfl,z,ms,_,rfl,tT,?_⟩
 unfold cbF at kk
 cases hit:nbF ms t with
 | none=>
  rw [hit] at kk
  intro H1 e1
  exact⟨_,rfl,_,rfl,xE (kk H1 e1)⟩
 | some x=>
  obtain⟨i,j⟩:=x
  rw [hit] at kk
  dsimp only at kk
  intro p H1 e1 hp
  refine⟨_,rfl,_,rfl,jf (fun c=>absurd c (by simp)) (fun _=>?_)⟩
  refine⟨_,rfl,ixO hp at0 ⟨z,ms,_,rfl,tT.same e1,?_⟩⟩
  refine⟨rfl,_,rfl,jf (fun c=>?_) (fun c=>?_)⟩
  · rw [if_neg (fun z=>absurd c (by simpa using z.1))] at kk
    exact kk H1 e1
  · refine⟨_,rfl,ixO hp at1 ⟨z,ms,_,rfl,tT.same e1,?_⟩⟩
    refine⟨rfl,_,rfl,jf (fun c2=>?_) (fun c2=>?_)⟩
    · rw [if_neg (fun z=>absurd c2 (by simpa using z.2))] at kk
      exact kk H1 e1
    · rw [if_pos ⟨by simpa using c,by simpa using c2⟩] at kk
      exact⟨_,rfl,kk p H1 e1 hp⟩
def TrsAt (H:Hp):List (List Im)→List V→Prop
 | [],[]=>True
 | ms::r,v::vs=>(∃ z:Addr,v= .ref z∧Tr H z ms)∧TrsAt H r vs
 | _,_=>False
theorem TrsAt.same {H H':Hp}(e:Same H H'):∀ {ts:List (List Im)} {vs:List V},TrsAt H ts vs→TrsAt H' ts vs
 | [],[],_=>trivial
 | _::_,_::_,⟨⟨z,h1,h2⟩,h⟩=>⟨⟨z,h1,h2.same e⟩,TrsAt.same e h⟩
 | [],_::_,h=>h.elim
 | _::_,[],h=>h.elim
theorem TrsAt.len {H:Hp}:∀ {ts:List (List Im)} {vs:List V},TrsAt H ts vs→vs.length=ts.length
 | [],[],_=>rfl
 | _::_,_::_,h=>by rw [List.length_cons,List.length_cons,TrsAt.len h.2]
 | [],_::_,h=>h.elim
 | _::_,[],h=>h.elim
theorem TrsAt.get {H:Hp}:∀ {ts:List (List Im)} {vs:List V} {i:Nat} {v:V},TrsAt H ts vs→vs[i]? =some v→∃ (ms:List Im) (z:Addr),ts[i]? =some ms∧v= .ref z∧Tr H z ms
 | [],[],_,_,_,h=>by simp at h
 | ms::_,u::_,0,v,h,e=>by
  have e':u=v:=by simpa using e
  subst e'
  obtain⟨⟨z,h1,h2⟩,_⟩:=h
  exact⟨ms,z,rfl,h1,h2⟩
 | _::_,_::_,i+1,v,h,e=>by
  obtain⟨ms,z,h1,h2⟩:=TrsAt.get (i:=i) h.2 (by simpa using e)
  exact⟨ms,z,by simpa using h1,h2⟩
 | [],_::_,_,_,h,_=>h.elim
 | _::_,[],_,_,h,_=>h.elim
def TabAt (H:Hp)(v:V)(ts:List (List Im)):Prop:=∃ (tt tl ti:Addr) (zs:List V),v= .ref tt∧H tt=some (.tup [.ref tl,.ref ti])∧H tl=some (.lst zs)∧TrsAt H ts zs
theorem TabAt.same {H H':Hp}(e:Same H H'){v:V}{ts:List (List Im)}(h:TabAt H v ts):TabAt H' v ts:=
 let ⟨tt,tl,ti,zs,h1,h2,h3,h4⟩:=h;⟨tt,tl,ti,zs,h1,e _ _ h2,e _ _ h3,h4.same e⟩
theorem qHv {H:Hp}{v:V}{n:Str}{p q r s l:Int}(h:IsI H (.clip n p q r s l) v):Cp K H v n p q r s l:=by
 obtain⟨z,x,y,h0,hz,hx,hy⟩:=h
 exact⟨z,x,y,h0,SqT.of hz,SqT.of hx,SqT.of hy⟩
def TabF (H:Hp)(v:V)(ts:List (List Im))(tie:List Int):Prop:=∃ (tt tl ti:Addr) (zs:List V),v= .ref tt∧H tt=some (.tup [.ref tl,.ref ti])∧H tl=some (.lst zs)∧TrsAt H ts zs∧H ti=some (.lst (tie.map V.int))
theorem TabF.tab {H:Hp}{v:V}{ts:List (List Im)}{tie:List Int}(h:TabF H v ts tie):TabAt H v ts:=let ⟨tt,tl,ti,zs,h1,h2,h3,h4,_⟩:=h;⟨tt,tl,ti,zs,h1,h2,h3,h4⟩
theorem TabF.same {H H':Hp}(e:Same H H'){v:V}{ts:List (List Im)}{tie:List Int}(h:TabF H v ts tie):TabF H' v ts tie:=
 let ⟨tt,tl,ti,zs,h1,h2,h3,h4,h5⟩:=h;⟨tt,tl,ti,zs,h1,e _ _ h2,e _ _ h3,h4.same e,e _ _ h5⟩
def tabD (ts:List (List Im))(tie:List Int):D:=.tup [.lst (ts.map fun ms=>.lst (ms.map Im.d)),.lst ((tie.map V.int).map D.leaf)]
theorem TrsAt.rep {H:Hp}:∀ {ts:List (List Im)} {vs:List V},TrsAt H ts vs→Reps K H (ts.map fun ms=>.lst (ms.map Im.d)) vs
 | [],[],_=>by unfold List.map Reps;trivial
 | _::_,_::_,⟨⟨z,h1,h2⟩,r⟩=>by unfold List.map Reps;subst h1;exact⟨h2.rep,r.rep⟩
 | [],_::_,h=>h.elim
 | _::_,[],h=>h.elim
theorem TabF.rep {H:Hp}{v:V}{ts:List (List Im)}{tie:List Int}(h:TabF H v ts tie):Rep K H (tabD ts tie) v:=by
 obtain⟨tt,tl,ti,zs,rfl,h2,h3,h4,h5⟩:=h
 unfold tabD Rep
 refine⟨tt,_,rfl,SqT.of h2,?_⟩
 unfold Reps Reps Reps
 refine⟨?_,qF6 h5,trivial⟩
 unfold Rep
 exact⟨tl,zs,rfl,SqL.of h3,h4.rep⟩
theorem qKf:∀ ts:List (List Im),zj (ts.map fun ms=>.lst (ms.map Im.d)) (ts.map fun ms=>.lst (ms.map Im.d))=true
 | []=>by simp [zj]
 | ms::r=>by
  unfold List.map zj
  rw [qKf r]
  have:eqD (.lst (ms.map Im.d)) (.lst (ms.map Im.d))=true:=by unfold eqD;exact wY ms
  rw [this];rfl
theorem qN1:∀ ts:List (List Im),ke (ts.map fun ms=>.lst (ms.map Im.d))≤3
 | []=>by simp [ke]
 | ms::r=>by
  have h1:=qN1 r
  have h2:dep (.lst (ms.map Im.d))≤3:=by have:=qDi ms;unfold dep;omega
  unfold List.map ke
  omega
theorem qFp (ts:List (List Im))(tie:List Int):eqD (tabD ts tie) (tabD ts tie)=true∧dep (tabD ts tie)≤50:=by
 constructor
 · unfold tabD eqD zj zj zj
   have h1:eqD (.lst (ts.map fun ms=>.lst (ms.map Im.d))) (.lst (ts.map fun ms=>.lst (ms.map Im.d)))=true:=by unfold eqD;exact qKf ts
   have h2:eqD (.lst ((tie.map V.int).map D.leaf)) (.lst ((tie.map V.int).map D.leaf))=true:=by unfold eqD;exact qF0 tie
   rw [h1,h2];rfl
 · have h1:=qN1 ts
   have h2:=qDc (tie.map V.int)
   unfold tabD dep ke ke ke dep
   omega
theorem qF3 {H:Hp}:∀ {ts:List (List Im)} {vs:List V} {ms:List Im} {z:Addr},TrsAt H ts vs→Tr H z ms→TrsAt H (ts++[ms]) (vs++[.ref z])
 | [],[],_,z,_,h=>⟨⟨z,rfl,h⟩,trivial⟩
 | _::_,_::_,_,_,⟨h1,h2⟩,h=>⟨h1,qF3 h2 h⟩
 | [],_::_,_,_,h,_=>h.elim
 | _::_,[],_,_,h,_=>h.elim
theorem xn {b:Bool}{A B:Prop}(h:b=false)(q:B):if b=true then A else B:=by subst h;exact q
theorem vD {b:Bool}{A B:Prop}(h:b=true)(q:A):if b=true then A else B:=by subst h;exact q
abbrev Rls:=Str→Option Int
def ReelsAt (H:Hp)(rd:Addr)(rl:Rls):Prop:=∀ n N,rl n=some N→Reel H rd n N
theorem ReelsAt.same {H H':Hp}{rd:Addr}{rl:Rls}(e:Same H H')(h:ReelsAt H rd rl):ReelsAt H' rd rl:=fun n N q=>(h n N q).same e
theorem qF9 (T:Tx K mg a):FnOk P w K mg base CX0 1 a.fi_Short a.gi_Short ["self","most"] (qIz a.k_Short "most"):=by
 refine T.i_Short.ok qM0 (fun vs H Q E h=>?_) (fun cdv A outer s H vs Q E hr h=>?_)
 · obtain⟨e,v,rfl,_⟩:=h
   rfl
 refine qL fun _ Y=>?_
 obtain⟨e,v,rfl,he,kk⟩:=h
 apply Y
 refine⟨_,qE (qRc (pv 0) (pv 1)),?_⟩
 exact⟨_,rfl,_,rfl,e,_,_,rfl,he,T.m_Short.ov,T.m_Short.hd,T.m_Short.sa,T.tk_Short,kk⟩
inductive Nu (H:Hp):V→Option Int→Prop where
 | int (i:Int):Nu H (.int i) (some i)
 | no {x:V} (h:NoW H x):Nu H x none
theorem Nu.same {H H':Hp}(s:Same H H'){x:V}{o:Option Int}:Nu H x o→Nu H' x o
 | .int i=>.int i
 | .no h=>.no (h.same s)
def qL8 (L:Nat)(n t:Option Int):Bool:=match n,t with
 | some i,some m=>decide (0≤i) && decide (i < L) && decide (0≤m)
 | _,_=>false
inductive qDp (N:Addr)(vs:List V)(H:Hp)(Q:VK)(E:XK):Prop
| mk (tz tl td:Addr) (zs:List V) (n t:V) (on ot:Option Int) (_:vs=[.ref tz,n,t]) (_:H tz=some (.tup [.ref tl,.ref td])) (_:H tl=some (.lst zs)) (_:Nu H n on) (_:Nu H t ot) (_:(qL8 zs.length on ot=false→E (.ref N) none H)) (_:(qL8 zs.length on ot=true→Q .non H))
theorem qCd (T:Tx K mg a):FnOk P w K mg base (CXR P w) 2 a.A45 a.B45 ["table","number","moment"] (qDp a.k_NoPlace):=by
 refine okX T.D45.F qEe (fun vs H Q E h=>?_) (fun cdv A outer s H vs Q E hr h=>?_)
 · obtain⟨tz,tl,td,zs,n,t,on,ot,rfl,_⟩:=h
   rfl
 refine qL fun _ Y=>?_
 obtain⟨tz,tl,td,zs,n,t,on,ot,rfl,htz,htl,hn,ht,kb,kg⟩:=h
 apply Y
 refine⟨_,(qB (qd (PW.pt (z6 (zS (j4 (qK T.D0 (xG T) hr rfl (qA (pv 1) qC)))) (z6 (qJ zo (pv 1) qG (qN _)) (xk (qJ qLj (pv 1) (qi xA rfl T.b_len rfl (qA (qI (pv 0)) qC)) (qN _)))))) (qE (xR rfl rfl T.c_NoPlace T.x_NoPlace (qA qR qC))) qQ)
  (qE (qd (PW.pt (z6 (zS (j4 (qK T.D0 (xG T) hr rfl (qA (pv 2) qC)))) (xk (qJ zo (pv 2) qG (qN _))))) (qE (xR rfl rfl T.c_NoPlace T.x_NoPlace (qA qR qC))) qQ))),?_⟩
 try dsimp only [je,qg]
 have one:(1:Nat)≤sizeLine:=by decide
 cases hn with
 | no h=>
  have kb:=kb (by unfold qL8;cases ot <;> rfl)
  exact⟨_,rfl,n,false,rfl,.no h,false,rfl,xE (xE ⟨one,kb⟩)⟩
 | int n=>
 refine⟨_,rfl,_,true,rfl,.int n,true,rfl,jQ ?_⟩
 refine⟨_,rfl,_,_,rfl,rfl,_,rfl,jf (fun c=>?_) (fun c=>?_)⟩
 · have hc:n < 0:=by simpa using c
   have kb:=kb (by
    unfold qL8
    cases ot with
    | none=>rfl
    | some m=>dsimp only;rw [decide_eq_false (show ¬ 0≤n by omega)];rfl)
   exact xE ⟨one,kb⟩
 have h0:¬ n < 0:=by simpa using c
 refine⟨_,rfl,ixO htz at0 ⟨tl,_,rfl,.inl (SqL.of htl),_,_,rfl,rfl,_,rfl,jf (fun c=>?_) (fun c=>?_)⟩⟩
 · have hc:(zs.length:Int)≤n:=by simpa using c
   have kb:=kb (by
    unfold qL8
    cases ot with
    | none=>rfl
    | some m=>dsimp only;rw [decide_eq_false (show ¬ n < zs.length by omega),Bool.and_false];rfl)
   exact⟨one,kb⟩
 have h1:¬ (zs.length:Int)≤n:=by simpa using c
 cases ht with
 | no h=>
  have kb:=kb rfl
  exact⟨_,rfl,t,false,rfl,.no h,false,rfl,xE (xE ⟨one,kb⟩)⟩
 | int m=>
 refine⟨_,rfl,_,true,rfl,.int m,true,rfl,jQ ?_⟩
 have e:qL8 zs.length (some n) (some m)=decide (0≤m):=by
  unfold qL8
  dsimp only
  rw [decide_eq_true (show 0≤n by omega),decide_eq_true (show n < zs.length by omega)]
  rfl
 rw [e] at kb kg
 refine⟨_,rfl,_,_,rfl,rfl,_,rfl,jf (fun c=>?_) (fun c=>?_)⟩
 · have hc:m < 0:=by simpa using c
   exact⟨one,kb (decide_eq_false (by omega))⟩
 · have hc:¬ m < 0:=by simpa using c
   exact kg (decide_eq_true (by omega))
inductive qId (K:W.Frag)(vs:List V)(H:Hp)(Q:VK)(_:XK):Prop
| mk (v:V) (n:Str) (p q r s len lo hi:Int) (_:vs=[v,.int lo,.int hi]) (_:IsI H (.clip n p q r s len) v) (_:Bn 700 p q r s) (_:lo.natAbs < 2 ^ 700) (_:∀ (u:V) (H':Hp),Same H H'→IsI H' (.clip n (plP p q r s lo) (plQ p q r s lo) r s (hi - lo)) u→Q u H')
theorem qHx (T:Tx K mg a):FnOk P w K mg base CX0 5 a.A16 a.B16 ["clip","low","high"] (qId K):=by
 refine T.D16.F.ok qHu (fun vs H Q E h=>?_) (fun cdv A outer s H vs Q E hr h=>?_)
 · obtain⟨v,n,p,q,r,s,len,lo,hi,rfl,_⟩:=h
   rfl
 refine qL fun _ Y=>?_
 obtain⟨v,n,p,q,r,s',len,lo,hi,rfl,hI,⟨hq,hs,bp,bq,br,bs⟩,bl,kk⟩:=h
 apply Y
 refine⟨_,(qE (qM (ql (qA qR (qA (qI (pv 0)) (qA (qK T.D12 (zB T) hr rfl (qA (pv 0) (qA (pv 1) qC))) (qA (qI (pv 0)) (qA (qP jJ (pv 2) (pv 1)) qC)))))))),?_⟩
 try dsimp only [je,qg]
 refine qL fun _ Y=>?_
 obtain⟨z,z1,z2,rfl,h0,h1,h2⟩:=id hI
 apply Y
 refine(ixO h0 qD8 ⟨_,rfl,_,rfl,_,n,p,q,r,s',len,lo,rfl,qHv hI,hq,hs,bp,bq,br,bs,bl,fun y H1 s1 e1=>?_⟩)
 refine(ixO (s1 _ _ h0) qB5 ⟨_,rfl,_,rfl,_,_,rfl,rfl,sL5,fun t ht=>?_⟩)
 have s2:=qF ht (.tup [.str "clip",.str n,.ref y,.ref z2,.int (hi - lo)])
 exact kk _ _ (s1.trans s2) ⟨t,y,z2,rfl,qD,s2 _ _ e1,s2 _ _ (s1 _ _ h2)⟩
def qPl (p q r s l N:Int):Int:=wt (plP p q r s l*s) (1*r*plQ p q r s l) (plQ p q r s l*s) N
def qRb (p q r s N:Int):Int:=wt (plP p q r s (-1)*s) (-1*r*plQ p q r s (-1)) (plQ p q r s (-1)*s) N
structure Rc (n:Str)(p q r s l:Int)(rl:Rls)(N:Int):Prop where
 g1:qJc 110 p q
 g2:qJc 110 r s
 bl:l.natAbs < 2 ^ 30
 l1:1≤l
 rn:rl n=some N
 bN:N.natAbs < 2 ^ 700
theorem Rc.bn {n:Str}{p q r s l N:Int}{rl:Rls}(h:Rc n p q r s l rl N):Bn 110 p q r s:=⟨h.g1.1,h.g2.1,h.g1.2.2.1,h.g1.2.2.2,h.g2.2.2.1,h.g2.2.2.2⟩
theorem qQu {n i:Nat}(h:i < n):ixN n (i:Int)=some i:=by
 unfold ixN
 rw [if_pos (by omega),if_pos (by omega)]
 congr 1
structure NewTab (H H':Hp)(t:Addr)(ts:List (List Im))(tie:List Int):Prop where
 ex:∃ (tl ti:Addr) (zs:List V),H' t=some (.tup [.ref tl,.ref ti])∧H' tl=some (.lst zs)∧TrsAt H' ts zs∧H' ti=some (.lst (tie.map V.int))∧H tl=none∧H ti=none∧tl≠ti∧∀ b,V.ref b∈zs→H b=none∧b≠tl∧b≠ti
theorem NewTab.tab {H H':Hp}{t:Addr}{ts:List (List Im)}{tie:List Int}(h:NewTab H H' t ts tie):TabF H' (.ref t) ts tie:=let ⟨tl,ti,zs,h1,h2,h3,h4,_⟩:=h.ex;⟨t,tl,ti,zs,rfl,h1,h2,h3,h4⟩
theorem TrsAt.set {H:Hp}:∀ {ts:List (List Im)} {vs:List V} {i:Nat} {ms:List Im} {z:Addr},TrsAt H ts vs→Tr H z ms→TrsAt H (ts.set i ms) (vs.set i (.ref z))
 | [],[],_,_,_,_,_=>trivial
 | _::_,_::_,0,_,z,h,h'=>⟨⟨z,rfl,h'⟩,h.2⟩
 | _::_,_::_,_+1,_,_,h,h'=>⟨h.1,h.2.set h'⟩
 | [],_::_,_,_,_,h,_=>h.elim
 | _::_,[],_,_,_,h,_=>h.elim
theorem TrsAt.refs {H:Hp}:∀ {ts:List (List Im)} {vs:List V} {b:Addr},TrsAt H ts vs→V.ref b∈vs→∃ xs,H b=some (.lst xs)
 | [],[],_,_,h=>by simp at h
 | _::_,_::_,b,⟨⟨z,h1,⟨xs,h2,_⟩⟩,r⟩,h=>by
  rcases List.mem_cons.mp h with h | h
  · rw [h1] at h
    cases h
    exact⟨xs,h2⟩
  · exact TrsAt.refs r h
 | [],_::_,_,h,_=>h.elim
 | _::_,[],_,h,_=>h.elim
inductive qFz (vs:List V)(H:Hp)(Q:VK)(_:XK):Prop
| mk (tz y:Addr) (n:Nat) (ts:List (List Im)) (tie:List Int) (ms:List Im) (_:vs=[.ref tz,.int (n:Int),.ref y]) (_:TabF H (.ref tz) ts tie) (_:Tr H y ms) (_:n < ts.length) (_:ts.length≤300) (_:∀ (t:Addr) (H':Hp),Same H H'→(∀ H0:Hp,Same H0 H→H0 y=none→NewTab H0 H' t (ts.set n ms) tie)→Q (.ref t) H')
theorem kB (T:Tx K mg a):FnOk P w K mg base CX0 1 a.A56 a.B56 ["table","number","track"] qFz:=by
 refine T.D56.F.ok wM (fun vs H Q E h=>?_) (fun cdv A outer s H vs Q E hr h=>?_)
 · obtain⟨tz,y,n,ts,tie,ms,rfl,_⟩:=h
   rfl
 refine qL fun _ Y=>?_
 obtain⟨tz,y,n,ts,tie,ms,rfl,⟨tt,tl,ti,zs,e0,h2,h3,h4,h5⟩,hy,hn,hl,kk⟩:=h
 cases e0
 apply Y
 have hzl:=h4.len
 refine⟨_,(qB (qRg (i:=3) [] [] wM.nd rfl rfl rfl (jX (qI (pv 0))) (fun _ _ _ _=>(wX (wN (K:=K) rfl) rfl T.b_list rfl (qA (pv 0) qC))))
  (qB (qSu (pv 2) (qT3 (pv 3) (pv 1) qOx))
  (qE (qM (ql (qA (pv 3) (qA (wX kr rfl T.b_list rfl (qA (qI (pv 0)) qC)) qC))))))),?_⟩
 try dsimp only [je,qg]
 refine(ixO h2 at0 ⟨tl,rfl,⟨_,SqL.of h3⟩,qCf (K:=K) (a:=tl) (xs:=zs) (fun j acc H2=>TrsAt H2 (ts.take j) acc∧Same H H2∧∀ b,V.ref b∈acc→H b=none) ⟨trivial,Same.refl _,fun b z=>absurd z (by simp)⟩ ?_ ?_ ?_⟩)
 · rintro j acc H2 hj ⟨ht,e2,_⟩
   exact⟨SqL.of (e2 _ _ h3),qf (by rw [ht.len,List.length_take];omega)⟩
 · rintro j x acc H2 hj hx ⟨ht,e2,fr⟩
   refine qL fun _ Y=>?_
   obtain⟨ms1,z,hms,rfl,us,hz,his⟩:=h4.get hx
   apply Y
   refine⟨_,rfl,z,us,rfl,.inl (SqL.of (e2 _ _ hz)),fun l hl'=>Nxt.mk hj ⟨?_,e2.trans (qF hl' _),fun b hb=>?_⟩⟩
   · have w3:=qF hl' (.lst us)
     have etk:ts.take (j+1)=ts.take j++[ms1]:=by rw [List.take_add_one,hms];rfl
     rw [etk]
     exact qF3 (ht.same w3) ⟨us,qD,his.ts (qc (e2.trans w3))⟩
   · rcases List.mem_append.mp hb with hb | hb
     · exact fr b hb
     · have:b=l:=by simpa using hb
       subst this
       cases q0:H b with
       | none=>rfl
       | some o=>rw [e2 _ _ q0] at hl';cases hl'
 rintro acc H2 ⟨ht,e2,fr⟩ d hd
 rw [hzl,List.take_length] at ht
 have hal:=ht.len
 have w3:=qF hd (.lst acc)
 have e3:=e2.trans w3
 have hd0:H d=none:=by
  cases q0:H d with
  | none=>rfl
  | some o=>rw [e2 _ _ q0] at hd;cases hd
 refine⟨_,rfl,_,rfl,_,rfl,d,acc,_,n,rfl,rfl,qD,qQu (by rw [hal];exact hn),?_⟩
 have uu:upd (upd H2 d (.lst acc)) d (.lst (acc.set n (.ref y)))=upd H2 d (.lst (acc.set n (.ref y))):=by
  funext b
  by_cases hb:b=d
  · rw [hb,qD,qD]
  · rw [qV hb,qV hb,qV hb]
 rw [uu]
 have w4:=qF hd (.lst (acc.set n (.ref y)))
 have e4:=e2.trans w4
 have hd4:upd H2 d (.lst (acc.set n (.ref y))) d=some (.lst (acc.set n (.ref y))):=qD
 have ht4:TrsAt (upd H2 d (.lst (acc.set n (.ref y)))) (ts.set n ms) (acc.set n (.ref y)):=(ht.same w4).set (hy.same e4)
 have nd:∀ b,V.ref b∈acc→b≠d:=fun b hb z=>by
  obtain⟨xs,q0⟩:=ht.refs hb
  rw [z,hd] at q0;cases q0
 have ny:y≠d:=fun z=>by
  obtain⟨us,q0,_⟩:=id hy
  rw [z,hd0] at q0;cases q0
 generalize upd H2 d (.lst (acc.set n (.ref y)))=H4 at w4 e4 hd4 ht4 ⊢
 refine⟨_,rfl,ixO (e4 _ _ h2) at1 ⟨ti,_,rfl,.inl (SqL.of (e4 _ _ h5)),fun l hl'=>?_⟩⟩
 have w5:=qF hl' (.lst (tie.map V.int))
 have e5:=e4.trans w5
 refine⟨sL2,fun t ht'=>?_⟩
 have w6:=qF ht' (.tup [.ref d,.ref l])
 refine kk t _ (e5.trans w6) fun H0 s0 y0=>?_
 have back:∀ b,H b=none→H0 b=none:=fun b hb=>by
  cases q0:H0 b with
  | none=>rfl
  | some o=>rw [s0 _ _ q0] at hb;cases hb
 have hl0:H l=none:=by
  cases q0:H l with
  | none=>rfl
  | some o=>rw [e4 _ _ q0] at hl';cases hl'
 have dl:d≠l:=fun z=>by rw [← z,hd4] at hl';cases hl'
 refine⟨d,l,_,qD,w6 _ _ (w5 _ _ hd4),(ht4.same w5).same w6,w6 _ _ qD,back _ hd0,back _ hl0,dl,fun b hb=>?_⟩
 obtain⟨xs,q0⟩:=ht4.refs hb
 have bl:b≠l:=fun z=>by rw [z,hl'] at q0;cases q0
 rcases List.mem_or_eq_of_mem_set hb with hb | hb
 · exact⟨back _ (fr b hb),nd b hb,bl⟩
 · cases hb
   exact⟨y0,ny,bl⟩
theorem qOq {x0 x1 x2 x3:V}:atI [x0,x1,x2,x3] 1=some x1:=rfl
theorem qPq {x0 x1 x2 x3:V}:atI [x0,x1,x2,x3] 2=some x2:=rfl
theorem qRf {x0 x1 x2 x3:V}:atI [x0,x1,x2,x3] 3=some x3:=rfl
def Pos (ms:List Im):Prop:=∀ m∈ms,0 < m.mo∧m.wd≠"mix"
theorem qV8:(4:Nat)≤sizeLine:=by decide
def Wd3 (wd:Str):Prop:=wd="roll"∨wd="slip"∨wd="slide"
theorem vJ {ms:List Im}{x:Int}(h:jh ms x="clip"):∃ (i:Nat) (n:Str) (p q r s l:Int),x=(i:Int)∧ms[i]? =some (.clip n p q r s l):=by
 unfold jh at h
 split at h
 · exact absurd h (by decide+kernel)
 · rename_i h0
   cases hm:ms[x.toNat]? with
   | none=>rw [hm] at h;exact absurd h (by decide+kernel)
   | some m=>
    rw [hm] at h
    dsimp only at h
    cases m with
    | clip n p q r s l=>exact⟨x.toNat,n,p,q,r,s,l,by omega,hm⟩
    | gap=>exact absurd (show ("gap":Str)="clip" from h) (by decide+kernel)
    | nest=>exact absurd (show ("nest":Str)="clip" from h) (by decide+kernel)
    | mix=>exact absurd (show ("mix":Str)="clip" from h) (by decide+kernel)
def zM (ms:List Im)(x:Int):Im:=(ms[x.toNat]?).getD (.gap 0)
def ItR (rl:Rls)(m:Im):Prop:=∀ n p q r s l,m= .clip n p q r s l→∃ N,Rc n p q r s l rl N
structure RollIn (H:Hp)(tz dz rd:Addr)(ts:List (List Im))(tie:List Int)(wd:Str)(n t b:V)(on ot ob:Option Int)(rl:Rls):Prop where
 tab:TabF H (.ref tz) ts tie
 deed:H dz=some (.tup [.str wd,n,t,b])
 hn:Nu H n on
 ht:Nu H t ot
 hb:Nu H b ob
 w3:Wd3 wd
 tl:ts.length≤300
 it:∀ ms∈ts,ms.length≤300∧∀ m∈ms,ItR rl m
 re:ReelsAt H rd rl
theorem qP8 {w:Str}:inV (.str w) [.str "clip",.str "nest"]=(decide (w="clip") || decide (w="nest")):=by
 unfold inV
 rw [Bool.eq_iff_iff]
 simp [eqV]
 constructor
 · rintro (h | h)
   · exact .inl h.symm
   · exact .inr h.symm
 · rintro (h | h)
   · exact .inl h.symm
   · exact .inr h.symm
def j7 (ms:List Im)(t:Int):Bool:=match jn 0 0 ms t with
 | some (i,d)=>decide (d > 0) && (decide (jh ms (i:Int)="clip") || decide (jh ms (i:Int)="nest"))
 | none=>false
inductive qEk (vs:List V)(H:Hp)(Q:VK)(_:XK):Prop
| mk (z:Addr) (ms:List Im) (t:Int) (_:vs=[.ref z,.int t]) (_:Tr H z ms) (_:∀ H',Same H H'→Q (.bl (j7 ms t)) H')
theorem qD4 (T:Tx K mg a):FnOk P w K mg base CX0 4 a.A33 a.B33 ["track","moment"] qEk:=by
 refine T.D33.F.ok vo (fun vs H Q E h=>?_) (fun cdv A outer s H vs Q E hr h=>?_)
 · obtain⟨z,ms,t,rfl,_⟩:=h
   rfl
 refine qL fun _ Y=>?_
 obtain⟨z,ms,t,rfl,tT,kk⟩:=h
 apply Y
 refine⟨_,(qB (qU 2 vo.nd (qK T.D27 (qAq T) hr rfl (qA (pv 0) (qA (pv 1) qC))))
  (qE (qM (vk (qSi (qMv (pv 2))) (vk (jp qF8 (qI (pv 2)) qG (qN _)) (qBc (jp xW (qK T.D28 (xu T) hr rfl (qA (pv 0) (qA (qI (pv 2)) qC))) (ql (qA qR (qA qR qC))) rfl))))))),?_⟩
 try dsimp only [je,qg]
 refine⟨_,rfl,_,rfl,z,ms,_,rfl,tT,?_⟩
 unfold j7 at kk
 cases hit:jn 0 0 ms t with
 | none=>
  rw [hit] at kk
  intro H1 e1
  exact⟨_,rfl,_,rfl,jQ (kk H1 e1)⟩
 | some x=>
  obtain⟨i,d⟩:=x
  rw [hit] at kk
  dsimp only at kk
  intro p H1 e1 hp
  refine⟨_,rfl,_,rfl,xE ?_⟩
  refine(ixO hp at1 ⟨_,_,rfl,rfl,_,rfl,jf (fun c=>?_) (fun c=>?_)⟩)
  · have hd:d > 0:=by simpa using c
    rw [decide_eq_true hd,Bool.true_and] at kk
    refine⟨_,rfl,ixO hp at0 ⟨z,ms,_,rfl,tT.same e1,sL2,fun q hq=>?_⟩⟩
    have:=kk _ (e1.trans (qF hq (.tup [.str "clip",.str "nest"])))
    rw [← qP8] at this
    exact⟨q,_,rfl,.inr (SqT.of qD),rfl,rfl,this⟩
  · have hd:¬ d > 0:=by simpa using c
    rw [decide_eq_false hd,Bool.false_and] at kk
    exact kk H1 e1
def qm:Im→Int→Int→Im
 | .clip n p q r s _,lo,hi=>.clip n (plP p q r s lo) (plQ p q r s lo) r s (hi - lo)
 | .nest n b _,lo,hi=>.nest n (b+lo) (hi - lo)
 | .gap _,lo,hi=>.gap (hi - lo)
 | .mix _,lo,hi=>.gap (hi - lo)
def ImB (m:Im):Prop:=match m with
 | .clip _ p q r s _=>Bn 700 p q r s
 | _=>True
inductive qGu (vs:List V)(H:Hp)(Q:VK)(_:XK):Prop
| mk (v:V) (m:Im) (lo hi:Int) (_:vs=[v,.int lo,.int hi]) (_:IsI H m v) (_:ImB m) (_:lo.natAbs < 2 ^ 700) (_:m.wd≠"mix") (_:∀ (u:V) (H':Hp),Same H H'→IsI H' (qm m lo hi) u→Q u H')
theorem qGv (T:Tx K mg a):FnOk P w K mg base CX0 6 a.A34 a.B34 ["item","low","high"] qGu:=by
 refine T.D34.F.ok qG5 (fun vs H Q E h=>?_) (fun cdv A outer s H vs Q E hr h=>?_)
 · obtain⟨v,m,lo,hi,rfl,_⟩:=h
   rfl
 refine qL fun _ Y=>?_
 obtain⟨v,m,lo,hi,rfl,hI,hB,bl,hnm,kk⟩:=h
 apply Y
 refine⟨_,(qB (qd (qJ jU (qI (pv 0)) qR (qN _)) (qE (qM (qK T.D16 (qHx T) hr rfl (qA (pv 0) (qA (pv 1) (qA (pv 2) qC)))))) qQ)
  (qB (qd (qJ jU (qI (pv 0)) qR (qN _)) (qE (qM (ql (qA qR (qA (qI (pv 0)) (qA (qP qo (qI (pv 0)) (pv 1)) (qA (qP jJ (pv 2) (pv 1)) qC))))))) qQ)
  (qE (qM (ql (qA qR (qA (qP jJ (pv 2) (pv 1)) qC))))))),?_⟩
 try dsimp only [je,qg]
 cases m with
 | mix l=>exact absurd rfl hnm
 | clip n p q r s1 l=>
  refine qL fun _ Y=>?_
  obtain⟨z,x,y,rfl,hz,hx,hy⟩:=id hI
  apply Y
  refine(ixO hz qT6 ⟨rfl,_,rfl,xE ?_⟩)
  exact⟨_,rfl,_,rfl,_,rfl,_,n,p,q,r,s1,l,lo,hi,rfl,hI,hB,bl,kk⟩
 | nest n b l=>
  refine qL fun _ Y=>?_
  obtain⟨z,rfl,hz⟩:=id hI
  apply Y
  have a0:atI [V.str "nest",.str n,.int b,.int l] 0=some (.str "nest"):=rfl
  have a1:atI [V.str "nest",.str n,.int b,.int l] 1=some (.str n):=rfl
  have a2:atI [V.str "nest",.str n,.int b,.int l] 2=some (.int b):=rfl
  refine(ixO hz a0 ⟨rfl,_,rfl,jQ ?_⟩)
  refine(ixO hz a0 ⟨rfl,_,rfl,xE ?_⟩)
  refine(ixO hz a1 (ixO hz a2 ⟨_,rfl,_,_,rfl,rfl,_,rfl,_,rfl,_,_,rfl,rfl,sL4,fun t ht=>?_⟩))
  exact kk _ _ (qF ht _) (isN qD)
 | gap l=>
  refine qL fun _ Y=>?_
  obtain⟨z,rfl,hz⟩:=id hI
  apply Y
  refine(ixO hz at0 ⟨rfl,_,rfl,jQ ?_⟩)
  refine(ixO hz at0 ⟨rfl,_,rfl,jQ ?_⟩)
  refine⟨_,rfl,_,rfl,_,_,rfl,rfl,sL2,fun t ht=>?_⟩
  exact kk _ _ (qF ht _) (isG qD)
def vY (i j:Int):Int:=if j > i then j else i
def qJt (i j:Int):Int:=if j < i then j else i
def xw (lo hi:Int):Int→List Im→List Im
 | _,[]=>[]
 | b,m::r=>(if m.wd="mix" then (if lo < b∧b < hi then [m] else []) else if vY lo b < qJt hi (b+m.mo) then [qm m (vY lo b - b) (qJt hi (b+m.mo) - b)] else [])++xw lo hi (b+m.mo) r
theorem qDe (lo hi:Int):∀ (b:Int) (ms:List Im),(xw lo hi b ms).length≤ms.length
 | _,[]=>by simp [xw]
 | b,m::r=>by
  have:=qDe lo hi (b+m.mo) r
  rw [xw,List.length_append,List.length_cons]
  split <;> split <;> simp <;> omega
def MsB (ms:List Im):Prop:=(∀ m∈ms,ImB m∧0≤m.mo)∧ms.length≤300
inductive qBs (vs:List V)(H:Hp)(Q:VK)(_:XK):Prop
| mk (z:Addr) (ms:List Im) (lo hi:Int) (_:vs=[.ref z,.int lo,.int hi]) (_:Tr H z ms) (_:MsB ms) (_:0≤lo) (_:lo≤2 ^ 500) (_:∀ (y:Addr) (H':Hp),Same H H'→H y=none→Tr H' y (xw lo hi 0 ms)→Q (.ref y) H')
theorem kY (T:Tx K mg a):FnOk P w K mg base CX0 7 a.A35 a.B35 ["track","low","high"] qBs:=by
 refine T.D35.F.ok qx (fun vs H Q E h=>?_) (fun cdv A outer s H vs Q E hr h=>?_)
 · obtain⟨z,ms,lo,hi,rfl,_⟩:=h
   rfl
 refine qL fun _ Y=>?_
 obtain⟨z,ms,lo,hi,rfl,⟨vs,hz,his⟩,⟨hB,hln⟩,h0,h1,kk⟩:=h
 apply Y
 refine⟨_,(qB (qU 3 qx.nd (jD qC))
  (qB (qU 4 qx.nd qG)
  (qB (j2 PassesOwn.never rfl (jX (pv 0)) (qt (i:=5) qx.nd rfl (Or.inl rfl)) (qB (qU 6 qx.nd (qP qo (pv 4) (qK T.D23 (jz T) hr rfl (qA (pv 5) qC))))
  (qB (qU 7 qx.nd (qi (wL rfl) rfl T.b_max rfl (qA (pv 1) (qA (pv 4) qC))))
  (qB (qU 8 qx.nd (qi (vS rfl) rfl T.b_min rfl (qA (pv 2) (qA (pv 6) qC))))
  (qB (qd (qJ jU (qI (pv 5)) qR (qN _)) (qE (qd (PW.pt (jZ (qJ zo (pv 1) (pv 4) (qN _)) (jM (qJ zo (pv 4) (pv 2) (qN _))))) (qE (jV (qAo F.plainAttrs_list F.slot_list_append F.type_list_append jT (pv 3) (qA (pv 5) qC)))) qQ)) (qE (qd (qJ zo (pv 7) (pv 8) (qN _)) (qE (jV (qAo F.plainAttrs_list F.slot_list_append F.type_list_append jT (pv 3) (qA (qK T.D34 (qGv T) hr rfl (qA (pv 5) (qA (qP jJ (pv 7) (pv 4)) (qA (qP jJ (pv 8) (pv 4)) qC)))) qC)))) qQ)))
  (qE (qU 4 qx.nd (pv 6))))))))
  (qE (qM (pv 3)))))),?_⟩
 try dsimp only [je,qg]
 refine⟨sL0,fun y hy=>?_⟩
 have w0:=qF hy (.lst [])
 have hvl:=his.len
 refine⟨_,rfl,z,rfl,⟨_,SqL.of (w0 _ _ hz)⟩,jy (K:=K) (a:=z) (xs:=vs) (fun i σ H'=>∃ (o1 o2 o3 o4:Option V) (b:Int) (ps:List Im),σ=[some (.ref z),some (.int lo),some (.int hi),some (.ref y),some (.int b),o1,o2,o3,o4]∧Tr H' y ps∧ps++xw lo hi b (ms.drop i)=xw lo hi 0 ms∧ps.length≤i∧0≤b∧Same H H')
  ⟨none,none,none,none,0,[],rfl,⟨[],qD,trivial⟩,rfl,Nat.le_refl _,by decide,w0⟩ ?_ ?_ ?_⟩
 · rintro i σ H' hi' ⟨o1,o2,o3,o4,b,ps,rfl,_,_,_,_,e⟩
   exact SqL.of (e _ _ hz)
 · rintro i x σ H' hx ⟨o1,o2,o3,o4,b,ps,rfl,tP,hap,hpl,b0,e⟩
   refine qL fun _ Y=>?_
   obtain⟨m,hm,hIx⟩:=his.get hx
   have hI:=hIx.ts (qc e)
   have hin:i < ms.length:=(glt hm)
   obtain⟨hBm,hmo⟩:=hB m (List.mem_of_getElem? hm)
   obtain⟨us,hyu,hisP⟩:=tP
   apply Y
   have hul:=hisP.len
   rw [jW hm,xw] at hap
   refine⟨_,rfl,_,rfl,x,m,rfl,hI,_,_,rfl,rfl,?_⟩
   refine⟨_,rfl,_,rfl,_,_,rfl,?_⟩
   refine⟨_,rfl,_,rfl,_,_,rfl,?_⟩
   dsimp only
   change qVv _ _ _ _ _
   refine qL fun _ Y=>?_
   obtain⟨zi,xi,rfl,hzi,a0,_⟩:=hI.opn
   apply Y
   have skip:∀ (q:List Im),ps++([]++q)=ps++q:=fun q=>by simp
   refine⟨_,rfl,zi,xi,_,_,rfl,rfl,SqT.of hzi,a0,rfl,_,rfl,jf (fun c=>?_) (fun c=>?_)⟩
   · have hw:m.wd="mix":=by simpa using c
     rw [if_pos hw] at hap
     refine⟨_,rfl,_,rfl,_,_,rfl,rfl,_,rfl,jf (fun c1=>?_) (fun c1=>?_)⟩
     · refine⟨_,rfl,_,rfl,_,_,rfl,rfl,_,rfl,jf (fun c2=>?_) (fun c2=>?_)⟩
       · rw [if_pos ⟨by simpa using c1,by simpa using c2⟩] at hap
         refine⟨_,rfl,.inl ⟨rfl,_,SqL.of hyu⟩,_,rfl,y,_,_,rfl,rfl,hyu,qf (by omega),?_⟩
         exact⟨_,rfl,_,_,_,_,_,ps++[m],rfl,⟨_,qD,(hisP.app (.one hI)).ts (zV hyu)⟩,by rw [List.append_assoc];exact hap,by rw [List.length_append];show ps.length+1≤i+1;omega,by omega,xU e hy⟩
       · rw [if_neg (fun z=>c2 (by simpa using z.2)),skip] at hap
         exact⟨_,rfl,_,_,_,_,_,ps,rfl,⟨_,hyu,hisP⟩,hap,by omega,by omega,e⟩
     · rw [if_neg (fun z=>c1 (by simpa using z.1)),skip] at hap
       exact jQ ⟨_,rfl,_,_,_,_,_,ps,rfl,⟨_,hyu,hisP⟩,hap,by omega,by omega,e⟩
   · have hw:m.wd≠"mix":=by simpa using c
     rw [if_neg hw] at hap
     refine⟨_,rfl,_,rfl,_,_,rfl,rfl,_,rfl,jf (fun c1=>?_) (fun c1=>?_)⟩
     · rw [if_pos (of_decide_eq_true (show decide (vY lo b < qJt hi (b+m.mo))=true from c1))] at hap
       refine⟨_,rfl,.inl ⟨rfl,_,SqL.of hyu⟩,_,rfl,_,rfl,_,rfl,_,_,rfl,rfl,_,rfl,_,rfl,_,_,rfl,rfl,_,m,vY lo b - b,qJt hi (b+m.mo) - b,rfl,hI,hBm,?_,hw,fun u H5 e5 hI5=>?_⟩
       · have:(vY lo b - b).natAbs≤(2 ^ 500:Nat):=by
          have h1':lo.natAbs≤2 ^ 500:=by
           have:=Int.natAbs_of_nonneg h0
           have h1'':((lo.natAbs:Nat):Int)≤((2 ^ 500:Nat):Int):=by rw [this];exact_mod_cast h1
           exact_mod_cast h1''
          refine Nat.le_trans ?_ h1'
          unfold vY
          split <;> omega
         exact Nat.lt_of_le_of_lt this (Nat.pow_lt_pow_right (by decide) (by decide))
       refine⟨y,_,_,rfl,rfl,e5 _ _ hyu,qf (by omega),?_⟩
       exact⟨_,rfl,_,_,_,_,_,ps++[qm m (vY lo b - b) (qJt hi (b+m.mo) - b)],rfl,⟨_,qD,((hisP.ts (qc e5)).app (.one hI5)).ts (zV (e5 _ _ hyu))⟩,by rw [List.append_assoc];exact hap,by rw [List.length_append];show ps.length+1≤i+1;omega,by omega,xU (e.trans e5) hy⟩
     · rw [if_neg (fun z=>c1 (show decide (vY lo b < qJt hi (b+m.mo))=true from decide_eq_true z)),skip] at hap
       exact⟨_,rfl,_,_,_,_,_,ps,rfl,⟨_,hyu,hisP⟩,hap,by omega,by omega,e⟩
 · rintro σ H' ⟨o1,o2,o3,o4,b,ps,rfl,tP,hap,hpl,b0,e⟩
   rw [hvl,List.drop_length,xw,List.append_nil] at hap
   rw [hap] at tP
   exact⟨_,rfl,kk y H' e hy tP⟩
inductive Dk where
 | cut (t:Int)
 | hel (t:Int)
def Dk.wd:Dk→Str
 | .cut _=>"cut"
 | .hel _=>"heal"
def Dk.t:Dk→Int
 | .cut t=>t
 | .hel t=>t
def Dk.hi:Dk→Int
 | .cut t=>t
 | .hel t=>t
def Dk.laid:Dk→List Im
 | _=>[]
def Dk.push:Dk→Bool
 | _=>false
def DAt (H:Hp)(dz:Addr)(n:Int):Dk→Prop
 | .cut t=>H dz=some (.tup [.str "cut",.int n,.int t])
 | .hel t=>H dz=some (.tup [.str "heal",.int n,.int t])
theorem DAt.same {H H':Hp}{dz:Addr}{n:Int}{d:Dk}(e:Same H H')(h:DAt H dz n d):DAt H' dz n d:=by
 cases d with
 | _=>exact e _ _ h
theorem DAt.opn {H:Hp}{dz:Addr}{n:Int}{d:Dk}(h:DAt H dz n d):∃ xs,H dz=some (.tup xs)∧atI xs 0=some (.str d.wd)∧atI xs 1=some (.int n)∧atI xs 2=some (.int d.t):=by
 cases d with
 | _=>exact⟨_,h,rfl,rfl,rfl⟩
theorem qCu {w:Str}{ws:List V}{b:Bool}(h:inV (.str w) ws=b):V.bl (if false=true then !inV (.str w) ws else inV (.str w) ws)=V.bl b:=by
 rw [if_neg (by decide),h]
theorem qOb {w:Str}{ws:List V}{b:Bool}(h:inV (.str w) ws=b):V.bl (if true=true then !inV (.str w) ws else inV (.str w) ws)=V.bl (!b):=by
 rw [if_pos rfl,h]
inductive qFl (vs:List V)(H:Hp)(Q:VK)(_:XK):Prop
| mk (dz:Addr) (n:Int) (d:Dk) (_:vs=[.ref dz]) (_:DAt H dz n d) (_:∀ (p:Addr) (H':Hp),Same H H'→H' p=some (.tup [.int d.t,.int d.hi])→Q (.ref p) H')
theorem wp (T:Tx K mg a):FnOk P w K mg base CX0 2 a.A58 a.B58 ["deed"] qFl:=by
 refine T.D58.F.ok qFi (fun vs H Q E h=>?_) (fun cdv A outer s H vs Q E hr h=>?_)
 · obtain⟨dz,n,d,rfl,_⟩:=h
   rfl
 refine qL fun _ Y=>?_
 obtain⟨dz,n,d,rfl,hD,kk⟩:=h
 apply Y
 refine⟨_,(qB (qd (qJ xW (qI (pv 0)) (ql (qA qR (qA qR qC))) rfl) (qE (qM (ql (qA (qI (pv 0)) (qA (qI (pv 0)) qC))))) qQ)
  (qB (qd (qJ jU (qI (pv 0)) qR (qN _)) (qE (qM (ql (qA (qI (pv 0)) (qA (qP qo (qI (pv 0)) (qK T.D23 (jz T) hr rfl (qA (qI (pv 0)) qC))) qC))))) qQ)
  (qE (qM (ql (qA (qI (pv 0)) (qA (qI (pv 0)) qC))))))),?_⟩
 try dsimp only [je,qg]
 refine qL fun _ Y=>?_
 obtain⟨xs,hd,a0,a1,a2⟩:=hD.opn
 apply Y
 have two:(2:Nat)≤sizeLine:=by decide
 refine(ixO hd a0 ⟨two,fun q hq=>?_⟩)
 have w1:=qF hq (.tup [.str "close",.str "lift"])
 have hd1:=w1 _ _ hd
 cases d with
 | cut t=>
  refine⟨q,_,rfl,.inr (SqT.of qD),rfl,rfl,false,(qCu (w:="cut") (by decide+kernel)),jQ ?_⟩
  refine(ixO hd1 a0 ⟨rfl,_,rfl,jQ ?_⟩)
  exact(ixO hd1 a2 (ixO hd1 a2 ⟨two,fun p hp=>kk p _ (w1.trans (qF hp _)) qD⟩))
 | hel t=>
  refine⟨q,_,rfl,.inr (SqT.of qD),rfl,rfl,false,(qCu (w:="heal") (by decide+kernel)),jQ ?_⟩
  refine(ixO hd1 a0 ⟨rfl,_,rfl,jQ ?_⟩)
  exact(ixO hd1 a2 (ixO hd1 a2 ⟨two,fun p hp=>kk p _ (w1.trans (qF hp _)) qD⟩))
inductive qLi (vs:List V)(H:Hp)(Q:VK)(_:XK):Prop
| mk (dz:Addr) (n:Int) (d:Dk) (_:vs=[.ref dz]) (_:DAt H dz n d) (_:∀ (y:Addr) (H':Hp),Same H H'→H y=none→Tr H' y d.laid→Q (.ref y) H')
theorem qLm (T:Tx K mg a):FnOk P w K mg base CX0 1 a.A59 a.B59 ["deed"] qLi:=by
 refine T.D59.F.ok qL2 (fun vs H Q E h=>?_) (fun cdv A outer s H vs Q E hr h=>?_)
 · obtain⟨dz,n,d,rfl,_⟩:=h
   rfl
 refine qL fun _ Y=>?_
 obtain⟨dz,n,d,rfl,hD,kk⟩:=h
 apply Y
 refine⟨_,(qB (qd (qJ xW (qI (pv 0)) (xh (v:=.ref a.n_LAYS) rfl T.g_LAYS rfl) rfl) (qE (qM (jD (qA (qI (pv 0)) qC)))) qQ)
  (qB (qd (qJ jU (qI (pv 0)) qR (qN _)) (qE (qM (jD (qA (ql (qA qR (qA (qI (pv 0)) qC))) qC)))) qQ)
  (qB (qd (qJ jU (qI (pv 0)) qR (qN _)) (qE (qM (jD (qA (ql (qA qR (qA (qP jJ (qI (pv 0)) (qI (pv 0))) qC))) qC)))) qQ)
  (qE (qM (jD qC)))))),?_⟩
 try dsimp only [je,qg]
 refine qL fun _ Y=>?_
 obtain⟨xs,hd,a0,a1,a2⟩:=hD.opn
 apply Y
 have one:(1:Nat)≤sizeLine:=by decide
 have two:(2:Nat)≤sizeLine:=by decide
 have zero:(0:Nat)≤sizeLine:=by decide
 refine(ixO hd a0 ⟨a.n_LAYS,_,rfl,.inr (T.sq_LAYS _),rfl,rfl,?_⟩)
 cases d with
 | cut t=>
  refine⟨false,(qCu (w:="cut") (by decide+kernel)),jQ ?_⟩
  refine(ixO hd a0 ⟨rfl,_,rfl,jQ ?_⟩)
  refine(ixO hd a0 ⟨rfl,_,rfl,jQ ?_⟩)
  exact⟨zero,fun p hp=>kk p _ (qF hp _) hp ⟨[],qD,trivial⟩⟩
 | hel t=>
  refine⟨false,(qCu (w:="heal") (by decide+kernel)),jQ ?_⟩
  refine(ixO hd a0 ⟨rfl,_,rfl,jQ ?_⟩)
  refine(ixO hd a0 ⟨rfl,_,rfl,jQ ?_⟩)
  exact⟨zero,fun p hp=>kk p _ (qF hp _) hp ⟨[],qD,trivial⟩⟩
def chF (tie:List Int)(n:Int)(push:Bool):List Int:=if push=true∧n∈tie then n::tie.filter (fun x=>decide (x≠n)) else [n]
theorem Dk.push_in (d:Dk):inV (.str d.wd) [.str "lay_in",.str "open",.str "close"]=d.push:=by
 cases d with
 | cut t=>show inV (.str "cut") _=false;decide+kernel
 | hel t=>show inV (.str "heal") _=false;decide+kernel
theorem Dk.laid_len (d:Dk):d.laid.length≤1:=by cases d <;> simp [Dk.laid]
def qC1:Sp:=fun _ _ _ _=>False
theorem qCy (T:Tx K mg a):FnOk P w K mg base CX0 2 a.A60 a.B60 ["deed"] qC1:=T.D60.F.ok qDj (fun _ _ _ _ h=>h.elim) (fun _ _ _ _ _ _ _ _ _ h=>h.elim)
inductive qAl (vs:List V)(H:Hp)(Q:VK)(_:XK):Prop
| mk (tz tl ti dz:Addr) (tie:List Int) (n:Int) (d:Dk) (_:vs=[.ref tz,.ref dz]) (_:H tz=some (.tup [.ref tl,.ref ti])) (_:H ti=some (.lst (tie.map V.int))) (_:tie.length≤300) (_:DAt H dz n d) (_:∀ (y:Addr) (H':Hp),Same H H'→H y=none→H' y=some (.lst ((chF tie n d.push).map V.int))→Q (.ref y) H')
theorem zu (T:Tx K mg a):FnOk P w K mg base CX0 1 a.A61 a.B61 ["table","deed"] qAl:=by
 refine T.D61.F.ok qAc (fun vs H Q E h=>?_) (fun cdv A outer s H vs Q E hr h=>?_)
 · obtain⟨tz,tl,ti,dz,tie,n,d,rfl,_⟩:=h
   rfl
 refine qL fun _ Y=>?_
 obtain⟨tz,tl,ti,dz,tie,n,d,rfl,htz,hti,htl,hD,kk⟩:=h
 apply Y
 refine⟨_,(qB (qd (PW.pt (z6 (qJ vM (qI (pv 1)) (xh (v:=.ref a.n_PUSHES) rfl T.g_PUSHES rfl) rfl) (xk (qJ vM (qI (pv 1)) (qI (pv 0)) rfl)))) (qE (qM (jD (qA (qI (pv 1)) qC)))) qQ)
  (qE (qM (qP wJ (jD (qA (qI (pv 1)) qC)) (qGc ["deed"] [1] rfl (jX (qI (pv 0))) (fun _ _ _ _=>(qJ xo (pv 0) (qv (qB3 (K:=K) rfl) (pv 1) qG (fun _ _=>rfl)) (qN _))) (fun _ _ _ _=>(pv 0))))))),?_⟩
 try dsimp only [je,qg]
 refine qL fun _ Y=>?_
 obtain⟨xs,hd,a0,a1,a2⟩:=hD.opn
 apply Y
 have one:(1:Nat)≤sizeLine:=by decide
 have fin1:¬ (d.push=true∧n∈tie)→∀ p,H p=none→Q (.ref p) (upd H p (.lst [.int n])):=fun hc p hp=>by
  refine kk p _ (qF hp _) hp ?_
  unfold chF
  rw [if_neg hc,qD]
  rfl
 refine(ixO hd a0 ⟨a.n_PUSHES,_,rfl,.inr (T.sq_PUSHES _),rfl,rfl,!d.push,qOb d.push_in,?_⟩)
 cases hp:d.push with
 | false=>
  refine xE (xE (ixO hd a1 ⟨one,fun p hp'=>fin1 (fun z=>?_) p hp'⟩))
  rw [hp] at z
  exact absurd z.1 (by simp)
 | true=>cases d <;> cases hp
inductive qF7 (vs:List V)(H:Hp)(Q:VK)(_:XK):Prop
| mk (l:Int) (_:vs=[.int l]) (_:Q (.int (l.fdiv 2)) H)
theorem kG (T:Tx K mg a):FnOk P w K mg base CX0 1 a.A36 a.B36 ["length"] qF7:=by
 refine T.D36.F.ok qFn (fun vs H Q E h=>?_) (fun cdv A outer s H vs Q E hr h=>?_)
 · obtain⟨l,rfl,_⟩:=h
   rfl
 refine qL fun _ Y=>?_
 obtain⟨l,rfl,kk⟩:=h
 apply Y
 refine⟨_,(qE (qM (qP qj (pv 0) qG))),?_⟩
 try dsimp only [je,qg]
 exact⟨_,rfl,_,_,rfl,rfl,cdB (by decide) (by decide),kk⟩
inductive qDy (vs:List V)(H:Hp)(Q:VK)(_:XK):Prop
| mk (l:Int) (_:vs=[.int l]) (_:Q (.int (l - l.fdiv 2)) H)
theorem vq (T:Tx K mg a):FnOk P w K mg base CX0 1 a.A37 a.B37 ["length"] qDy:=by
 refine T.D37.F.ok qDw (fun vs H Q E h=>?_) (fun cdv A outer s H vs Q E hr h=>?_)
 · obtain⟨l,rfl,_⟩:=h
   rfl
 refine qL fun _ Y=>?_
 obtain⟨l,rfl,kk⟩:=h
 apply Y
 refine⟨_,(qE (qM (qP jJ (pv 0) (qP qj (pv 0) qG)))),?_⟩
 try dsimp only [je,qg]
 exact⟨_,rfl,_,rfl,_,_,rfl,rfl,cdB (by decide) (by decide),_,_,rfl,rfl,kk⟩
def qk:Int→List Im→List (Int × Int × Int)
 | _,[]=>[]
 | b,.mix l::ms=>(b - l.fdiv 2,b,b+(l - l.fdiv 2))::qk b ms
 | b,.clip _ _ _ _ _ l::ms=>qk (b+l) ms
 | b,.nest _ _ l::ms=>qk (b+l) ms
 | b,.gap l::ms=>qk (b+l) ms
theorem qY {m:Im}(h:m.wd≠"mix")(b:Int)(ms:List Im):qk b (m::ms)=qk (b+m.mo) ms:=by
 cases m with
 | mix l=>exact absurd rfl h
 | _=>rfl
def jg:Nat→List Im→List Nat
 | _,[]=>[]
 | i,.mix _::ms=>i::jg (i+1) ms
 | i,.clip _ _ _ _ _ _::ms=>jg (i+1) ms
 | i,.nest _ _ _::ms=>jg (i+1) ms
 | i,.gap _::ms=>jg (i+1) ms
theorem xT {m:Im}(h:m.wd≠"mix")(i:Nat)(ms:List Im):jg i (m::ms)=jg (i+1) ms:=by
 cases m with
 | mix l=>exact absurd rfl h
 | _=>rfl
theorem ww:∀ (i:Nat) (b:Int) (ms:List Im),(jg i ms).length=(qk b ms).length
 | _,_,[]=>rfl
 | i,b,m::ms=>by
  by_cases h:m.wd="mix"
  · obtain⟨l,rfl⟩:=qz h
    rw [jg,qk,List.length_cons,List.length_cons,ww (i+1) b ms]
  · rw [xT h,qY h,ww (i+1) (b+m.mo) ms]
def qGm:Int→Nat→List Im→Int→Option (Nat × Int)
 | _,_,[],_=>none
 | b,i,.mix l::ms,t=>if b - l.fdiv 2≤t∧t < b+(l - l.fdiv 2) then some (i,t - (b - l.fdiv 2)) else qGm b (i+1) ms t
 | b,i,.clip _ _ _ _ _ l::ms,t=>qGm (b+l) (i+1) ms t
 | b,i,.nest _ _ l::ms,t=>qGm (b+l) (i+1) ms t
 | b,i,.gap l::ms,t=>qGm (b+l) (i+1) ms t
theorem qAu {m:Im}(h:m.wd≠"mix")(b:Int)(i:Nat)(ms:List Im)(t:Int):qGm b i (m::ms) t=qGm (b+m.mo) (i+1) ms t:=by
 cases m with
 | mix l=>exact absurd rfl h
 | _=>rfl
def qLx:List Nat→List (Int × Int × Int)→Int→Option (Nat × Int)
 | p::ps,(x,_,z)::ss,t=>if x≤t∧t < z then some (p,t - x) else qLx ps ss t
 | _,_,_=>none
theorem qFy:∀ (b:Int) (i:Nat) (ms:List Im) (t:Int),qLx (jg i ms) (qk b ms) t=qGm b i ms t
 | _,_,[],_=>rfl
 | b,i,m::ms,t=>by
  by_cases h:m.wd="mix"
  · obtain⟨l,rfl⟩:=qz h
    rw [jg,qk,qLx,qGm,qFy b (i+1) ms t]
  · rw [xT h,qY h,qAu h,qFy _ (i+1) ms t]
theorem qJ0:∀ {b:Int} {i:Nat} {ms:List Im} {t:Int} {k:Nat} {j:Int},qGm b i ms t=some (k,j)→∃ l,i≤k∧ms[k - i]? =some (.mix l)∧0≤j∧j < l
 | _,_,[],_,_,_,h=>by simp [qGm] at h
 | b,i,m::ms,t,k,j,h=>by
  by_cases hm:m.wd="mix"
  · obtain⟨l,rfl⟩:=qz hm
    rw [qGm] at h
    by_cases hc:b - l.fdiv 2≤t∧t < b+(l - l.fdiv 2)
    · rw [if_pos hc] at h
      cases h
      exact⟨l,Nat.le_refl _,by simp,by omega,by omega⟩
    · rw [if_neg hc] at h
      obtain⟨l',h1,h2,h3⟩:=qJ0 h
      have e:k - i=(k - (i+1))+1:=by omega
      exact⟨l',by omega,by rw [e,List.getElem?_cons_succ];exact h2,h3⟩
  · rw [qAu hm] at h
    obtain⟨l',h1,h2,h3⟩:=qJ0 h
    have e:k - i=(k - (i+1))+1:=by omega
    exact⟨l',by omega,by rw [e,List.getElem?_cons_succ];exact h2,h3⟩
def SpAt (H:Hp):List (Int × Int × Int)→List V→Prop
 | [],[]=>True
 | (x,y,z)::ss,v::vs=>(∃ p:Addr,v= .ref p∧H p=some (.tup [.int x,.int y,.int z]))∧SpAt H ss vs
 | _,_=>False
theorem SpAt.len {H:Hp}:∀ {ss:List (Int × Int × Int)} {vs:List V},SpAt H ss vs→vs.length=ss.length
 | [],[],_=>rfl
 | (_,_,_)::_,_::_,h=>by rw [List.length_cons,List.length_cons,SpAt.len h.2]
 | [],_::_,h=>h.elim
 | (_,_,_)::_,[],h=>h.elim
theorem SpAt.ts {H H':Hp}(e:TS H H'):∀ {ss:List (Int × Int × Int)} {vs:List V},SpAt H ss vs→SpAt H' ss vs
 | [],[],_=>trivial
 | (_,_,_)::_,_::_,⟨⟨p,h1,h2⟩,h⟩=>⟨⟨p,h1,e _ _ h2⟩,SpAt.ts e h⟩
 | [],_::_,h=>h.elim
 | (_,_,_)::_,[],h=>h.elim
theorem SpAt.app {H:Hp}:∀ {ss:List (Int × Int × Int)} {vs:List V} {ss':List (Int × Int × Int)} {vs':List V},SpAt H ss vs→SpAt H ss' vs'→SpAt H (ss++ss') (vs++vs')
 | [],[],_,_,_,h'=>h'
 | (_,_,_)::_,_::_,_,_,h,h'=>⟨h.1,h.2.app h'⟩
 | [],_::_,_,_,h,_=>h.elim
 | (_,_,_)::_,[],_,_,h,_=>h.elim
theorem SpAt.one {H:Hp}{x y z:Int}{p:Addr}(h:H p=some (.tup [.int x,.int y,.int z])):SpAt H [(x,y,z)] [.ref p]:=⟨⟨p,rfl,h⟩,trivial⟩
theorem SpAt.get {H:Hp}:∀ {ss:List (Int × Int × Int)} {vs:List V} {i:Nat} {v:V},SpAt H ss vs→vs[i]? =some v→∃ (x y z:Int) (p:Addr),ss[i]? =some (x,y,z)∧v= .ref p∧H p=some (.tup [.int x,.int y,.int z])
 | [],[],_,_,_,h=>by simp at h
 | (x,y,z)::_,u::_,0,v,h,e=>by
  have e':u=v:=by simpa using e
  subst e'
  obtain⟨⟨p,h1,h2⟩,_⟩:=h
  exact⟨x,y,z,p,rfl,h1,h2⟩
 | (_,_,_)::ss,_::vs,i+1,v,h,e=>by
  obtain⟨x,y,z,p,h1,h2⟩:=SpAt.get (i:=i) h.2 (by simpa using e)
  exact⟨x,y,z,p,by simpa using h1,h2⟩
 | [],_::_,_,_,h,_=>h.elim
 | (_,_,_)::_,[],_,_,h,_=>h.elim
inductive qG3 (vs:List V)(H:Hp)(Q:VK)(_:XK):Prop
| mk (z:Addr) (ms:List Im) (_:vs=[.ref z]) (_:Tr H z ms) (_:ms.length≤300) (_:∀ (y:Addr) (us:List V) (H':Hp),Same H H'→H y=none→H' y=some (.lst us)→SpAt H' (qk 0 ms) us→Q (.ref y) H')
theorem qBb (T:Tx K mg a):FnOk P w K mg base CX0 2 a.A38 a.B38 ["track"] qG3:=by
 refine T.D38.F.ok xV (fun vs H Q E h=>?_) (fun cdv A outer s H vs Q E hr h=>?_)
 · obtain⟨z,ms,rfl,_⟩:=h
   rfl
 refine qL fun _ Y=>?_
 obtain⟨z,ms,rfl,⟨xs,hz,his⟩,hl,kk⟩:=h
 apply Y
 refine⟨_,(qB (qU 1 xV.nd (jD qC))
  (qB (qU 2 xV.nd qG)
  (qB (j2 PassesOwn.never rfl (jX (pv 0)) (qt (i:=3) xV.nd rfl (Or.inl rfl)) (qB (qd (qJ jU (qI (pv 3)) qR (qN _)) (qE (jV (qAo F.plainAttrs_list F.slot_list_append F.type_list_append jT (pv 1) (qA (ql (qA (qP jJ (pv 2) (qK T.D36 (kG T) hr rfl (qA (qI (pv 3)) qC))) (qA (pv 2) (qA (qP qo (pv 2) (qK T.D37 (vq T) hr rfl (qA (qI (pv 3)) qC))) qC)))) qC)))) qQ)
  (qE (qU 2 xV.nd (qP qo (pv 2) (qK T.D23 (jz T) hr rfl (qA (pv 3) qC)))))))
  (qE (qM (pv 1)))))),?_⟩
 try dsimp only [je,qg]
 refine⟨sL0,fun y hy=>?_⟩
 refine⟨_,rfl,z,rfl,⟨_,SqL.of ((qF hy _) _ _ hz)⟩,jy (K:=K) (a:=z) (xs:=xs) (fun i σ H'=>∃ (b:Int) (as:List (Int × Int × Int)) (o:Option V) (us:List V),σ=[some (.ref z),some (.ref y),some (.int b),o]∧H' y=some (.lst us)∧SpAt H' as us∧as.length≤i∧as++qk b (ms.drop i)=qk 0 ms∧Same H H')
  ⟨0,[],none,[],rfl,qD,trivial,by simp,rfl,qF hy _⟩ ?_ ?_ ?_⟩
 · rintro i σ H' hi ⟨b,as,o,us,rfl,_,_,_,_,e⟩
   exact SqL.of (e _ _ hz)
 · rintro i x σ H' hx ⟨b,as,o,us,rfl,hv,hsp,hal,hap,e⟩
   refine qL fun _ Y=>?_
   obtain⟨m,hm,hIx⟩:=his.get hx
   have hI:=hIx.ts (qc e)
   have hi:i < ms.length:=(glt hm)
   rw [jW hm] at hap
   obtain⟨zi,xi,rfl,hzi,h0,h1⟩:=hI.opn
   apply Y
   refine⟨_,rfl,zi,xi,_,_,rfl,rfl,SqT.of hzi,h0,rfl,_,rfl,jf (fun c=>?_) (fun c=>?_)⟩
   · obtain⟨l,rfl⟩:=qz (by simpa using c)
     refine qL fun _ Y=>?_
     obtain⟨z2,e2,hz2⟩:=id hI
     cases e2
     apply Y
     rw [qk] at hap
     refine⟨_,rfl,.inl ⟨rfl,_,SqL.of hv⟩,_,rfl,ixO hz2 at1 ⟨_,rfl,_,_,rfl,rfl,_,rfl,_,rfl,ixO hz2 at1 ⟨_,rfl,_,_,rfl,rfl,sL3,fun g hg=>?_⟩⟩⟩
     have w1:=qF hg (.tup [.int (b - l.fdiv 2),.int b,.int (b+(l - l.fdiv 2))])
     refine⟨y,_,_,rfl,rfl,w1 _ _ hv,qf (by rw [hsp.len];omega),?_⟩
     have t2:TS (upd H' g (.tup [.int (b - l.fdiv 2),.int b,.int (b+(l - l.fdiv 2))])) (upd (upd H' g (.tup [.int (b - l.fdiv 2),.int b,.int (b+(l - l.fdiv 2))])) y (.lst (us++[.ref g]))):=zV (w1 _ _ hv)
     refine⟨_,rfl,_,rfl,_,.mix l,rfl,(hI.ts (qc w1)).ts t2,_,_,rfl,rfl,b,as++[(b - l.fdiv 2,b,b+(l - l.fdiv 2))],some (.ref zi),us++[.ref g],?_,qD,((hsp.ts (qc w1)).app (.one qD)).ts t2,by simp;omega,?_,xU (e.trans w1) hy⟩
     · show [some (V.ref z),some (V.ref y),some (V.int (b+0)),some (V.ref zi)]=_
       rw [Int.add_zero]
     · rw [← hap];simp
   · have hne:m.wd≠"mix":=by simpa using c
     rw [qY hne] at hap
     exact⟨_,rfl,_,rfl,_,m,rfl,hI,_,_,rfl,rfl,_,as,_,us,rfl,hv,hsp,by omega,hap,e⟩
 · rintro σ H' ⟨b,as,o,us,rfl,hv,hsp,hal,hap,e⟩
   rw [his.len,List.drop_length,qk,List.append_nil] at hap
   rw [hap] at hsp
   exact⟨_,rfl,kk y us H' e hy hv hsp⟩
def lnO (o:Option Int):Bool:=match o with
 | some i=>decide (1≤i)
 | none=>false
inductive qIg (vs:List V)(H:Hp)(Q:VK)(_:XK):Prop
| mk (v:V) (o:Option Int) (_:vs=[v]) (_:Nu H v o) (_:Q (.bl (lnO o)) H)
theorem qHq (T:Tx K mg a):FnOk P w K mg base CX0 2 a.A21 a.B21 ["thing"] qIg:=by
 refine T.D21.F.ok qH2 (fun vs H Q E h=>?_) (fun cdv A outer s H vs Q E hr h=>?_)
 · obtain⟨v,o,rfl,_⟩:=h
   rfl
 refine qL fun _ Y=>?_
 obtain⟨v,o,rfl,hv,q⟩:=h
 apply Y
 refine⟨_,(qE (qM (vk (qK T.D0 (xG T) hr rfl (qA (pv 0) qC)) (qBc (jp qLj (pv 0) qG (qN _)))))),?_⟩
 try dsimp only [je,qg]
 cases hv with
 | no h=>exact⟨_,rfl,v,false,rfl,.no h,false,rfl,jQ q⟩
 | int i=>exact⟨_,rfl,_,true,rfl,.int i,true,rfl,xE ⟨_,rfl,_,_,rfl,rfl,q⟩⟩
def qBn:Sp:=fun _ _ _ _=>False
theorem qBt (T:Tx K mg a):FnOk P w K mg base CX0 3 a.A22 a.B22 ["item"] qBn:=T.D22.F.ok qBi (fun _ _ _ _ h=>h.elim) (fun _ _ _ _ _ _ _ _ _ h=>h.elim)
def qGs (w:Str)(t:Int)(o:Option Int):Bool:=if w="open"∨w="mix" then lnO o else if w="close"∨w="lift" then (match o with | some u=>decide (t < u) | none=>false) else true
def qUb (H:Hp)(xs:List V)(w:Str)(t:Int)(o:Option Int):Prop:=atI xs 0=some (.str w)∧atI xs 2=some (.int t)∧((w="open"∨w="mix"∨w="close"∨w="lift")→∃ v,atI xs 3=some v∧Nu H v o)
theorem qU2 {w:Str}:inV (.str w) [.str "open",.str "mix"]=decide (w="open"∨w="mix"):=by
 unfold inV
 rw [Bool.eq_iff_iff]
 simp [eqV]
 constructor
 · rintro (h | h)
   · exact .inl h.symm
   · exact .inr h.symm
 · rintro (h | h)
   · exact .inl h.symm
   · exact .inr h.symm
theorem qSp {w:Str}:inV (.str w) [.str "close",.str "lift"]=decide (w="close"∨w="lift"):=by
 unfold inV
 rw [Bool.eq_iff_iff]
 simp [eqV]
 constructor
 · rintro (h | h)
   · exact .inl h.symm
   · exact .inr h.symm
 · rintro (h | h)
   · exact .inl h.symm
   · exact .inr h.symm
inductive qA3 (N:Addr)(vs:List V)(H:Hp)(Q:VK)(E:XK):Prop
| mk (dz:Addr) (xs:List V) (w:Str) (t:Int) (o:Option Int) (_:vs=[.ref dz]) (_:H dz=some (.tup xs)) (_:qUb H xs w t o) (_:(qGs w t o=false→∀ H',Same H H'→E (.ref N) none H')) (_:(qGs w t o=true→∀ H',Same H H'→Q .non H'))
theorem qAv (T:Tx K mg a):FnOk P w K mg base (CXR P w) 3 a.A62 a.B62 ["deed"] (qA3 a.k_NoPlace):=by
 refine okX T.D62.F qBl (fun vs H Q E h=>?_) (fun cdv A outer s H vs Q E hr h=>?_)
 · obtain⟨dz,xs,w,t,o,rfl,_⟩:=h
   rfl
 refine qL fun _ Y=>?_
 obtain⟨dz,xs,w,t,o,rfl,hd,⟨a0,a2,a3⟩,kb,kg⟩:=h
 apply Y
 refine⟨_,(qB (qd (PW.pt (jZ (qJ xW (qI (pv 0)) (ql (qA qR (qA qR qC))) rfl) (jM (zS (j4 (qK T.D21 (qHq T) hr rfl (qA (qI (pv 0)) qC))))))) (qE (xR rfl rfl T.c_NoPlace T.x_NoPlace (qA qR qC))) qQ)
  (qE (qd (PW.pt (jZ (qJ xW (qI (pv 0)) (ql (qA qR (qA qR qC))) rfl) (jM (PW.pt (z6 (zS (j4 (qK T.D0 (xG T) hr rfl (qA (qI (pv 0)) qC)))) (xk (qJ qLj (qI (pv 0)) (qI (pv 0)) (qN _)))))))) (qE (xR rfl rfl T.c_NoPlace T.x_NoPlace (qA qR qC))) qQ))),?_⟩
 try dsimp only [je,qg]
 have one:(1:Nat)≤sizeLine:=by decide
 have two:(2:Nat)≤sizeLine:=by decide
 refine(ixO hd a0 ⟨two,fun q hq=>⟨q,_,rfl,.inr (SqT.of qD),rfl,rfl,_,rfl,?_⟩⟩)
 rw [qU2]
 have w1:=qF hq (.tup [.str "open",.str "mix"])
 have hd1:=w1 _ _ hd
 generalize upd H q (.tup [.str "open",.str "mix"])=H1 at w1 hd1 ⊢
 by_cases h1:w="open"∨w="mix"
 · have eb:qGs w t o=lnO o:=by unfold qGs;rw [if_pos h1]
   rw [eb] at kb kg
   refine vD (decide_eq_true h1) ?_
   refine qL fun _ Y=>?_
   obtain⟨v,a3,hv⟩:=a3 (by rcases h1 with h | h;exact .inl h;exact .inr (.inl h))
   apply Y
   refine(ixO hd1 a3 ⟨v,o,rfl,hv.same w1,_,rfl,?_⟩)
   cases hb:lnO o with
   | false=>exact xE ⟨one,kb hb _ w1⟩
   | true=>
    refine jQ ?_
    refine(ixO hd1 a0 ⟨two,fun q2 hq2=>⟨q2,_,rfl,.inr (SqT.of qD),rfl,rfl,_,rfl,?_⟩⟩)
    rw [qSp]
    have h2:¬ (w="close"∨w="lift"):=by
     rcases h1 with rfl | rfl
     · rintro (h | h) <;> exact absurd h (by decide+kernel)
     · rintro (h | h) <;> exact absurd h (by decide+kernel)
    exact xn (decide_eq_false h2) (jQ (kg hb _ (w1.trans (qF hq2 _))))
 · refine xn (decide_eq_false h1) (jQ ?_)
   refine(ixO hd1 a0 ⟨two,fun q2 hq2=>⟨q2,_,rfl,.inr (SqT.of qD),rfl,rfl,_,rfl,?_⟩⟩)
   rw [qSp]
   have w2:=qF hq2 (.tup [.str "close",.str "lift"])
   have w12:=w1.trans w2
   have hd2:=w2 _ _ hd1
   generalize upd H1 q2 (.tup [.str "close",.str "lift"])=H2 at w2 w12 hd2 ⊢
   by_cases h2:w="close"∨w="lift"
   · refine vD (decide_eq_true h2) ?_
     refine qL fun _ Y=>?_
     obtain⟨v,b3,hv⟩:=a3 (by rcases h2 with h | h;exact .inr (.inr (.inl h));exact .inr (.inr (.inr h)))
     apply Y
     clear a3
     cases hv with
     | no h=>
      have eb:qGs w t none=false:=by unfold qGs;rw [if_neg h1,if_pos h2]
      exact⟨_,rfl,dz,_,_,_,rfl,rfl,SqT.of hd2,b3,v,false,rfl,.no (h.same w12),false,rfl,xE (xE ⟨one,kb eb _ w12⟩)⟩
     | int u=>
      have eb:qGs w t (some u)=decide (t < u):=by unfold qGs;rw [if_neg h1,if_pos h2]
      rw [eb] at kb kg
      refine⟨_,rfl,dz,_,_,_,rfl,rfl,SqT.of hd2,b3,_,true,rfl,.int u,true,rfl,jQ ?_⟩
      refine(ixO hd2 a2 ⟨_,rfl,dz,_,_,_,rfl,rfl,SqT.of hd2,b3,_,_,rfl,rfl,_,rfl,jf (fun c=>?_) (fun c=>?_)⟩)
      · have hc:u≤t:=by simpa using c
        exact⟨one,kb (decide_eq_false (by omega)) _ w12⟩
      · have hc:¬ u≤t:=by simpa using c
        exact kg (decide_eq_true (by omega)) _ w12
   · have eb:qGs w t o=true:=by unfold qGs;rw [if_neg h1,if_neg h2]
     exact xn (decide_eq_false h2) (jQ (kg eb _ w12))
def qNc (lo hi:Int)(s:Int × Int × Int):Bool:=(decide (s.1 < hi) && decide (lo < s.2.2)) || (decide (lo≤s.2.1) && decide (s.2.1≤hi))
def jl (ms:List Im)(lo hi:Int):Bool:=(qk 0 ms).any (qNc lo hi)
inductive qD0 (vs:List V)(H:Hp)(Q:VK)(_:XK):Prop
| mk (z:Addr) (ms:List Im) (lo hi:Int) (_:vs=[.ref z,.int lo,.int hi]) (_:Tr H z ms) (_:ms.length≤300) (_:∀ H',Same H H'→Q (.bl (jl ms lo hi)) H')
theorem qD6 (T:Tx K mg a):FnOk P w K mg base CX0 3 a.A63 a.B63 ["track","low","high"] qD0:=by
 refine T.D63.F.ok ve (fun vs H Q E h=>?_) (fun cdv A outer s H vs Q E hr h=>?_)
 · obtain⟨z,ms,lo,hi,rfl,_⟩:=h
   rfl
 refine qL fun _ Y=>?_
 obtain⟨z,ms,lo,hi,rfl,tT,hml,kk⟩:=h
 apply Y
 refine⟨_,(qB (j2 PassesOwn.never rfl (jX (qK T.D38 (qBb T) hr rfl (qA (pv 0) qC))) (qt (i:=3) ve.nd rfl (Or.inl rfl)) (qE (qd (qEq (PW.pt (z6 (PW.pt (jZ (qJ zo (qI (pv 3)) (pv 2) (qN _)) (jM (qJ zo (pv 1) (qI (pv 3)) (qN _))))) (xk (PW.pt (jZ (qJ qN9 (pv 1) (qI (pv 3)) (qN _)) (jM (qJ qN9 (qI (pv 3)) (pv 2) (qN _))))))))) (qE (qM z7)) qQ)))
  (qE (qM z7))),?_⟩
 try dsimp only [je,qg]
 unfold jl at kk
 refine⟨_,rfl,z,ms,rfl,tT,hml,fun y us H1 e1 hy hy1 hsp=>?_⟩
 generalize qk 0 ms=ss at hsp kk
 refine⟨y,rfl,⟨_,SqL.of hy1⟩,jy (K:=K) (a:=y) (xs:=us) (fun i σ H'=>∃ o:Option V,σ=[some (.ref z),some (.int lo),some (.int hi),o]∧H'=H1∧(ss.take i).any (qNc lo hi)=false) ⟨none,rfl,rfl,rfl⟩ ?_ ?_ ?_⟩
 · rintro i σ H' hi ⟨o,rfl,rfl,_⟩
   exact SqL.of hy1
 · rintro i x σ H' hx ⟨o,rfl,rfl,hno⟩
   refine qL fun _ Y=>?_
   obtain⟨x0,x1,x2,p,hs,rfl,hp⟩:=hsp.get hx
   apply Y
   have q:=SqT.of (K:=K) hp
   have b0:atI [V.int x0,.int x1,.int x2] 0=some (.int x0):=rfl
   have b1:atI [V.int x0,.int x1,.int x2] 1=some (.int x1):=rfl
   have b2:atI [V.int x0,.int x1,.int x2] 2=some (.int x2):=rfl
   refine⟨fun t' H2=>H2=H'∧t'=qNc lo hi (x0,x1,x2),?_,?_⟩
   · unfold qNc
     dsimp only
     refine⟨_,rfl,p,_,_,_,rfl,rfl,q,b0,_,rfl,_,_,rfl,rfl,_,rfl,?_⟩
     by_cases h1:x0 < hi
     · rw [decide_eq_true h1,Bool.true_and]
       refine xE ⟨_,rfl,_,rfl,p,_,_,_,rfl,rfl,q,b2,_,_,rfl,rfl,_,rfl,?_⟩
       by_cases h2:lo < x2
       · rw [decide_eq_true h2,Bool.true_or]
         exact xE ⟨rfl,rfl⟩
       rw [decide_eq_false h2,Bool.false_or]
       refine jQ ⟨_,rfl,_,rfl,p,_,_,_,rfl,rfl,q,b1,_,_,rfl,rfl,_,rfl,?_⟩
       by_cases h3:lo≤x1
       · rw [decide_eq_true h3,Bool.true_and]
         exact xE ⟨_,rfl,p,_,_,_,rfl,rfl,q,b1,_,rfl,_,_,rfl,rfl,_,rfl,rfl,rfl⟩
       · rw [decide_eq_false h3,Bool.false_and]
         exact jQ ⟨rfl,rfl⟩
     · rw [decide_eq_false h1,Bool.false_and,Bool.false_or]
       refine jQ (jQ ⟨_,rfl,_,rfl,p,_,_,_,rfl,rfl,q,b1,_,_,rfl,rfl,_,rfl,?_⟩)
       by_cases h3:lo≤x1
       · rw [decide_eq_true h3,Bool.true_and]
         exact xE ⟨_,rfl,p,_,_,_,rfl,rfl,q,b1,_,rfl,_,_,rfl,rfl,_,rfl,rfl,rfl⟩
       · rw [decide_eq_false h3,Bool.false_and]
         exact jQ ⟨rfl,rfl⟩
   rintro t' H2 ⟨rfl,rfl⟩
   cases ht:qNc lo hi (x0,x1,x2) with
   | true=>
    have:ss.any (qNc lo hi)=true:=List.any_eq_true.mpr ⟨_,List.mem_of_getElem? hs,ht⟩
    rw [this] at kk
    exact xE (kk _ e1)
   | false=>
    refine jQ ⟨_,rfl,rfl,?_⟩
    rw [List.take_add_one,hs,List.any_append,hno]
    show (false || (qNc lo hi (x0,x1,x2) || false))=false
    rw [ht];rfl
 · rintro σ H' ⟨o,rfl,rfl,hno⟩
   rw [hsp.len,List.take_length] at hno
   rw [hno] at kk
   exact kk _ e1
structure TabG (H:Hp)(tz:Addr)(ts:List (List Im))(tie:List Int)(n:Nat):Prop where
 tab:TabF H (.ref tz) ts tie
 ok:∀ ms∈ts,MsB ms∧ms.length≤100
 nt:n < ts.length
 len:ts.length≤8
 tl:tie.length≤8
 tin:∀ x∈tie,∃ k:Nat,x=(k:Int)∧k < ts.length
theorem TabG.same {H H':Hp}{tz:Addr}{ts:List (List Im)}{tie:List Int}{n:Nat}(e:Same H H')(h:TabG H tz ts tie n):TabG H' tz ts tie n:=⟨h.tab.same e,h.ok,h.nt,h.len,h.tl,h.tin⟩
theorem TabG.ch {H:Hp}{tz:Addr}{ts:List (List Im)}{tie:List Int}{n:Nat}(h:TabG H tz ts tie n)(push:Bool):(chF tie (n:Int) push).length≤10∧∀ x∈chF tie (n:Int) push,∃ k:Nat,x=(k:Int)∧k < ts.length:=by
 unfold chF
 split
 · refine⟨?_,fun x hx=>?_⟩
   · rw [List.length_cons]
     have:=List.length_filter_le (fun x=>decide (x≠(n:Int))) tie
     have:=h.tl
     omega
   · rcases List.mem_cons.mp hx with rfl | hx
     · exact⟨n,rfl,h.nt⟩
     · exact h.tin x (List.mem_filter.mp hx).1
 · refine⟨by show 1≤10;decide,fun x hx=>?_⟩
   have:x=(n:Int):=by simpa using hx
   exact⟨n,this,h.nt⟩
def jw (ts:List (List Im))(ns:List Int)(lo hi:Int):Bool:=ns.any fun k=>jl (ts.getD k.toNat []) lo hi
inductive qCv (M:Addr)(vs:List V)(H:Hp)(Q:VK)(E:XK):Prop
| mk (tz dz:Addr) (ts:List (List Im)) (tie:List Int) (n:Nat) (d:Dk) (_:vs=[.ref tz,.ref dz]) (_:TabG H tz ts tie n) (_:DAt H dz (n:Int) d) (_:(jw ts (chF tie (n:Int) d.push) d.t d.hi=true→∀ H',Same H H'→E (.ref M) none H')) (_:(jw ts (chF tie (n:Int) d.push) d.t d.hi=false→∀ H',Same H H'→Q .non H'))
theorem vQ (T:Tx K mg a):FnOk P w K mg base (CXR P w) 4 a.A64 a.B64 ["table","deed"] (qCv a.k_Mixed):=by
 refine okX T.D64.F zT (fun vs H Q E h=>?_) (fun cdv A outer s H vs Q E hr h=>?_)
 · obtain⟨tz,dz,ts,tie,n,d,rfl,_⟩:=h
   rfl
 refine qL fun _ Y=>?_
 obtain⟨tz,dz,ts,tie,n,d,rfl,hP,hD,kb,kg⟩:=h
 apply Y
 refine⟨_,(qB (qU 2 zT.nd (qK T.D58 (wp T) hr rfl (qA (pv 1) qC)))
  (qE (j2 (qVa rfl rfl rfl rfl) rfl (jX (qK T.D61 (zu T) hr rfl (qA (pv 0) (qA (pv 1) qC)))) (qt (i:=3) zT.nd rfl (Or.inl rfl)) (qE (qd (j4 (qK T.D63 (qD6 T) hr rfl (qA (qv qZ (qI (pv 0)) (pv 3) (fun _ _=>rfl)) (qA (qI (pv 2)) (qA (qI (pv 2)) qC))))) (qE (xR rfl rfl T.c_Mixed T.x_Mixed (qA qR qC))) qQ))))),?_⟩
 try dsimp only [je,qg]
 have one:(1:Nat)≤sizeLine:=by decide
 refine qL fun _ Y=>?_
 obtain⟨tt,tl,ti,zs,e0,g2,g3,g4,g5⟩:=id hP.tab
 cases e0
 have hzl:=g4.len
 obtain⟨hcl,hch⟩:=hP.ch d.push
 apply Y
 unfold jw at kb kg
 refine⟨_,rfl,dz,_,d,rfl,hD,fun p H1 e1 hp=>?_⟩
 refine⟨_,rfl,_,rfl,tz,tl,ti,dz,tie,_,d,rfl,e1 _ _ g2,e1 _ _ g5,by have:=hP.tl;omega,hD.same e1,fun y H2 e2 hy hy2=>?_⟩
 generalize chF tie (n:Int) d.push=ns at hy2 hcl hch kb kg
 refine⟨y,rfl,⟨_,SqL.of hy2⟩,jy (K:=K) (a:=y) (xs:=ns.map V.int) (fun i σ H'=>∃ o:Option V,σ=[some (.ref tz),some (.ref dz),some (.ref p),o]∧Same H2 H'∧(ns.take i).any (fun k=>jl (ts.getD k.toNat []) d.t d.hi)=false) ⟨none,rfl,Same.refl _,rfl⟩ ?_ ?_ ?_⟩
 · rintro i σ H' hi ⟨o,rfl,e,_⟩
   exact SqL.of (e _ _ hy2)
 · rintro i x σ H' hx ⟨o,rfl,e,hno⟩
   refine qL fun _ Y=>?_
   obtain⟨xi,hxi,rfl⟩:∃ xi:Int,ns[i]? =some xi∧x= .int xi:=by
    rw [List.getElem?_map] at hx
    cases hq:ns[i]? with
    | none=>rw [hq] at hx;cases hx
    | some k=>rw [hq] at hx;cases hx;exact⟨k,rfl,rfl⟩
   obtain⟨k,rfl,hk⟩:=hch xi (List.mem_of_getElem? hxi)
   have e02:=e1.trans (e2.trans e)
   have ez:zs[k]? =some zs[k]:=List.getElem?_eq_getElem (by omega)
   obtain⟨ms,z,hms,ezz,tT⟩:=g4.get ez
   apply Y
   rw [ezz] at ez
   have egd:ts.getD ((k:Int)).toNat []=ms:=by rw [Int.toNat_natCast,List.getD_eq_getElem?_getD,hms];rfl
   have hml:=(hP.ok ms (List.mem_of_getElem? hms)).2
   refine(ixO (e02 _ _ g2) at0 ⟨_,rfl,tl,_,_,_,rfl,rfl,SqL.of (e02 _ _ g3),qX ez,zA rfl (SqT.of ((e2.trans e) _ _ hp)) at0 (zA rfl (SqT.of ((e2.trans e) _ _ hp)) at1 ⟨z,ms,_,_,rfl,tT.same e02,by omega,fun H3 e3=>?_⟩)⟩)
   refine⟨_,rfl,?_⟩
   cases ht:jl ms d.t d.hi with
   | true=>
    refine xE ⟨one,kb ?_ _ (e02.trans e3)⟩
    exact List.any_eq_true.mpr ⟨_,List.mem_of_getElem? hxi,by rw [egd];exact ht⟩
   | false=>
    refine jQ ⟨_,rfl,e.trans e3,?_⟩
    rw [List.take_add_one,hxi,List.any_append,hno]
    show (false || (jl (ts.getD ((k:Int)).toNat []) d.t d.hi || false))=false
    rw [egd,ht];rfl
 · rintro σ H' ⟨o,rfl,e,hno⟩
   rw [List.length_map,List.take_length] at hno
   exact kg hno H' (e1.trans (e2.trans e))
def qp (ms:List Im):Int:=(ms.map Im.mo).sum
def qEw (ms:List Im)(lo hi:Int)(ls:List Im):List Im:=xv 0 (xw 0 lo 0 ms++[.gap (vY (lo - qp ms) 0)]++ls++xw hi (qp ms) 0 ms)
inductive qN4 (vs:List V)(H:Hp)(Q:VK)(_:XK):Prop
| mk (z l:Addr) (ms ls:List Im) (lo hi:Int) (_:vs=[.ref z,.int lo,.int hi,.ref l]) (_:Tr H z ms) (_:Tr H l ls) (_:MsB ms) (_:ms.length≤100) (_:ls.length≤10) (_:0≤hi) (_:hi≤2 ^ 500) (_:∀ (y:Addr) (H':Hp),Same H H'→H y=none→Tr H' y (qEw ms lo hi ls)→Q (.ref y) H')
theorem qMa (T:Tx K mg a):FnOk P w K mg base CX0 8 a.A71 a.B71 ["track","low","high","laid"] qN4:=by
 refine T.D71.F.ok qIe (fun vs H Q E h=>?_) (fun cdv A outer s H vs Q E hr h=>?_)
 · obtain⟨z,l,ms,ls,lo,hi,rfl,_⟩:=h
   rfl
 refine qL fun _ Y=>?_
 obtain⟨z,l,ms,ls,lo,hi,rfl,tT,tL,hB,hl1,hl2,h0,h1,kk⟩:=h
 apply Y
 refine⟨_,(qB (qU 4 qIe.nd (ql (qA qR (qA (qi (wL rfl) rfl T.b_max rfl (qA (qP jJ (pv 1) (qK T.D25 (qBa T) hr rfl (qA (pv 0) qC))) (qA qG qC))) qC))))
  (qE (qM (qK T.D24 (qJx T) hr rfl (qA (qP wJ (qP wJ (qP wJ (qK T.D35 (kY T) hr rfl (qA (pv 0) (qA qG (qA (pv 1) qC)))) (jD (qA (pv 4) qC))) (pv 3)) (qK T.D35 (kY T) hr rfl (qA (pv 0) (qA (pv 2) (qA (qK T.D25 (qBa T) hr rfl (qA (pv 0) qC)) qC))))) qC))))),?_⟩
 try dsimp only [je,qg]
 have two:(2:Nat)≤sizeLine:=by decide
 have one:(1:Nat)≤sizeLine:=by decide
 have sm:∀ j:Nat,j≤1000→j≤sizeLine:=fun j h=>by have:=qf (n:=j) (by omega);omega
 refine⟨_,rfl,_,rfl,z,ms,rfl,tT,by omega,fun H1 e1=>?_⟩
 refine⟨_,_,rfl,rfl,_,_,rfl,two,fun g hg=>?_⟩
 have w2:=qF hg (.tup [.str "gap",.int (if (0:Int) > lo - (ms.map Im.mo).sum then 0 else lo - (ms.map Im.mo).sum)])
 have kg:upd H1 g (.tup [.str "gap",.int (if (0:Int) > lo - (ms.map Im.mo).sum then 0 else lo - (ms.map Im.mo).sum)]) g=some (.tup [.str "gap",.int (vY (lo - qp ms) 0)]):=qD
 have e2:=e1.trans w2
 change _
 generalize upd H1 g (.tup [.str "gap",.int (if (0:Int) > lo - (ms.map Im.mo).sum then 0 else lo - (ms.map Im.mo).sum)])=H2 at w2 kg e2
 refine⟨_,rfl,_,rfl,z,ms,0,lo,rfl,tT.same e2,hB,by decide,by decide,fun y1 H3 e3 hy1 ⟨us1,k1,i1⟩=>?_⟩
 have n1:=i1.len
 have n1':=qDe 0 lo 0 ms
 refine⟨_,rfl,one,fun l2 hl2=>?_⟩
 have w4:=qF hl2 (.lst [.ref g])
 refine⟨y1,l2,_,_,rfl,rfl,w4 _ _ k1,qD,sm _ (by show us1.length+1≤1000;omega),fun y2 hy2=>?_⟩
 have w5:=qF hy2 (.lst (us1++[.ref g]))
 have w45:=w4.trans w5
 have e5:=(e2.trans e3).trans w45
 have k2:(upd (upd H3 l2 (.lst [.ref g])) y2 (.lst (us1++[.ref g]))) y2=some (.lst (us1++[.ref g])):=qD
 have i2:IsIs (upd (upd H3 l2 (.lst [.ref g])) y2 (.lst (us1++[.ref g]))) (xw 0 lo 0 ms++[.gap (vY (lo - qp ms) 0)]) (us1++[.ref g]):=(i1.ts (qc w45)).app (.one (isG ((e3.trans w45) _ _ kg)))
 change _
 generalize upd (upd H3 l2 (.lst [.ref g])) y2 (.lst (us1++[.ref g]))=H5 at w45 e5 k2 i2
 refine qL fun _ Y=>?_
 obtain⟨ul,kl,il⟩:=tL.same e5
 apply Y
 have nl:=il.len
 have n2:=i2.len
 rw [List.length_append,List.length_append] at n2
 refine⟨_,rfl,y2,l,_,_,rfl,rfl,k2,kl,sm _ (by rw [List.length_append];show us1.length+1+ul.length≤1000;omega),fun y3 hy3=>?_⟩
 have w6:=qF hy3 (.lst (us1++[.ref g]++ul))
 have e6:=e5.trans w6
 have k3:(upd H5 y3 (.lst (us1++[.ref g]++ul))) y3=some (.lst (us1++[.ref g]++ul)):=qD
 have i3:IsIs (upd H5 y3 (.lst (us1++[.ref g]++ul))) (xw 0 lo 0 ms++[.gap (vY (lo - qp ms) 0)]++ls) (us1++[.ref g]++ul):=(i2.app il).ts (qc w6)
 change _
 generalize upd H5 y3 (.lst (us1++[.ref g]++ul))=H6 at w6 e6 k3 i3
 refine⟨_,rfl,_,rfl,_,rfl,z,ms,rfl,tT.same e6,by omega,fun H7 e7=>?_⟩
 refine⟨z,ms,hi,qp ms,rfl,tT.same (e6.trans e7),hB,h0,h1,fun y4 H8 e8 hy4 ⟨us4,k4,i4⟩=>?_⟩
 have n4:=i4.len
 have n4':=qDe hi (qp ms) 0 ms
 have e78:=e7.trans e8
 have hlen:(us1++[V.ref g]++ul).length=us1.length+1+ul.length:=by rw [List.length_append,List.length_append];rfl
 refine⟨y3,y4,_,_,rfl,rfl,e78 _ _ k3,k4,sm _ (by omega),fun y5 hy5=>?_⟩
 have w9:=qF hy5 (.lst (us1++[.ref g]++ul++us4))
 have e9:=(e6.trans e78).trans w9
 refine⟨y5,_,rfl,⟨_,qD,((i3.ts (qc e78)).app i4).ts (qc w9)⟩,?_,fun y H10 e10 hy tY=>kk y H10 (e9.trans e10) (e9.free hy) tY⟩
 rw [List.length_append,List.length_append,List.length_append]
 show (xw 0 lo 0 ms).length+1+ls.length+(xw hi (qp ms) 0 ms).length≤300
 omega
def qEc:Sp:=fun _ _ _ _=>False
theorem qEh (T:Tx K mg a):FnOk P w K mg base (CXR P w) 6 a.A15 a.B15 ["item","reels"] qEc:=okX T.D15.F qE5 (fun _ _ _ _ h=>h.elim) (fun _ _ _ _ _ _ _ _ _ h=>h.elim)
def DOk (H:Hp)(rd:Addr)(ms:List Im):Dk→Prop
 | .cut t=>0≤t∧t≤2 ^ 400∧j7 ms t=true
 | .hel _=>False
theorem DOk.same {H H':Hp}{rd:Addr}{ms:List Im}{d:Dk}(e:Same H H')(h:DOk H rd ms d):DOk H' rd ms d:=by
 cases d with
 | _=>exact h
inductive ChO (K:W.Frag)(H:Hp)(rd dz:Addr)(n:Nat)(ts:List (List Im))(tie:List Int)(ms:List Im):Nat→Prop where
 | cut0 {t:Int} (hd:H dz=some (.tup [.str "cut",.int (n:Int),.int t])) (h:j7 ms t=false):ChO K H rd dz n ts tie ms 0
 | ok {d:Dk} {c:Nat} (hD:DAt H dz (n:Int) d) (hO:DOk H rd ms d) (hc:c=if jw ts (chF tie (n:Int) d.push) d.t d.hi=true then 1 else 2):ChO K H rd dz n ts tie ms c
theorem ChO.same {H H':Hp}(e:Same H H'){rd dz:Addr}{n:Nat}{ts:List (List Im)}{tie:List Int}{ms:List Im}{c:Nat}(h:ChO K H rd dz n ts tie ms c):ChO K H' rd dz n ts tie ms c:=by
 cases h with
 | cut0 hd h=>exact .cut0 (e _ _ hd) h
 | ok hD hO hc=>exact .ok (hD.same e) (hO.same e) hc
inductive qBq (K:W.Frag)(N M C:Addr)(vs:List V)(H:Hp)(Q:VK)(E:XK):Prop
| mk (tz dz rd:Addr) (ts:List (List Im)) (tie:List Int) (n:Nat) (ms:List Im) (c:Nat) (_:vs=[.ref tz,.ref dz,.ref rd]) (_:TabG H tz ts tie n) (_:ts[n]? =some ms) (_:ChO K H rd dz n ts tie ms c) (_:(c=0→∀ H',Same H H'→E (.ref N) none H')) (_:(c=1→∀ H',Same H H'→E (.ref M) none H')) (_:(c=3→∀ H',Same H H'→E (.ref C) none H')) (_:(c=2→∀ H',Same H H'→Q .non H'))
theorem qBo (T:Tx K mg a):FnOk P w K mg base (CXR P w) 7 a.A65 a.B65 ["table","deed","reels"] (qBq K a.k_NoPlace a.k_Mixed a.k_NoClip):=by
 refine okX T.D65.F qDb (fun vs H Q E h=>?_) (fun cdv A outer s H vs Q E hr h=>?_)
 · obtain⟨tz,dz,rd,ts,tie,n,ms,c,rfl,_⟩:=h
   rfl
 refine qL fun _ Y=>?_
 obtain⟨tz,dz,rd,ts,tie,n,ms,c,rfl,hP,hms,hC,k0,k1,k3,k2⟩:=h
 apply Y
 refine⟨_,(qB (qd (qJ vM (qI (pv 1)) (xh (v:=.ref a.n_CHANGES) rfl T.g_CHANGES rfl) rfl) (qE (xR rfl rfl T.c_NoPlace T.x_NoPlace (qA qR qC))) qQ)
  (qB (vR (qd (PW.pt (jZ (qJ jU (qI (pv 1)) qR (qN _)) (jM (zS (j4 (qK T.D33 (qD4 T) hr rfl (qA (qv qZ (qI (pv 0)) (qI (pv 1)) (fun _ _=>rfl)) (qA (qI (pv 1)) qC)))))))) (qE (xR rfl rfl T.c_NoPlace T.x_NoPlace (qA qR qC))) qQ))
  (qB (vR (qd (PW.pt (jZ (qJ xW (qI (pv 1)) (xh (v:=.ref a.n_LAYS) rfl T.g_LAYS rfl) rfl) (jM (zS (j4 (qK T.D22 (qBt T) hr rfl (qA (qI (pv 1)) qC))))))) (qE (jV (xy T.D15 (qEh T) hr rfl (qA (qI (pv 1)) (qA (pv 2) qC))))) qQ))
  (qE (jV (xy T.D64 (vQ T) hr rfl (qA (pv 0) (qA (pv 1) qC)))))))),?_⟩
 try dsimp only [je,qg]
 have one:(1:Nat)≤sizeLine:=by decide
 refine qL fun _ Y=>?_
 obtain⟨tt,tl,ti,zs,e0,g2,g3,g4,g5⟩:=id hP.tab
 cases e0
 have hzl:=g4.len
 have hnt:=hP.nt
 have ez:zs[n]? =some (zs[n]'(by omega)):=List.getElem?_eq_getElem (by omega)
 obtain⟨ms',z,hms',ezz,tT⟩:=g4.get ez
 rw [hms] at hms'
 cases hms'
 apply Y
 rw [ezz] at ez
 cases hC with
 | @cut0 t hd h=>
  have a0:atI [V.str "cut",.int (n:Int),.int t] 0=some (.str "cut"):=rfl
  have a1:atI [V.str "cut",.int (n:Int),.int t] 1=some (.int (n:Int)):=rfl
  have a2:atI [V.str "cut",.int (n:Int),.int t] 2=some (.int t):=rfl
  refine(ixO hd a0 ⟨a.n_CHANGES,_,rfl,.inr (T.sq_CHANGES _),rfl,rfl,false,qOb (b:=true) (by decide+kernel),jQ ?_⟩)
  refine⟨fun σ H1=>False,?_,fun _ _ h=>h.elim⟩
  refine(ixO hd a0 ⟨rfl,_,rfl,vD (by decide+kernel) ?_⟩)
  refine(ixO g2 at0 (ixO hd a1 ⟨tl,_,_,_,rfl,rfl,SqL.of g3,qX ez,ixO hd a2 ⟨z,ms,t,rfl,tT,fun H1 e1=>?_⟩⟩))
  rw [h]
  exact⟨false,rfl,xE ⟨one,k0 rfl H1 e1⟩⟩
 | @ok d c hD hO hc=>
  refine qL fun _ Y=>?_
  obtain⟨t,rfl⟩:∃ t,d= .cut t:=by
   cases d with
   | cut t=>exact⟨t,rfl⟩
   | hel t=>exact hO.elim
  obtain⟨xs,hd,a0,a1,a2⟩:=hD.opn
  apply Y
  refine(ixO hd a0 ⟨a.n_CHANGES,_,rfl,.inr (T.sq_CHANGES _),rfl,rfl,false,qOb (b:=true) (show inV (.str "cut") _=true by decide+kernel),jQ ?_⟩)
  refine⟨fun σ H1=>σ=[some (.ref tz),some (.ref dz),some (.ref rd)]∧Same H H1,?_,?_⟩
  · refine(ixO hd a0 ⟨rfl,_,rfl,vD (decide_eq_true rfl) ?_⟩)
    refine(ixO g2 at0 (ixO hd a1 ⟨tl,_,_,_,rfl,rfl,SqL.of g3,qX ez,ixO hd a2 ⟨z,ms,t,rfl,tT,fun H1 e1=>?_⟩⟩))
    rw [hO.2.2]
    exact⟨true,rfl,jQ ⟨rfl,e1⟩⟩
  rintro σ H1 ⟨rfl,e1⟩
  refine⟨fun σ H2=>σ=[some (.ref tz),some (.ref dz),some (.ref rd)]∧Same H H2,?_,?_⟩
  · refine(ixO (e1 _ _ hd) a0 ⟨a.n_LAYS,_,rfl,.inr (T.sq_LAYS _),rfl,rfl,false,qCu (show inV (.str "cut") _=false by decide+kernel),jQ (jQ ⟨rfl,e1⟩)⟩)
  rintro σ H2 ⟨rfl,e2⟩
  refine⟨_,rfl,_,rfl,tz,dz,ts,tie,n,_,rfl,hP.same e2,hD.same e2,fun ht H3 e3=>?_,fun ht H3 e3=>?_⟩
  · rw [ht,if_pos rfl] at hc
    exact k1 hc H3 (e2.trans e3)
  · rw [ht,if_neg (by decide)] at hc
    exact k2 hc H3 (e2.trans e3)
def goB (n n':Str)(p q r s len p' q' r' s':Int):Bool:=decide (n=n') && ((r == r' && s == s') && (p' == plP p q r s len && q' == plQ p q r s len))
inductive qLy (K:W.Frag)(vs:List V)(H:Hp)(Q:VK)(_:XK):Prop
| mk (v u:V) (n n':Str) (p q r s len p' q' r' s' len':Int) (_:vs=[v,u]) (_:Cp K H v n p q r s len) (_:Cp K H u n' p' q' r' s' len') (_:Bn 700 p q r s) (_:len.natAbs < 2 ^ 700) (_:∀ H',Same H H'→Q (.bl (goB n n' p q r s len p' q' r' s')) H')
theorem qLt (T:Tx K mg a):FnOk P w K mg base CX0 5 a.A17 a.B17 ["one","other"] (qLy K):=by
 refine T.D17.F.ok qK6 (fun vs H Q E h=>?_) (fun cdv A outer s H vs Q E hr h=>?_)
 · obtain⟨v,u,n,n',p,q,r,s,len,p',q',r',s',len',rfl,_⟩:=h
   rfl
 refine qL fun _ Y=>?_
 obtain⟨v,u,n,n',p,q,r,s,len,p',q',r',s',len',rfl,hc,hd,⟨hq,hs,bp,bq,br,bs⟩,bl,kk⟩:=h
 apply Y
 have hu:=hr.units0
 refine⟨_,(qB (qd (PW.pt (z6 (qJ xo (qI (pv 0)) (qI (pv 1)) (qN _)) (xk (qJ (qQb hu) (qI (pv 0)) (qI (pv 1)) (qN _))))) (qE (qM z7)) qQ)
  (qE (qM (jp (qP2 hu) (qI (pv 1)) (qK T.D12 (zB T) hr rfl (qA (pv 0) (qA (qI (pv 0)) qC))) (qN _))))),?_⟩
 try dsimp only [je,qg]
 have hc0:=hc
 refine qL fun _ Y=>?_
 obtain⟨z,z1,z2,e,h0,h1,h2⟩:=hc0.ex
 subst e
 obtain⟨y,y1,y2,e,d0,d1,d2⟩:=hd.ex
 subst e
 apply Y
 refine(zA rfl h0 qD8 ⟨_,rfl,y,_,_,_,rfl,rfl,d0,qD8,rfl,_,rfl,?_⟩)
 by_cases en:n=n'
 rotate_left
 · have e:(!decide (V.str n=V.str n'))=true:=by simp [en]
   rw [e]
   refine xE (xE ?_)
   have g:goB n n' p q r s len p' q' r' s'=false:=by simp [goB,en]
   have:=kk H (Same.refl _)
   rw [g] at this
   exact this
 have e:(!decide (V.str n=V.str n'))=false:=by simp [en]
 rw [e]
 refine jQ ?_
 refine(zA rfl h0 qB5 ⟨_,rfl,y,_,_,_,rfl,rfl,d0,qB5,_,_,_,_,rfl,rfl,h2,d2,rfl,rfl,_,rfl,?_⟩)
 rw [eq2]
 by_cases er:(r == r' && s == s')=true
 rotate_left
 · have er':(r == r' && s == s')=false:=by simpa using er
   rw [er']
   refine xE ?_
   have g:goB n n' p q r s len p' q' r' s'=false:=by unfold goB;rw [er'];simp
   have:=kk H (Same.refl _)
   rw [g] at this
   exact this
 rw [er]
 refine jQ ?_
 refine⟨_,rfl,y,_,_,_,rfl,rfl,d0,qJ1,_,rfl,zA rfl h0 qMn ⟨_,n,p,q,r,s,len,len,rfl,hc,hq,hs,bp,bq,br,bs,bl,fun x H1 s1 e1=>?_⟩⟩
 refine⟨_,_,_,_,rfl,rfl,L3.Same.tup s1 d1,SqT.of e1,rfl,rfl,?_⟩
 have g:goB n n' p q r s len p' q' r' s'=(if false=true then !qG1 [.int p',.int q'] [.int (ji (p*s+len*r*q) (q*s)),.int (jY (p*s+len*r*q) (q*s))] else qG1 [.int p',.int q'] [.int (ji (p*s+len*r*q) (q*s)),.int (jY (p*s+len*r*q) (q*s))]):=by
  rw [if_neg (by decide),eq2]
  unfold goB
  rw [er]
  simp [en,plP,plQ]
 rw [← g]
 exact kk H1 s1
theorem qUz {x0 x1 x2:V}:atI [x0,x1,x2] 1=some x1:=rfl
theorem qU0 {x0 x1 x2:V}:atI [x0,x1,x2] 2=some x2:=rfl
theorem qFf (vs:List V)(i:Nat):xB vs none (some (i:Int))=vs.take i:=by
 unfold xB
 rw [HT.sIx_none,HT.sIx_nat,List.drop_zero,Nat.sub_zero]
 by_cases h:i≤vs.length
 · rw [Nat.min_eq_left h]
 · rw [Nat.min_eq_right (by omega),List.take_of_length_le (Nat.le_refl _),List.take_of_length_le (by omega)]
theorem qGj (vs:List V)(i:Nat):xB vs (some (i:Int)) none=vs.drop i:=by
 unfold xB
 rw [HT.sIx_none,HT.sIx_nat]
 by_cases h:i≤vs.length
 · rw [Nat.min_eq_left h,List.take_of_length_le (by rw [List.length_drop];omega)]
 · rw [Nat.min_eq_right (by omega),List.drop_of_length_le (by omega),List.drop_of_length_le (by omega)]
   simp
theorem IsIs.take {H:Hp}:∀ {ms:List Im} {vs:List V} {i:Nat},IsIs H ms vs→IsIs H (ms.take i) (vs.take i)
 | [],[],_,_=>by simp [IsIs]
 | _::_,_::_,0,_=>trivial
 | _::_,_::_,_+1,h=>⟨h.1,h.2.take⟩
 | [],_::_,_,h=>h.elim
 | _::_,[],_,h=>h.elim
theorem IsIs.drop {H:Hp}:∀ {ms:List Im} {vs:List V} {i:Nat},IsIs H ms vs→IsIs H (ms.drop i) (vs.drop i)
 | [],[],_,_=>by simp [IsIs]
 | _::_,_::_,0,h=>h
 | _::_,_::_,_+1,h=>h.2.drop (i:=_)
 | [],_::_,_,h=>h.elim
 | _::_,[],_,h=>h.elim
theorem DOk.hi {H:Hp}{rd:Addr}{ms:List Im}{d:Dk}(h:DOk H rd ms d):0≤d.t∧0≤d.hi∧d.hi≤2 ^ 500:=by
 have e:(2:Int) ^ 400+2 ^ 400≤2 ^ 500:=by decide
 have e2:(0:Int)≤2 ^ 400:=by decide
 generalize (2:Int) ^ 500=B at e ⊢
 cases d with
 | cut t=>obtain⟨h1,h2,_⟩:=h;exact⟨h1,h1,by show t≤B;omega⟩
 | hel t=>exact h.elim
def qVl (ms:List Im)(t:Int):Prop:=cbF ms t=none∨∃ i j:Int,cbF ms t=some (i,j)∧j≠i+1
def ChW (w:Str):Prop:=w="cut"∨w="lay_in"∨w="open"∨w="close"∨w="lift"∨w="lay_over"
structure TabD (H:Hp)(tz rd:Addr)(rl:Rls)(ts:List (List Im))(tie:List Int):Prop where
 tab:TabF H (.ref tz) ts tie
 ok:∀ ms∈ts,MsB ms∧ms.length≤100∧∀ m∈ms,ItR rl m
 len:ts.length≤8
 tl:tie.length≤8
 tin:∀ x∈tie,∃ k:Nat,x=(k:Int)∧k < ts.length
 re:ReelsAt H rd rl
theorem TabD.g {H:Hp}{tz rd:Addr}{rl:Rls}{ts:List (List Im)}{tie:List Int}{n:Nat}(h:TabD H tz rd rl ts tie)(hn:n < ts.length):TabG H tz ts tie n:=⟨h.tab,fun ms hm=>⟨(h.ok ms hm).1,(h.ok ms hm).2.1⟩,hn,h.len,h.tl,h.tin⟩
theorem TabD.same {H H':Hp}{tz rd:Addr}{rl:Rls}{ts:List (List Im)}{tie:List Int}(e:Same H H')(h:TabD H tz rd rl ts tie):TabD H' tz rd rl ts tie:=⟨h.tab.same e,h.ok,h.len,h.tl,h.tin,h.re.same e⟩
instance (w:Str):Decidable (Wd3 w):=by unfold Wd3;infer_instance
theorem wo {w:Str}:inV (.str w) [.str "roll",.str "slip",.str "slide"]=decide (Wd3 w):=by
 by_cases h1:w="roll"
 · subst h1;decide+kernel
 by_cases h2:w="slip"
 · subst h2;decide+kernel
 by_cases h3:w="slide"
 · subst h3;decide+kernel
 have:¬ Wd3 w:=by rintro (h | h | h);exact h1 h;exact h2 h;exact h3 h
 rw [decide_eq_false this]
 simp [inV,eqV,h1,h2,h3,Ne.symm h1,Ne.symm h2,Ne.symm h3]
def qD2 (d:Dk)(n k:Int):List Im:=if k=n then d.laid else d.laid.map fun m=>.gap m.mo
def qL4 (ts0:List (List Im))(d:Dk)(n:Int)(ns:List Int):List (List Im):=ns.foldl (fun ts k=>ts.set k.toNat (qEw (ts0.getD k.toNat []) d.t d.hi (qD2 d n k))) ts0
theorem qMo (ts0:List (List Im))(d:Dk)(n:Int):∀ ns:List Int,(qL4 ts0 d n ns).length=ts0.length:=fun ns=>by
 unfold qL4
 have:∀ (ns:List Int) (ts:List (List Im)),(ns.foldl (fun ts k=>ts.set k.toNat (qEw (ts0.getD k.toNat []) d.t d.hi (qD2 d n k))) ts).length=ts.length:=fun ns=>by
  induction ns with
  | nil=>intro ts;rfl
  | cons k ns ih=>intro ts;rw [List.foldl_cons,ih,List.length_set]
 exact this ns ts0
theorem qO1 (ts0:List (List Im))(d:Dk)(n:Int)(ns:List Int)(k:Int):qL4 ts0 d n (ns++[k])=(qL4 ts0 d n ns).set k.toNat (qEw (ts0.getD k.toNat []) d.t d.hi (qD2 d n k)):=by
 unfold qL4
 rw [List.foldl_append]
 rfl
theorem NewTab.same {H H' H'':Hp}(e:Same H' H''){t:Addr}{ts:List (List Im)}{tie:List Int}(h:NewTab H H' t ts tie):NewTab H H'' t ts tie:=
 let ⟨tl,ti,zs,h1,h2,h3,h4,h5⟩:=h.ex
 ⟨tl,ti,zs,e _ _ h1,e _ _ h2,h3.same e,e _ _ h4,h5⟩
theorem qTf (tie:List Int)(n:Int)(push:Bool):chF tie n push≠[]:=by
 unfold chF
 split <;> simp
inductive qHi (vs:List V)(H:Hp)(Q:VK)(_:XK):Prop
| mk (tz dz rd:Addr) (ts:List (List Im)) (tie:List Int) (n:Nat) (d:Dk) (ms:List Im) (_:vs=[.ref tz,.ref dz]) (_:TabG H tz ts tie n) (_:DAt H dz (n:Int) d) (_:DOk H rd ms d) (_:∀ (t:Addr) (H':Hp),Same H H'→NewTab H H' t (qL4 ts d (n:Int) (chF tie (n:Int) d.push)) tie→Q (.ref t) H')
theorem qG0 (T:Tx K mg a):FnOk P w K mg base CX0 9 a.A72 a.B72 ["table","deed"] qHi:=by
 refine T.D72.F.ok xr (fun vs H Q E h=>?_) (fun cdv A outer s H vs Q E hr h=>?_)
 · obtain⟨tz,dz,rd,ts,tie,n,d,ms,rfl,_⟩:=h
   rfl
 refine qL fun _ Y=>?_
 obtain⟨tz,dz,rd,ts,tie,n,d,ms,rfl,hP,hD,hO,kk⟩:=h
 apply Y
 refine⟨_,(qB (qU 2 xr.nd (qK T.D58 (wp T) hr rfl (qA (pv 1) qC)))
  (qB (qU 3 xr.nd (pv 0))
  (qB (j2 PassesOwn.never rfl (jX (qK T.D61 (zu T) hr rfl (qA (pv 0) (qA (pv 1) qC)))) (qt (i:=4) xr.nd rfl (Or.inl rfl)) (qB (vR (qU 5 xr.nd (qBx (qJ jU (pv 4) (qI (pv 1)) (qN _)) (qK T.D59 (qLm T) hr rfl (qA (pv 1) qC)) (qK T.D60 (qCy T) hr rfl (qA (pv 1) qC)))))
  (qE (qU 3 xr.nd (qK T.D56 (kB T) hr rfl (qA (pv 3) (qA (pv 4) (qA (qK T.D71 (qMa T) hr rfl (qA (qv qZ (qI (pv 0)) (pv 4) (fun _ _=>rfl)) (qA (qI (pv 2)) (qA (qI (pv 2)) (qA (pv 5) qC))))) qC))))))))
  (qE (qM (pv 3)))))),?_⟩
 try dsimp only [je,qg]
 refine qL fun _ Y=>?_
 obtain⟨tt,tl,ti,zs,e0,g2,g3,g4,g5⟩:=id hP.tab
 cases e0
 have hzl:=g4.len
 obtain⟨hcl,hch⟩:=hP.ch d.push
 have hne:=qTf tie (n:Int) d.push
 obtain⟨xs,hd,a0,a1,a2⟩:=hD.opn
 obtain⟨ht0,hh0,hh1⟩:=hO.hi
 apply Y
 refine⟨_,rfl,dz,_,d,rfl,hD,fun p H1 e1 hp=>?_⟩
 refine⟨_,rfl,_,rfl,_,rfl,tz,tl,ti,dz,tie,_,d,rfl,e1 _ _ g2,e1 _ _ g5,by have:=hP.tl;omega,hD.same e1,fun y H2 e2 hy hy2=>?_⟩
 have hon:∀ x∈chF tie (n:Int) d.push,x=(n:Int):=fun x hx=>by
  have e:d.push=false:=by cases d <;> rfl
  unfold chF at hx
  rw [e,if_neg (fun h=>Bool.false_ne_true h.1)] at hx
  simpa using hx
 generalize chF tie (n:Int) d.push=ns at hy2 hcl hch hne kk hon
 refine⟨y,rfl,⟨_,SqL.of hy2⟩,jy (K:=K) (a:=y) (xs:=ns.map V.int) (fun i σ H'=>∃ (o1 o2:Option V) (tt':Addr),σ=[some (.ref tz),some (.ref dz),some (.ref p),some (.ref tt'),o1,o2]∧TabF H' (.ref tt') (qL4 ts d (n:Int) (ns.take i)) tie∧(0 < i→NewTab H H' tt' (qL4 ts d (n:Int) (ns.take i)) tie)∧Same H2 H') ⟨none,none,tz,rfl,(hP.tab.same e1).same e2,by omega,Same.refl _⟩ ?_ ?_ ?_⟩
 · rintro i σ H' hi ⟨o1,o2,tt',rfl,_,_,e⟩
   exact SqL.of (e _ _ hy2)
 · rintro i x σ H' hx ⟨o1,o2,tt',rfl,hT',_,e⟩
   refine qL fun _ Y=>?_
   obtain⟨xi,hxi,rfl⟩:∃ xi:Int,ns[i]? =some xi∧x= .int xi:=by
    rw [List.getElem?_map] at hx
    cases hq:ns[i]? with
    | none=>rw [hq] at hx;cases hx
    | some k=>rw [hq] at hx;cases hx;exact⟨k,rfl,rfl⟩
   obtain⟨k,rfl,hk⟩:=hch xi (List.mem_of_getElem? hxi)
   have e02:=e1.trans (e2.trans e)
   have ez:zs[k]? =some (zs[k]'(by omega)):=List.getElem?_eq_getElem (by omega)
   obtain⟨ms1,z,hms,ezz,tT⟩:=g4.get ez
   rw [ezz] at ez
   obtain⟨hMB,hM1⟩:=hP.ok ms1 (List.mem_of_getElem? hms)
   apply Y
   have dl:=d.laid_len
   have egd:ts.getD ((k:Int)).toNat []=ms1:=by rw [Int.toNat_natCast,List.getD_eq_getElem?_getD,hms];rfl
   refine⟨fun σ H3=>∃ (l:Addr),σ=[some (.ref tz),some (.ref dz),some (.ref p),some (.ref tt'),some (.int (k:Int)),some (.ref l)]∧Same H' H3∧Tr H3 l (qD2 d (n:Int) (k:Int)),?_,?_⟩
   · unfold qD2
     refine⟨_,rfl,ixO (e02 _ _ hd) a1 ⟨rfl,_,rfl,jf (fun c=>?_) (fun c=>?_)⟩⟩
     · have hc:(k:Int)=(n:Int):=by have:V.int (k:Int)=V.int (n:Int):=by simpa using c
                                   exact V.int.inj this
       rw [if_pos hc]
       exact⟨_,rfl,dz,_,d,rfl,hD.same e02,fun l H3 e3 hl tL=>⟨l,rfl,e3,tL⟩⟩
     · have hc:¬ (k:Int)=(n:Int):=fun z=>by rw [z] at c;simp at c
       exact absurd (hon _ (List.mem_of_getElem? hxi)) hc
   rintro σ H3 ⟨l,rfl,e3,tL⟩
   have hls:(qD2 d (n:Int) (k:Int)).length≤10:=by
    unfold qD2
    split
    · omega
    · rw [List.length_map];omega
   have e03:=e02.trans e3
   refine⟨_,rfl,_,rfl,ixO (e03 _ _ g2) at0 ⟨_,rfl,tl,_,_,_,rfl,rfl,SqL.of (e03 _ _ g3),qX ez,zA rfl (SqT.of ((e2.trans (e.trans e3)) _ _ hp)) at0 (zA rfl (SqT.of ((e2.trans (e.trans e3)) _ _ hp)) at1 ⟨_,rfl,z,l,ms1,_,_,_,rfl,tT.same e03,tL,hMB,hM1,hls,hh0,hh1,fun yy H4 e4 hyy tY=>?_⟩)⟩⟩
   refine⟨tt',yy,k,_,tie,_,rfl,(hT'.same e3).same e4,tY,by rw [qMo];omega,by rw [qMo];have:=hP.len;omega,fun t H5 e5 hN=>?_⟩
   have ets:qL4 ts d (n:Int) (ns.take (i+1))=(qL4 ts d (n:Int) (ns.take i)).set k (qEw ms1 d.t d.hi (qD2 d (n:Int) (k:Int))):=by
    rw [List.take_add_one,hxi]
    show qL4 ts d (n:Int) (ns.take i++[(k:Int)])=_
    rw [qO1,egd,Int.toNat_natCast]
   rw [ets]
   exact⟨_,_,t,rfl,(hN H3 e4 hyy).tab,fun _=>hN H (e03.trans e4) (e03.free hyy),((e.trans e3).trans e4).trans e5⟩
 · rintro σ H' ⟨o1,o2,tt',rfl,_,hN,e⟩
   rw [List.length_map,List.take_length] at hN
   exact⟨_,rfl,kk _ H' (e1.trans (e2.trans e)) (hN (List.length_pos_iff.mpr hne))⟩
def tbF (ms:List Im)(k:Nat):Int:=if k=0 then 0 else match ms[k - 1]? with
 | some (.mix l)=>l - l.fdiv 2
 | _=>0
def teF (ms:List Im)(k:Nat):Int:=match ms[k+1]? with
 | some (.mix l)=>l.fdiv 2
 | _=>0
theorem qHl {ms:List Im}{k:Int}(h:jh ms k="mix"):∃ l,0≤k∧ms[k.toNat]? =some (.mix l):=by
 unfold jh at h
 by_cases h0:k < 0
 · rw [if_pos h0] at h
   exact absurd h (by decide+kernel)
 · rw [if_neg h0] at h
   cases hm:ms[k.toNat]? with
   | none=>rw [hm] at h;exact absurd h (by decide+kernel)
   | some m=>
    rw [hm] at h
    obtain⟨l,rfl⟩:=qz h
    exact⟨l,by omega,rfl⟩
inductive qAm (vs:List V)(H:Hp)(Q:VK)(_:XK):Prop
| mk (z:Addr) (ms:List Im) (k:Nat) (_:vs=[.ref z,.int (k:Int)]) (_:Tr H z ms) (_:Q (.int (tbF ms k)) H)
theorem qA1 (T:Tx K mg a):FnOk P w K mg base CX0 2 a.A42 a.B42 ["track","place"] qAm:=by
 refine T.D42.F.ok qAg (fun vs H Q E h=>?_) (fun cdv A outer s H vs Q E hr h=>?_)
 · obtain⟨z,ms,k,rfl,_⟩:=h
   rfl
 refine qL fun _ Y=>?_
 obtain⟨z,ms,k,rfl,tT,q⟩:=h
 apply Y
 refine⟨_,(qB (qd (qJ xo (qK T.D28 (xu T) hr rfl (qA (pv 0) (qA (qP jJ (pv 1) qG) qC))) qR (qN _)) (qE (qM qG)) qQ)
  (qE (qM (qK T.D37 (vq T) hr rfl (qA (qI (qv qZ (pv 0) (qP jJ (pv 1) qG) (fun _ _=>rfl))) qC))))),?_⟩
 try dsimp only [je,qg]
 refine⟨_,rfl,_,rfl,_,_,rfl,rfl,z,ms,_,rfl,tT,rfl,_,rfl,jf (fun c=>?_) (fun c=>?_)⟩
 · have hn:jh ms ((k:Int) - 1)≠"mix":=by simpa using c
   have e:tbF ms k=0:=by
    unfold tbF
    by_cases k0:k=0
    · rw [if_pos k0]
    · rw [if_neg k0]
      split
      · next l hl=>exact absurd (j3 hl (by omega)) hn
      · rfl
   rw [e] at q
   exact q
 · have hk:jh ms ((k:Int) - 1)="mix":=by simpa using c
   refine qL fun _ Y=>?_
   obtain⟨l,k1,hl⟩:=qHl hk
   have ek:((k:Int) - 1).toNat=k - 1:=by omega
   rw [ek] at hl
   have e:tbF ms k=l - l.fdiv 2:=by
    unfold tbF
    rw [if_neg (by omega),hl]
   rw [e] at q
   obtain⟨vs,hz,his⟩:=tT
   obtain⟨v,hv,hI⟩:=his.get' hl
   obtain⟨zi,rfl,hzi⟩:=hI
   apply Y
   have hat:atI vs ((k:Int) - 1)=some (.ref zi):=by
    have e:(k:Int) - 1=((k - 1:Nat):Int):=by omega
    rw [e];exact qX hv
   exact⟨_,rfl,_,rfl,_,_,rfl,rfl,z,_,_,_,rfl,rfl,SqL.of hz,hat,ixT (SqT.of hzi) at1 ⟨l,rfl,q⟩⟩
inductive qCn (vs:List V)(H:Hp)(Q:VK)(_:XK):Prop
| mk (z:Addr) (ms:List Im) (k:Nat) (_:vs=[.ref z,.int (k:Int)]) (_:Tr H z ms) (_:Q (.int (teF ms k)) H)
theorem qCz (T:Tx K mg a):FnOk P w K mg base CX0 2 a.A43 a.B43 ["track","place"] qCn:=by
 refine T.D43.F.ok qB9 (fun vs H Q E h=>?_) (fun cdv A outer s H vs Q E hr h=>?_)
 · obtain⟨z,ms,k,rfl,_⟩:=h
   rfl
 refine qL fun _ Y=>?_
 obtain⟨z,ms,k,rfl,tT,q⟩:=h
 apply Y
 refine⟨_,(qB (qd (qJ xo (qK T.D28 (xu T) hr rfl (qA (pv 0) (qA (qP qo (pv 1) qG) qC))) qR (qN _)) (qE (qM qG)) qQ)
  (qE (qM (qK T.D36 (kG T) hr rfl (qA (qI (qv qZ (pv 0) (qP qo (pv 1) qG) (fun _ _=>rfl))) qC))))),?_⟩
 try dsimp only [je,qg]
 refine⟨_,rfl,_,rfl,_,_,rfl,rfl,z,ms,_,rfl,tT,rfl,_,rfl,jf (fun c=>?_) (fun c=>?_)⟩
 · have hn:jh ms ((k:Int)+1)≠"mix":=by simpa using c
   have e:teF ms k=0:=by
    unfold teF
    split
    · next l hl=>exact absurd (j3 hl (by omega)) hn
    · rfl
   rw [e] at q
   exact q
 · have hk:jh ms ((k:Int)+1)="mix":=by simpa using c
   refine qL fun _ Y=>?_
   obtain⟨l,k1,hl⟩:=qHl hk
   have ek:((k:Int)+1).toNat=k+1:=by omega
   rw [ek] at hl
   have e:teF ms k=l.fdiv 2:=by
    unfold teF
    rw [hl]
   rw [e] at q
   obtain⟨vs,hz,his⟩:=tT
   obtain⟨v,hv,hI⟩:=his.get' hl
   obtain⟨zi,rfl,hzi⟩:=hI
   apply Y
   have hat:atI vs ((k:Int)+1)=some (.ref zi):=by
    have e:(k:Int)+1=((k+1:Nat):Int):=by omega
    rw [e];exact qX hv
   exact⟨_,rfl,_,rfl,_,_,rfl,rfl,z,_,_,_,rfl,rfl,SqL.of hz,hat,ixT (SqT.of hzi) at1 ⟨l,rfl,q⟩⟩
def qS9 (x y:Int):Int:=if y < x then y else x
def qUw (x y:Int):Int:=if y > x then y else x
def mmV (A B:Int):Int:=if B > A then qUw (2*A+1) 0 else qUw (2*B) 0
def mmF (rl:Rls)(ms:List Im)(t:Int):Option Int:=match cbF ms t with
 | none=>none
 | some (i,j)=>match zM ms i,zM ms j with
  | .clip n p q r s l,.clip n' p' q' r' s' l'=>(match rl n,rl n' with
   | some N,some N'=>some (mmV (qS9 (l - tbF ms i.toNat) (qRb p' q' r' s' N')) (qS9 (l' - teF ms j.toNat) (qPl p q r s l N)))
   | _,_=>none)
  | _,_=>none
theorem wK {ms:List Im}{t:Int}{i j:Int}(h:cbF ms t=some (i,j)):jh ms i="clip"∧jh ms j="clip":=by
 unfold cbF at h
 cases hn:nbF ms t with
 | none=>rw [hn] at h;cases h
 | some r=>
  obtain⟨x,y⟩:=r
  rw [hn] at h
  dsimp only at h
  split at h
  · rename_i c;cases h;exact c
  · cases h
inductive qHr (N:Addr)(vs:List V)(H:Hp)(Q:VK)(E:XK):Prop
| mk (z rd:Addr) (ms:List Im) (t:V) (ot:Option Int) (rl:Rls) (_:vs=[.ref z,t,.ref rd]) (_:Tr H z ms) (_:(∀ m∈ms,ItR rl m)) (_:ReelsAt H rd rl) (_:Nu H t ot) (_:(ot.bind (mmF rl ms)=none→∀ H',Same H H'→E (.ref N) none H')) (_:∀ M,ot.bind (mmF rl ms)=some M→∀ H',Same H H'→Q (.int M) H')
theorem km (T:Tx K mg a):FnOk P w K mg base (CXR P w) 6 a.A44 a.B44 ["track","moment","reels"] (qHr a.k_NoPlace):=by
 refine okX T.D44.F xM (fun vs H Q E h=>?_) (fun cdv A outer s H vs Q E hr h=>?_)
 · obtain⟨z,rd,ms,t,ot,rl,rfl,_⟩:=h
   rfl
 refine qL fun _ Y=>?_
 obtain⟨z,rd,ms,t,ot,rl,rfl,tT,hit,hrl,ht,kb,kg⟩:=h
 apply Y
 refine⟨_,(qB (qU 3 xM.nd (qBx (j4 (qK T.D0 (xG T) hr rfl (qA (pv 1) qC))) (qK T.D32 (zO T) hr rfl (qA (pv 0) (qA (pv 1) qC))) qEz))
  (qB (qd (qDk (qEo (pv 3))) (qE (xR rfl rfl T.c_NoPlace T.x_NoPlace (qA qR qC))) qQ)
  (qB (qU 4 xM.nd (qv qZ (pv 0) (qI (pv 3)) (fun _ _=>rfl)))
  (qB (qU 5 xM.nd (qv qZ (pv 0) (qI (pv 3)) (fun _ _=>rfl)))
  (qB (qU 6 xM.nd (qi (vS rfl) rfl T.b_min rfl (qA (qP jJ (qI (pv 4)) (qK T.D42 (qA1 T) hr rfl (qA (pv 0) (qA (qI (pv 3)) qC)))) (qA (qK T.D19 (qHy T) hr rfl (qA (pv 5) (qA (pv 2) qC))) qC))))
  (qB (qU 7 xM.nd (qi (vS rfl) rfl T.b_min rfl (qA (qP jJ (qI (pv 5)) (qK T.D43 (qCz T) hr rfl (qA (pv 0) (qA (qI (pv 3)) qC)))) (qA (qK T.D20 (qHf T) hr rfl (qA (pv 4) (qA (pv 2) qC))) qC))))
  (qB (qd (qJ qF8 (pv 7) (pv 6) (qN _)) (qE (qM (qi (wL rfl) rfl T.b_max rfl (qA (qP qo (qP qr qG (pv 6)) qG) (qA qG qC))))) qQ)
  (qE (qM (qi (wL rfl) rfl T.b_max rfl (qA (qP qr qG (pv 7)) (qA qG qC)))))))))))),?_⟩
 try dsimp only [je,qg]
 have one:(1:Nat)≤sizeLine:=by decide
 cases ht with
 | no h=>exact⟨_,rfl,t,false,rfl,.no h,false,rfl,jQ ⟨_,rfl,_,rfl,vD (by decide) ⟨one,kb rfl H (Same.refl _)⟩⟩⟩
 | int t=>
 replace kb:mmF rl ms t=none→∀ H',Same H H'→E (.ref a.k_NoPlace) none H':=kb
 replace kg:∀ M,mmF rl ms t=some M→∀ H',Same H H'→Q (.int M) H':=kg
 refine⟨_,rfl,_,true,rfl,.int t,true,rfl,xE ?_⟩
 refine⟨_,rfl,_,rfl,z,ms,_,rfl,tT,?_⟩
 unfold mmF at kb kg
 cases hcb:cbF ms t with
 | none=>
  rw [hcb] at kb
  intro H1 e1
  exact⟨_,rfl,_,rfl,vD (by decide) ⟨one,kb rfl H1 e1⟩⟩
 | some r=>
 refine qL fun _ Y=>?_
 obtain⟨ii,jj⟩:=r
 rw [hcb] at kg
 obtain⟨hk1,hk2⟩:=wK hcb
 obtain⟨i,n,p,q,r,s1,l,rfl,hi⟩:=vJ hk1
 obtain⟨j,n',p',q',r',s2,l',rfl,hj⟩:=vJ hk2
 obtain⟨N,c1⟩:=hit _ (List.mem_of_getElem? hi) _ _ _ _ _ _ rfl
 obtain⟨N',c2⟩:=hit _ (List.mem_of_getElem? hj) _ _ _ _ _ _ rfl
 apply Y
 have ei:zM ms (i:Int)= .clip n p q r s1 l:=by unfold zM;rw [Int.toNat_natCast,hi];rfl
 have ej:zM ms (j:Int)= .clip n' p' q' r' s2 l':=by unfold zM;rw [Int.toNat_natCast,hj];rfl
 dsimp only at kg
 rw [ei,ej] at kg
 dsimp only at kg
 rw [c1.rn,c2.rn,Int.toNat_natCast,Int.toNat_natCast] at kg
 have kg:=kg _ rfl
 intro pp H1 e1 hpp
 refine⟨_,rfl,_,rfl,jf (fun c=>absurd c (by simp)) (fun _=>?_)⟩
 refine qL fun _ Y=>?_
 obtain⟨vs,hz,his⟩:=tT.same e1
 obtain⟨va,hva,Ia⟩:=his.get' hi
 obtain⟨vb,hvb,Ib⟩:=his.get' hj
 apply Y
 refine⟨_,rfl,ixO hpp at0 ⟨z,_,_,_,rfl,rfl,SqL.of hz,qX hva,?_⟩⟩
 refine⟨_,rfl,ixO hpp at1 ⟨z,_,_,_,rfl,rfl,SqL.of hz,qX hvb,?_⟩⟩
 refine qL fun _ Y=>?_
 obtain⟨za,xa,ya,rfl,hza,hxa,hya⟩:=id Ia
 obtain⟨zb,xb,yb,rfl,hzb,hxb,hyb⟩:=id Ib
 apply Y
 have tT1:Tr H1 z ms:=⟨vs,hz,his⟩
 refine(ixO hza qMn ⟨_,rfl,ixO hpp at0 ⟨z,ms,i,rfl,tT1,_,_,rfl,rfl,?_⟩⟩)
 refine⟨_,rfl,_,rfl,_,n',p',q',r',s2,l',N',rd,rfl,qHv Ib,c2.g1,c2.g2,(hrl _ _ c2.rn).same e1,c2.bN,fun H2 e2=>?_⟩
 refine⟨_,_,rfl,?_⟩
 refine(ixO (e2 _ _ hzb) qMn ⟨_,rfl,ixO (e2 _ _ hpp) at1 ⟨z,ms,j,rfl,tT1.same e2,_,_,rfl,rfl,?_⟩⟩)
 refine⟨_,rfl,_,rfl,_,n,p,q,r,s1,l,N,rd,rfl,qHv (Ia.ts (qc e2)),c1.g1,c1.g2,c1.bl,(hrl _ _ c1.rn).same (e1.trans e2),c1.bN,fun H3 e3=>?_⟩
 refine⟨_,_,rfl,?_⟩
 have kk':=kg H3 ((e1.trans e2).trans e3)
 unfold mmV qS9 at kk'
 unfold qRb qPl at kk'
 dsimp only
 generalize (if wt (plP p' q' r' s2 (-1)*s2) (-1*r'*plQ p' q' r' s2 (-1)) (plQ p' q' r' s2 (-1)*s2) N' < l - tbF ms i then wt (plP p' q' r' s2 (-1)*s2) (-1*r'*plQ p' q' r' s2 (-1)) (plQ p' q' r' s2 (-1)*s2) N' else l - tbF ms i)=MA at kk' ⊢
 generalize (if wt (plP p q r s1 l*s1) (1*r*plQ p q r s1 l) (plQ p q r s1 l*s1) N < l' - teF ms j then wt (plP p q r s1 l*s1) (1*r*plQ p q r s1 l) (plQ p q r s1 l*s1) N else l' - teF ms j)=MB at kk' ⊢
 refine⟨_,rfl,_,rfl,_,_,rfl,rfl,_,rfl,jf (fun c=>?_) (fun c=>?_)⟩
 · have c':MB > MA:=by simpa using c
   rw [if_pos c'] at kk'
   exact⟨_,rfl,_,_,rfl,rfl,cmL (by decide) (by decide),_,_,rfl,rfl,_,_,rfl,kk'⟩
 · have c':¬ MB > MA:=by simpa using c
   rw [if_neg c'] at kk'
   exact⟨_,rfl,_,_,rfl,rfl,cmL (by decide) (by decide),_,_,rfl,kk'⟩
inductive qJq (N S:Addr)(vs:List V)(H:Hp)(Q:VK)(E:XK):Prop
| mk (tz dz rd:Addr) (ts:List (List Im)) (tie:List Int) (n0:Nat) (ms:List Im) (t l:Int) (rl:Rls) (_:vs=[.ref tz,.ref dz,.ref rd]) (_:TabG H tz ts tie n0) (_:ts[n0]? =some ms) (_:H dz=some (.tup [.str "mix",.int (n0:Int),.int t,.int l])) (_:(∀ m∈ms,ItR rl m)) (_:ReelsAt H rd rl) (_:(qVl ms t→∀ H',Same H H'→E (.ref N) none H')) (_:(∀ (i:Nat) (M:Int),cbF ms t=some ((i:Int),((i+1:Nat):Int))→mmF rl ms t=some M→(M < l→∀ (dx:Addr) (H':Hp),Same H H'→H' dx=some (.xd [("most",.int M)])→E (.ref S) (some dx) H')∧(l≤M→∀ (t':Addr) (H':Hp),Same H H'→NewTab H H' t' (ts.set n0 (ms.take (i+1)++[.mix l]++ms.drop (i+1))) tie→Q (.ref t') H')))
theorem qSa {rl:Rls}{ms:List Im}{t i j:Int}(hit:∀ m∈ms,ItR rl m)(h:cbF ms t=some (i,j)):∃ M,mmF rl ms t=some M:=by
 obtain⟨hk1,hk2⟩:=wK h
 obtain⟨i,n,p,q,r,s1,l,rfl,hi⟩:=vJ hk1
 obtain⟨j,n',p',q',r',s2,l',rfl,hj⟩:=vJ hk2
 obtain⟨N,c1⟩:=hit _ (List.mem_of_getElem? hi) _ _ _ _ _ _ rfl
 obtain⟨N',c2⟩:=hit _ (List.mem_of_getElem? hj) _ _ _ _ _ _ rfl
 have ei:zM ms (i:Int)= .clip n p q r s1 l:=by unfold zM;rw [Int.toNat_natCast,hi];rfl
 have ej:zM ms (j:Int)= .clip n' p' q' r' s2 l':=by unfold zM;rw [Int.toNat_natCast,hj];rfl
 unfold mmF
 rw [h]
 dsimp only
 rw [ei,ej]
 dsimp only
 rw [c1.rn,c2.rn]
 exact⟨_,rfl⟩
theorem qI0 (T:Tx K mg a):FnOk P w K mg base (CXR P w) 7 a.A69 a.B69 ["table","deed","reels"] (qJq a.k_NoPlace a.k_Short):=by
 refine okX T.D69.F qBz (fun vs H Q E h=>?_) (fun cdv A outer s H vs Q E hr h=>?_)
 · obtain⟨tz,dz,rd,ts,tie,n0,ms,t,l,rl,rfl,_⟩:=h
   rfl
 refine qL fun _ Y=>?_
 obtain⟨tz,dz,rd,ts,tie,n0,ms,t,l,rl,rfl,hP,hms,hd,hit,hrl,kb,kk⟩:=h
 apply Y
 refine⟨_,(qB (qU 3 qBz.nd (qv qZ (qI (pv 0)) (qI (pv 1)) (fun _ _=>rfl)))
  (qB (qU 4 qBz.nd (qK T.D32 (zO T) hr rfl (qA (pv 3) (qA (qI (pv 1)) qC))))
  (qB (qd (PW.pt (z6 (qDk (qEo (pv 4))) (xk (qJ xo (qI (pv 4)) (qP qo (qI (pv 4)) qG) (qN _))))) (qE (xR rfl rfl T.c_NoPlace T.x_NoPlace (qA qR qC))) qQ)
  (qB (qU 5 qBz.nd (xy T.D44 (km T) hr rfl (qA (pv 3) (qA (qI (pv 1)) (qA (pv 2) qC)))))
  (qB (qd (qJ qF8 (qI (pv 1)) (pv 5) (qN _)) (qE (qMy T.m_Short (qF9 T) T.ib_Short (hr.mono (by decide)) rfl rfl T.c_Short (qA (pv 5) qC))) qQ)
  (qE (qM (qK T.D56 (kB T) hr rfl (qA (pv 0) (qA (qI (pv 1)) (qA (qP wJ (qP wJ (wW qGe (pv 3) qCs (qA0 (qI (pv 4)))) (jD (qA (ql (qA qR (qA (qI (pv 1)) qC))) qC))) (wW qGe (pv 3) (qA0 (qI (pv 4))) qCs)) qC))))))))))),?_⟩
 try dsimp only [je,qg]
 have one:(1:Nat)≤sizeLine:=by decide
 refine qL fun _ Y=>?_
 obtain⟨tt,tl,ti,zs,e0,g2,g3,g4,g5⟩:=id hP.tab
 cases e0
 have hzl:=g4.len
 have hnt:=hP.nt
 have ez:zs[n0]? =some (zs[n0]'(by omega)):=List.getElem?_eq_getElem (by omega)
 obtain⟨ms',z,hms',ezz,tT⟩:=g4.get ez
 rw [hms] at hms'
 cases hms'
 rw [ezz] at ez
 obtain⟨hMB,hM1⟩:=hP.ok ms (List.mem_of_getElem? hms)
 apply Y
 have sm:∀ j:Nat,j≤1000→j≤sizeLine:=fun j h=>by have:=qf (n:=j) (by omega);omega
 refine(ixO g2 at0 (ixO hd qOq ⟨tl,_,_,_,rfl,rfl,SqL.of g3,qX ez,?_⟩))
 refine⟨_,rfl,ixO hd qPq ⟨z,ms,_,rfl,tT,?_⟩⟩
 cases hcb:cbF ms t with
 | none=>
  intro H1 e1
  exact⟨_,rfl,_,rfl,vD (by decide) (xE ⟨one,kb (.inl hcb) H1 e1⟩)⟩
 | some rr=>
 obtain⟨ii,jj⟩:=rr
 intro pz H1 e1 hpz
 refine⟨_,rfl,_,rfl,jf (fun c=>absurd c (by simp)) (fun _=>?_)⟩
 refine(ixO hpz at1 (ixO hpz at0 ⟨_,_,rfl,rfl,rfl,_,rfl,?_⟩))
 by_cases hij:jj=ii+1
 case neg=>
  have hne:(!decide (V.int jj=V.int (ii+1)))=true:=by
   rw [decide_eq_false (fun z=>hij (V.int.inj z))];rfl
  exact vD hne ⟨one,kb (.inr ⟨ii,jj,hcb,hij⟩) H1 e1⟩
 have hne:(!decide (V.int jj=V.int (ii+1)))=false:=by rw [hij];simp
 refine xn hne ?_
 refine qL fun _ Y=>?_
 obtain⟨hk1,_⟩:=wK hcb
 obtain⟨i,n,p,q,r,s1,l1,rfl,hi⟩:=vJ hk1
 apply Y
 obtain rfl:jj=((i+1:Nat):Int):=by omega
 refine qL fun _ Y=>?_
 obtain⟨M,hM⟩:=qSa hit hcb
 obtain⟨kS,kQ⟩:=kk i M hcb hM
 apply Y
 refine⟨_,rfl,ixO (e1 _ _ hd) qPq ⟨_,rfl,z,rd,ms,_,some t,rl,rfl,tT.same e1,hit,hrl.same e1,.int t,fun h=>(by have h':mmF rl ms t=none:=h;rw [hM] at h';cases h'),fun M' h H2 e2=>?_⟩⟩
 obtain rfl:M'=M:=by
  have h':mmF rl ms t=some M':=h
  rw [hM] at h'
  exact(Option.some.inj h').symm
 have e12:=e1.trans e2
 refine(ixO (e12 _ _ hd) qRf ⟨_,rfl,_,_,rfl,rfl,_,rfl,jf (fun c=>?_) (fun c=>?_)⟩)
 · have hc:M' < l:=by simpa using c
   exact⟨_,rfl,_,rfl,fun dx hdx=>kS hc dx _ (e12.trans (qF hdx _)) qD⟩
 have hc:l≤M':=by have:¬ M' < l:=by simpa using c
                  omega
 refine⟨_,rfl,ixO (e12 _ _ hd) qOq ?_⟩
 refine qL fun _ Y=>?_
 obtain⟨vs,hz,his⟩:=tT.same e12
 apply Y
 have hvl:=his.len
 have hpz2:=e2 _ _ hpz
 refine⟨_,rfl,ixO hpz2 at1 ⟨_,rfl,z,_,rfl,SqL.of hz,fun a1' ha1=>?_⟩⟩
 rw [qFf]
 have v1:=qF ha1 (.lst (vs.take (i+1)))
 refine(zA rfl (SqT.of ((e12.trans v1) _ _ hd)) qRf ⟨sL2,fun g hg=>⟨sL1,fun a2' ha2=>?_⟩⟩)
 have vg:=qF hg (.tup [.str "mix",.int l])
 have v2:=qF ha2 (.lst [.ref g])
 refine⟨a1',a2',_,_,rfl,rfl,v2 _ _ (vg _ _ qD),qD,sm _ (by rw [List.length_take];show min (i+1) _+1≤1000;omega),fun a3 ha3=>?_⟩
 have v3:=qF ha3 (.lst (vs.take (i+1)++[.ref g]))
 have v13:=((v1.trans vg).trans v2).trans v3
 have kg:(upd (upd (upd (upd H2 a1' (.lst (vs.take (i+1)))) g (.tup [.str "mix",.int l])) a2' (.lst [.ref g])) a3 (.lst (vs.take (i+1)++[.ref g]))) g=some (.tup [.str "mix",.int l]):=(v2.trans v3) _ _ qD
 have k3:(upd (upd (upd (upd H2 a1' (.lst (vs.take (i+1)))) g (.tup [.str "mix",.int l])) a2' (.lst [.ref g])) a3 (.lst (vs.take (i+1)++[.ref g]))) a3=some (.lst (vs.take (i+1)++[.ref g])):=qD
 change _
 generalize upd (upd (upd (upd H2 a1' (.lst (vs.take (i+1)))) g (.tup [.str "mix",.int l])) a2' (.lst [.ref g])) a3 (.lst (vs.take (i+1)++[.ref g]))=H3 at v13 kg k3
 refine⟨_,rfl,ixO (v13 _ _ hpz2) at1 ⟨_,rfl,z,_,rfl,SqL.of (v13 _ _ hz),fun a4 ha4=>?_⟩⟩
 rw [qGj]
 have v4:=qF ha4 (.lst (vs.drop (i+1)))
 refine⟨a3,a4,_,_,rfl,rfl,v4 _ _ k3,qD,sm _ (by rw [List.length_append,List.length_take,List.length_drop];show min (i+1) _+1+_≤1000;omega),fun a5 ha5=>?_⟩
 have v5:=qF ha5 (.lst (vs.take (i+1)++[.ref g]++vs.drop (i+1)))
 have v45:=v4.trans v5
 have e5:=(e12.trans v13).trans v45
 have hisE:=(his.ts (qc v13)).ts (qc v45)
 exact⟨tz,a5,n0,ts,tie,ms.take (i+1)++[.mix l]++ms.drop (i+1),rfl,hP.tab.same e5,⟨_,qD,(hisE.take.app (.one (isM (v45 _ _ kg)))).app hisE.drop⟩,hnt,by have:=hP.len;omega,fun t' H6 e6 hN=>kQ hc t' H6 (e5.trans e6) (hN H e5 (((e12.trans v13).trans v4).free ha5))⟩
inductive qCw (vs:List V)(H:Hp)(Q:VK)(_:XK):Prop
| mk (v u:V) (n n':Str) (b l b' l':Int) (_:vs=[v,u]) (_:IsI H (.nest n b l) v) (_:IsI H (.nest n' b' l') u) (_:Q (.bl (decide (n=n') && decide (b'=b+l))) H)
theorem qCx (T:Tx K mg a):FnOk P w K mg base CX0 1 a.A66 a.B66 ["one","other"] qCw:=by
 refine T.D66.F.ok qDh (fun vs H Q E h=>?_) (fun cdv A outer s H vs Q E hr h=>?_)
 · obtain⟨v,u,n,n',b,l,b',l',rfl,_⟩:=h
   rfl
 refine qL fun _ Y=>?_
 obtain⟨v,u,n,n',b,l,b',l',rfl,⟨z,rfl,hz⟩,⟨y,rfl,hy⟩,kk⟩:=h
 apply Y
 refine⟨_,(qE (qM (vk (jp jU (qI (pv 0)) (qI (pv 1)) (qN _)) (qBc (jp jU (qI (pv 1)) (qP qo (qI (pv 0)) (qI (pv 0))) (qN _)))))),?_⟩
 try dsimp only [je,qg]
 refine(ixO hz qOq (ixO hy qOq ⟨rfl,_,rfl,?_⟩))
 rw [qD5]
 by_cases hn:n=n'
 · rw [decide_eq_true hn] at kk ⊢
   refine xE (ixO hy qPq (ixO hz qPq (ixO hz qRf ⟨_,_,rfl,rfl,rfl,?_⟩)))
   have e:decide (V.int b'=V.int (b+l))=decide (b'=b+l):=by rw [Bool.eq_iff_iff];simp
   show Q (.bl (decide (V.int b'=V.int (b+l)))) H
   rw [e]
   exact kk
 · rw [decide_eq_false hn] at kk ⊢
   exact jQ kk
theorem wC {m:Im}(h:m.wd="clip"):∃ n p q r s l,m= .clip n p q r s l:=by
 cases m with
 | clip n p q r s l=>exact⟨n,p,q,r,s,l,rfl⟩
 | gap=>exact absurd (show ("gap":Str)="clip" from h) (by decide+kernel)
 | nest=>exact absurd (show ("nest":Str)="clip" from h) (by decide+kernel)
 | mix=>exact absurd (show ("mix":Str)="clip" from h) (by decide+kernel)
theorem qDo {m:Im}(h:m.wd="nest"):∃ n b l,m= .nest n b l:=by
 cases m with
 | nest n b l=>exact⟨n,b,l,rfl⟩
 | gap=>exact absurd (show ("gap":Str)="nest" from h) (by decide+kernel)
 | clip=>exact absurd (show ("clip":Str)="nest" from h) (by decide+kernel)
 | mix=>exact absurd (show ("mix":Str)="nest" from h) (by decide+kernel)
def wG:Im→Im→Bool
 | .clip n p q r s l,.clip n' p' q' r' s' _=>goB n n' p q r s l p' q' r' s'
 | .nest n b l,.nest n' b' _=>decide (n=n') && decide (b'=b+l)
 | _,_=>false
theorem zw {m m':Im}(h:wG m m'=true):(∃ n p q r s l n' p' q' r' s' l',m= .clip n p q r s l∧m'= .clip n' p' q' r' s' l')∨∃ n b l n' b' l',m= .nest n b l∧m'= .nest n' b' l':=by
 cases m <;> cases m' <;> first | cases h | exact .inl ⟨_,_,_,_,_,_,_,_,_,_,_,_,rfl,rfl⟩ | exact .inr ⟨_,_,_,_,_,_,rfl,rfl⟩
def ImH:Im→Prop
 | .clip _ p q r s l=>Bn 700 p q r s∧l.natAbs < 2 ^ 700
 | _=>True
inductive qFk (vs:List V)(H:Hp)(Q:VK)(_:XK):Prop
| mk (z:Addr) (v:V) (ms:List Im) (b:Bool) (_:vs=[.ref z,v]) (_:Tr H z ms) (_:((v= .non∧b=false)∨∃ (pz:Addr) (i j:Nat) (m m':Im),v= .ref pz∧H pz=some (.tup [.int (i:Int),.int (j:Int)])∧ms[i]? =some m∧ms[j]? =some m'∧ImH m∧b=wG m m')) (_:∀ H',Same H H'→Q (.bl b) H')
theorem qE9 (T:Tx K mg a):FnOk P w K mg base CX0 6 a.A67 a.B67 ["track","places"] qFk:=by
 refine T.D67.F.ok wI (fun vs H Q E h=>?_) (fun cdv A outer s H vs Q E hr h=>?_)
 · obtain⟨z,v,ms,b,rfl,_⟩:=h
   rfl
 refine qL fun _ Y=>?_
 obtain⟨z,v,ms,b,rfl,⟨vs,hz,his⟩,hv,kk⟩:=h
 apply Y
 refine⟨_,(qB (qd (qDk (qEo (pv 1))) (qE (qM z7)) qQ)
  (qB (qU 2 wI.nd (qv qZ (pv 0) (qI (pv 1)) (fun _ _=>rfl)))
  (qB (qU 3 wI.nd (qv qZ (pv 0) (qI (pv 1)) (fun _ _=>rfl)))
  (qB (qd (PW.pt (jZ (qJ jU (qI (pv 2)) qR (qN _)) (jM (qJ jU (qI (pv 3)) qR (qN _))))) (qE (qM (qK T.D17 (qLt T) hr rfl (qA (pv 2) (qA (pv 3) qC))))) qQ)
  (qE (qM (vk (jp jU (qI (pv 2)) qR (qN _)) (vk (jp jU (qI (pv 3)) qR (qN _)) (qBc (qK T.D66 (qCx T) hr rfl (qA (pv 2) (qA (pv 3) qC)))))))))))),?_⟩
 try dsimp only [je,qg]
 rcases hv with ⟨rfl,rfl⟩ | ⟨pz,i,j,m,m',rfl,hp,hi,hj,hb,rfl⟩
 · exact⟨_,rfl,_,rfl,vD (by decide) (kk _ (Same.refl _))⟩
 refine qL fun _ Y=>?_
 obtain⟨va,hva,Ia⟩:=his.get' hi
 obtain⟨vb,hvb,Ib⟩:=his.get' hj
 obtain⟨za,xa,rfl,hza,a0,_⟩:=Ia.opn
 obtain⟨zb,xb,rfl,hzb,b0,_⟩:=Ib.opn
 apply Y
 have k0:=kk H (Same.refl _)
 refine⟨_,rfl,_,rfl,jf (fun c=>absurd c (by simp)) (fun _=>?_)⟩
 refine⟨_,rfl,ixO hp at0 ⟨z,_,_,_,rfl,rfl,SqL.of hz,qX hva,?_⟩⟩
 refine⟨_,rfl,ixO hp at1 ⟨z,_,_,_,rfl,rfl,SqL.of hz,qX hvb,?_⟩⟩
 have dw:∀ {x:Im} {w:Str},x.wd=w→decide (V.str x.wd=V.str w)=true:=fun h=>by rw [h];simp
 have dn:∀ {x:Im} {w:Str},x.wd≠w→decide (V.str x.wd=V.str w)=false:=fun h=>by rw [qD5];exact decide_eq_false h
 have cn:("clip":Str)≠"nest":=by decide+kernel
 have nc:("nest":Str)≠"clip":=by decide+kernel
 have fin:¬ (m.wd="clip"∧m'.wd="clip")→¬ (m.wd="nest"∧m'.wd="nest")→wG m m'=false:=fun h1 h2=>by
  cases m <;> cases m' <;> first | rfl | exact absurd ⟨rfl,rfl⟩ h1 | exact absurd ⟨rfl,rfl⟩ h2
 have last:¬ (m.wd="clip"∧m'.wd="clip")→m.wd≠"nest"→wG m m'=false:=fun h1 h2=>fin h1 fun z=>h2 z.1
 by_cases h1:m.wd="clip"
 · refine(ixO hza a0 ⟨rfl,_,rfl,vD (dw h1) ?_⟩)
   by_cases h2:m'.wd="clip"
   · refine(ixO hzb b0 ⟨rfl,_,rfl,vD (dw h2) ?_⟩)
     refine qL fun _ Y=>?_
     obtain⟨n,p,q,r,s1,l,rfl⟩:=wC h1
     obtain⟨n',p',q',r',s2,l',rfl⟩:=wC h2
     apply Y
     exact⟨_,rfl,_,rfl,_,_,n,n',p,q,r,s1,l,p',q',r',s2,l',rfl,qHv Ia,qHv Ib,hb.1,hb.2,fun H1 e1=>kk H1 e1⟩
   · refine(ixO hzb b0 ⟨rfl,_,rfl,xn (dn h2) ?_⟩)
     rw [last (fun z=>h2 z.2) (by rw [h1];exact cn)] at k0
     exact(ixO hza a0 ⟨rfl,_,rfl,xn (dn (by rw [h1];exact cn)) k0⟩)
 · refine(ixO hza a0 ⟨rfl,_,rfl,xn (dn h1) (jQ ?_)⟩)
   by_cases h3:m.wd="nest"
   · refine(ixO hza a0 ⟨rfl,_,rfl,vD (dw h3) ?_⟩)
     by_cases h4:m'.wd="nest"
     · refine(ixO hzb b0 ⟨rfl,_,rfl,vD (dw h4) ?_⟩)
       refine qL fun _ Y=>?_
       obtain⟨n,b,l,rfl⟩:=qDo h3
       obtain⟨n',b',l',rfl⟩:=qDo h4
       apply Y
       exact⟨_,rfl,_,rfl,_,_,n,n',b,l,b',l',rfl,Ia,Ib,k0⟩
     · rw [fin (fun z=>h1 z.1) (fun z=>h4 z.2)] at k0
       exact(ixO hzb b0 ⟨rfl,_,rfl,xn (dn h4) k0⟩)
   · rw [last (fun z=>h1 z.1) h3] at k0
     exact(ixO hza a0 ⟨rfl,_,rfl,xn (dn h3) k0⟩)
def glue:Im→Im→Im
 | .clip n p q r s l,m'=>.clip n p q r s (l+m'.l)
 | .nest n b l,m'=>.nest n b (l+m'.l)
 | m,_=>m
def kc (ms:List Im)(t:Int):Option (List Im):=match nbF ms t with
 | none=>none
 | some (i,j)=>match ms[i.toNat]?,ms[j.toNat]? with
  | some m,some m'=>if wG m m'=true then some (ms.take i.toNat++[glue m m']++ms.drop (j.toNat+1)) else none
  | _,_=>none
theorem qKc:∀ (ms:List Im) (b:Int) (i:Nat) (t:Int) (j:Nat) (d:Int),jn b i ms t=some (j,d)→j < i+ms.length
 | [],_,_,_,_,_,h=>by cases h
 | m::ms,b,i,t,j,d,h=>by
  rw [jn] at h
  rw [List.length_cons]
  split at h
  · cases h;omega
  · have:=qKc ms _ _ _ _ _ h;omega
theorem qSl {ms:List Im}{t i j:Int}(h:nbF ms t=some (i,j)):∃ k:Nat,j=(k:Int)∧k < ms.length∧i < j:=by
 unfold nbF at h
 split at h
 · rename_i k d hi
   split at h
   · cases h
   · cases h
     have:=qKc _ _ _ _ _ _ hi
     exact⟨k,rfl,by omega,by split <;> omega⟩
 · cases h
inductive qG4 (N M:Addr)(vs:List V)(H:Hp)(Q:VK)(E:XK):Prop
| mk (tz dz:Addr) (ts:List (List Im)) (tie:List Int) (n0:Nat) (ms:List Im) (t:Int) (_:vs=[.ref tz,.ref dz]) (_:TabG H tz ts tie n0) (_:ts[n0]? =some ms) (_:H dz=some (.tup [.str "heal",.int (n0:Int),.int t])) (_:(∀ m∈ms,ImH m)) (_:(∀ i j,nbF ms t=some (i,j)→0≤i)) (_:(kc ms t=none→∀ H',Same H H'→E (.ref N) none H')) (_:∀ r,kc ms t=some r→(jw ts (chF tie (n0:Int) false) t t=true→∀ H',Same H H'→E (.ref M) none H')∧(jw ts (chF tie (n0:Int) false) t t=false→∀ (t':Addr) (H':Hp),Same H H'→NewTab H H' t' (ts.set n0 r) tie→Q (.ref t') H'))
theorem qV4:¬ (HT.sIx 5 0 none=0∧HT.sIx 5 5 (some (-1))=5):=by decide
theorem qVf:¬ (HT.sIx 4 0 none=0∧HT.sIx 4 4 (some (-1))=4):=by decide
theorem qHz (T:Tx K mg a):FnOk P w K mg base (CXR P w) 7 a.A68 a.B68 ["table","deed"] (qG4 a.k_NoPlace a.k_Mixed):=by
 refine okX T.D68.F vG (fun vs H Q E h=>?_) (fun cdv A outer s H vs Q E hr h=>?_)
 · obtain⟨tz,dz,ts,tie,n0,ms,t,rfl,_⟩:=h
   rfl
 refine qL fun _ Y=>?_
 obtain⟨tz,dz,ts,tie,n0,ms,t,rfl,hP,hms,hd,hIm,hpo,kb,kg⟩:=h
 apply Y
 refine⟨_,(qB (qU 2 vG.nd (qv qZ (qI (pv 0)) (qI (pv 1)) (fun _ _=>rfl)))
  (qB (qU 3 vG.nd (qK T.D31 (kZ T) hr rfl (qA (pv 2) (qA (qI (pv 1)) qC))))
  (qB (qd (zS (j4 (qK T.D67 (qE9 T) hr rfl (qA (pv 2) (qA (pv 3) qC))))) (qE (xR rfl rfl T.c_NoPlace T.x_NoPlace (qA qR qC))) qQ)
  (qB (jV (xy T.D64 (vQ T) hr rfl (qA (pv 0) (qA (pv 1) qC))))
  (qB (qU 4 vG.nd (qv qZ (pv 2) (qI (pv 3)) (fun _ _=>rfl)))
  (qB (qU 5 vG.nd (qP qQ9 (wW qSo (pv 4) qCs (qA0 (ka xK qG))) (ql (qA (qP qo (qv wg (pv 4) (ka xK qG) (fun _ _=>rfl)) (qv wg (qv qZ (pv 2) (qI (pv 3)) (fun _ _=>rfl)) (ka xK qG) (fun _ _=>rfl))) qC))))
  (qE (qM (qK T.D56 (kB T) hr rfl (qA (pv 0) (qA (qI (pv 1)) (qA (qP wJ (qP wJ (wW qGe (pv 2) qCs (qA0 (qI (pv 3)))) (jD (qA (pv 5) qC))) (wW qGe (pv 2) (qA0 (qP qo (qI (pv 3)) qG)) qCs)) qC)))))))))))),?_⟩
 try dsimp only [je,qg]
 have one:(1:Nat)≤sizeLine:=by decide
 have a1:atI [V.str "heal",.int (n0:Int),.int t] 1=some (.int (n0:Int)):=rfl
 have sm:∀ j:Nat,j≤1000→j≤sizeLine:=fun j h=>by have:=qf (n:=j) (by omega);omega
 refine qL fun _ Y=>?_
 obtain⟨tt,tl,ti,zs,e0,g2,g3,g4,g5⟩:=id hP.tab
 cases e0
 have hzl:=g4.len
 have hnt:=hP.nt
 have ez:zs[n0]? =some (zs[n0]'(by omega)):=List.getElem?_eq_getElem (by omega)
 obtain⟨ms',z,hms',ezz,tT⟩:=g4.get ez
 rw [hms] at hms'
 cases hms'
 rw [ezz] at ez
 obtain⟨hMB,hM1⟩:=hP.ok ms (List.mem_of_getElem? hms)
 apply Y
 refine(ixO g2 at0 (ixO hd qUz ⟨tl,_,_,_,rfl,rfl,SqL.of g3,qX ez,?_⟩))
 refine⟨_,rfl,ixO hd qU0 ⟨z,ms,_,rfl,tT,?_⟩⟩
 unfold kc at kb kg
 cases hnb:nbF ms t with
 | none=>
  rw [hnb] at kb
  intro H1 e1
  exact⟨_,rfl,_,rfl,z,_,ms,false,rfl,tT.same e1,.inl ⟨rfl,rfl⟩,fun H2 e2=>⟨false,rfl,xE ⟨one,kb rfl H2 (e1.trans e2)⟩⟩⟩
 | some rr=>
 refine qL fun _ Y=>?_
 obtain⟨ii,jj⟩:=rr
 obtain⟨k,rfl,hk,hij⟩:=qSl hnb
 have hi0:=hpo _ _ hnb
 obtain⟨i,rfl⟩:∃ i:Nat,ii=(i:Int):=⟨ii.toNat,by omega⟩
 obtain⟨m,hi⟩:∃ m,ms[i]? =some m:=⟨_,List.getElem?_eq_getElem (by omega)⟩
 obtain⟨m',hj⟩:∃ m,ms[k]? =some m:=⟨_,List.getElem?_eq_getElem hk⟩
 apply Y
 rw [hnb] at kb kg
 dsimp only at kb kg
 rw [Int.toNat_natCast,Int.toNat_natCast,hi,hj] at kb kg
 dsimp only at kb kg
 intro pz H1 e1 hpz
 refine⟨_,rfl,_,rfl,z,_,ms,wG m m',rfl,tT.same e1,.inr ⟨pz,i,k,m,m',rfl,hpz,hi,hj,hIm m (List.mem_of_getElem? hi),rfl⟩,fun H2 e2=>⟨_,rfl,?_⟩⟩
 have e12:=e1.trans e2
 cases hcan:wG m m' with
 | false=>
  rw [hcan] at kb
  exact xE ⟨one,kb rfl H2 e12⟩
 | true=>
 rw [hcan] at kg
 obtain⟨kM,kQ⟩:=kg _ rfl
 refine jQ ⟨_,rfl,_,rfl,tz,dz,ts,tie,n0,.hel t,rfl,hP.same e12,e12 _ _ hd,fun ht H3 e3=>kM ht H3 (e12.trans e3),fun ht H3 e3=>?_⟩
 have kQ:=kQ ht
 have e13:=e12.trans e3
 have hpz3:=(e2.trans e3) _ _ hpz
 refine qL fun _ Y=>?_
 obtain⟨vs,hz,his⟩:=tT.same e13
 have hvl:=his.len
 obtain⟨va,hva,Ia⟩:=his.get' hi
 obtain⟨vb,hvb,Ib⟩:=his.get' hj
 apply Y
 rcases zw hcan with ⟨n,p,q,r,s1,l,n',p',q',r',s2,l',rfl,rfl⟩ | ⟨n,b,l,n',b',l',rfl,rfl⟩
 · obtain⟨za,xa,ya,rfl,hza,hxa,hya⟩:=id Ia
   refine qL fun _ Y=>?_
   obtain⟨zb,xb,yb,rfl,hzb,hxb,hyb⟩:=id Ib
   apply Y
   refine⟨_,rfl,ixO hpz3 at0 ⟨z,_,_,_,rfl,rfl,SqL.of hz,qX hva,?_⟩⟩
   refine⟨_,rfl,1,rfl,_,rfl,za,_,rfl,SqT.of hza,qV4,fun t ht=>?_⟩
   have y1:=qF ht (.tup (xB [V.str "clip",.str n,.ref xa,.ref ya,.int l] none (some (-1))))
   have am1:atI [V.str "clip",.str n,.ref xa,.ref ya,.int l] (-1)=some (.int l):=rfl
   have bm1:atI [V.str "clip",.str n',.ref xb,.ref yb,.int l'] (-1)=some (.int l'):=rfl
   refine⟨_,rfl,1,rfl,za,_,_,_,rfl,rfl,SqT.of (y1 _ _ hza),am1,_,rfl,ixO (y1 _ _ hpz3) at1 ⟨z,_,_,_,rfl,rfl,SqL.of (y1 _ _ hz),qX hvb,1,rfl,zb,_,_,_,rfl,rfl,SqT.of (y1 _ _ hzb),bm1,_,_,rfl,rfl,one,fun t2 ht2=>?_⟩⟩
   have y2:=qF ht2 (.tup [.int (l+l')])
   refine⟨t,t2,_,_,rfl,rfl,SqT.of (y2 _ _ qD),SqT.of qD,(List.cons_ne_nil _ _),(by show 4+1≤sizeLine;decide),fun z=>absurd z (by simp),fun _ t3 ht3=>?_⟩
   have y3:=qF ht3 (.tup (xB [V.str "clip",.str n,.ref xa,.ref ya,.int l] none (some (-1))++[.int (l+l')]))
   have y13:=(y1.trans y2).trans y3
   have IW:IsI (upd (upd (upd H3 t (.tup (xB [V.str "clip",.str n,.ref xa,.ref ya,.int l] none (some (-1))))) t2 (.tup [.int (l+l')])) t3 (.tup (xB [V.str "clip",.str n,.ref xa,.ref ya,.int l] none (some (-1))++[.int (l+l')]))) (.clip n p q r s1 (l+l')) (.ref t3):=⟨t3,xa,ya,rfl,qD,y13 _ _ hxa,y13 _ _ hya⟩
   change _
   generalize upd (upd (upd H3 t (.tup (xB [V.str "clip",.str n,.ref xa,.ref ya,.int l] none (some (-1))))) t2 (.tup [.int (l+l')])) t3 (.tup (xB [V.str "clip",.str n,.ref xa,.ref ya,.int l] none (some (-1))++[.int (l+l')]))=H4 at y13 IW
   have e4:=e13.trans y13
   refine⟨_,rfl,ixO (e4 _ _ hd) a1 ?_⟩
   refine⟨_,rfl,ixO (y13 _ _ hpz3) at0 ⟨_,rfl,z,_,rfl,SqL.of (y13 _ _ hz),fun a1' ha1=>?_⟩⟩
   have v1:=qF ha1 (.lst (xB vs none (some (i:Int))))
   refine⟨_,rfl,one,fun a2' ha2=>?_⟩
   have v2:=qF ha2 (.lst [.ref t3])
   have c1:=xL vs none (some (i:Int))
   have c2:=xL vs (some ((k:Int)+1)) none
   refine⟨a1',a2',_,_,rfl,rfl,v2 _ _ qD,qD,sm _ (by show (xB vs none (some (i:Int))).length+1≤1000;omega),fun a3 ha3=>?_⟩
   have v3:=qF ha3 (.lst (xB vs none (some (i:Int))++[.ref t3]))
   have v13:=(v1.trans v2).trans v3
   refine⟨_,rfl,zA rfl (SqT.of ((y13.trans v13) _ _ hpz3)) at1 ⟨_,_,rfl,rfl,_,rfl,z,_,rfl,SqL.of ((y13.trans v13) _ _ hz),fun a4 ha4=>?_⟩⟩
   have v4:=qF ha4 (.lst (xB vs (some ((k:Int)+1)) none))
   refine⟨a3,a4,_,_,rfl,rfl,v4 _ _ qD,qD,sm _ (by rw [List.length_append];show (xB vs none (some (i:Int))).length+1+_≤1000;omega),fun a5 ha5=>?_⟩
   have h5:=(v13.trans v4).free ha5
   have v5:=qF ha5 (.lst (xB vs none (some (i:Int))++[.ref t3]++xB vs (some ((k:Int)+1)) none))
   have v15:=(v13.trans v4).trans v5
   have e5:=e4.trans v15
   have ed:xB vs (some ((k:Int)+1)) none=vs.drop (k+1):=by
    rw [show (k:Int)+1=((k+1:Nat):Int) by omega]
    exact qGj vs (k+1)
   have hisE:=(his.ts (qc y13)).ts (qc v15)
   have IWE:=IW.ts (qc v15)
   have kE:(upd (upd (upd (upd (upd H4 a1' (.lst (xB vs none (some (i:Int))))) a2' (.lst [.ref t3])) a3 (.lst (xB vs none (some (i:Int))++[.ref t3]))) a4 (.lst (xB vs (some ((k:Int)+1)) none))) a5 (.lst (xB vs none (some (i:Int))++[.ref t3]++xB vs (some ((k:Int)+1)) none))) a5=some (.lst (xB vs none (some (i:Int))++[.ref t3]++xB vs (some ((k:Int)+1)) none)):=qD
   change _
   generalize (upd (upd (upd (upd (upd H4 a1' (.lst (xB vs none (some (i:Int))))) a2' (.lst [.ref t3])) a3 (.lst (xB vs none (some (i:Int))++[.ref t3]))) a4 (.lst (xB vs (some ((k:Int)+1)) none))) a5 (.lst (xB vs none (some (i:Int))++[.ref t3]++xB vs (some ((k:Int)+1)) none)))=HB at e5 hisE IWE kE
   rw [qFf,ed] at kE
   exact⟨tz,a5,n0,ts,tie,ms.take i++[.clip n p q r s1 (l+l')]++ms.drop (k+1),rfl,hP.tab.same e5,⟨_,kE,(hisE.take.app (.one IWE)).app hisE.drop⟩,hnt,by have:=hP.len;omega,fun t' H6 e6 hN=>kQ t' H6 (e5.trans e6) (hN H e5 (e4.free h5))⟩
 · obtain⟨za,rfl,hza⟩:=id Ia
   refine qL fun _ Y=>?_
   obtain⟨zb,rfl,hzb⟩:=id Ib
   apply Y
   refine⟨_,rfl,ixO hpz3 at0 ⟨z,_,_,_,rfl,rfl,SqL.of hz,qX hva,?_⟩⟩
   refine⟨_,rfl,1,rfl,_,rfl,za,_,rfl,SqT.of hza,qVf,fun t ht=>?_⟩
   have y1:=qF ht (.tup (xB [V.str "nest",.str n,.int b,.int l] none (some (-1))))
   have am1:atI [V.str "nest",.str n,.int b,.int l] (-1)=some (.int l):=rfl
   have bm1:atI [V.str "nest",.str n',.int b',.int l'] (-1)=some (.int l'):=rfl
   refine⟨_,rfl,1,rfl,za,_,_,_,rfl,rfl,SqT.of (y1 _ _ hza),am1,_,rfl,ixO (y1 _ _ hpz3) at1 ⟨z,_,_,_,rfl,rfl,SqL.of (y1 _ _ hz),qX hvb,1,rfl,zb,_,_,_,rfl,rfl,SqT.of (y1 _ _ hzb),bm1,_,_,rfl,rfl,one,fun t2 ht2=>?_⟩⟩
   have y2:=qF ht2 (.tup [.int (l+l')])
   refine⟨t,t2,_,_,rfl,rfl,SqT.of (y2 _ _ qD),SqT.of qD,(List.cons_ne_nil _ _),(by show 3+1≤sizeLine;decide),fun z=>absurd z (by simp),fun _ t3 ht3=>?_⟩
   have y3:=qF ht3 (.tup (xB [V.str "nest",.str n,.int b,.int l] none (some (-1))++[.int (l+l')]))
   have y13:=(y1.trans y2).trans y3
   have IW:IsI (upd (upd (upd H3 t (.tup (xB [V.str "nest",.str n,.int b,.int l] none (some (-1))))) t2 (.tup [.int (l+l')])) t3 (.tup (xB [V.str "nest",.str n,.int b,.int l] none (some (-1))++[.int (l+l')]))) (.nest n b (l+l')) (.ref t3):=⟨t3,rfl,qD⟩
   change _
   generalize upd (upd (upd H3 t (.tup (xB [V.str "nest",.str n,.int b,.int l] none (some (-1))))) t2 (.tup [.int (l+l')])) t3 (.tup (xB [V.str "nest",.str n,.int b,.int l] none (some (-1))++[.int (l+l')]))=H4 at y13 IW
   have e4:=e13.trans y13
   refine⟨_,rfl,ixO (e4 _ _ hd) a1 ?_⟩
   refine⟨_,rfl,ixO (y13 _ _ hpz3) at0 ⟨_,rfl,z,_,rfl,SqL.of (y13 _ _ hz),fun a1' ha1=>?_⟩⟩
   have v1:=qF ha1 (.lst (xB vs none (some (i:Int))))
   refine⟨_,rfl,one,fun a2' ha2=>?_⟩
   have v2:=qF ha2 (.lst [.ref t3])
   have c1:=xL vs none (some (i:Int))
   have c2:=xL vs (some ((k:Int)+1)) none
   refine⟨a1',a2',_,_,rfl,rfl,v2 _ _ qD,qD,sm _ (by show (xB vs none (some (i:Int))).length+1≤1000;omega),fun a3 ha3=>?_⟩
   have v3:=qF ha3 (.lst (xB vs none (some (i:Int))++[.ref t3]))
   have v13:=(v1.trans v2).trans v3
   refine⟨_,rfl,zA rfl (SqT.of ((y13.trans v13) _ _ hpz3)) at1 ⟨_,_,rfl,rfl,_,rfl,z,_,rfl,SqL.of ((y13.trans v13) _ _ hz),fun a4 ha4=>?_⟩⟩
   have v4:=qF ha4 (.lst (xB vs (some ((k:Int)+1)) none))
   refine⟨a3,a4,_,_,rfl,rfl,v4 _ _ qD,qD,sm _ (by rw [List.length_append];show (xB vs none (some (i:Int))).length+1+_≤1000;omega),fun a5 ha5=>?_⟩
   have h5:=(v13.trans v4).free ha5
   have v5:=qF ha5 (.lst (xB vs none (some (i:Int))++[.ref t3]++xB vs (some ((k:Int)+1)) none))
   have v15:=(v13.trans v4).trans v5
   have e5:=e4.trans v15
   have ed:xB vs (some ((k:Int)+1)) none=vs.drop (k+1):=by
    rw [show (k:Int)+1=((k+1:Nat):Int) by omega]
    exact qGj vs (k+1)
   have hisE:=(his.ts (qc y13)).ts (qc v15)
   have IWE:=IW.ts (qc v15)
   have kE:(upd (upd (upd (upd (upd H4 a1' (.lst (xB vs none (some (i:Int))))) a2' (.lst [.ref t3])) a3 (.lst (xB vs none (some (i:Int))++[.ref t3]))) a4 (.lst (xB vs (some ((k:Int)+1)) none))) a5 (.lst (xB vs none (some (i:Int))++[.ref t3]++xB vs (some ((k:Int)+1)) none))) a5=some (.lst (xB vs none (some (i:Int))++[.ref t3]++xB vs (some ((k:Int)+1)) none)):=qD
   change _
   generalize (upd (upd (upd (upd (upd H4 a1' (.lst (xB vs none (some (i:Int))))) a2' (.lst [.ref t3])) a3 (.lst (xB vs none (some (i:Int))++[.ref t3]))) a4 (.lst (xB vs (some ((k:Int)+1)) none))) a5 (.lst (xB vs none (some (i:Int))++[.ref t3]++xB vs (some ((k:Int)+1)) none)))=HB at e5 hisE IWE kE
   rw [qFf,ed] at kE
   exact⟨tz,a5,n0,ts,tie,ms.take i++[.nest n b (l+l')]++ms.drop (k+1),rfl,hP.tab.same e5,⟨_,kE,(hisE.take.app (.one IWE)).app hisE.drop⟩,hnt,by have:=hP.len;omega,fun t' H6 e6 hN=>kQ t' H6 (e5.trans e6) (hN H e5 (e4.free h5))⟩
inductive Res where
 | place
 | mixed
 | clip
 | short (M:Int)
 | good (ts:List (List Im))
def qUj:Nat→Res
 | 0=>.place
 | 1=>.mixed
 | _=>.clip
inductive DdX (K:W.Frag)(H:Hp)(rd dz:Addr)(rl:Rls)(ts:List (List Im))(tie:List Int):Res→Prop where
 | place {xs:List V} {w:Str} {n t:V} {on ot:Option Int} (hd:H dz=some (.tup xs)) (a0:atI xs 0=some (.str w)) (a1:atI xs 1=some n) (a2:atI xs 2=some t) (hw:¬ Wd3 w) (hn:Nu H n on) (ht:Nu H t ot) (h:qL8 ts.length on ot=false):DdX K H rd dz rl ts tie .place
 | heal {n:Nat} {t:Int} {ms:List Im} {r:Res} (hd:H dz=some (.tup [.str "heal",.int (n:Int),.int t])) (hm:ts[n]? =some ms) (h0:0≤t) (hIm:∀ m∈ms,ImH m) (hpo:∀ i j,nbF ms t=some (i,j)→0≤i) (hr:r=match kc ms t with | none=>.place | some ms'=>if jw ts (chF tie (n:Int) false) t t=true then .mixed else .good (ts.set n ms')):DdX K H rd dz rl ts tie r
 | mix {n i:Nat} {t l M:Int} {ms:List Im} {r:Res} (hd:H dz=some (.tup [.str "mix",.int (n:Int),.int t,.int l])) (hm:ts[n]? =some ms) (h0:0≤t) (hl:1≤l) (hc:cbF ms t=some ((i:Int),((i+1:Nat):Int))) (hM:mmF rl ms t=some M) (hr:r=if M < l then .short M else .good (ts.set n (ms.take (i+1)++[.mix l]++ms.drop (i+1)))):DdX K H rd dz rl ts tie r
 | chg0 {xs:List V} {w:Str} {n:Nat} {t:Int} {o:Option Int} {ms:List Im} {c:Nat} (hd:H dz=some (.tup xs)) (hw:ChW w) (a1:atI xs 1=some (.int (n:Int))) (hN:qUb H xs w t o) (hm:ts[n]? =some ms) (h0:0≤t) (hb:qGs w t o=true) (h:ChO K H rd dz n ts tie ms c) (hc:c≠2):DdX K H rd dz rl ts tie (qUj c)
 | chg {xs:List V} {w:Str} {n:Nat} {t:Int} {o:Option Int} {ms:List Im} {d:Dk} (hd:H dz=some (.tup xs)) (hw:ChW w) (a1:atI xs 1=some (.int (n:Int))) (hN:qUb H xs w t o) (hm:ts[n]? =some ms) (h0:0≤t) (hb:qGs w t o=true) (hD:DAt H dz (n:Int) d) (hO:DOk H rd ms d) (ht:jw ts (chF tie (n:Int) d.push) d.t d.hi=false):DdX K H rd dz rl ts tie (.good (qL4 ts d (n:Int) (chF tie (n:Int) d.push)))
inductive qCb (K:W.Frag)(N M C S:Addr)(vs:List V)(H:Hp)(Q:VK)(E:XK):Prop
| mk (tz dz rd:Addr) (rl:Rls) (ts:List (List Im)) (tie:List Int) (r:Res) (_:vs=[.ref tz,.ref dz,.ref rd]) (_:TabD H tz rd rl ts tie) (_:DdX K H rd dz rl ts tie r) (_:(r= .place→∀ H',Same H H'→E (.ref N) none H')) (_:(r= .mixed→∀ H',Same H H'→E (.ref M) none H')) (_:(r= .clip→∀ H',Same H H'→E (.ref C) none H')) (_:(∀ m,r= .short m→∀ (dx:Addr) (H':Hp),Same H H'→H' dx=some (.xd [("most",.int m)])→E (.ref S) (some dx) H')) (_:(∀ ts',r= .good ts'→∀ (t':Addr) (H':Hp),Same H H'→NewTab H H' t' ts' tie→Q (.ref t') H'))
theorem NewTab.back {H H1 H':Hp}(e1:Same H H1){t:Addr}{ts:List (List Im)}{tie:List Int}(h:NewTab H1 H' t ts tie):NewTab H H' t ts tie:=
 let ⟨tl,ti,zs,q1,q2,q3,q4,q5,q6,q7,q8⟩:=h.ex
 ⟨tl,ti,zs,q1,q2,q3,q4,e1.free q5,e1.free q6,q7,fun b hb=>⟨e1.free (q8 b hb).1,(q8 b hb).2⟩⟩
theorem vK (T:Tx K mg a):FnOk P w K mg base (CXR P w) 10 a.A73 a.B73 ["table","deed","reels"] (qCb K a.k_NoPlace a.k_Mixed a.k_NoClip a.k_Short):=by
 refine okX T.D73.F qHb (fun vs H Q E h=>?_) (fun cdv A outer s H vs Q E hr h=>?_)
 · obtain⟨tz,dz,rd,rl,ts,tie,r,rfl,_⟩:=h
   rfl
 refine qL fun _ Y=>?_
 obtain⟨tz,dz,rd,rl,ts,tie,r,rfl,hP,hC,k0,k1,k3,k4,k2⟩:=h
 apply Y
 refine⟨_,(qB (qd (qJ xW (qI (pv 1)) (xh (v:=.ref a.n_ROLLS) rfl T.g_ROLLS rfl) rfl) wm qQ)
  (qB (jV (xy T.D45 (qCd T) hr rfl (qA (pv 0) (qA (qI (pv 1)) (qA (qI (pv 1)) qC)))))
  (qB (jV (xy T.D62 (qAv T) hr rfl (qA (pv 1) qC)))
  (qB (qd (qJ jU (qI (pv 1)) qR (qN _)) (qE (qM (xy T.D68 (qHz T) hr rfl (qA (pv 0) (qA (pv 1) qC))))) qQ)
  (qB (qd (qJ jU (qI (pv 1)) qR (qN _)) (qE (qM (xy T.D69 (qI0 T) hr rfl (qA (pv 0) (qA (pv 1) (qA (pv 2) qC)))))) qQ)
  (qB (qd (qJ jU (qI (pv 1)) qR (qN _)) wm qQ)
  (qB (jV (xy T.D65 (qBo T) hr rfl (qA (pv 0) (qA (pv 1) (qA (pv 2) qC)))))
  (qE (qM (qK T.D72 (qG0 T) hr rfl (qA (pv 0) (qA (pv 1) qC)))))))))))),?_⟩
 try dsimp only [je,qg]
 refine qL fun _ Y=>?_
 obtain⟨tt,tl,ti,zs,e0,g2,g3,g4,g5⟩:=id hP.tab
 cases e0
 apply Y
 have hzl:=g4.len
 have r0:=Same.refl H
 have pl:∀ {n:Nat} {t:Int},n < ts.length→0≤t→qL8 zs.length (some (n:Int)) (some t)=true:=fun {n t} h1 h2=>by
  unfold qL8
  dsimp only
  rw [hzl,decide_eq_true (show (0:Int)≤(n:Int) by omega),decide_eq_true (show (n:Int) < ts.length by omega),decide_eq_true h2]
  rfl
 cases hC with
 | @place xs w n t on ot hd a0 a1 a2 hw hn ht h=>
  refine(ixO hd a0 ⟨a.n_ROLLS,_,rfl,.inr (T.sq_ROLLS _),rfl,rfl,false,qCu (by rw [wo];exact decide_eq_false hw),jQ ?_⟩)
  exact⟨_,rfl,ixO hd a1 (ixO hd a2 ⟨tz,tl,ti,zs,n,t,on,ot,rfl,g2,g3,hn,ht,fun _=>k0 rfl H r0,fun hg=>(by rw [hzl,h] at hg;cases hg)⟩)⟩
 | @heal n t ms r hd hm h0 hIm hpo hr'=>
  have a0:atI [V.str "heal",.int (n:Int),.int t] 0=some (.str "heal"):=rfl
  have a1:atI [V.str "heal",.int (n:Int),.int t] 1=some (.int (n:Int)):=rfl
  have a2:atI [V.str "heal",.int (n:Int),.int t] 2=some (.int t):=rfl
  have hw:¬ Wd3 "heal":=by decide+kernel
  refine(ixO hd a0 ⟨a.n_ROLLS,_,rfl,.inr (T.sq_ROLLS _),rfl,rfl,false,qCu (by rw [wo];exact decide_eq_false hw),jQ ?_⟩)
  refine⟨_,rfl,ixO hd a1 (ixO hd a2 ⟨tz,tl,ti,zs,_,_,some ((n:Int)),some t,rfl,g2,g3,.int _,.int _,fun hf=>(by rw [pl (glt hm) h0] at hf;cases hf),fun _=>?_⟩)⟩
  refine⟨_,rfl,dz,_,"heal",t,none,rfl,hd,⟨a0,a2,fun z=>absurd z (by decide+kernel)⟩,fun z=>(by unfold qGs at z;rw [if_neg (by decide+kernel),if_neg (by decide+kernel)] at z;cases z),fun _ H1 e1=>?_⟩
  have hG:=(hP.g (glt hm)).same e1
  refine(ixO (e1 _ _ hd) a0 ⟨rfl,_,rfl,vD (by decide+kernel) ?_⟩)
  refine⟨_,rfl,_,rfl,tz,dz,ts,tie,n,ms,t,rfl,hG,hm,e1 _ _ hd,hIm,hpo,fun h H2 e2=>?_,fun ms' h=>⟨fun ht H2 e2=>?_,fun ht t' H2 e2 hN=>?_⟩⟩
  · rw [h] at hr'
    exact k0 hr' H2 (e1.trans e2)
  · rw [h] at hr'
    dsimp only at hr'
    rw [ht,if_pos rfl] at hr'
    exact k1 hr' H2 (e1.trans e2)
  · rw [h] at hr'
    dsimp only at hr'
    rw [ht,if_neg (by decide)] at hr'
    exact k2 _ hr' t' H2 (e1.trans e2) (hN.back e1)
 | @mix n i t l M ms r hd hm h0 hl hc hM hr'=>
  have a0:atI [V.str "mix",.int (n:Int),.int t,.int l] 0=some (.str "mix"):=rfl
  have a1:atI [V.str "mix",.int (n:Int),.int t,.int l] 1=some (.int (n:Int)):=rfl
  have a2:atI [V.str "mix",.int (n:Int),.int t,.int l] 2=some (.int t):=rfl
  have hw:¬ Wd3 "mix":=by decide+kernel
  have hnb:qGs "mix" t (some l)=true:=by
   unfold qGs
   rw [if_pos (.inr rfl)]
   exact decide_eq_true hl
  refine(ixO hd a0 ⟨a.n_ROLLS,_,rfl,.inr (T.sq_ROLLS _),rfl,rfl,false,qCu (by rw [wo];exact decide_eq_false hw),jQ ?_⟩)
  refine⟨_,rfl,ixO hd a1 (ixO hd a2 ⟨tz,tl,ti,zs,_,_,some ((n:Int)),some t,rfl,g2,g3,.int _,.int _,fun hf=>(by rw [pl (glt hm) h0] at hf;cases hf),fun _=>?_⟩)⟩
  refine⟨_,rfl,dz,_,"mix",t,some l,rfl,hd,⟨a0,a2,fun _=>⟨_,rfl,.int l⟩⟩,fun z=>(by rw [hnb] at z;cases z),fun _ H1 e1=>?_⟩
  have hG:=(hP.g (glt hm)).same e1
  have hit:=(hP.ok ms (List.mem_of_getElem? hm)).2.2
  refine(ixO (e1 _ _ hd) a0 ⟨rfl,_,rfl,xn (by decide+kernel) ?_⟩)
  refine(ixO (e1 _ _ hd) a0 ⟨rfl,_,rfl,vD (by decide+kernel) ?_⟩)
  refine⟨_,rfl,_,rfl,_,rfl,tz,dz,rd,ts,tie,n,ms,t,l,rl,rfl,hG,hm,e1 _ _ hd,hit,hP.re.same e1,fun h H2 e2=>?_,fun i' M' hc' hM'=>?_⟩
  · rcases h with h | ⟨x,y,h,hxy⟩
    · rw [hc] at h;cases h
    · rw [hc] at h
      cases h
      exact absurd (by omega) hxy
  · rw [hc] at hc'
    rw [hM] at hM'
    refine qL fun _ Y=>?_
    cases hM'
    have ei:i'=i:=by
     have:=congrArg Prod.fst (Option.some.inj hc')
     dsimp only at this
     omega
    subst ei
    apply Y
    refine⟨fun hlt dx H2 e2 hx=>?_,fun hle t' H2 e2 hN=>?_⟩
    · rw [if_pos hlt] at hr'
      exact k4 _ hr' dx H2 (e1.trans e2) hx
    · rw [if_neg (by omega)] at hr'
      exact k2 _ hr' t' H2 (e1.trans e2) (hN.back e1)
 | @chg0 xs w n t o ms c hd hcw a1 hN hm h0 hb h hc2=>
  have a0:=hN.1
  have a2:=hN.2.1
  have hw:¬ Wd3 w:=by rcases hcw with rfl | rfl | rfl | rfl | rfl | rfl <;> decide+kernel
  have w1:decide (V.str w=V.str "heal")=false:=by rcases hcw with rfl | rfl | rfl | rfl | rfl | rfl <;> decide+kernel
  have w2:decide (V.str w=V.str "mix")=false:=by rcases hcw with rfl | rfl | rfl | rfl | rfl | rfl <;> decide+kernel
  have w3:decide (V.str w=V.str "unmix")=false:=by rcases hcw with rfl | rfl | rfl | rfl | rfl | rfl <;> decide+kernel
  have hG:=hP.g (glt hm)
  refine(ixO hd a0 ⟨a.n_ROLLS,_,rfl,.inr (T.sq_ROLLS _),rfl,rfl,false,qCu (by rw [wo];exact decide_eq_false hw),jQ ?_⟩)
  refine⟨_,rfl,ixO hd a1 (ixO hd a2 ⟨tz,tl,ti,zs,_,_,some ((n:Int)),some t,rfl,g2,g3,.int _,.int _,fun hf=>(by rw [pl (glt hm) h0] at hf;cases hf),fun _=>?_⟩)⟩
  refine⟨_,rfl,dz,xs,w,t,o,rfl,hd,hN,fun z=>(by rw [hb] at z;cases z),fun _ H1 e1=>?_⟩
  refine(ixO (e1 _ _ hd) a0 ⟨rfl,_,rfl,xn w1 ?_⟩)
  refine(ixO (e1 _ _ hd) a0 ⟨rfl,_,rfl,xn w2 ?_⟩)
  refine(ixO (e1 _ _ hd) a0 ⟨rfl,_,rfl,xn w3 ?_⟩)
  refine⟨_,rfl,_,rfl,_,rfl,tz,dz,rd,ts,tie,n,ms,c,rfl,hG.same e1,hm,h.same e1,fun hc H2 e2=>k0 (by rw [hc];rfl) H2 (e1.trans e2),fun hc H2 e2=>k1 (by rw [hc];rfl) H2 (e1.trans e2),fun hc H2 e2=>k3 (by rw [hc];rfl) H2 (e1.trans e2),fun hc=>absurd hc hc2⟩
 | @chg xs w n t o ms d hd hcw a1 hN hm h0 hb hD hO ht=>
  have a0:=hN.1
  have a2:=hN.2.1
  have hw:¬ Wd3 w:=by rcases hcw with rfl | rfl | rfl | rfl | rfl | rfl <;> decide+kernel
  have w1:decide (V.str w=V.str "heal")=false:=by rcases hcw with rfl | rfl | rfl | rfl | rfl | rfl <;> decide+kernel
  have w2:decide (V.str w=V.str "mix")=false:=by rcases hcw with rfl | rfl | rfl | rfl | rfl | rfl <;> decide+kernel
  have w3:decide (V.str w=V.str "unmix")=false:=by rcases hcw with rfl | rfl | rfl | rfl | rfl | rfl <;> decide+kernel
  have hG:=hP.g (glt hm)
  refine(ixO hd a0 ⟨a.n_ROLLS,_,rfl,.inr (T.sq_ROLLS _),rfl,rfl,false,qCu (by rw [wo];exact decide_eq_false hw),jQ ?_⟩)
  refine⟨_,rfl,ixO hd a1 (ixO hd a2 ⟨tz,tl,ti,zs,_,_,some ((n:Int)),some t,rfl,g2,g3,.int _,.int _,fun hf=>(by rw [pl (glt hm) h0] at hf;cases hf),fun _=>?_⟩)⟩
  refine⟨_,rfl,dz,xs,w,t,o,rfl,hd,hN,fun z=>(by rw [hb] at z;cases z),fun _ H1 e1=>?_⟩
  refine(ixO (e1 _ _ hd) a0 ⟨rfl,_,rfl,xn w1 ?_⟩)
  refine(ixO (e1 _ _ hd) a0 ⟨rfl,_,rfl,xn w2 ?_⟩)
  refine(ixO (e1 _ _ hd) a0 ⟨rfl,_,rfl,xn w3 ?_⟩)
  refine⟨_,rfl,_,rfl,_,rfl,tz,dz,rd,ts,tie,n,ms,2,rfl,hG.same e1,hm,(ChO.ok hD hO (by rw [ht];rfl)).same e1,(fun hc=>by cases hc),(fun hc=>by cases hc),(fun hc=>by cases hc),fun _ H2 e2=>?_⟩
  have e12:=e1.trans e2
  exact⟨_,rfl,_,rfl,tz,dz,rd,ts,tie,n,d,ms,rfl,hG.same e12,hD.same e12,hO.same e12,fun t' H3 e3 hN=>k2 _ rfl t' H3 (e12.trans e3) (hN.back e12)⟩
inductive qEa (vs:List V)(H:Hp)(Q:VK)(_:XK):Prop
| mk (c n:Int) (_:vs=[.int c,.int n]) (_:0≤n) (_:n≤400) (_:∀ (z:Addr) (xs:List Int) (H':Hp),Same H H'→H z=none→H' z=some (.lst (xs.map V.int))→xs.length=n.toNat→(∀ x∈xs,0≤x∧x < 10000000019)→Q (.ref z) H')
theorem vp (T:Tx K mg a):FnOk P w K mg base CX0 1 a.A77 a.B77 ["_law_cell","_law_size"] qEa:=by
 refine T.D77.F.ok jG (fun vs H Q E h=>?_) (fun cdv A outer s H vs Q E hr h=>?_)
 · obtain⟨c,n,rfl,_⟩:=h
   rfl
 refine qL fun _ Y=>?_
 obtain⟨c,n,rfl,n0,n1,kk⟩:=h
 apply Y
 refine⟨_,(qB (qU 2 jG.nd (jD qC))
  (qB (qd (qJ qLj (pv 0) (qP qQl qG qG) (qN _)) (qB (qU 3 jG.nd (qP qj (pv 0) qG))
  (qB (j2 PassesOwn.never rfl (xF rfl T.b_range (qA (pv 1) qC)) (qt (i:=4) jG.nd rfl (Or.inl rfl)) (qB (jV (qAo F.plainAttrs_list F.slot_list_append F.type_list_append jT (pv 2) (qA (qP jA (pv 3) qG) qC)))
  (qE (qU 3 jG.nd (qP qj (pv 3) qG)))))
  (qE (qM (qTo (pv 2)))))) qQ)
  (qB (qU 5 jG.nd (qP jA (qP qr (qP qo (qP jA (pv 0) qG) qG) qG) qG))
  (qB (j2 PassesOwn.never rfl (xF rfl T.b_range (qA (pv 1) qC)) (qt (i:=4) jG.nd rfl (Or.inl rfl)) (qB (qU 5 jG.nd (qP qo (qP qo (qP jA (qP qr (pv 5) (qP qo (qP qj (pv 5) qG) qG)) qG) (pv 4)) qG))
  (qE (jV (qAo F.plainAttrs_list F.slot_list_append F.type_list_append jT (pv 2) (qA (pv 5) qC))))))
  (qE (qM (pv 2))))))),?_⟩
 try dsimp only [je,qg]
 refine⟨sL0,fun z hz=>?_⟩
 have wz:∀ (xs:List Int),Same H (upd H z (.lst (xs.map V.int))):=fun xs=>qF hz _
 refine⟨_,rfl,_,_,rfl,rfl,cpw (n:=40) (by decide),_,_,rfl,rfl,_,rfl,jf (fun _=>?_) (fun _=>?_)⟩
 · refine⟨_,rfl,_,_,rfl,rfl,cdB (by decide) (by decide),?_⟩
   refine⟨_,rfl,n,rfl,by omega,by omega,zE (n:=n.toNat) (fun i σ H'=>∃ (xs:List Int) (r:Int) (o p:Option V),σ=[some (.int c),some (.int n),some (.ref z),some (.int r),o,p]∧H'=upd H z (.lst (xs.map V.int))∧xs.length=i∧(∀ x∈xs,0≤x∧x < 10000000019))
    ⟨[],_,none,none,rfl,rfl,rfl,(by simp)⟩ ?_ ?_⟩
   · rintro i σ H' hi ⟨xs,r,o,p,rfl,rfl,hl,hx⟩
     have f:=fm r (show (0:Int) < 10000000019 by decide)
     refine⟨_,rfl,.inl ⟨rfl,_,SqL.of qD⟩,_,rfl,_,_,rfl,rfl,nz,z,_,_,rfl,rfl,qD,(by rw [List.length_map];exact qf (by omega)),?_⟩
     refine⟨_,rfl,_,_,rfl,rfl,cdB (by decide) (by decide),xs++[r.fmod 10000000019],_,_,_,rfl,?_,?_,?_⟩
     · rw [qJv,List.map_append];rfl
     · rw [List.length_append,hl];rfl
     · intro y hy
       rcases List.mem_append.mp hy with hy | hy
       · exact hx y hy
       · have e:y=r.fmod 10000000019:=by simpa using hy
         rw [e];exact f
   · rintro σ H' ⟨xs,r,o,p,rfl,rfl,hl,hx⟩
     refine⟨_,rfl,z,_,rfl,SqL.of qD,fun y hy=>?_⟩
     rw [← List.map_reverse]
     exact kk y xs.reverse _ ((wz xs).trans (qF hy _)) ((wz xs).free hy) qD (by rw [List.length_reverse];exact hl) (fun x hx'=>hx x (List.mem_reverse.mp hx'))
 · have f0:=fm c (show (0:Int) < 2147483647 by decide)
   refine⟨_,rfl,_,_,rfl,rfl,nz,_,_,rfl,rfl,_,_,rfl,rfl,cmR (by decide) (by decide),_,_,rfl,rfl,nz,?_⟩
   have f1:=fm ((c.fmod 2147483647+1)*48271) (show (0:Int) < 2147483647 by decide)
   refine⟨_,rfl,n,rfl,by omega,by omega,zE (n:=n.toNat) (fun i σ H'=>∃ (xs:List Int) (r:Int) (o p:Option V),σ=[some (.int c),some (.int n),some (.ref z),o,p,some (.int r)]∧H'=upd H z (.lst (xs.map V.int))∧xs.length=i∧(∀ x∈xs,0≤x∧x < 10000000019)∧0≤r∧r < 2147484647)
    ⟨[],_,none,none,rfl,rfl,rfl,(by simp),f1.1,by omega⟩ ?_ ?_⟩
   · rintro i σ H' hi ⟨xs,r,o,p,rfl,rfl,hl,hx,r0,r1⟩
     have f:=fm (r*(r.fdiv 1009+69621)) (show (0:Int) < 2147483647 by decide)
     refine⟨_,rfl,_,rfl,_,_,rfl,rfl,cdB (by decide) (by decide),_,_,rfl,rfl,_,_,rfl,rfl,cmL (by omega) (by omega),_,_,rfl,rfl,nz,_,rfl,_,_,rfl,rfl,_,_,rfl,rfl,?_⟩
     refine⟨_,rfl,.inl ⟨rfl,_,SqL.of qD⟩,_,rfl,z,_,_,rfl,rfl,qD,(by rw [List.length_map];exact qf (by omega)),?_⟩
     refine⟨xs++[(r*(r.fdiv 1009+69621)).fmod 2147483647+(0+(i:Int))+1],_,_,_,rfl,?_,?_,?_,by omega,by omega⟩
     · rw [qJv,List.map_append];rfl
     · rw [List.length_append,hl];rfl
     · intro y hy
       rcases List.mem_append.mp hy with hy | hy
       · exact hx y hy
       · have e:y=(r*(r.fdiv 1009+69621)).fmod 2147483647+(0+(i:Int))+1:=by simpa using hy
         rw [e];omega
   · rintro σ H' ⟨xs,r,o,p,rfl,rfl,hl,hx,_,_⟩
     exact⟨_,rfl,kk z xs _ (wz xs) hz qD hl hx⟩
def SB (z:Addr)(H H':Hp):Prop:=∀ b u,b≠z→H b=some u→H' b=some u
theorem SB.refl (z:Addr)(H:Hp):SB z H H:=fun _ _ _ h=>h
theorem SB.trans {z:Addr}{H H1 H2:Hp}(a:SB z H H1)(b:SB z H1 H2):SB z H H2:=fun c u n h=>b c u n (a c u n h)
theorem zY {z:Addr}{H H':Hp}(e:Same H H'):SB z H H':=fun b u _ h=>e b u h
theorem qS4 {z:Addr}{H:Hp}{o:HO}:SB z H (upd H z o):=fun b u n h=>by rw [qV n];exact h
theorem SB.ts {z:Addr}{H H':Hp}{xs:List V}(e:SB z H H')(h:H z=some (.lst xs)):TS H H':=fun b ys hb=>e b _ (qK5 hb h (by intro q;cases q)) hb
inductive qD1 (vs:List V)(H:Hp)(Q:VK)(_:XK):Prop
| mk (t b:Int) (_:vs=[.int t,.int b]) (_:0 < b) (_:b.natAbs < 2 ^ 8000) (_:qO0 H Q (ji t b) (jY t b))
theorem vn (T:Tx K mg a):FnOk P w K mg base CX0 1 a.A78 a.B78 ["_law_top","_law_bottom"] qD1:=by
 refine T.D78.F.ok xS (fun vs H Q E h=>?_) (fun cdv A outer s H vs Q E hr h=>?_)
 · obtain⟨t,b,rfl,_⟩:=h
   rfl
 refine qL fun _ Y=>?_
 obtain⟨t,b,rfl,hb,hb2,k⟩:=h
 apply Y
 refine⟨_,(qB (qU 2 xS.nd (qi qFq rfl T.b_abs rfl (qA (pv 0) qC)))
  (qB (qU 3 xS.nd (pv 1))
  (qB (qKh PassesOwn.never (qJ xo (pv 3) qG (qN _)) (qE (qTu (i:=2) (j:=3) rfl xS.nd rfl rfl (by decide) rfl rfl (qA (pv 3) (qA (qP jA (pv 2) (pv 3)) qC)) rfl)))
  (qE (qM (ql (qA (qP qj (pv 0) (pv 2)) (qA (qP qj (pv 1) (pv 2)) qC)))))))),?_⟩
 try dsimp only [je,qg]
 refine⟨_,rfl,t,rfl,_,rfl,?_⟩
 refine qKd (fun σ H'=>H'=H∧∃ x y:Int,σ=[some (.int t),some (.int b),some (.int x),some (.int y)]∧0≤x∧0≤y∧Int.gcd x y=Int.gcd t b)
  (fun σ _=>match σ with | [_,_,_,some (.int y)]=>y.natAbs | _=>0) ⟨rfl,_,_,rfl,?_,by omega,?_⟩ ?_ ?_
 · split <;> omega
 · have e1:(if t < 0 then -t else t)=((t.natAbs:Nat):Int):=by split <;> omega
   rw [e1]
   rfl
 · rintro σ H1 ⟨rfl,x,y,rfl,h0,h1,e⟩
   refine⟨_,rfl,rfl,_,rfl,?_⟩
   refine jf (fun c=>?_) (fun c=>?_)
   · have hy:y≠0:=by simpa using c
     refine⟨_,rfl,_,rfl,_,rfl,_,_,rfl,rfl,hy,_,_,rfl,⟨rfl,y,x.fmod y,rfl,h1,Int.fmod_nonneg_of_pos x (by omega),?_⟩,?_⟩
     · rw [qJ4];exact e
     · exact qN7 x y hy
   · have hy:y=0:=by simpa using c
     refine qL fun _ Y=>?_
     subst hy
     have e2:x=sg t b:=by
      unfold sg
      rw [if_neg (by omega),← e,Int.gcd_zero_right]
      omega
     obtain⟨d1,d2⟩:=qJ3 (t:=t) (b:=b) (by omega) hb2
     apply Y
     have q':qO0 H1 Q (t.fdiv x) (b.fdiv x):=by rw [e2];exact k
     exact⟨_,rfl,_,rfl,_,_,rfl,rfl,(by rw [e2];exact d1),_,rfl,_,rfl,_,_,rfl,rfl,(by rw [e2];exact d2),sL2,q'⟩
 · rintro σ H1 Q1 Q2 hq h
   refine qL fun _ Y=>?_
   obtain⟨v,e,s,k,hk,z⟩:=h
   apply Y
   exact⟨v,e,s,k,hk,hq _ _ z⟩
theorem qLc {H:Hp}{zx:Addr}{ys:List Int}{x:Int}{Q:VK}(h:H zx=some (.lst ((ys++[x]).map V.int)))(q:∀ H',SB zx H H'→H' zx=some (.lst (ys.map V.int))→(∀ b,b≠zx→H' b=H b)→Q (.int x) H'):qVx (.ref zx) [] H Q:=by
 refine⟨zx,_,.int x,rfl,rfl,h,?_,?_⟩
 · rw [List.map_append,List.length_append,List.length_map]
   simp
 · have e:((ys++[x]).map V.int).dropLast=ys.map V.int:=by rw [List.map_append];simp
   rw [e]
   exact q _ qS4 qD fun b hb=>qV hb
theorem zl {α:Type}{xs:List α}{n:Nat}(h:xs.length=n+1):∃ ys x,xs=ys++[x]∧ys.length=n:=by
 have hne:xs≠[]:=by intro q;rw [q] at h;simp at h
 exact⟨xs.dropLast,xs.getLast hne,(List.dropLast_concat_getLast hne).symm,by rw [List.length_dropLast,h];rfl⟩
def RE (H:Hp)(re:Addr)(A:Int):Prop:=Rd H re (.dK [(Sum.inr "a",.int A),(Sum.inr "reelb",.int 1000000000)])∧60≤A∧A < 360
theorem qU6 {z:Addr}{H H':Hp}(e:SB z H H'){a:Addr}{u:HO}(n:a≠z)(h:Rd H a u):Rd H' a u:=by
 rcases h with h | ⟨o,h⟩
 · exact .inl (e _ _ n h)
 · exact .inr ⟨o,e _ _ n h⟩
theorem RE.ne {H:Hp}{re z:Addr}{A:Int}{xs:List V}(h:RE H re A)(hz:H z=some (.lst xs)):re≠z:=by
 rcases h.1 with q | ⟨o,q⟩
 · exact qK5 q hz (by intro q;cases q)
 · exact qK5 q hz (by intro q;cases q)
theorem RE.sb {z:Addr}{H H':Hp}(e:SB z H H'){re:Addr}{A:Int}(n:re≠z)(h:RE H re A):RE H' re A:=⟨qU6 e n h.1,h.2⟩
theorem RE.same {H H':Hp}(e:Same H H'){re:Addr}{A:Int}(h:RE H re A):RE H' re A:=⟨qI7 e h.1,h.2⟩
theorem RE.ga {H:Hp}{re:Addr}{A:Int}(h:RE H re A):DGet H re (.str "a") (some (.int A)):=.inl ⟨_,Sum.inr "a",h.1,rfl,rfl⟩
theorem RE.gb {H:Hp}{re:Addr}{A:Int}(h:RE H re A):DGet H re (.str "reelb") (some (.int 1000000000)):=.inl ⟨_,Sum.inr "reelb",h.1,rfl,rfl⟩
def stF (lo rs to bo len:Int):Int:=if to < 0 then lo*7*bo+rs*bo - 7*(len - 1)*to else lo*7*bo+rs*bo
def qDv (i:Int):Int:=if i < 0 then -i else i
def CF (A:Int)(m:Im):Prop:=∃ (nm:Str) (N lo rs to bo len:Int),((nm="a"∧N=A)∨(nm="reelb"∧N=1000000000))∧1≤len∧len≤10∧-6≤to∧to≤6∧1≤bo∧bo≤5∧0≤lo∧lo+(((len - 1)*qDv to).fdiv bo+1) < N∧0≤rs∧rs < 7∧
 m= .clip nm (ji (stF lo rs to bo len) (7*bo)) (jY (stF lo rs to bo len) (7*bo)) (ji to bo) (jY to bo) len
theorem qCt {x y X Y:Int}(hx:-X≤x∧x≤X)(hy:-Y≤y∧y≤Y)(hX:0≤X)(hY:0≤Y):-(X*Y)≤x*y∧x*y≤X*Y:=by
 have h1:(x*y).natAbs≤X.natAbs*Y.natAbs:=by
  rw [Int.natAbs_mul]
  exact Nat.mul_le_mul (by omega) (by omega)
 have h2:((X.natAbs*Y.natAbs:Nat):Int)=X*Y:=by
  rw [Int.natCast_mul]
  have e1:(X.natAbs:Int)=X:=by omega
  have e2:(Y.natAbs:Int)=Y:=by omega
  rw [e1,e2]
 omega
theorem qSh {lo rs to bo len:Int}(l0:0≤lo)(l1:lo≤1000000000)(r0:0≤rs)(r1:rs < 7)(t0:-6≤to)(t1:to≤6)(b0:1≤bo)(b1:bo≤5)(n0:1≤len)(n1:len≤10):(stF lo rs to bo len).natAbs < 2 ^ 60:=by
 have h1:=qCt (x:=lo*7) (y:=bo) (X:=7000000000) (Y:=5) ⟨by omega,by omega⟩ ⟨by omega,by omega⟩ (by decide) (by decide)
 have h2:=qCt (x:=rs) (y:=bo) (X:=7) (Y:=5) ⟨by omega,by omega⟩ ⟨by omega,by omega⟩ (by decide) (by decide)
 have h3:=qCt (x:=7*(len - 1)) (y:=to) (X:=63) (Y:=6) ⟨by omega,by omega⟩ ⟨by omega,by omega⟩ (by decide) (by decide)
 unfold stF
 split <;> omega
def rlE (A:Int):Rls:=fun n=>if n="a" then some A else if n="reelb" then some 1000000000 else none
theorem CF.it {A:Int}{m:Im}(h:CF A m)(hA0:60≤A)(hA:A < 360):ItR (rlE A) m∧ImB m∧1≤m.mo∧m.mo≤10:=by
 obtain⟨nm,N,lo,rs,to,bo,len,hn,n0,n1,t0,t1,b0,b1,l0,l1,r0,r1,rfl⟩:=h
 have hf:0≤((len - 1)*qDv to).fdiv bo:=by
  have:=q9 (p:=(len - 1)*qDv to) (q:=bo) (by omega)
  have h0:0≤(len - 1)*qDv to:=Int.mul_nonneg (by omega) (by unfold qDv;split <;> omega)
  have:¬ (((len - 1)*qDv to).fdiv bo+1≤0):=fun q=>by
   have:=Int.mul_le_mul_of_nonneg_right (c:=bo) q (by omega)
   omega
  omega
 have lo1:lo≤1000000000:=by rcases hn with ⟨_,rfl⟩ | ⟨_,rfl⟩ <;> omega
 have hs:=qSh l0 lo1 r0 r1 t0 t1 b0 b1 n0 n1
 have p110:∀ {i:Int},i.natAbs < 2 ^ 60→i.natAbs < 2 ^ 110:=fun h=>Nat.lt_of_lt_of_le h (Nat.pow_le_pow_right (by decide) (by decide))
 have e60:(100:Nat) < 2 ^ 60:=by decide
 have g1:qJc 110 (ji (stF lo rs to bo len) (7*bo)) (jY (stF lo rs to bo len) (7*bo)):=qBy (by omega) (p110 hs) (p110 (by omega))
 have g2:qJc 110 (ji to bo) (jY to bo):=qBy (by omega) (p110 (by omega)) (p110 (by omega))
 have hr:rlE A nm=some N:=by
  unfold rlE
  rcases hn with ⟨rfl,rfl⟩ | ⟨rfl,rfl⟩
  · rw [if_pos rfl]
  · rw [if_neg (by decide+kernel),if_pos rfl]
 have hc:Rc nm (ji (stF lo rs to bo len) (7*bo)) (jY (stF lo rs to bo len) (7*bo)) (ji to bo) (jY to bo) len (rlE A) N:=⟨g1,g2,Nat.lt_of_le_of_lt (show len.natAbs≤10 by omega) (by decide),n0,hr,Nat.lt_of_le_of_lt (show N.natAbs≤1000000000 by rcases hn with ⟨_,rfl⟩ | ⟨_,rfl⟩ <;> omega) (by decide)⟩
 refine⟨fun n p q r s l e=>?_,hc.bn.mono (m:=700),n0,n1⟩
 cases e
 exact⟨N,hc⟩
inductive qG8 (vs:List V)(H:Hp)(Q:VK)(_:XK):Prop
| mk (zx re:Addr) (xs:List Int) (A sz:Int) (_:vs=[.ref zx,.ref re,.int sz]) (_:H zx=some (.lst (xs.map V.int))) (_:6≤xs.length) (_:RE H re A) (_:1≤sz) (_:sz≤10) (_:∀ (v:V) (m:Im) (xs':List Int) (H':Hp),SB zx H H'→H' zx=some (.lst (xs'.map V.int))→xs'.length+6=xs.length→CF A m→IsI H' m v→Q v H')
theorem qBf (T:Tx K mg a):FnOk P w K mg base CX0 2 a.A79 a.B79 ["_law_xs","_law_reels_here","_law_size"] qG8:=by
 refine T.D79.F.ok qy (fun vs H Q E h=>?_) (fun cdv A outer s H vs Q E hr h=>?_)
 · obtain⟨zx,re,xs,A',sz,rfl,_⟩:=h
   rfl
 refine qL fun _ Y=>?_
 obtain⟨zx,re,xs,A',sz,rfl,hz,hl,hre,hs1,hs2,kk⟩:=h
 have hu:=hr.units
 have hu1:(A.deeper (PyProof.Rows.envOfC (Str.ofString "_law_clip") (qH kC) s.heap.objs.size a.A79 cdv)).units+1 < cLine:=by omega
 obtain⟨n,hn⟩:∃ n,xs.length=n+6:=⟨xs.length - 6,by omega⟩
 obtain⟨y1,x1,rfl,l1⟩:=zl (n:=n+5) (by omega)
 obtain⟨y2,x2,rfl,l2⟩:=zl (n:=n+4) l1
 obtain⟨y3,x3,rfl,l3⟩:=zl (n:=n+3) l2
 obtain⟨y4,x4,rfl,l4⟩:=zl (n:=n+2) l3
 obtain⟨y5,x5,rfl,l5⟩:=zl (n:=n+1) l4
 obtain⟨y6,x6,rfl,l6⟩:=zl (n:=n) l5
 apply Y
 have nre:=hre.ne hz
 refine⟨_,(qB (qU 3 qy.nd (qv qZ (jD (qA qR (qA qR qC))) (qP jA (qP qj (zR F.plainAttrs_list F.slot_list_pop F.type_list_pop zQ (pv 0)) qG) qG) (fun _ _=>rfl)))
  (qB (qU 4 qy.nd (qP qo qG (qP jA (qP qj (zR F.plainAttrs_list F.slot_list_pop F.type_list_pop zQ (pv 0)) qG) (pv 2))))
  (qB (qU 5 qy.nd (qP jJ (qP jA (qP qj (zR F.plainAttrs_list F.slot_list_pop F.type_list_pop zQ (pv 0)) qG) qG) qG))
  (qB (qU 6 qy.nd (qP qo qG (qP jA (qP qj (zR F.plainAttrs_list F.slot_list_pop F.type_list_pop zQ (pv 0)) qG) qG)))
  (qB (qU 7 qy.nd (qP qo (qP qj (qP qr (qP jJ (pv 4) qG) (qi qFq rfl T.b_abs rfl (qA (pv 5) qC))) (pv 6)) qG))
  (qB (vR (qd (qJ qLj (pv 7) (qDd hu1 (pv 1) (pv 3) (fun _ _=>rfl)) (qN _)) (qB (qU 5 qy.nd qG)
  (qE (qU 7 qy.nd qG))) qQ))
  (qB (qU 8 qy.nd (qP jA (zR F.plainAttrs_list F.slot_list_pop F.type_list_pop zQ (pv 0)) (qP jJ (qDd hu1 (pv 1) (pv 3) (fun _ _=>rfl)) (pv 7))))
  (qB (qU 9 qy.nd (qP jA (qP qj (zR F.plainAttrs_list F.slot_list_pop F.type_list_pop zQ (pv 0)) qG) qG))
  (qB (qU 10 qy.nd (qP qo (qP qr (qP qr (pv 8) qG) (pv 6)) (qP qr (pv 9) (pv 6))))
  (qB (vR (qd (qJ zo (pv 5) qG (qN _)) (qE (qU 10 qy.nd (qP jJ (pv 10) (qP qr (qP qr qG (qP jJ (pv 4) qG)) (pv 5))))) qQ))
  (qE (qM (ql (qA qR (qA (pv 3) (qA (qK T.D78 (vn T) hr rfl (qA (pv 10) (qA (qP qr qG (pv 6)) qC))) (qA (qK T.D78 (vn T) hr rfl (qA (pv 5) (qA (pv 6) qC))) (qA (pv 4) qC)))))))))))))))))),?_⟩
 try dsimp only [je,qg]
 refine⟨sL2,fun ld hld=>?_⟩
 have w0:=qF hld (.lst [.str "a",.str "reelb"])
 have hz0:=w0 _ _ hz
 have nld:ld≠zx:=(qS hz hld).symm
 refine⟨_,rfl,.inl ⟨rfl,_,SqL.of hz0⟩,qLc hz0 fun H1 s1 hz1 k1=>?_⟩
 have f1:=fm (x1.fdiv 3) (show (0:Int) < 2 by decide)
 refine qL fun _ Y=>?_
 obtain⟨v,hv,hor⟩:=at2 (x:=V.str "a") (y:=.str "reelb") f1.1 f1.2
 apply Y
 refine⟨_,_,rfl,rfl,cdB (by decide) (by decide),_,_,rfl,rfl,nz,ld,_,_,v,rfl,rfl,SqL.of (s1 _ _ nld qD),hv,?_⟩
 have sb1:SB zx H H1:=(zY w0).trans s1
 have re1:=hre.sb sb1 nre
 refine qL fun _ Y=>?_
 obtain⟨nm,N,rfl,hnm,hget⟩:∃ (nm:Str) (N:Int),v= .str nm∧((nm="a"∧N=A')∨(nm="reelb"∧N=1000000000))∧∀ {H':Hp},RE H' re A'→DGet H' re (.str nm) (some (.int N)):=by
  rcases hor with rfl | rfl
  · exact⟨"a",A',rfl,.inl ⟨rfl,rfl⟩,fun h=>h.ga⟩
  · exact⟨"reelb",1000000000,rfl,.inr ⟨rfl,rfl⟩,fun h=>h.gb⟩
 apply Y
 have hN:60≤N∧N≤1000000000:=by
  have:=hre.2
  rcases hnm with ⟨_,rfl⟩ | ⟨_,rfl⟩ <;> omega
 refine⟨_,rfl,.inl ⟨rfl,_,SqL.of hz1⟩,qLc hz1 fun H2 s2 hz2 k2=>?_⟩
 have f2:=fm (x2.fdiv 3) (show (0:Int) < sz by omega)
 refine⟨_,_,rfl,rfl,cdB (by decide) (by decide),_,rfl,_,_,rfl,rfl,(by omega),_,_,rfl,rfl,?_⟩
 refine⟨_,rfl,.inl ⟨rfl,_,SqL.of hz2⟩,qLc hz2 fun H3 s3 hz3 k3=>?_⟩
 have f3:=fm (x3.fdiv 3) (show (0:Int) < 13 by decide)
 refine⟨_,_,rfl,rfl,cdB (by decide) (by decide),_,_,rfl,rfl,nz,_,_,rfl,rfl,?_⟩
 refine⟨_,rfl,.inl ⟨rfl,_,SqL.of hz3⟩,qLc hz3 fun H4 s4 hz4 k4=>?_⟩
 have f4:=fm (x4.fdiv 3) (show (0:Int) < 5 by decide)
 refine⟨_,_,rfl,rfl,cdB (by decide) (by decide),_,_,rfl,rfl,nz,_,_,rfl,rfl,?_⟩
 have sb4:SB zx H H4:=((sb1.trans s2).trans s3).trans s4
 dsimp only
 generalize hlen:1+(x2.fdiv 3).fmod sz=len
 generalize hto:(x3.fdiv 3).fmod 13 - 6=to
 generalize hbo:1+(x4.fdiv 3).fmod 5=bo
 have n0:1≤len:=by omega
 have n1:len≤10:=by omega
 have t0:-6≤to:=by omega
 have t1:to≤6:=by omega
 have b0:1≤bo:=by omega
 have b1:bo≤5:=by omega
 refine⟨_,rfl,_,_,rfl,rfl,_,rfl,_,rfl,_,_,rfl,rfl,cmL (by omega) (by omega),_,rfl,_,_,rfl,rfl,cdB (by omega) (by omega),_,_,rfl,rfl,?_⟩
 have ha:(if to < 0 then -to else to)=qDv to:=rfl
 rw [ha]
 have pos:∀ i:Int,0≤i→0≤((len - 1)*i).fdiv bo:=fun i hi=>by
  have h1:=q9 (p:=(len - 1)*i) (q:=bo) (by omega)
  have h0:0≤(len - 1)*i:=Int.mul_nonneg (by omega) hi
  have:¬ (((len - 1)*i).fdiv bo+1≤0):=fun q=>by
   have:=Int.mul_le_mul_of_nonneg_right (c:=bo) q (by omega)
   omega
  omega
 have abs0:∀ i:Int,0≤qDv i:=fun i=>by unfold qDv;split <;> omega
 refine⟨fun σ' H'=>H'=H4∧∃ to:Int,σ'=[some (.ref zx),some (.ref re),some (.int sz),some (.str nm),some (.int len),some (.int to),some (.int bo),some (.int (((len - 1)*qDv to).fdiv bo+1)),none,none,none]∧-6≤to∧to≤6∧((len - 1)*qDv to).fdiv bo+1 < N,?_,?_⟩
 · refine⟨_,rfl,_,rfl,_,rfl,re,_,rfl,hget (hre.sb sb4 nre),_,_,rfl,rfl,_,rfl,jf (fun _=>?_) (fun c=>?_)⟩
   · have ez:((len - 1)*qDv 0).fdiv bo+1=1:=by
      have:qDv 0=0:=rfl
      rw [this,Int.mul_zero,Int.zero_fdiv];rfl
     refine⟨rfl,0,?_,by decide,by decide,by rw [ez];omega⟩
     rw [ez]
     rfl
   · exact⟨rfl,to,rfl,t0,t1,by simpa using c⟩
 rintro σ' H' ⟨rfl,to,rfl,t0,t1,hfar⟩
 have hf0:=pos (qDv to) (abs0 to)
 refine⟨_,rfl,.inl ⟨rfl,_,SqL.of hz4⟩,qLc hz4 fun H5 s5 hz5 k5=>?_⟩
 have sb5:=sb4.trans s5
 refine⟨_,rfl,_,rfl,re,_,rfl,hget (hre.sb sb5 nre),_,rfl,_,_,rfl,rfl,_,_,rfl,rfl,(by omega),?_⟩
 have f5:=fm x5 (show (0:Int) < N - (((len - 1)*qDv to).fdiv bo+1) by omega)
 dsimp only
 generalize x5.fmod (N - (((len - 1)*qDv to).fdiv bo+1))=lo at f5 ⊢
 refine⟨_,rfl,.inl ⟨rfl,_,SqL.of hz5⟩,qLc hz5 fun H6 s6 hz6 k6=>?_⟩
 have sb6:=sb5.trans s6
 have f6:=fm (x6.fdiv 3) (show (0:Int) < 7 by decide)
 refine⟨_,_,rfl,rfl,cdB (by decide) (by decide),_,_,rfl,rfl,nz,?_⟩
 dsimp only
 generalize (x6.fdiv 3).fmod 7=rs at f6 ⊢
 have m1:=qCt (x:=lo*7) (y:=bo) (X:=7000000000) (Y:=5) ⟨by omega,by omega⟩ ⟨by omega,by omega⟩ (by decide) (by decide)
 refine⟨_,rfl,_,_,rfl,rfl,cmR (by decide) (by decide),_,rfl,_,_,rfl,rfl,cmR (by omega) (by omega),_,rfl,_,rfl,_,_,rfl,rfl,cmR (by omega) (by omega),_,_,rfl,rfl,?_⟩
 refine⟨fun σ' H'=>H'=H6∧∃ st:Int,σ'=[some (.ref zx),some (.ref re),some (.int sz),some (.str nm),some (.int len),some (.int to),some (.int bo),some (.int (((len - 1)*qDv to).fdiv bo+1)),some (.int lo),some (.int rs),some (.int st)]∧st=stF lo rs to bo len,?_,?_⟩
 · refine⟨_,rfl,_,_,rfl,rfl,_,rfl,jf (fun c=>?_) (fun c=>?_)⟩
   · have c':to < 0:=by simpa using c
     refine⟨_,rfl,_,rfl,_,_,rfl,rfl,_,_,rfl,rfl,cmL (by decide) (by decide),_,rfl,_,_,rfl,rfl,cmR (by omega) (by omega),_,_,rfl,rfl,rfl,_,rfl,?_⟩
     unfold stF;rw [if_pos c']
   · have c':¬ to < 0:=by simpa using c
     refine⟨rfl,_,rfl,?_⟩
     unfold stF;rw [if_neg c']
 rintro σ' H' ⟨rfl,st,rfl,hst⟩
 refine⟨_,rfl,_,rfl,_,rfl,_,_,rfl,rfl,cmL (by decide) (by decide),st,7*bo,rfl,by omega,?_,fun p hp=>?_⟩
 · have:(7*bo).natAbs < 2 ^ 6:=by omega
   exact Nat.lt_of_lt_of_le this (Nat.pow_le_pow_right (by decide) (by decide))
 have w7:=qF hp (.tup [.int (ji st (7*bo)),.int (jY st (7*bo))])
 refine⟨_,rfl,_,rfl,to,bo,rfl,by omega,?_,fun q hq=>?_⟩
 · have:bo.natAbs < 2 ^ 6:=by omega
   exact Nat.lt_of_lt_of_le this (Nat.pow_le_pow_right (by decide) (by decide))
 have w8:=qF hq (.tup [.int (ji to bo),.int (jY to bo)])
 refine⟨_,rfl,sL5,fun u hu'=>?_⟩
 have w9:=qF hu' (.tup [.str "clip",.str nm,.ref p,.ref q,.int len])
 have w79:=(w7.trans w8).trans w9
 refine kk _ (.clip nm (ji st (7*bo)) (jY st (7*bo)) (ji to bo) (jY to bo) len) y6 _ (sb6.trans (zY w79)) (w79 _ _ hz6) (by simp) ?_ (isC qD (w9 _ _ (w8 _ _ qD)) (w9 _ _ qD))
 exact⟨nm,N,lo,rs,to,bo,len,hnm,n0,n1,t0,t1,b0,b1,f5.1,by omega,f6.1,f6.2,by rw [hst]⟩
def TI (A:Int)(m:Im):Prop:=(∃ l,m= .gap l∧1≤l∧l≤10)∨(∃ b l,m= .nest "low" b l∧0≤b∧b < 9∧1≤l∧l≤10)∨CF A m
def GG (ms:List Im):Prop:=∀ (i:Nat) (l l':Int),ms[i]? =some (.gap l)→ms[i+1]? =some (.gap l')→False
def qBg (ms:List Im):Prop:=∀ l,ms[ms.length - 1]?≠some (.gap l)
theorem qI5 {ms:List Im}{m:Im}(h:GG ms)(hl:qBg ms∨∀ l,m≠ .gap l):GG (ms++[m]):=by
 intro i l l' h1 h2
 have hi:i+1 < (ms++[m]).length:=(glt h2)
 rw [List.length_append,List.length_singleton] at hi
 by_cases hc:i+1 < ms.length
 · rw [List.getElem?_append_left (by omega)] at h1
   rw [List.getElem?_append_left hc] at h2
   exact h i l l' h1 h2
 · have e:i+1=ms.length:=by omega
   rw [List.getElem?_append_left (by omega)] at h1
   rw [List.getElem?_append_right (by omega),e,Nat.sub_self] at h2
   have e2:m= .gap l':=by simpa using h2
   have e3:ms.length - 1=i:=by omega
   rcases hl with hl | hl
   · exact hl l (by rw [e3];exact h1)
   · exact hl l' e2
theorem qVo {ms:List Im}(h:GG ms):GG ms.dropLast:=by
 intro i l l' h1 h2
 have hi:=(glt h2)
 rw [List.length_dropLast] at hi
 rw [List.getElem?_dropLast,if_pos (by omega)] at h1 h2
 exact h i l l' h1 h2
theorem qSq {ms:List Im}{l:Int}(h:GG ms)(hl:ms[ms.length - 1]? =some (.gap l)):qBg ms.dropLast:=by
 intro l' h1
 have hi:=(glt h1)
 rw [List.length_dropLast] at hi h1
 rw [List.getElem?_dropLast,if_pos (by omega)] at h1
 have e:ms.length - 1 - 1+1=ms.length - 1:=by omega
 exact h _ l' l h1 (by rw [e];exact hl)
theorem qGr {z y:Addr}{H H':Hp}{o:HO}(e:SB z H H')(h:H y=none):SB z H (upd H' y o):=fun b u n hb=>by
 rw [qV (qS hb h)];exact e b u n hb
theorem qJf {H:Hp}{ms:List Im}{vs:List V}(h:IsIs H ms vs)(hne:ms≠[]):∃ v m,vs[vs.length - 1]? =some v∧ms[ms.length - 1]? =some m∧IsI H m v:=by
 have hl:0 < ms.length:=List.length_pos_iff.mpr hne
 have hi:vs.length - 1 < vs.length:=by rw [h.len];omega
 have ev:vs[vs.length - 1]? =some vs[vs.length - 1]:=List.getElem?_eq_getElem hi
 obtain⟨m,h1,h2⟩:=h.get ev
 refine⟨_,m,ev,?_,h2⟩
 rw [h.len] at h1
 exact h1
inductive qFu (vs:List V)(H:Hp)(Q:VK)(_:XK):Prop
| mk (zx re:Addr) (xs:List Int) (A:Int) (_:vs=[.ref zx,.ref re,.int 10]) (_:H zx=some (.lst (xs.map V.int))) (_:36≤xs.length) (_:RE H re A) (_:∀ (y:Addr) (ms:List Im) (xs':List Int) (H':Hp),SB zx H H'→H y=none→H' zx=some (.lst (xs'.map V.int))→xs.length≤xs'.length+36→Tr H' y ms→ms.length≤5→(∀ m∈ms,TI A m)→GG ms→qBg ms→Q (.ref y) H')
theorem qFc (T:Tx K mg a):FnOk P w K mg base CX0 3 a.A80 a.B80 ["_law_xs","_law_reels_here","_law_size"] qFu:=by
 refine T.D80.F.ok xm (fun vs H Q E h=>?_) (fun cdv A outer s H vs Q E hr h=>?_)
 · obtain⟨zx,re,xs,A',rfl,_⟩:=h
   rfl
 refine qL fun _ Y=>?_
 obtain⟨zx,re,xs,A',rfl,hz,hl,hre,kk⟩:=h
 apply Y
 have hu:=hr.units
 have nre:=hre.ne hz
 refine⟨_,(qB (qU 3 xm.nd (jD qC))
  (qB (j2 PassesOwn.never rfl (xF rfl T.b_range (qA (qP jA (qP qj (zR F.plainAttrs_list F.slot_list_pop F.type_list_pop zQ (pv 0)) qG) qG) qC)) (qt (i:=4) xm.nd rfl (Or.inl rfl)) (qB (qU 5 xm.nd (qP jA (qP qj (zR F.plainAttrs_list F.slot_list_pop F.type_list_pop zQ (pv 0)) qG) qG))
  (qE (qd (qEq (PW.pt (jZ (qJ jU (pv 5) qG (qN _)) (jM (PW.pt (z6 (qJ (qQe hu) (pv 3) (jD qC) (qN _)) (xk (qJ xo (qI (qv qZ (pv 3) (ka xK qG) (fun _ _=>rfl))) qR (qN _))))))))) (qE (jV (qAo F.plainAttrs_list F.slot_list_append F.type_list_append jT (pv 3) (qA (ql (qA qR (qA (qP qo qG (qP jA (qP qj (zR F.plainAttrs_list F.slot_list_pop F.type_list_pop zQ (pv 0)) qG) (pv 2))) qC))) qC)))) (qE (qd (qJ jU (pv 5) qG (qN _)) (qE (jV (qAo F.plainAttrs_list F.slot_list_append F.type_list_append jT (pv 3) (qA (ql (qA qR (qA qR (qA (qP jA (qP qj (zR F.plainAttrs_list F.slot_list_pop F.type_list_pop zQ (pv 0)) qG) qG) (qA (qP qo qG (qP jA (qP qj (zR F.plainAttrs_list F.slot_list_pop F.type_list_pop zQ (pv 0)) qG) (pv 2))) qC))))) qC)))) (qE (jV (qAo F.plainAttrs_list F.slot_list_append F.type_list_append jT (pv 3) (qA (qK T.D79 (qBf T) hr rfl (qA (pv 0) (qA (pv 1) (qA (pv 2) qC)))) qC))))))))))
  (qB (qd (qEq (PW.pt (jZ (qJ (qOa hu) (pv 3) (jD qC) (qN _)) (jM (qJ jU (qI (qv qZ (pv 3) (ka xK qG) (fun _ _=>rfl))) qR (qN _)))))) (qE (jV (zR F.plainAttrs_list F.slot_list_pop F.type_list_pop zQ (pv 3)))) qQ)
  (qE (qM (pv 3)))))),?_⟩
 try dsimp only [je,qg]
 refine⟨sL0,fun y hy=>?_⟩
 have w0:=qF hy (.lst [])
 have ny:y≠zx:=(qS hz hy).symm
 refine qL fun _ Y=>?_
 obtain⟨n,hn⟩:∃ n,xs.length=n+1:=⟨xs.length - 1,by omega⟩
 obtain⟨y1,x1,rfl,l1⟩:=zl hn
 apply Y
 refine⟨_,rfl,.inl ⟨rfl,_,SqL.of (w0 _ _ hz)⟩,qLc (w0 _ _ hz) fun H1 s1 hz1 k1=>?_⟩
 have f1:=fm (x1.fdiv 3) (show (0:Int) < 6 by decide)
 refine⟨_,_,rfl,rfl,cdB (by decide) (by decide),_,_,rfl,rfl,nz,_,rfl,by omega,by omega,zE (n:=((x1.fdiv 3).fmod 6).toNat) (fun i σ H'=>∃ (o1 o2:Option V) (ms:List Im) (vs:List V) (xs':List Int),σ=[some (.ref zx),some (.ref re),some (.int 10),some (.ref y),o1,o2]∧H' zx=some (.lst (xs'.map V.int))∧n≤xs'.length+7*i∧H' y=some (.lst vs)∧IsIs H' ms vs∧ms.length≤i∧(∀ m∈ms,TI A' m)∧GG ms∧SB zx H H')
  ⟨none,none,[],[],y1,rfl,hz1,by omega,s1 _ _ ny qD,trivial,by simp,by simp,by intro i l l' h1;simp at h1,(zY w0).trans s1⟩ ?_ ?_⟩
 · rintro i σ H' hi ⟨o1,o2,ms,vs,xs',rfl,hzx,hxl,hv,hiv,hml,hti,hgg,sb⟩
   refine qL fun _ Y=>?_
   obtain⟨n',hn'⟩:∃ n,xs'.length=n+7:=⟨xs'.length - 7,by omega⟩
   obtain⟨u1,p1,rfl,lu1⟩:=zl (n:=n'+6) (by omega)
   apply Y
   have hvl:vs.length≤i:=by rw [hiv.len];exact hml
   refine⟨_,rfl,.inl ⟨rfl,_,SqL.of hzx⟩,qLc hzx fun H2 s2 hz2 k2=>?_⟩
   have hiv2:=hiv.ts (s2.ts hzx)
   have hv2:=s2 _ _ ny hv
   have sb2:=sb.trans s2
   refine⟨_,_,rfl,rfl,cdB (by decide) (by decide),_,_,rfl,rfl,nz,?_⟩
   refine⟨fun b H'=>Same H2 H'∧(b=true→qBg ms),?_,?_⟩
   · refine⟨_,rfl,rfl,_,rfl,jf (fun _=>?_) (fun _=>⟨Same.refl _,by simp⟩)⟩
     refine⟨_,rfl,sL0,fun en hen=>qVp ⟨vs,(qF hen _) _ _ hv2,hiv2.ts (qc (qF hen _))⟩ qD ⟨_,rfl,?_⟩⟩
     have w3:=qF hen (.lst [])
     by_cases hne:ms=[]
     · have e:ms.isEmpty=true:=by rw [hne];rfl
       rw [e]
       exact xE ⟨w3,fun _ l h=>by rw [hne] at h;simp at h⟩
     · have e:ms.isEmpty=false:=by
        cases ms with
        | nil=>exact absurd rfl hne
        | cons=>rfl
       rw [e]
       refine jQ ?_
       refine qL fun _ Y=>?_
       obtain⟨v,m,h1,h2,h4⟩:=qJf (hiv2.ts (qc w3)) hne
       obtain⟨zi,xi,rfl,hzi,h0,_⟩:=h4.opn
       apply Y
       refine⟨_,rfl,_,rfl,y,_,_,_,rfl,rfl,SqL.of (w3 _ _ hv2),qKg h1,zi,xi,_,_,rfl,rfl,SqT.of hzi,h0,rfl,_,rfl,w3,fun c l q=>?_⟩
       rw [h2] at q
       have q:m= .gap l:=Option.some.inj q
       subst q
       revert c
       show (!decide (V.str "gap"=V.str "gap"))=true→False
       simp
   rintro b H3 ⟨w3,hb⟩
   have hv3:=w3 _ _ hv2
   have hiv3:=hiv2.ts (qc w3)
   have hz3:=w3 _ _ hz2
   have sb3:=sb2.trans (zY w3)
   cases b with
   | true=>
    refine xE ?_
    refine qL fun _ Y=>?_
    obtain⟨u2,p2,rfl,lu2⟩:=zl (n:=n'+5) lu1
    apply Y
    refine⟨_,rfl,.inl ⟨rfl,_,SqL.of hv3⟩,_,rfl,.inl ⟨rfl,_,SqL.of hz3⟩,qLc hz3 fun H4 s4 hz4 k4=>?_⟩
    have f2:=fm (p2.fdiv 3) (show (0:Int) < 10 by decide)
    refine⟨_,_,rfl,rfl,cdB (by decide) (by decide),_,rfl,_,_,rfl,rfl,nz,_,_,rfl,rfl,sL2,fun g hg=>?_⟩
    have w5:=qF hg (.tup [.str "gap",.int (1+(p2.fdiv 3).fmod 10)])
    have hv5:=w5 _ _ (s4 _ _ ny hv3)
    refine⟨y,_,_,rfl,rfl,hv5,qf (by omega),?_⟩
    refine⟨_,_,ms++[.gap (1+(p2.fdiv 3).fmod 10)],_,u2,rfl,?_,by omega,qD,(((hiv3.ts (s4.ts hz3)).ts (qc w5)).app (.one (isG qD))).ts (zV hv5),by simp;omega,?_,qI5 hgg (.inl (hb rfl)),qGr ((sb3.trans s4).trans (zY w5)) hy⟩
    · rw [qV ny.symm];exact w5 _ _ hz4
    · intro m hm
      rcases List.mem_append.mp hm with hm | hm
      · exact hti m hm
      · have:m= .gap (1+(p2.fdiv 3).fmod 10):=by simpa using hm
        exact .inl ⟨_,this,by omega,by omega⟩
   | false=>
    refine jQ ?_
    refine⟨_,rfl,rfl,_,rfl,jf (fun _=>?_) (fun _=>?_)⟩
    · obtain⟨u2,p2,rfl,lu2⟩:=zl (n:=n'+5) lu1
      refine qL fun _ Y=>?_
      obtain⟨u3,p3,rfl,lu3⟩:=zl (n:=n'+4) lu2
      apply Y
      refine⟨_,rfl,.inl ⟨rfl,_,SqL.of hv3⟩,_,rfl,.inl ⟨rfl,_,SqL.of hz3⟩,qLc hz3 fun H4 s4 hz4 k4=>?_⟩
      have f2:=fm (p2.fdiv 3) (show (0:Int) < 9 by decide)
      refine⟨_,_,rfl,rfl,cdB (by decide) (by decide),_,_,rfl,rfl,nz,_,rfl,.inl ⟨rfl,_,SqL.of hz4⟩,qLc hz4 fun H5 s5 hz5 k5=>?_⟩
      have f3:=fm (p3.fdiv 3) (show (0:Int) < 10 by decide)
      refine⟨_,_,rfl,rfl,cdB (by decide) (by decide),_,rfl,_,_,rfl,rfl,nz,_,_,rfl,rfl,sL4,fun g hg=>?_⟩
      have w5:=qF hg (.tup [.str "nest",.str "low",.int ((p2.fdiv 3).fmod 9),.int (1+(p3.fdiv 3).fmod 10)])
      have hv5:=w5 _ _ (s5 _ _ ny (s4 _ _ ny hv3))
      refine⟨y,_,_,rfl,rfl,hv5,qf (by omega),?_⟩
      refine⟨_,_,ms++[.nest "low" ((p2.fdiv 3).fmod 9) (1+(p3.fdiv 3).fmod 10)],_,u3,rfl,?_,by omega,qD,((((hiv3.ts (s4.ts hz3)).ts (s5.ts hz4)).ts (qc w5)).app (.one (isN qD))).ts (zV hv5),by simp;omega,?_,qI5 hgg (.inr fun l q=>nomatch q),qGr (((sb3.trans s4).trans s5).trans (zY w5)) hy⟩
      · rw [qV ny.symm];exact w5 _ _ hz5
      · intro m hm
        rcases List.mem_append.mp hm with hm | hm
        · exact hti m hm
        · have:m= .nest "low" ((p2.fdiv 3).fmod 9) (1+(p3.fdiv 3).fmod 10):=by simpa using hm
          exact .inr (.inl ⟨_,_,this,by omega,by omega,by omega,by omega⟩)
    · refine⟨_,rfl,.inl ⟨rfl,_,SqL.of hv3⟩,_,rfl,_,rfl,_,rfl,zx,re,u1,A',10,rfl,hz3,by omega,hre.sb sb3 nre,by decide,by decide,fun v m u' H4 s4 hz4 hl4 hcf hI=>?_⟩
      have hv5:=s4 _ _ ny hv3
      refine⟨y,_,_,rfl,rfl,hv5,qf (by omega),?_⟩
      have hng:∀ l,m≠ .gap l:=fun l q=>by
       obtain⟨_,_,_,_,_,_,_,_,_,_,_,_,_,_,_,_,_,_,e⟩:=hcf
       rw [q] at e
       cases e
      refine⟨_,_,ms++[m],_,u',rfl,?_,by omega,qD,((hiv3.ts (s4.ts hz3)).app (.one hI)).ts (zV hv5),by simp;omega,?_,qI5 hgg (.inr hng),qGr (sb3.trans s4) hy⟩
      · rw [qV ny.symm];exact hz4
      · intro m' hm
        rcases List.mem_append.mp hm with hm | hm
        · exact hti m' hm
        · have:m'=m:=by simpa using hm
          rw [this];exact .inr (.inr hcf)
 rintro σ H' ⟨o1,o2,ms,vs,xs',rfl,hzx,hxl,hv,hiv,hml,hti,hgg,sb⟩
 have hm5:ms.length≤5:=by omega
 have hxl':(y1++[x1]).length≤xs'.length+36:=by rw [hn];omega
 refine⟨fun b H2=>Same H' H2∧(b=true→∃ l,ms[ms.length - 1]? =some (.gap l))∧(b=false→qBg ms),?_,?_⟩
 · refine⟨_,rfl,sL0,fun en hen=>qVd ⟨vs,(qF hen _) _ _ hv,hiv.ts (qc (qF hen _))⟩ qD ⟨_,rfl,?_⟩⟩
   have w3:=qF hen (.lst [])
   by_cases hne:ms=[]
   · have e:ms.isEmpty=true:=by rw [hne];rfl
     rw [e]
     exact jQ ⟨w3,by simp,fun _ l h=>by rw [hne] at h;simp at h⟩
   · have e:ms.isEmpty=false:=by
      cases ms with
      | nil=>exact absurd rfl hne
      | cons=>rfl
     rw [e]
     refine xE ?_
     refine qL fun _ Y=>?_
     obtain⟨v,m,h1,h2,h4⟩:=qJf (hiv.ts (qc w3)) hne
     obtain⟨zi,xi,rfl,hzi,h0,_⟩:=h4.opn
     apply Y
     refine⟨_,rfl,_,rfl,y,_,_,_,rfl,rfl,SqL.of (w3 _ _ hv),qKg h1,zi,xi,_,_,rfl,rfl,SqT.of hzi,h0,rfl,_,rfl,w3,fun c=>?_,fun c l q=>?_⟩
     · obtain⟨l,rfl⟩:=qBm (by simpa using c)
       exact⟨l,h2⟩
     · rw [h2] at q
       have q:m= .gap l:=Option.some.inj q
       subst q
       revert c
       show decide (V.str "gap"=V.str "gap")=false→False
       simp
 rintro b H2 ⟨w2,hb,hb'⟩
 have hv2:=w2 _ _ hv
 have hiv2:=hiv.ts (qc w2)
 cases b with
 | true=>
  refine qL fun _ Y=>?_
  obtain⟨l,hl2⟩:=hb rfl
  have hne:ms≠[]:=by intro q;rw [q] at hl2;simp at hl2
  obtain⟨v,m,h1,h2,h4⟩:=qJf hiv2 hne
  apply Y
  refine xE ⟨_,rfl,.inl ⟨rfl,_,SqL.of hv2⟩,y,_,v,rfl,rfl,hv2,h1,_,rfl,?_⟩
  refine kk y ms.dropLast xs' _ (qGr (sb.trans (zY w2)) hy) hy ?_ hxl' ⟨_,qD,hiv2.dl.ts (zV hv2)⟩ (by rw [List.length_dropLast];omega) (fun m hm=>hti m (List.dropLast_subset _ hm)) (qVo hgg) (qSq hgg hl2)
  rw [qV ny.symm];exact w2 _ _ hzx
 | false=>exact jQ ⟨_,rfl,kk y ms xs' _ (sb.trans (zY w2)) hy (w2 _ _ hzx) hxl' ⟨_,hv2,hiv2⟩ hm5 hti hgg (hb' rfl)⟩
inductive qGo (vs:List V)(H:Hp)(Q:VK)(_:XK):Prop
| mk (c:Int) (_:vs=[.int c]) (_:∀ (re:Addr) (A:Int) (H':Hp),Same H H'→H re=none→H' re=some (.dK [(Sum.inr "a",.int A),(Sum.inr "reelb",.int 1000000000)])→60≤A→A < 360→Q (.ref re) H')
theorem qFh (T:Tx K mg a):FnOk P w K mg base CX0 1 a.A81 a.B81 ["_law_cell"] qGo:=by
 refine T.D81.F.ok qGi (fun vs H Q E h=>?_) (fun cdv A outer s H vs Q E hr h=>?_)
 · obtain⟨c,rfl,_⟩:=h
   rfl
 refine qL fun _ Y=>?_
 obtain⟨c,rfl,kk⟩:=h
 apply Y
 refine⟨_,(qE (qM (qNs (qF4 qR (qP qo qG (qP jA (pv 0) qG)) (qF4 qR (qP qQl qG qG) qMx)) rfl rfl (by simp) (by decide)))),?_⟩
 try dsimp only [je,qg]
 refine fun re hre=>?_
 have f:=fm c (show (0:Int) < 300 by decide)
 refine⟨_,rfl,_,_,rfl,rfl,nz,_,_,rfl,rfl,_,_,rfl,rfl,cpw (n:=9) (by decide),?_⟩
 refine⟨qD,[(Sum.inr "a",.int (60+c.fmod 300)),(Sum.inr "reelb",.int (10 ^ (9:Int).toNat))],rfl,(by show 2≤15;decide),?_⟩
 rw [qJv]
 have em:∀ x y:V,qC3 [] [((Sum.inr ("a":Str):Key),x),(Sum.inr ("reelb":Str),y)]=[(Sum.inr ("a":Str),x),(Sum.inr ("reelb":Str),y)]:=fun x y=>by rfl
 rw [em]
 have e9:(10:Int) ^ (9:Int).toNat=1000000000:=by decide
 rw [e9]
 exact kk re _ _ (qF hre _) hre qD (by omega) (by omega)
theorem qN2:∀ (zs:List Im),(∀ z∈zs,0≤z.mo)→0≤(zs.map Im.mo).sum:=fun zs=>by
 induction zs with
 | nil=>intro _;simp
 | cons z zs ih=>intro h;have:=ih fun y hy=>h y (by simp [hy]);have:=h z (by simp);rw [List.map_cons,List.sum_cons];omega
theorem qH3:∀ (xs:List Im) (b:Int) (i0:Nat),(∀ x∈xs,0≤x.mo)→jn b i0 xs (b+(xs.map Im.mo).sum)=none
 | [],b,i0,_=>rfl
 | x::xs,b,i0,hx=>by
  have h0:=hx x (by simp)
  have hs:=qN2 xs fun y hy=>hx y (by simp [hy])
  have ih:=qH3 xs (b+x.mo) (i0+1) fun y hy=>hx y (by simp [hy])
  rw [jn,List.map_cons,List.sum_cons,if_neg (by omega)]
  rw [show b+(x.mo+(xs.map Im.mo).sum)=b+x.mo+(xs.map Im.mo).sum by omega]
  exact ih
theorem qS3 {pre post:List Im}(h0:∀ m∈pre,0≤m.mo)(hl:∀ i m,pre.length=i+1→pre[i]? =some m→m.wd≠"mix")(hp:∀ m∈post,0 < m.mo):
 cbF (pre++post) (pre.map Im.mo).sum=none∨∃ i:Nat,pre.length=i+1∧cbF (pre++post) (pre.map Im.mo).sum=some ((i:Int),((i+1:Nat):Int)):=by
 have hz:(pre.map Im.mo).sum=0+(pre.map Im.mo).sum:=by omega
 cases post with
 | nil=>
  left
  unfold cbF nbF
  rw [List.append_nil,hz,qH3 pre 0 0 h0]
 | cons m post=>
  have e:=qBd pre 0 0 m post h0 (hp m (by simp))
  rw [← hz,Nat.zero_add] at e
  unfold cbF nbF
  rw [e]
  dsimp only
  by_cases hn:pre.length=0
  · left
    rw [if_pos (.inr (by omega))]
  · obtain⟨i,hi⟩:∃ i,pre.length=i+1:=⟨pre.length - 1,by omega⟩
    obtain⟨x,hx⟩:∃ x,pre[i]? =some x:=⟨_,List.getElem?_eq_getElem (by omega)⟩
    have hx':(pre++m::post)[i]? =some x:=by rw [List.getElem?_append_left (by omega)];exact hx
    have ek:jh (pre++m::post) ((pre.length:Int) - 1)=x.wd:=j3 hx' (by omega)
    rw [if_neg (fun h=>h.elim (fun h=>h rfl) fun h=>by omega),ek,if_neg (hl i x hi hx)]
    dsimp only
    by_cases hc:jh (pre++m::post) ((pre.length:Int) - 1)="clip"∧jh (pre++m::post) (pre.length:Int)="clip"
    · right
      refine⟨i,hi,?_⟩
      rw [if_pos hc,show (pre.length:Int) - 1=(i:Int) by omega,show (pre.length:Int)=((i+1:Nat):Int) by omega]
    · left
      rw [if_neg hc]
structure Wk (A:Int)(ms0:List Im)(j:Nat)(ms:List Im):Prop where
 ex:∃ pre:List Im,ms=pre++ms0.drop j∧(pre.map Im.mo).sum=vj ms0 j∧pre.length≤2*j∧(∀ i m,pre.length=i+1→pre[i]? =some m→m.wd≠"mix")∧∀ m∈pre,TI A m∨∃ l,m= .mix l∧1≤l∧l≤5
theorem TI.mo {A:Int}{m:Im}(h:TI A m):1≤m.mo∧m.mo≤10:=by
 rcases h with ⟨l,rfl,h1,h2⟩ | ⟨b,l,rfl,_,_,h1,h2⟩ | ⟨nm,N,lo,rs,to,bo,len,_,h1,h2,_,_,_,_,_,_,_,_,rfl⟩
 · exact⟨h1,h2⟩
 · exact⟨h1,h2⟩
 · exact⟨h1,h2⟩
theorem TI.nm {A:Int}{m:Im}(h:TI A m):m.wd≠"mix":=by
 rcases h with ⟨l,rfl,h1,h2⟩ | ⟨b,l,rfl,_,_,h1,h2⟩ | ⟨nm,N,lo,rs,to,bo,len,_,h1,h2,_,_,_,_,_,_,_,_,rfl⟩
 · show ("gap":Str)≠"mix";decide+kernel
 · show ("nest":Str)≠"mix";decide+kernel
 · show ("clip":Str)≠"mix";decide+kernel
theorem Wk.start {A:Int}{ms0:List Im}:Wk A ms0 0 ms0:=⟨[],rfl,rfl,Nat.le_refl _,fun i m h=>(by cases h),fun m h=>absurd h (by simp)⟩
theorem wl {ms:List Im}{j:Nat}{m:Im}(h:ms[j]? =some m):vj ms (j+1)=vj ms j+m.mo:=by
 unfold vj
 rw [List.take_add_one,h]
 simp
theorem qH9 {xs:List Im}{x y:Im}{i:Nat}(hl:(xs++[x]).length=i+1)(h:(xs++[x])[i]? =some y):y=x:=by
 rw [List.length_append,List.length_singleton] at hl
 rw [List.getElem?_append_right (by omega),show i - xs.length=0 by omega] at h
 simpa using h.symm
theorem Wk.next {A:Int}{ms0 ms:List Im}{j:Nat}(h:Wk A ms0 j ms)(hT:∀ m∈ms0,TI A m):Wk A ms0 (j+1) ms:=by
 obtain⟨pre,e,hs,hl,hn,hI⟩:=h.ex
 cases hj:ms0[j]? with
 | none=>
  have hjl:ms0.length≤j:=List.getElem?_eq_none_iff.mp hj
  refine⟨pre,?_,?_,by omega,hn,hI⟩
  · rw [e,List.drop_eq_nil_of_le hjl,List.drop_eq_nil_of_le (by omega)]
  · rw [hs];unfold vj;rw [List.take_of_length_le hjl,List.take_of_length_le (by omega)]
 | some m=>
  have hm:=hT m (List.mem_of_getElem? hj)
  refine⟨pre++[m],?_,?_,by rw [List.length_append,List.length_singleton];omega,fun i y h1 h2=>?_,fun y hy=>?_⟩
  · rw [e,jW hj];simp
  · rw [wl hj,List.map_append,List.sum_append,hs];simp
  · rw [qH9 h1 h2];exact hm.nm
  · rcases List.mem_append.mp hy with h' | h'
    · exact hI y h'
    · rw [List.mem_singleton] at h';subst h';exact .inl hm
theorem Wk.cb {A:Int}{ms0 ms:List Im}{j:Nat}(h:Wk A ms0 j ms)(hT:∀ m∈ms0,TI A m):cbF ms (vj ms0 j)=none∨∃ i:Nat,cbF ms (vj ms0 j)=some ((i:Int),((i+1:Nat):Int))∧∀ l:Int,1≤l→l≤5→Wk A ms0 (j+1) (ms.take (i+1)++[.mix l]++ms.drop (i+1)):=by
 obtain⟨pre,e,hs,hl,hn,hI⟩:=h.ex
 have h0:∀ m∈pre,0≤m.mo:=fun m hm=>by
  rcases hI m hm with h | ⟨l,rfl,_⟩
  · have:=h.mo;omega
  · exact Int.le_refl _
 have hp:∀ m∈ms0.drop j,0 < m.mo:=fun m hm=>by have:=(hT m (List.mem_of_mem_drop hm)).mo;omega
 have hc:=qS3 h0 hn hp
 rw [hs,← e] at hc
 rcases hc with hc | ⟨i,hi,hc⟩
 · exact .inl hc
 refine .inr ⟨i,hc,fun l l1 l5=>?_⟩
 have et:ms.take (i+1)=pre:=by rw [e,← hi,List.take_left]
 have ed:ms.drop (i+1)=ms0.drop j:=by rw [e,← hi,List.drop_left]
 rw [et,ed]
 obtain⟨k1,k2⟩:=wK hc
 cases hj:ms0[j]? with
 | none=>
  have hjl:ms0.length≤j:=List.getElem?_eq_none_iff.mp hj
  rw [List.drop_eq_nil_of_le hjl,List.append_nil] at e
  exfalso
  unfold jh at k2
  rw [if_neg (by omega),List.getElem?_eq_none (by rw [e,hi];omega)] at k2
  exact absurd k2 (by decide+kernel)
 | some m=>
  have hm:=hT m (List.mem_of_getElem? hj)
  refine⟨pre++[.mix l]++[m],?_,?_,?_,fun i y h1 h2=>?_,fun y hy=>?_⟩
  · rw [jW hj];simp
  · rw [wl hj,List.map_append,List.sum_append,List.map_append,List.sum_append,hs]
    simp [Im.mo]
  · rw [List.length_append,List.length_append,List.length_singleton,List.length_singleton];omega
  · rw [qH9 h1 h2];exact hm.nm
  · rcases List.mem_append.mp hy with h' | h'
    · rcases List.mem_append.mp h' with h'' | h''
      · exact hI y h''
      · rw [List.mem_singleton] at h'';exact .inr ⟨l,h'',l1,l5⟩
    · rw [List.mem_singleton] at h';subst h';exact .inl hm
theorem qVe {P:Program}{w:World}{K:W.Frag}{mg:Str→Option Value}{base:Heap}{k:Nat}{f:Addr}{fd:FuncData}{ps:List Str}{sp:Sp}(F:FnOk P w K mg base (CXR P w) k f fd ps sp):FnOk P w K mg base CX0 k f fd ps (fun vs H Q _=>sp vs H Q fun _ _ _=>False):=by
 refine⟨fun vs H Q E h=>F.len _ _ _ _ h,fun A outer s H args us vs Q E hr he hb hv hs=>codeAny_mono (F.run A outer s H args us vs Q (fun _ _ _=>False) hr he hb hv hs) fun r s' hq=>?_⟩
 cases r with
 | error e=>
  refine qL fun _ Y=>?_
  obtain⟨_,_,_,_,_,_,_,_,_,q⟩:=hq
  apply Y
  exact q.elim
 | ok fl=>cases fl <;> exact hq
inductive qHp (K:W.Frag)(vs:List V)(H:Hp)(Q:VK)(_:XK):Prop
| mk (tz dz rd:Addr) (rl:Rls) (ts:List (List Im)) (tie:List Int) (ts':List (List Im)) (_:vs=[.ref tz,.ref dz,.ref rd]) (_:TabD H tz rd rl ts tie) (_:DdX K H rd dz rl ts tie (.good ts')) (_:∀ (t':Addr) (H':Hp),Same H H'→NewTab H H' t' ts' tie→Q (.ref t') H')
theorem qA9 (T:Tx K mg a):FnOk P w K mg base CX0 10 a.A73 a.B73 ["table","deed","reels"] (qHp K):=
 (qVe (vK T)).imp fun vs H Q E h=>by
   refine qL fun _ Y=>?_
   obtain⟨tz,dz,rd,rl,ts,tie,ts',rfl,hP,hD,kk⟩:=h
   apply Y
   exact⟨tz,dz,rd,rl,ts,tie,_,rfl,hP,hD,(fun h=>by cases h),(fun h=>by cases h),(fun h=>by cases h),(fun m h=>by cases h),fun ts'' h=>by cases h;exact kk⟩
theorem RE.at {H:Hp}{re:Addr}{A:Int}(h:RE H re A):ReelsAt H re (rlE A):=by
 intro n N e
 unfold rlE at e
 split at e
 · rename_i hn;cases e;subst hn;exact⟨_,h.1,rfl⟩
 · split at e
   · rename_i hn;cases e;subst hn;exact⟨_,h.1,rfl⟩
   · cases e
def TM (A:Int)(m:Im):Prop:=TI A m∨∃ l,m= .mix l∧1≤l∧l≤5
theorem TM.it {A:Int}{m:Im}(h:TM A m)(hA0:60≤A)(hA:A < 360):ItR (rlE A) m∧ImB m∧0≤m.mo∧m.mo≤10:=by
 rcases h with (⟨l,rfl,h1,h2⟩ | ⟨b,l,rfl,_,_,h1,h2⟩ | h) | ⟨l,rfl,h1,h2⟩
 · exact⟨fun n p q r s l e=>(by cases e),trivial,by show 0≤l;omega,h2⟩
 · exact⟨fun n p q r s l e=>(by cases e),trivial,by show 0≤l;omega,h2⟩
 · obtain⟨q1,q2,q3,q4⟩:=h.it hA0 hA
   exact⟨q1,q2,by omega,q4⟩
 · exact⟨fun n p q r s l e=>(by cases e),trivial,by show (0:Int)≤0;decide,by show (0:Int)≤10;decide⟩
structure TbM (A:Int)(ts:List (List Im))(tie:List Int):Prop where
 l3:ts.length=3
 ms:∀ ms∈ts,ms.length≤17∧∀ m∈ms,TM A m
 tl:tie.length≤3
 tin:∀ x∈tie,∃ k:Nat,x=(k:Int)∧k < ts.length
theorem TbM.tabD {A:Int}{H:Hp}{tz re:Addr}{ts:List (List Im)}{tie:List Int}(h:TbM A ts tie)(ht:TabF H (.ref tz) ts tie)(hr:RE H re A):TabD H tz re (rlE A) ts tie:=by
 refine⟨ht,fun ms hm=>?_,by have:=h.l3;omega,by have:=h.tl;omega,h.tin,hr.at⟩
 obtain⟨q1,q2⟩:=h.ms ms hm
 exact⟨⟨fun m hm'=>⟨((q2 m hm').it hr.2.1 hr.2.2).2.1,((q2 m hm').it hr.2.1 hr.2.2).2.2.1⟩,by omega⟩,by omega,fun m hm'=>((q2 m hm').it hr.2.1 hr.2.2).1⟩
theorem Wk.tm {A:Int}{ms0 ms:List Im}{j:Nat}(h:Wk A ms0 j ms)(hT:∀ m∈ms0,TI A m)(hl:ms0.length≤5)(hj:j≤6):ms.length≤17∧∀ m∈ms,TM A m:=by
 obtain⟨pre,e,hs,hn,_,hI⟩:=h.ex
 subst e
 refine⟨by rw [List.length_append,List.length_drop];omega,fun m hm=>?_⟩
 rcases List.mem_append.mp hm with h' | h'
 · exact hI m h'
 · exact .inl (hT m (List.mem_of_mem_drop h'))
inductive qN8 (vs:List V)(H:Hp)(Q:VK)(_:XK):Prop
| mk (z:Addr) (ms:List Im) (t:Int) (_:vs=[.ref z,.int t]) (_:Tr H z ms) (_:ms.length≤300) (_:AtR H Q (qGm 0 0 ms t))
theorem wF:∀ (i:Nat) (ms:List Im) (m:Im),jg i (ms++[m])=jg i ms++(if m.wd="mix" then [i+ms.length] else [])
 | i,[],m=>by
  by_cases h:m.wd="mix"
  · obtain⟨l,rfl⟩:=qz h
    rw [if_pos h];rfl
  · rw [if_neg h,List.nil_append,xT h];rfl
 | i,m'::ms,m=>by
  have ih:=wF (i+1) ms m
  have e:i+1+ms.length=i+(m'::ms).length:=by rw [List.length_cons];omega
  rw [e] at ih
  by_cases h:m'.wd="mix"
  · obtain⟨l,rfl⟩:=qz h
    rw [List.cons_append,jg,jg,ih];rfl
  · rw [List.cons_append,xT h,xT h,ih]
theorem qN5 (T:Tx K mg a):FnOk P w K mg base CX0 4 a.A40 a.B40 ["track","moment"] qN8:=by
 refine T.D40.F.ok wR (fun vs H Q E h=>?_) (fun cdv A outer s H vs Q E hr h=>?_)
 · obtain⟨z,ms,t,rfl,_⟩:=h
   rfl
 refine qL fun _ Y=>?_
 obtain⟨z,ms,t,rfl,⟨xs,hz,his⟩,hl,kk⟩:=h
 apply Y
 have hxl:=his.len
 refine⟨_,(qB (qPn (i:=2) [] [] wR.nd rfl rfl rfl (qMd rfl T.b_enumerate (qA (pv 0) qC)) (fun _ _ _ _=>(qJ jU (qv (qB3 (K:=K) rfl) (pv 1) qG (fun _ _=>rfl)) qR (qN _))) (fun _ _ _ _=>(pv 0)))
  (qB (j2 PassesOwn.never rfl (qTd rfl T.b_zip (qA (pv 2) (qA (qK T.D38 (qBb T) hr rfl (qA (pv 0) qC)) qC))) (qOc rfl (vd (qt (i:=3) wR.nd rfl (Or.inl rfl)) (vd (qt (i:=4) wR.nd rfl (Or.inl rfl)) qIt))) (qE (qd (PW.pt (jZ (qJ qN9 (qI (pv 4)) (pv 1) (qN _)) (jM (qJ zo (pv 1) (qI (pv 4)) (qN _))))) (qE (qM (ql (qA (pv 3) (qA (qP jJ (pv 1) (qI (pv 4))) qC))))) qQ)))
  (qE (qM qEz)))),?_⟩
 try dsimp only [je,qg]
 refine⟨_,rfl,z,rfl,⟨_,SqL.of hz⟩,qL3 (K:=K) (a:=z) (xs:=xs) (fun i acc H'=>Same H H'∧acc=(jg 0 (ms.take i)).map (fun(n:Nat)=>V.int (n:Int))∧acc.length≤i) ⟨Same.refl _,rfl,by simp⟩ ?_ ?_ ?_⟩
 · rintro i acc H' hi ⟨e,rfl,hal⟩
   exact⟨SqL.of (e _ _ hz),qf (by omega)⟩
 · rintro i x acc H' p hi hx ⟨e,rfl,hal⟩ hp
   refine qL fun _ Y=>?_
   obtain⟨m,hm,hIx⟩:=his.get hx
   have w1:=qF hp (.tup [.int (i:Int),x])
   have hI:=hIx.ts (qc (e.trans w1))
   obtain⟨zi,xi,rfl,hzi,h0,h1⟩:=hI.opn
   apply Y
   have htk:ms.take (i+1)=ms.take i++[m]:=by rw [List.take_add_one,hm];rfl
   have hlt:(ms.take i).length=i:=by rw [List.length_take];omega
   refine⟨_,rfl,zi,xi,_,_,rfl,rfl,SqT.of hzi,h0,rfl,_,rfl,jf (fun c=>?_) (fun c=>?_)⟩
   · have hw:m.wd="mix":=by simpa using c
     refine⟨_,rfl,Nxt.mk hi ⟨e.trans w1,?_,by simp at hal ⊢;omega⟩⟩
     rw [htk,wF,if_pos hw,hlt,List.map_append,Nat.zero_add];rfl
   · have hw:¬ m.wd="mix":=by simpa using c
     refine Nxt.mk hi ⟨e.trans w1,?_,by omega⟩
     rw [htk,wF,if_neg hw,List.append_nil]
 rintro acc H1 ⟨e1,rfl,hal⟩ pl hpl
 rw [hxl,List.take_length] at*
 have w2:=qF hpl (.lst ((jg 0 ms).map fun(n:Nat)=>V.int (n:Int)))
 have hP:(upd H1 pl (.lst ((jg 0 ms).map fun(n:Nat)=>V.int (n:Int)))) pl=some (.lst ((jg 0 ms).map fun(n:Nat)=>V.int (n:Int))):=qD
 have e2:=e1.trans w2
 generalize upd H1 pl (.lst ((jg 0 ms).map fun(n:Nat)=>V.int (n:Int)))=H2 at hP e2 ⊢
 have tr2:Tr H2 z ms:=⟨xs,e2 _ _ hz,his.ts (qc e2)⟩
 refine⟨_,rfl,_,rfl,z,ms,rfl,tr2,hl,fun sp us H3 e3 _ hsp hus=>?_⟩
 have hP3:=e3 _ _ hP
 have hul:=hus.len
 refine⟨pl,sp,rfl,⟨_,SqL.of hP3⟩,⟨_,SqL.of hsp⟩,qRi (K:=K) (a:=pl) (b:=sp) (xs:=(jg 0 ms).map fun(n:Nat)=>V.int (n:Int)) (ys:=us) (fun i σ H'=>∃ (o1 o2:Option V),σ=[some (.ref z),some (.int t),some (.ref pl),o1,o2]∧qLx ((jg 0 ms).drop i) ((qk 0 ms).drop i) t=qGm 0 0 ms t∧Same H3 H') ?_ ⟨none,none,rfl,qFy 0 0 ms t,Same.refl _⟩ ?_ ?_ ?_⟩
 · rw [List.length_map,hul,ww 0 0 ms]
 · rintro i σ H' hi ⟨o1,o2,rfl,_,e⟩
   exact⟨SqL.of (e _ _ hP3),SqL.of (e _ _ hsp)⟩
 · rintro i x y σ H' p hx hy ⟨o1,o2,rfl,hap,e⟩ hp
   refine qL fun _ Y=>?_
   obtain⟨n,hn,rfl⟩:∃ n:Nat,(jg 0 ms)[i]? =some n∧x= .int (n:Int):=by
    rw [List.getElem?_map] at hx
    cases e:(jg 0 ms)[i]? with
    | none=>rw [e] at hx;cases hx
    | some m=>rw [e] at hx;exact⟨m,rfl,(Option.some.inj hx).symm⟩
   obtain⟨x0,y0,z0,q,hs,rfl,hq⟩:=hus.get hy
   apply Y
   have w4:=qF hp (.tup [.int (n:Int),.ref q])
   have e4:=e.trans w4
   have hq4:=e4 _ _ hq
   rw [jW hn,jW hs,qLx] at hap
   refine⟨p,_,rfl,SqT.of qD,rfl,_,_,rfl,_,_,rfl,rfl,?_⟩
   generalize upd H' p (.tup [.int (n:Int),.ref q])=H5 at e4 hq4 ⊢
   have a0:atI [V.int x0,.int y0,.int z0] 0=some (.int x0):=rfl
   have a2:atI [V.int x0,.int y0,.int z0] 2=some (.int z0):=rfl
   refine(ixO hq4 a0 ⟨_,rfl,_,_,rfl,rfl,_,rfl,?_⟩)
   refine jf (fun c1=>?_) (fun c1=>?_)
   · refine⟨_,rfl,ixO hq4 a2 ⟨_,_,rfl,rfl,_,rfl,?_⟩⟩
     refine jf (fun c2=>?_) (fun c2=>?_)
     · rw [if_pos ⟨by simpa using c1,by simpa using c2⟩] at hap
       rw [← hap] at kk
       refine⟨_,rfl,_,rfl,ixO hq4 a0 ⟨_,_,rfl,rfl,sL2,fun f hf=>?_⟩⟩
       exact kk f _ (((e2.trans e3).trans e4).trans (qF hf _)) qD
     · rw [if_neg (fun c=>c2 (by simpa using c.2))] at hap
       exact⟨_,_,rfl,hap,e4⟩
   · rw [if_neg (fun c=>c1 (by simpa using c.1))] at hap
     exact jQ ⟨_,_,rfl,hap,e4⟩
 · rintro σ H' ⟨o1,o2,rfl,hap,e⟩
   rw [List.length_map,List.drop_length] at hap
   have hn:qLx [] ((qk 0 ms).drop (jg 0 ms).length) t=none:=by
    generalize (qk 0 ms).drop (jg 0 ms).length=ss
    cases ss <;> rfl
   rw [hn] at hap
   rw [← hap] at kk
   exact kk H' ((e2.trans e3).trans e)
set_option genInjectivity true in
structure Te where
 n:Str
 pic:Int
 p:Int
 q:Int
def Te.d (t:Te):D:=.tup [.leaf (.str t.n),.leaf (.int t.pic),.tup [.leaf (.int t.p),.leaf (.int t.q)]]
def IsTe (K:W.Frag)(H:Hp)(t:Te)(v:V):Prop:=∃ z s:Addr,v= .ref z∧H z=some (.tup [.str t.n,.int t.pic,.ref s])∧SqT K H s [.int t.p,.int t.q]
def IsTes (K:W.Frag)(H:Hp):List Te→List V→Prop
 | [],[]=>True
 | t::ts,v::vs=>IsTe K H t v∧IsTes K H ts vs
 | _,_=>False
theorem IsTe.same {H H':Hp}(e:Same H H'){t:Te}{v:V}(h:IsTe K H t v):IsTe K H' t v:=
 let ⟨z,s,h1,h2,h3⟩:=h;⟨z,s,h1,e _ _ h2,L3.Same.tup e h3⟩
theorem IsTes.same {H H':Hp}(e:Same H H'):∀ {ts:List Te} {vs:List V},IsTes K H ts vs→IsTes K H' ts vs
 | [],[],_=>trivial
 | _::_,_::_,h=>⟨h.1.same e,IsTes.same e h.2⟩
 | [],_::_,h=>h.elim
 | _::_,[],h=>h.elim
theorem IsTes.len {H:Hp}:∀ {ts:List Te} {vs:List V},IsTes K H ts vs→vs.length=ts.length
 | [],[],_=>rfl
 | _::_,_::_,h=>by rw [List.length_cons,List.length_cons,IsTes.len h.2]
 | [],_::_,h=>h.elim
 | _::_,[],h=>h.elim
theorem IsTe.rep {H:Hp}{t:Te}{v:V}(h:IsTe K H t v):Rep K H t.d v:=by
 obtain⟨z,s,rfl,h2,h3⟩:=h
 unfold Te.d Rep
 refine⟨z,_,rfl,SqT.of h2,?_⟩
 unfold Reps Reps Reps Reps
 refine⟨?_,?_,?_,trivial⟩
 · unfold Rep;exact⟨rfl,rfl⟩
 · unfold Rep;exact⟨rfl,rfl⟩
 · unfold Rep;exact⟨s,_,rfl,h3,qB1 (xs:=[.int t.p,.int t.q]) rfl⟩
theorem IsTes.rep {H:Hp}:∀ {ts:List Te} {vs:List V},IsTes K H ts vs→Reps K H (ts.map Te.d) vs
 | [],[],_=>by unfold List.map Reps;trivial
 | _::_,_::_,h=>by unfold List.map Reps;exact⟨h.1.rep,h.2.rep⟩
 | [],_::_,h=>h.elim
 | _::_,[],h=>h.elim
theorem qOj (t:Te):eqD t.d t.d=true:=by simp [Te.d,eqD,zj,eqV]
theorem qAk:∀ ts:List Te,zj (ts.map Te.d) (ts.map Te.d)=true
 | []=>by simp [zj]
 | m::ms=>by unfold List.map zj;rw [qOj,qAk ms];rfl
theorem qJr:∀ ts:List Te,ke (ts.map Te.d)≤2
 | []=>by simp [ke]
 | m::ms=>by
  have h2:=qJr ms
  have h1:dep m.d≤2:=by simp [Te.d,dep,ke]
  unfold List.map ke
  omega
def TL (K:W.Frag)(H:Hp)(z:Addr)(ts:List Te):Prop:=∃ vs,H z=some (.lst vs)∧IsTes K H ts vs
theorem TL.same {H H':Hp}{z:Addr}{ts:List Te}(e:Same H H')(h:TL K H z ts):TL K H' z ts:=let ⟨vs,h1,h2⟩:=h;⟨vs,e _ _ h1,h2.same e⟩
theorem TL.rep {H:Hp}{z:Addr}{ts:List Te}(h:TL K H z ts):Rep K H (.lst (ts.map Te.d)) (.ref z):=by
 obtain⟨vs,h1,h2⟩:=h
 unfold Rep
 exact⟨z,vs,rfl,SqL.of h1,h2.rep⟩
theorem neTL {H:Hp}{x y:Addr}{ts:List Te}{Q:VK}(h1:TL K H x ts)(h2:TL K H y ts)(q:Q (.bl false) H):qR1 K true (.ref x) (.ref y) H Q:=by
 refine⟨_,_,h1.rep,h2.rep,rfl,by have:=qJr ts;unfold dep;omega,?_⟩
 have e:eqD (.lst (ts.map Te.d)) (.lst (ts.map Te.d))=true:=by unfold eqD;exact qAk ts
 rw [e]
 exact q
theorem qMt {H:Hp}{y:Addr}(h2:H y=some (.lst [])):Rep K H (.lst []) (.ref y):=by
 unfold Rep;exact⟨y,[],rfl,SqL.of h2,by unfold Reps;trivial⟩
theorem qWl {H:Hp}{x y:Addr}{ts:List Te}{Q:VK}(h1:TL K H x ts)(h2:H y=some (.lst []))(q:Q (.bl (!ts.isEmpty)) H):qR1 K true (.ref x) (.ref y) H Q:=by
 refine⟨_,.lst [],h1.rep,qMt h2,rfl,by have:=qJr ts;unfold dep;omega,?_⟩
 have e:eqD (.lst (ts.map Te.d)) (.lst [])=ts.isEmpty:=by cases ts <;> simp [eqD,zj]
 rw [e]
 exact q
def Im.g:Im→Prop
 | .clip _ p q r s l=>0 < q∧0 < s∧p.natAbs < 2 ^ 400∧q.natAbs < 2 ^ 400∧r.natAbs < 2 ^ 400∧s.natAbs < 2 ^ 400∧1≤l∧l < 2 ^ 400
 | .nest _ b l=>0≤b∧b < 2 ^ 60∧1≤l
 | .gap l=>1≤l
 | .mix l=>1≤l∧l < 2 ^ 60
theorem Im.g_mo {m:Im}(h:m.g):0≤m.mo:=by
 cases m with
 | clip n p q r s l=>have:=h.2.2.2.2.2.2.1;show 0≤l;omega
 | nest n b l=>have:=h.2.2;show 0≤l;omega
 | gap l=>have h:1≤l:=h;show 0≤l;omega
 | mix l=>exact Int.le_refl _
def qPd (ms:List Im):Prop:=∀ (i:Nat) (l:Int),ms[i]? =some (.mix l)→1≤i∧(∃ n p q r s k,ms[i - 1]? =some (.clip n p q r s k))∧∃ n p q r s k,ms[i+1]? =some (.clip n p q r s k)
def qKy (p q r s k:Int):Int:=(p*s+k*r*q).fdiv (q*s)
def qCm (ms:List Im)(i:Nat)(j:Int):List Te:=
 match ms[i]?,ms[i - 1]?,ms[i+1]? with
 | some (.mix l),some (.clip n p q r s k),some (.clip n' p' q' r' s' _)=>[⟨n,qKy p q r s (k+(j - l.fdiv 2)),ji (l - j) (l+1),jY (l - j) (l+1)⟩,⟨n',qKy p' q' r' s' (j - l.fdiv 2),ji (j+1) (l+1),jY (j+1) (l+1)⟩]
 | _,_,_=>[]
def j5 (f:Str→Int→List Te)(ms:List Im)(t:Int):List Te:=
 match qGm 0 0 ms t with
 | some (i,j)=>qCm ms i j
 | none=>match jn 0 0 ms t with
  | none=>[]
  | some (i,d)=>match ms[i]? with
   | some (.clip n p q r s _)=>[⟨n,qKy p q r s d,1,1⟩]
   | some (.nest nm b _)=>f nm (b+d)
   | _=>[]
def v6:List (List Te)→List Te
 | []=>[]
 | x::r=>if x.isEmpty then v6 r else x
abbrev Rms:=Str→Option (List (List Im))
def xI (rm:Rms):Nat→Str→Int→List Te
 | 0,_,_=>[]
 | n+1,nm,t=>v6 (((rm nm).getD []).map fun ms=>j5 (xI rm n) ms t)
def RoomAt (H:Hp)(rz:Addr)(rm:Rms):Prop:=∃ (re td:Addr) (kvs:List (Key × V)),H rz=some (.tup [.ref re,.ref td])∧Rd H td (.dK kvs)∧∀ nm ts,rm nm=some ts→∃ v,qL9 kvs (Sum.inr nm)=some v∧TabAt H v ts
theorem RoomAt.same {H H':Hp}(e:Same H H'){rz:Addr}{rm:Rms}(h:RoomAt H rz rm):RoomAt H' rz rm:=
 let ⟨re,td,kvs,h1,h2,h3⟩:=h;⟨re,td,kvs,e _ _ h1,qI7 e h2,fun nm ts q=>let ⟨v,a,b⟩:=h3 nm ts q;⟨v,a,b.same e⟩⟩
def Lv (rm:Rms):Nat→Str→Prop
 | 0,_=>False
 | n+1,nm=>∃ ts,rm nm=some ts∧ts.length≤300∧∀ ms∈ts,ms.length≤300∧qPd ms∧∀ m∈ms,m.g∧∀ nm' b l,m= .nest nm' b l→Lv rm n nm'
def LvT (rm:Rms)(n:Nat)(ms:List Im):Prop:=ms.length≤300∧qPd ms∧∀ m∈ms,m.g∧∀ nm' b l,m= .nest nm' b l→Lv rm n nm'
theorem qKm:∀ {b:Int} {i:Nat} {ms:List Im} {t:Int} {k:Nat} {d:Int},jn b i ms t=some (k,d)→(∀ m∈ms,m.g)→0≤b→0≤d∧d≤t
 | _,_,[],_,_,_,h,_,_=>by simp [jn] at h
 | b,i,m::ms,t,k,d,h,hg,hb=>by
  rw [jn] at h
  by_cases hc:b≤t∧t < b+m.mo
  · rw [if_pos hc] at h
    cases h
    omega
  · rw [if_neg hc] at h
    have:=Im.g_mo (hg m (by simp))
    exact qKm h (fun x hx=>hg x (by simp [hx])) (by omega)
theorem qDq:∀ {b:Int} {i:Nat} {ms:List Im} {t:Int} {k:Nat} {d:Int},jn b i ms t=some (k,d)→i≤k∧∃ m,ms[k - i]? =some m
 | _,_,[],_,_,_,h=>by simp [jn] at h
 | b,i,m::ms,t,k,d,h=>by
  rw [jn] at h
  by_cases hc:b≤t∧t < b+m.mo
  · rw [if_pos hc] at h
    cases h
    exact⟨Nat.le_refl _,m,by simp⟩
  · rw [if_neg hc] at h
    obtain⟨h1,m',h2⟩:=qDq h
    have e:k - i=(k - (i+1))+1:=by omega
    exact⟨by omega,m',by rw [e,List.getElem?_cons_succ];exact h2⟩
theorem qAr {i:Int}(h:i.natAbs < 2 ^ 400):Sm2 i:=Nat.lt_of_lt_of_le h (Nat.pow_le_pow_right (by decide) (by decide))
inductive qD9 (K:W.Frag)(vs:List V)(H:Hp)(Q:VK)(_:XK):Prop
| mk (z:Addr) (ms:List Im) (i:Nat) (j l:Int) (_:vs=[.ref z,.int (i:Int),.int j]) (_:Tr H z ms) (_:qPd ms) (_:(∀ m∈ms,m.g)) (_:ms[i]? =some (.mix l)) (_:0≤j) (_:j < l) (_:∀ (y:Addr) (H':Hp),Same H H'→H y=none→TL K H' y (qCm ms i j)→Q (.ref y) H')
theorem qEf (T:Tx K mg a):FnOk P w K mg base CX0 6 a.A41 a.B41 ["track","place","j"] (qD9 K):=by
 refine T.D41.F.ok jH (fun vs H Q E h=>?_) (fun cdv A outer s H vs Q E hr h=>?_)
 · obtain⟨z,ms,i,j,l,rfl,_⟩:=h
   rfl
 refine qL fun _ Y=>?_
 obtain⟨z,ms,i,j,l,rfl,⟨xs,hz,his⟩,hok,hg,hm,j0,j1,kk⟩:=h
 apply Y
 refine⟨_,(qB (qU 3 jH.nd (qI (qv qZ (pv 0) (pv 1) (fun _ _=>rfl))))
  (qB (qU 4 jH.nd (qv qZ (pv 0) (qP jJ (pv 1) qG) (fun _ _=>rfl)))
  (qB (qU 5 jH.nd (qv qZ (pv 0) (qP qo (pv 1) qG) (fun _ _=>rfl)))
  (qB (qU 6 jH.nd (qK T.D39 (qGh T) hr rfl (qA (pv 3) (qA (pv 2) qC))))
  (qB (qU 7 jH.nd (qP jJ (pv 2) (qK T.D36 (kG T) hr rfl (qA (pv 3) qC))))
  (qB (qU 8 jH.nd (ql (qA (qI (pv 4)) (qA (qK T.D13 (kN T) hr rfl (qA (pv 4) (qA (qP qo (qI (pv 4)) (pv 7)) qC))) (qA (qI (pv 6)) qC)))))
  (qB (qU 9 jH.nd (ql (qA (qI (pv 5)) (qA (qK T.D13 (kN T) hr rfl (qA (pv 5) (qA (pv 7) qC))) (qA (qI (pv 6)) qC)))))
  (qE (qM (jD (qA (pv 8) (qA (pv 9) qC)))))))))))),?_⟩
 try dsimp only [je,qg]
 refine qL fun _ Y=>?_
 obtain⟨i1,⟨n,p,q,r,s1,k,ha⟩,n',p',q',r',s2,k',hb⟩:=hok i l hm
 have gm:=hg _ (List.mem_of_getElem? hm)
 have ga:=hg _ (List.mem_of_getElem? ha)
 have gb:=hg _ (List.mem_of_getElem? hb)
 have el:qCm ms i j=[⟨n,qKy p q r s1 (k+(j - l.fdiv 2)),ji (l - j) (l+1),jY (l - j) (l+1)⟩,⟨n',qKy p' q' r' s2 (j - l.fdiv 2),ji (j+1) (l+1),jY (j+1) (l+1)⟩]:=by
  unfold qCm;rw [hm,ha,hb]
 rw [el] at kk
 have l60:l < 2 ^ 60:=gm.2
 obtain⟨vm,hvm,Im⟩:=his.get' hm
 obtain⟨va,hva,Ia⟩:=his.get' ha
 obtain⟨vb,hvb,Ib⟩:=his.get' hb
 obtain⟨zm,rfl,hzm⟩:=id Im
 apply Y
 have am:atI xs (i:Int)=some (.ref zm):=qX hvm
 have aa:atI xs ((i:Int) - 1)=some va:=by
  have e:(i:Int) - 1=((i - 1:Nat):Int):=by omega
  rw [e];exact qX hva
 have ab:atI xs ((i:Int)+1)=some vb:=by
  have e:(i:Int)+1=((i+1:Nat):Int):=by omega
  rw [e];exact qX hvb
 have hS:=SqL.of (K:=K) hz
 refine⟨_,rfl,_,rfl,z,_,_,_,rfl,rfl,hS,am,ixT (SqT.of hzm) at1 ?_⟩
 refine⟨_,rfl,_,rfl,_,_,rfl,rfl,z,_,_,_,rfl,rfl,hS,aa,?_⟩
 refine⟨_,rfl,_,rfl,_,_,rfl,rfl,z,_,_,_,rfl,rfl,hS,ab,?_⟩
 refine⟨_,rfl,_,rfl,l,j,rfl,j0,j1,l60,fun sh H1 w1 ⟨sx,sy,hsh,hsx,hsy⟩=>?_⟩
 refine⟨_,rfl,_,rfl,l,rfl,_,_,rfl,rfl,?_⟩
 have Ia1:=Ia.ts (qc w1)
 have Ib1:=Ib.ts (qc w1)
 refine qL fun _ Y=>?_
 obtain⟨za,xa,ya,rfl,hza,hxa,hya⟩:=id Ia1
 obtain⟨zb,xb,yb,rfl,hzb,hxb,hyb⟩:=id Ib1
 obtain⟨q0,s0,bp,bq,br,bs,k0,k1⟩:=id ga
 obtain⟨q0',s0',bp',bq',br',bs',_,_⟩:=id gb
 apply Y
 have hf:l.fdiv 2≤l∧0≤l.fdiv 2:=by
  have:=q9 (p:=l) (q:=2) (by decide)
  omega
 have bk1:Sm2 (k+(j - l.fdiv 2)):=by
  have e:(2:Int) ^ 400+2 ^ 61 < 2 ^ 401:=by decide
  have:(k+(j - l.fdiv 2)).natAbs < 2 ^ 401:=by omega
  exact Nat.lt_of_lt_of_le this (Nat.pow_le_pow_right (by decide) (by decide))
 have bk2:Sm2 (j - l.fdiv 2):=by
  have:(j - l.fdiv 2).natAbs < 2 ^ 61:=by omega
  exact Nat.lt_of_lt_of_le this (Nat.pow_le_pow_right (by decide) (by decide))
 refine(ixO hza qD8 ⟨_,rfl,ixO hza qMn ⟨_,rfl,_,_,rfl,rfl,?_⟩⟩)
 refine⟨_,n,p,q,r,s1,k,_,rfl,qHv Ia1,q0,s0,qAr bp,qAr bq,qAr br,qAr bs,bk1,fun H2 w2=>?_⟩
 refine(ixO (w2 _ _ hsh) at0 ⟨sL3,fun f1 hf1=>?_⟩)
 have w3:=qF hf1 (.tup [.str n,.int ((p*s1+(k+(j - l.fdiv 2))*r*q).fdiv (q*s1)),.ref sx])
 have w23:=w2.trans w3
 refine(ixO (w23 _ _ hzb) qD8 ⟨_,rfl,_,rfl,?_⟩)
 refine⟨_,n',p',q',r',s2,k',_,rfl,qHv (Ib1.ts (qc w23)),q0',s0',qAr bp',qAr bq',qAr br',qAr bs',bk2,fun H4 w4=>?_⟩
 have w24:=w23.trans w4
 refine(ixO (w24 _ _ hsh) at1 ⟨sL3,fun f2 hf2=>?_⟩)
 have w5:=qF hf2 (.tup [.str n',.int ((p'*s2+(j - l.fdiv 2)*r'*q').fdiv (q'*s2)),.ref sy])
 refine⟨_,rfl,_,rfl,sL2,fun y hy=>?_⟩
 have w6:=qF hy (.lst [.ref f1,.ref f2])
 have w25:=(w24.trans w5).trans w6
 refine kk y _ (w1.trans w25) ((w1.trans (w24.trans w5)).free hy) ⟨_,qD,⟨f1,sx,rfl,w6 _ _ (w5 _ _ (w4 _ _ qD)),SqT.of (w25 _ _ hsx)⟩,⟨f2,sy,rfl,w6 _ _ qD,SqT.of (w25 _ _ hsy)⟩,trivial⟩
inductive zn (K:W.Frag)(n:Nat)(vs:List V)(H:Hp)(Q:VK)(_:XK):Prop
| mk (rz:Addr) (nm:Str) (t:Int) (rm:Rms) (_:vs=[.ref rz,.str nm,.int t]) (_:RoomAt H rz rm) (_:Lv rm n nm) (_:0≤t) (_:t+n*2 ^ 61 < 2 ^ 400) (_:∀ (y:Addr) (H':Hp),Same H H'→H y=none→TL K H' y (xI rm n nm t)→Q (.ref y) H')
inductive vc (K:W.Frag)(n:Nat)(vs:List V)(H:Hp)(Q:VK)(_:XK):Prop
| mk (z rz:Addr) (ms:List Im) (t:Int) (rm:Rms) (_:vs=[.ref z,.int t,.ref rz]) (_:Tr H z ms) (_:LvT rm n ms) (_:(n≠0→RoomAt H rz rm)) (_:0≤t) (_:t+n*2 ^ 61+2 ^ 60 < 2 ^ 400) (_:∀ (y:Addr) (H':Hp),Same H H'→H y=none→TL K H' y (j5 (xI rm n) ms t)→Q (.ref y) H')
theorem qBe (T:Tx K mg a)(n:Nat)(IH:∀ {base:Heap},FnOk P w K mg base CX0 (2*n+7) a.A75 a.B75 ["room","name","moment"] (zn K n)):
 FnOk P w K mg base CX0 (2*n+8) a.A74 a.B74 ["track","moment","room"] (vc K n):=by
 refine T.D74.F.ok vX (fun vs H Q E h=>?_) (fun cdv A outer s H vs Q E hrn h=>?_)
 · obtain⟨z,rz,ms,t,rm,rfl,_⟩:=h
   rfl
 refine qL fun _ Y=>?_
 obtain⟨z,rz,ms,t,rm,rfl,tT,⟨hml,hmx,hgs⟩,hrm,t0,t1,kk⟩:=h
 apply Y
 have hr:=hrn.mono (show 7≤2*n+7 by omega)
 refine⟨_,(qB (qU 3 vX.nd (qK T.D40 (qN5 T) hr rfl (qA (pv 0) (qA (pv 1) qC))))
  (qB (qd (qDk (qMv (pv 3))) (qE (qM (qK T.D41 (qEf T) hr rfl (qA (pv 0) (qA (qI (pv 3)) (qA (qI (pv 3)) qC)))))) qQ)
  (qB (qU 4 vX.nd (qK T.D27 (qAq T) hr rfl (qA (pv 0) (qA (pv 1) qC))))
  (qB (qd (qDk (qEo (pv 4))) (qE (qM (jD qC))) qQ)
  (qB (qU 5 vX.nd (qv qZ (pv 0) (qI (pv 4)) (fun _ _=>rfl)))
  (qB (qd (qJ jU (qI (pv 5)) qR (qN _)) (qE (qM (jD (qA (ql (qA (qI (pv 5)) (qA (qK T.D13 (kN T) hr rfl (qA (pv 5) (qA (qI (pv 4)) qC))) (qA (xh (v:=.ref a.n_WHOLE_SHARE) rfl T.g_WHOLE_SHARE rfl) qC)))) qC)))) qQ)
  (qB (qd (qJ jU (qI (pv 5)) qR (qN _)) (qE (qM (qK T.D75 IH hrn rfl (qA (pv 2) (qA (qI (pv 5)) (qA (qP qo (qI (pv 5)) (qI (pv 4))) qC))) (Nat.le_refl _)))) qQ)
  (qE (qM (jD qC)))))))))),?_⟩
 try dsimp only [je,qg]
 have hg:∀ m∈ms,m.g:=fun m hm=>(hgs m hm).1
 refine qL fun _ Y=>?_
 obtain⟨xs,hz,his⟩:=id tT
 apply Y
 refine⟨_,rfl,_,rfl,z,ms,t,rfl,tT,hml,?_⟩
 cases hmf:qGm 0 0 ms t with
 | some c=>
  obtain⟨i,j⟩:=c
  intro p H1 e1 hp
  have et:j5 (xI rm n) ms t=qCm ms i j:=by unfold j5;rw [hmf]
  rw [et] at kk
  refine qL fun _ Y=>?_
  obtain⟨l,_,hm,j0,j1⟩:=qJ0 hmf
  apply Y
  rw [Nat.sub_zero] at hm
  refine⟨_,rfl,_,rfl,qUy (by intro z;cases z) ?_⟩
  refine⟨_,rfl,ixO hp at0 (ixO hp at1 ?_)⟩
  exact⟨z,ms,i,j,l,rfl,tT.same e1,hmx,hg,hm,j0,j1,fun y H2 e2 hy ht=>kk y H2 (e1.trans e2) (e1.free hy) ht⟩
 | none=>
  intro H1 e1
  refine⟨_,rfl,_,rfl,qVm rfl ?_⟩
  refine⟨_,rfl,_,rfl,z,ms,t,rfl,tT.same e1,?_⟩
  cases hit:jn 0 0 ms t with
  | none=>
   intro H2 e2
   have et:j5 (xI rm n) ms t=[]:=by unfold j5;rw [hmf,hit]
   rw [et] at kk
   refine⟨_,rfl,_,rfl,jf (fun _=>?_) (fun c=>absurd (by simp) c)⟩
   refine⟨sL0,fun y hy=>?_⟩
   exact kk y _ ((e1.trans e2).trans (qF hy _)) ((e1.trans e2).free hy) ⟨[],qD,trivial⟩
  | some c=>
   obtain⟨i,d⟩:=c
   intro p H2 e2 hp
   refine qL fun _ Y=>?_
   obtain⟨d0,d1⟩:=qKm hit hg (by decide)
   obtain⟨_,m,hm⟩:=qDq hit
   rw [Nat.sub_zero] at hm
   obtain⟨v,hv,hI⟩:=his.get' hm
   apply Y
   have e12:=e1.trans e2
   have hI2:=hI.ts (qc e12)
   refine⟨_,rfl,_,rfl,jf (fun c=>absurd c (by simp)) (fun _=>?_)⟩
   refine⟨_,rfl,ixO hp at0 ⟨z,_,_,_,rfl,rfl,SqL.of (e12 _ _ hz),qX hv,?_⟩⟩
   refine qL fun _ Y=>?_
   obtain⟨gm,hnest⟩:=hgs m (List.mem_of_getElem? hm)
   obtain⟨zi,xi,rfl,hzi,h0,h1⟩:=hI2.opn
   apply Y
   refine⟨_,rfl,zi,xi,_,_,rfl,rfl,SqT.of hzi,h0,rfl,_,rfl,?_⟩
   cases m with
   | clip nm p' q r s1 l=>
    have et:j5 (xI rm n) ms t=[⟨nm,qKy p' q r s1 d,1,1⟩]:=by unfold j5;rw [hmf,hit];simp only [hm]
    rw [et] at kk
    refine jf (fun _=>?_) (fun c=>absurd (by show decide (V.str "clip"=V.str "clip")=true;simp) c)
    refine qL fun _ Y=>?_
    obtain⟨q0,s0,bp,bq,br,bs,_,_⟩:=gm
    obtain⟨z2,x2,y2,e3,hz2,hx2,hy2⟩:=id hI2
    cases e3
    apply Y
    refine(ixO hz2 qD8 ⟨_,rfl,ixO hp at1 ?_⟩)
    refine⟨_,nm,p',q,r,s1,l,d,rfl,qHv hI2,q0,s0,qAr bp,qAr bq,qAr br,qAr bs,qAr (by have:(0:Int)≤n*2 ^ 61:=Int.mul_nonneg (by omega) (by decide);omega),fun H3 w3=>?_⟩
    refine⟨sL3,fun f hf=>⟨sL1,fun y hy=>?_⟩⟩
    have w4:=qF hf (.tup [.str nm,.int ((p'*s1+d*r*q).fdiv (q*s1)),.ref a.n_WHOLE_SHARE])
    have w5:=qF hy (.lst [.ref f])
    exact kk y _ (((e12.trans w3).trans w4).trans w5) (((e12.trans w3).trans w4).free hy) ⟨_,qD,⟨f,_,rfl,w5 _ _ qD,T.sq_WHOLE_SHARE _⟩,trivial⟩
   | nest nm b l=>
    have et:j5 (xI rm n) ms t=xI rm n nm (b+d):=by unfold j5;rw [hmf,hit];simp only [hm]
    rw [et] at kk
    refine jf (fun c=>absurd (show decide (V.str "nest"=V.str "clip")=true from c) (by rw [qD5];decide+kernel)) (fun _=>?_)
    refine⟨_,rfl,zi,xi,_,_,rfl,rfl,SqT.of hzi,h0,rfl,_,rfl,?_⟩
    refine jf (fun _=>?_) (fun c=>absurd (by show decide (V.str "nest"=V.str "nest")=true;simp) c)
    have lv:=hnest nm b l rfl
    have n0:n≠0:=by
     intro q
     subst q
     exact lv
    refine qL fun _ Y=>?_
    obtain⟨b0,b1,l1⟩:=gm
    obtain⟨z2,e3,hz2⟩:=id hI2
    cases e3
    apply Y
    have a1:atI [V.str "nest",.str nm,.int b,.int l] 1=some (.str nm):=rfl
    have a2:atI [V.str "nest",.str nm,.int b,.int l] 2=some (.int b):=rfl
    refine⟨_,rfl,ixO hz2 a1 (ixO hz2 a2 (ixO hp at1 ⟨_,_,rfl,rfl,?_⟩))⟩
    refine⟨rz,nm,b+d,rm,rfl,(hrm n0).same e12,lv,by omega,by omega,fun y H3 e3 hy ht=>kk y H3 (e12.trans e3) (e12.free hy) ht⟩
   | gap l=>
    have et:j5 (xI rm n) ms t=[]:=by unfold j5;rw [hmf,hit];simp only [hm]
    rw [et] at kk
    refine jf (fun c=>absurd (show decide (V.str "gap"=V.str "clip")=true from c) (by rw [qD5];decide+kernel)) (fun _=>?_)
    refine⟨_,rfl,zi,xi,_,_,rfl,rfl,SqT.of hzi,h0,rfl,_,rfl,?_⟩
    refine jf (fun c=>absurd (show decide (V.str "gap"=V.str "nest")=true from c) (by rw [qD5];decide+kernel)) (fun _=>?_)
    refine⟨sL0,fun y hy=>?_⟩
    exact kk y _ (e12.trans (qF hy _)) (e12.free hy) ⟨[],qD,trivial⟩
   | mix l=>
    have et:j5 (xI rm n) ms t=[]:=by unfold j5;rw [hmf,hit];simp only [hm]
    rw [et] at kk
    refine jf (fun c=>absurd (show decide (V.str "mix"=V.str "clip")=true from c) (by rw [qD5];decide+kernel)) (fun _=>?_)
    refine⟨_,rfl,zi,xi,_,_,rfl,rfl,SqT.of hzi,h0,rfl,_,rfl,?_⟩
    refine jf (fun c=>absurd (show decide (V.str "mix"=V.str "nest")=true from c) (by rw [qD5];decide+kernel)) (fun _=>?_)
    refine⟨sL0,fun y hy=>?_⟩
    exact kk y _ (e12.trans (qF hy _)) (e12.free hy) ⟨[],qD,trivial⟩
theorem qA7 (T:Tx K mg a):FnOk P w K mg base CX0 7 a.A75 a.B75 ["room","name","moment"] (zn K 0):=by
 refine T.D75.F.ok zz (fun vs H Q E h=>?_) (fun cdv A outer s H vs Q E hrn h=>?_)
 · obtain⟨_,_,_,_,_,_,h,_⟩:=h
   exact h.elim
 · obtain⟨_,_,_,_,_,_,h,_⟩:=h
   exact h.elim
theorem qIc (T:Tx K mg a)(n:Nat)(IH:∀ {base:Heap},FnOk P w K mg base CX0 (2*n+8) a.A74 a.B74 ["track","moment","room"] (vc K n)):
 FnOk P w K mg base CX0 (2*n+9) a.A75 a.B75 ["room","name","moment"] (zn K (n+1)):=by
 refine T.D75.F.ok zz (fun vs H Q E h=>?_) (fun cdv A outer s H vs Q E hrn h=>?_)
 · obtain⟨rz,nm,t,rm,rfl,_⟩:=h
   rfl
 refine qL fun _ Y=>?_
 obtain⟨rz,nm,t,rm,rfl,hR,⟨ts,hts,htl,hlv⟩,t0,t1,kk⟩:=h
 apply Y
 have hu:=hrn.units
 have hu1:(A.deeper (PyProof.Rows.envOfC (Str.ofString "told_at") (qH wU) s.heap.objs.size a.A75 cdv)).units+1 < cLine:=by omega
 refine⟨_,(qB (qU 3 zz.nd (qI (qDd hu1 (qI (pv 0)) (pv 1) (fun _ _=>rfl))))
  (qB (j2 PassesOwn.never rfl (jX (pv 3)) (qt (i:=4) zz.nd rfl (Or.inl rfl)) (qB (qU 5 zz.nd (qK T.D74 IH hrn rfl (qA (pv 4) (qA (pv 2) (qA (pv 0) qC))) (Nat.le_refl _)))
  (qE (qd (qJ (qOa hu) (pv 5) (jD qC) (qN _)) (qE (qM (pv 5))) qQ))))
  (qE (qM (jD qC))))),?_⟩
 try dsimp only [je,qg]
 have et:xI rm (n+1) nm t=v6 (ts.map fun ms=>j5 (xI rm n) ms t):=by rw [xI,hts];rfl
 rw [et] at kk
 refine qL fun _ Y=>?_
 obtain⟨re,td,kvs,h1,h2,h3⟩:=id hR
 obtain⟨v,hv,tt,tl,ti,zs,rfl,h4,h5,h6⟩:=h3 nm ts hts
 apply Y
 refine(ixO h1 at1 ⟨_,rfl,td,_,rfl,.inl ⟨kvs,Sum.inr nm,h2,rfl,hv.symm⟩,ixT (SqT.of h4) at0 ?_⟩)
 refine⟨_,rfl,tl,rfl,⟨_,SqL.of h5⟩,jy (K:=K) (a:=tl) (xs:=zs) (fun i σ H'=>∃ (o1 o2:Option V),σ=[some (.ref rz),some (.str nm),some (.int t),some (.ref tl),o1,o2]∧v6 ((ts.drop i).map fun ms=>j5 (xI rm n) ms t)=v6 (ts.map fun ms=>j5 (xI rm n) ms t)∧Same H H') ⟨none,none,rfl,rfl,Same.refl _⟩ ?_ ?_ ?_⟩
 · rintro i σ H' hi ⟨o1,o2,rfl,_,e⟩
   exact SqL.of (e _ _ h5)
 · rintro i x σ H' hx ⟨o1,o2,rfl,hap,e⟩
   refine qL fun _ Y=>?_
   obtain⟨ms,z,hms,rfl,hT⟩:=h6.get hx
   apply Y
   rw [jW hms,List.map_cons,v6] at hap
   refine⟨_,rfl,_,rfl,_,rfl,z,rz,ms,t,rm,rfl,hT.same e,hlv ms (List.mem_of_getElem? hms),fun _=>hR.same e,t0,?_,fun y H1 e1 hy ht=>?_⟩
   · have e1:((n+1:Nat):Int)=(n:Int)+1:=by omega
     rw [e1,Int.add_mul] at t1
     omega
   refine⟨_,rfl,sL0,fun en hen=>qWl (ht.same (qF hen _)) qD ⟨_,rfl,?_⟩⟩
   have w2:=qF hen (.lst [])
   cases hq:(j5 (xI rm n) ms t).isEmpty with
   | true=>
    rw [hq,if_pos rfl] at hap
    exact jQ ⟨_,_,rfl,hap,(e.trans e1).trans w2⟩
   | false=>
    rw [hq,if_neg (by decide)] at hap
    rw [← hap] at kk
    exact xE ⟨_,rfl,kk y _ ((e.trans e1).trans w2) (e.free hy) (ht.same w2)⟩
 · rintro σ H' ⟨o1,o2,rfl,hap,e⟩
   rw [h6.len,List.drop_length] at hap
   have hn:v6 ([].map fun ms=>j5 (xI rm n) ms t)=[]:=rfl
   rw [hn] at hap
   rw [← hap] at kk
   refine⟨sL0,fun y hy=>?_⟩
   exact kk y _ (e.trans (qF hy _)) (e.free hy) ⟨[],qD,trivial⟩
theorem qMh (T:Tx K mg a):∀ (n:Nat),(∀ {base:Heap},FnOk P w K mg base CX0 (2*n+7) a.A75 a.B75 ["room","name","moment"] (zn K n))∧(∀ {base:Heap},FnOk P w K mg base CX0 (2*n+8) a.A74 a.B74 ["track","moment","room"] (vc K n))
 | 0=>⟨qA7 T,qBe T 0 (qA7 T)⟩
 | n+1=>by
  have ih:=qMh T n
  have h1:∀ {base:Heap},FnOk P w K mg base CX0 (2*(n+1)+7) a.A75 a.B75 ["room","name","moment"] (zn K (n+1)):=qIc T n ih.2
  exact⟨h1,qBe T (n+1) h1⟩
def itT (f:Str→Int→List Te)(m:Im)(d:Int):List Te:=match m with
 | .clip n p q r s _=>[⟨n,qKy p q r s d,1,1⟩]
 | .nest nm b _=>f nm (b+d)
 | _=>[]
def mxT (p:Option Im)(l:Int)(h:Option Im)(j:Int):List Te:=match p,h with
 | some (.clip n p q r s k),some (.clip n' p' q' r' s' _)=>[⟨n,qKy p q r s (k+(j - l.fdiv 2)),ji (l - j) (l+1),jY (l - j) (l+1)⟩,⟨n',qKy p' q' r' s' (j - l.fdiv 2),ji (j+1) (l+1),jY (j+1) (l+1)⟩]
 | _,_=>[]
def qIh:Option Im→Int→List Im→Int→Option (List Te)
 | _,_,[],_=>none
 | p,b,.mix l::ms,t=>if b - l.fdiv 2≤t∧t < b+(l - l.fdiv 2) then some (mxT p l ms.head? (t - (b - l.fdiv 2))) else qIh (some (.mix l)) b ms t
 | _,b,m::ms,t=>qIh (some m) (b+m.mo) ms t
theorem wS (p:Option Im)(b l:Int)(ms:List Im)(t:Int):qIh p b (.mix l::ms) t=if b - l.fdiv 2≤t∧t < b+(l - l.fdiv 2) then some (mxT p l ms.head? (t - (b - l.fdiv 2))) else qIh (some (.mix l)) b ms t:=by rw [qIh]
theorem xC {m:Im}(h:m.wd≠"mix")(p:Option Im)(b:Int)(ms:List Im)(t:Int):qIh p b (m::ms) t=qIh (some m) (b+m.mo) ms t:=by
 cases m with
 | mix l=>exact absurd rfl h
 | _=>rw [qIh];intro l h;cases h
def qNr (f:Str→Int→List Te):Int→List Im→Int→List Te
 | _,[],_=>[]
 | b,m::ms,t=>if b≤t∧t < b+m.mo then itT f m (t - b) else qNr f (b+m.mo) ms t
def qJm (f:Str→Int→List Te)(ms:List Im)(t:Int):List Te:=(qIh none 0 ms t).getD (qNr f 0 ms t)
theorem qJw:∀ (ms pre:List Im) (b:Int) (t:Int),qIh pre.getLast? b ms t=(qGm b pre.length ms t).map fun x=>qCm (pre++ms) x.1 x.2
 | [],pre,b,t=>by simp [qIh,qGm]
 | m::ms,pre,b,t=>by
  by_cases hm:m.wd="mix"
  · obtain⟨l,rfl⟩:=qz hm
    rw [wS,qGm]
    by_cases hc:b - l.fdiv 2≤t∧t < b+(l - l.fdiv 2)
    · rw [if_pos hc,if_pos hc]
      simp only [Option.map_some]
      congr 1
      unfold qCm mxT
      have e0:(pre++Im.mix l::ms)[pre.length]? =some (.mix l):=by simp
      have e2:(pre++Im.mix l::ms)[pre.length+1]? =ms.head?:=by
       rw [List.getElem?_append_right (by omega)]
       simp [List.head?_eq_getElem?]
      rw [e0,e2]
      rcases List.eq_nil_or_concat pre with h | ⟨p',x,h⟩
      · subst h
        simp only [List.getLast?_nil,List.length_nil,List.nil_append]
        rw [show (0 - 1:Nat)=0 from rfl,List.getElem?_cons_zero]
      · subst h
        have e1:(p'.concat x++Im.mix l::ms)[(p'.concat x).length - 1]? =some x:=by simp
        have eL:(p'.concat x).getLast?=some x:=by simp
        rw [e1,eL]
        cases x <;> (cases ms.head? with
         | none=>rfl
         | some y=>cases y <;> rfl)
    · rw [if_neg hc,if_neg hc]
      have:=qJw ms (pre++[.mix l]) b t
      simp only [List.getLast?_append,List.getLast?_singleton,Option.some_or,List.length_append,List.length_singleton,List.append_assoc,List.singleton_append] at this
      exact this
  · rw [xC hm,qAu hm]
    have:=qJw ms (pre++[m]) (b+m.mo) t
    simp only [List.getLast?_append,List.getLast?_singleton,Option.some_or,List.length_append,List.length_singleton,List.append_assoc,List.singleton_append] at this
    exact this
theorem qNv (f:Str→Int→List Te):∀ (ms pre:List Im) (b:Int) (t:Int),qNr f b ms t=(match jn b pre.length ms t with
 | none=>[]
 | some (i,d)=>match (pre++ms)[i]? with
  | some (.clip n p q r s _)=>[⟨n,qKy p q r s d,1,1⟩]
  | some (.nest nm b _)=>f nm (b+d)
  | _=>[])
 | [],pre,b,t=>rfl
 | m::ms,pre,b,t=>by
  rw [qNr,jn]
  by_cases hc:b≤t∧t < b+m.mo
  · rw [if_pos hc,if_pos hc]
    have e0:(pre++m::ms)[pre.length]? =some m:=by simp
    dsimp only
    rw [e0]
    cases m <;> rfl
  · rw [if_neg hc,if_neg hc]
    have:=qNv f ms (pre++[m]) (b+m.mo) t
    simp only [List.length_append,List.length_singleton,List.append_assoc,List.singleton_append] at this
    exact this
theorem qTg (f:Str→Int→List Te)(ms:List Im)(t:Int):j5 f ms t=qJm f ms t:=by
 unfold j5 qJm
 have h1:=qJw ms [] 0 t
 have h2:=qNv f ms [] 0 t
 simp only [List.getLast?_nil,List.length_nil,List.nil_append] at h1 h2
 rw [h1]
 cases hm:qGm 0 0 ms t with
 | some x=>rfl
 | none=>rw [h2];rfl
def NLM (A:List Im):Prop:=∀ l,A.getLast?≠some (.mix l)
def NHM (A:List Im):Prop:=∀ l,A.head?≠some (.mix l)
theorem qW (m:Im)(ms:List Im):qp (m::ms)=m.mo+qp ms:=by simp [qp]
theorem jc (A B:List Im):qp (A++B)=qp A+qp B:=by simp [qp]
theorem jF:qp []=0:=rfl
theorem xH (m:Im)(A:List Im):(m::A).getLast?=A.getLast?.or (some m):=by
 cases A with
 | nil=>rfl
 | cons a A=>rw [List.getLast?_cons_cons];cases h:(a::A).getLast? with
  | none=>simp at h
  | some x=>rfl
def Nn (ms:List Im):Prop:=∀ m∈ms,0≤m.mo
theorem Nn.tail {m:Im}{ms:List Im}(h:Nn (m::ms)):Nn ms:=fun x hx=>h x (by simp [hx])
theorem Nn.len {ms:List Im}(h:Nn ms):0≤qp ms:=qN2 ms h
def Wf (m:Im):Prop:=match m with
 | .clip _ p q r s l=>0 < q∧0 < s∧Int.gcd p q=1∧1≤l
 | .nest _ _ l=>1≤l
 | .gap l=>1≤l
 | .mix l=>1≤l
theorem Wf.mo {m:Im}(h:Wf m):0≤m.mo:=by
 cases m with
 | clip n p q r s l=>have:1≤l:=h.2.2.2;show 0≤l;omega
 | nest n b l=>have h:1≤l:=h;show 0≤l;omega
 | gap l=>have h:1≤l:=h;show 0≤l;omega
 | mix l=>exact Int.le_refl _
theorem qF2 {p q r s lo k:Int}(hq:0 < q)(hs:0 < s):qKy (plP p q r s lo) (plQ p q r s lo) r s k=qKy p q r s (lo+k):=qS0 hq hs
theorem qKq (f:Str→Int→List Te){m:Im}(hm:m.wd≠"mix")(hw:Wf m)(lo hi k:Int):itT f (qm m lo hi) k=itT f m (lo+k):=by
 cases m with
 | mix l=>exact absurd rfl hm
 | clip n p q r s l=>
  show [(⟨n,qKy (plP p q r s lo) (plQ p q r s lo) r s k,1,1⟩:Te)]=[⟨n,qKy p q r s (lo+k),1,1⟩]
  rw [qF2 hw.1 hw.2.1]
 | nest n b l=>show f n (b+lo+k)=f n (b+(lo+k));rw [Int.add_assoc]
 | gap l=>rfl
theorem qQv {m:Im}(hm:m.wd≠"mix")(hw:Wf m)(lo:Int)(l:Int)(h:Option Im)(j:Int):mxT (some (qm m lo m.mo)) l h j=mxT (some m) l h j:=by
 cases m with
 | mix l=>exact absurd rfl hm
 | clip n p q r s k=>
  cases h with
  | none=>rfl
  | some y=>
   cases y with
   | clip n' p' q' r' s' k'=>
    unfold qm mxT
    dsimp only [Im.mo]
    rw [qF2 hw.1 hw.2.1,show lo+(k - lo+(j - l.fdiv 2))=k+(j - l.fdiv 2) by omega]
   | _=>rfl
 | nest n b l=>rfl
 | gap l=>rfl
theorem qRw {m:Im}(hm:m.wd≠"mix")(hw:Wf m)(hi:Int)(p:Option Im)(l j:Int):mxT p l (some (qm m 0 hi)) j=mxT p l (some m) j:=by
 cases m with
 | mix l=>exact absurd rfl hm
 | clip n p' q r s k=>
  cases p with
  | none=>rfl
  | some y=>
   cases y with
   | clip n' p'' q' r' s' k'=>
    unfold qm mxT
    dsimp only
    rw [qF2 hw.1 hw.2.1,Int.zero_add]
   | _=>rfl
 | nest n b l=>cases p with
  | none=>rfl
  | some y=>cases y <;> rfl
 | gap l=>cases p with
  | none=>rfl
  | some y=>cases y <;> rfl
theorem jS {m:Im}(lo hi:Int):(qm m lo hi).mo=hi - lo:=by cases m <;> rfl
theorem jP (m:Im)(lo hi:Int):(qm m lo hi).wd≠"mix":=by
 cases m
 · show ("clip":Str)≠"mix";decide+kernel
 · show ("nest":Str)≠"mix";decide+kernel
 · show ("gap":Str)≠"mix";decide+kernel
 · show ("gap":Str)≠"mix";decide+kernel
theorem qL5 {m m':Im}(he:∀ l h j,mxT (some m) l h j=mxT (some m') l h j)(B:List Im)(b t:Int):qIh (some m) b B t=qIh (some m') b B t:=by
 cases B with
 | nil=>simp [qIh]
 | cons x B=>
  by_cases hm:x.wd="mix"
  · obtain⟨l,rfl⟩:=qz hm
    rw [wS,wS,he]
  · rw [xC hm,xC hm]
theorem qAx {m:Im}(hm:m.wd≠"mix")(hw:Wf m)(d:Int)(B:List Im)(t:Int):∀ (A:List Im) (p:Option Im) (b:Int),qIh p b (A++qm m 0 d::qm m d m.mo::B) t=qIh p b (A++m::B) t
 | [],p,b=>by
  rw [List.nil_append,List.nil_append,xC (jP m 0 d),xC (jP m d m.mo),xC hm,jS,jS,show b+(d - 0)+(m.mo - d)=b+m.mo by omega]
  exact qL5 (qQv hm hw d) B _ t
 | x::A,p,b=>by
  by_cases hx:x.wd="mix"
  · obtain⟨l,rfl⟩:=qz hx
    rw [List.cons_append,List.cons_append,wS,wS,qAx hm hw d B t A]
    cases A with
    | nil=>
     show (if _ then some (mxT p l (some (qm m 0 d)) _) else _)=if _ then some (mxT p l (some m) _) else _
     rw [qRw hm hw]
    | cons a A=>rfl
  · rw [List.cons_append,List.cons_append,xC hx,xC hx,qAx hm hw d B t A]
theorem qE2 (f:Str→Int→List Te){m:Im}(hm:m.wd≠"mix")(hw:Wf m){d:Int}(d0:0 < d)(d1:d < m.mo)(B:List Im)(t:Int):∀ (A:List Im) (b:Int),qNr f b (A++qm m 0 d::qm m d m.mo::B) t=qNr f b (A++m::B) t
 | [],b=>by
  rw [List.nil_append,List.nil_append,qNr,qNr,qNr,jS,jS,show b+(d - 0)+(m.mo - d)=b+m.mo by omega]
  by_cases h1:b≤t∧t < b+d
  · rw [if_pos (by omega),if_pos (by omega),qKq f hm hw,Int.zero_add]
  · rw [if_neg (by omega)]
    by_cases h2:b+d≤t∧t < b+m.mo
    · rw [if_pos (by omega),if_pos (by omega),qKq f hm hw,show d+(t - (b+(d - 0)))=t - b by omega]
    · rw [if_neg (by omega),if_neg (by omega)]
 | x::A,b=>by
  rw [List.cons_append,List.cons_append,qNr,qNr,qE2 f hm hw d0 d1 B t A]
def xX:Int→List Im→List Im × List Im
 | _,[]=>([],[])
 | t,m::ms=>if m.mo≤t then (m::(xX (t - m.mo) ms).1,(xX (t - m.mo) ms).2) else if 0 < t then ([qm m 0 t],qm m t m.mo::ms) else ([],m::ms)
theorem zk:∀ (ms:List Im) (c:Int),0≤c→((xX c ms).1++(xX c ms).2=ms∧(qp (xX c ms).1=c∨(qp (xX c ms).1=qp ms∧qp ms≤c∧(xX c ms).2=[])))∨∃ (A B:List Im) (m:Im) (d:Int),ms=A++m::B∧(xX c ms).1=A++[qm m 0 d]∧(xX c ms).2=qm m d m.mo::B∧0 < d∧d < m.mo∧m.wd≠"mix"∧c=qp A+d
 | [],c,hc=>.inl ⟨rfl,.inr ⟨rfl,by rw [jF];exact hc,rfl⟩⟩
 | m::ms,c,hc=>by
  rw [xX]
  by_cases h:m.mo≤c
  · rw [if_pos h]
    dsimp only
    rcases zk ms (c - m.mo) (by omega) with ⟨h1,h2⟩ | ⟨A,B,x,d,h1,h2,h3,h4,h5,h6,h7⟩
    · refine .inl ⟨by rw [List.cons_append,h1],?_⟩
      rw [qW,qW]
      rcases h2 with h2 | ⟨h2,h3,h4⟩
      · exact .inl (by omega)
      · exact .inr ⟨by omega,by omega,h4⟩
    · exact .inr ⟨m::A,B,x,d,by rw [h1];rfl,by rw [h2];rfl,h3,h4,h5,h6,by rw [qW];omega⟩
  · rw [if_neg h]
    by_cases h0:0 < c
    · rw [if_pos h0]
      refine .inr ⟨[],ms,m,c,rfl,rfl,rfl,h0,by omega,fun e=>?_,by rw [jF];omega⟩
      obtain⟨l,rfl⟩:=qz e
      exact h (by show (0:Int)≤c;omega)
    · rw [if_neg h0]
      exact .inl ⟨rfl,.inl (by show qp []=c;rw [jF];omega)⟩
theorem vy {m:Im}(hm:m.wd≠"mix")(hw:Wf m):qm m 0 m.mo=m:=by
 cases m with
 | mix l=>exact absurd rfl hm
 | clip n p q r s l=>
  obtain⟨h1,h2⟩:=qC8 (r:=r) (s:=s) hw.1 hw.2.1 hw.2.2.1
  show Im.clip n (plP p q r s 0) (plQ p q r s 0) r s (l - 0)=_
  rw [h1,h2,Int.sub_zero]
 | nest n b l=>show Im.nest n (b+0) (l - 0)=_;rw [Int.add_zero,Int.sub_zero]
 | gap l=>show Im.gap (l - 0)=_;rw [Int.sub_zero]
def NMA (b c:Int)(ms:List Im):Prop:=∀ x∈qk b ms,x.2.1≠c
theorem NMA.tail {b c:Int}{m:Im}{ms:List Im}(h:NMA b c (m::ms)):NMA (b+m.mo) c ms:=fun x hx=>by
 by_cases hm:m.wd="mix"
 · obtain⟨l,rfl⟩:=qz hm
   refine h x ?_
   rw [qk]
   have e:b+(Im.mix l).mo=b:=by simp [Im.mo]
   rw [e] at hx
   simp [hx]
 · refine h x ?_
   rw [qY hm];exact hx
theorem NMA.head {b c:Int}{l:Int}{ms:List Im}(h:NMA b c (.mix l::ms)):b≠c:=h (b - l.fdiv 2,b,b+(l - l.fdiv 2)) (by rw [qk];simp)
theorem Wf.pos {m:Im}(h:Wf m)(hm:m.wd≠"mix"):1≤m.mo:=by
 cases m with
 | clip n p q r s l=>exact h.2.2.2
 | nest n b l=>exact h
 | gap l=>exact h
 | mix l=>exact absurd rfl hm
theorem qH0:∀ (ms:List Im) (b c:Int),(∀ m∈ms,Wf m)→0≤b→c≤b→xw 0 c b ms=[]
 | [],_,_,_,_,_=>rfl
 | m::ms,b,c,hw,h0,hc=>by
  have hm0:=(hw m (by simp)).mo
  rw [xw,qH0 ms (b+m.mo) c (fun x hx=>hw x (by simp [hx])) (by omega) (by omega),List.append_nil]
  by_cases hm:m.wd="mix"
  · rw [if_pos hm,if_neg (by omega)]
  · rw [if_neg hm,if_neg]
    unfold vY qJt
    split <;> split <;> omega
theorem qRv:∀ (ms:List Im) (b c:Int),(∀ m∈ms,Wf m)→NMA b c ms→0≤b→b≤c→(b=0→NHM ms)→xw 0 c b ms=(xX (c - b) ms).1
 | [],_,_,_,_,_,_,_=>rfl
 | m::ms,b,c,hw,hn,h0,hc,hh=>by
  have hwm:=hw m (by simp)
  have hm0:=hwm.mo
  rw [xw,xX]
  by_cases hm:m.wd="mix"
  · obtain⟨l,rfl⟩:=qz hm
    have e0:(Im.mix l).mo=0:=rfl
    have hbc:=hn.head
    have hb0:b≠0:=fun e=>hh e l rfl
    rw [if_pos hm,if_pos ⟨by omega,by omega⟩,if_pos (by omega),e0,qRv ms (b+0) c (fun x hx=>hw x (by simp [hx])) hn.tail (by omega) (by omega) (fun e=>absurd e (by omega))]
    rw [show c - (b+0)=c - b - 0 by omega]
    rfl
  · have hp:=hwm.pos hm
    have e1:vY 0 b=b:=by unfold vY;split <;> omega
    rw [if_neg hm,e1]
    by_cases h:m.mo≤c - b
    · have e2:qJt c (b+m.mo)=b+m.mo:=by unfold qJt;split <;> omega
      rw [e2,if_pos (by omega),if_pos h,qRv ms (b+m.mo) c (fun x hx=>hw x (by simp [hx])) hn.tail (by omega) (by omega) (fun e=>absurd e (by omega)),show b - b=0 by omega,show b+m.mo - b=m.mo by omega,vy hm hwm,show c - (b+m.mo)=c - b - m.mo by omega]
      rfl
    · have e2:qJt c (b+m.mo)=c:=by unfold qJt;split <;> omega
      rw [e2,if_neg h,qH0 ms (b+m.mo) c (fun x hx=>hw x (by simp [hx])) (by omega) (by omega),List.append_nil]
      by_cases hlt:0 < c - b
      · rw [if_pos (by omega),if_pos hlt,show b - b=0 by omega]
      · rw [if_neg (by omega),if_neg hlt]
theorem qB7:∀ (ms:List Im) (b c E:Int),(∀ m∈ms,Wf m)→c≤b→(b=c→NHM ms)→E=b+qp ms→(∀ x∈qk b ms,x.2.1 < E)→xw c E b ms=ms
 | [],_,_,_,_,_,_,_,_=>rfl
 | m::ms,b,c,E,hw,hc,hh,hE,hx=>by
  have hwm:=hw m (by simp)
  have hm0:=hwm.mo
  have hl:=Nn.len (ms:=ms) fun x hx=>(hw x (by simp [hx])).mo
  rw [qW] at hE
  rw [xw]
  by_cases hm:m.wd="mix"
  · obtain⟨l,rfl⟩:=qz hm
    have hb:b≠c:=fun e=>hh e l rfl
    rw [qk] at hx
    have hbE:b < E:=hx (b - l.fdiv 2,b,b+(l - l.fdiv 2)) (by simp)
    have e0:b+(Im.mix l).mo=b:=by simp [Im.mo]
    rw [if_pos hm,if_pos ⟨by omega,hbE⟩,e0,qB7 ms b c E (fun x hx=>hw x (by simp [hx])) hc (fun e=>absurd e hb) (by simp [Im.mo] at hE;omega) (fun x h=>hx x (by simp [h]))]
    rfl
  · have hp:=hwm.pos hm
    rw [qY hm] at hx
    have e1:vY c b=b:=by unfold vY;split <;> omega
    have e2:qJt E (b+m.mo)=b+m.mo:=by unfold qJt;split <;> omega
    rw [if_neg hm,e1,e2,if_pos (by omega),show b - b=0 by omega,show b+m.mo - b=m.mo by omega,vy hm hwm,qB7 ms (b+m.mo) c E (fun x hx=>hw x (by simp [hx])) (by omega) (fun e=>absurd e (by omega)) (by omega) hx]
    rfl
theorem qRu:∀ (ms:List Im) (b c E:Int),(∀ m∈ms,Wf m)→NMA b c ms→b≤c→E=b+qp ms→(∀ x∈qk b ms,x.2.1 < E)→xw c E b ms=(xX (c - b) ms).2
 | [],_,_,_,_,_,_,_,_=>rfl
 | m::ms,b,c,E,hw,hn,hc,hE,hx=>by
  have hwm:=hw m (by simp)
  have hm0:=hwm.mo
  have hl:=Nn.len (ms:=ms) fun x hx=>(hw x (by simp [hx])).mo
  rw [qW] at hE
  rw [xw,xX]
  by_cases hm:m.wd="mix"
  · obtain⟨l,rfl⟩:=qz hm
    have hbc:=hn.head
    have e0:(Im.mix l).mo=0:=rfl
    rw [if_pos hm,if_neg (by omega),if_pos (by omega),List.nil_append]
    dsimp only
    have hn':=hn.tail
    rw [e0] at hn' ⊢
    rw [qk] at hx
    rw [qRu ms (b+0) c E (fun x hx=>hw x (by simp [hx])) hn' (by omega) (by omega) (fun x h=>hx x (by rw [Int.add_zero] at h;simp [h])),show c - (b+0)=c - b - 0 by omega]
  · have hp:=hwm.pos hm
    rw [qY hm] at hx
    rw [if_neg hm]
    have e1:vY c b=c:=by unfold vY;split <;> omega
    have e2:qJt E (b+m.mo)=b+m.mo:=by unfold qJt;split <;> omega
    rw [e1,e2]
    by_cases h:m.mo≤c - b
    · rw [if_neg (by omega),if_pos h,List.nil_append]
      dsimp only
      rw [qRu ms (b+m.mo) c E (fun x hx=>hw x (by simp [hx])) hn.tail (by omega) (by omega) hx,show c - (b+m.mo)=c - b - m.mo by omega]
    · rw [if_pos (by omega),if_neg h,show b+m.mo - b=m.mo by omega]
      have hh:b+m.mo=c→NHM ms:=fun e=>absurd e (by omega)
      rw [qB7 ms (b+m.mo) c E (fun x hx=>hw x (by simp [hx])) (by omega) hh (by omega) hx]
      by_cases hlt:0 < c - b
      · rw [if_pos hlt];rfl
      · rw [if_neg hlt,show c - b=0 by omega,vy hm hwm];rfl
def qPm (o:Option Im):Prop:=∃ n p q r s l,o=some (.clip n p q r s l)
def MO:Option Im→List Im→Prop
 | _,[]=>True
 | p,.mix l::ms=>(qPm p∧qPm ms.head?)∧MO (some (.mix l)) ms
 | _,.clip n p q r s l::ms=>MO (some (.clip n p q r s l)) ms
 | _,.nest n b l::ms=>MO (some (.nest n b l)) ms
 | _,.gap l::ms=>MO (some (.gap l)) ms
theorem qq {m:Im}(h:m.wd≠"mix")(p:Option Im)(ms:List Im):MO p (m::ms)=MO (some m) ms:=by
 cases m with
 | mix l=>exact absurd rfl h
 | _=>rfl
theorem MO.nh {p:Option Im}{ms:List Im}(h:MO p ms)(hp:¬ qPm p):NHM ms:=by
 cases ms with
 | nil=>intro l e;cases e
 | cons m ms=>
  intro l e
  cases e
  exact hp h.1.1
theorem jv:∀ (A B:List Im) (b:Int),qk b (A++B)=qk b A++qk (b+qp A) B
 | [],B,b=>by rw [jF,Int.add_zero];rfl
 | m::A,B,b=>by
  by_cases hm:m.wd="mix"
  · obtain⟨l,rfl⟩:=qz hm
    rw [List.cons_append,qk,qk,jv A B b,qW,show b+((Im.mix l).mo+qp A)=b+qp A by simp [Im.mo]]
    rfl
  · rw [List.cons_append,qY hm,qY hm,jv A B,qW,show b+(m.mo+qp A)=b+m.mo+qp A by omega]
theorem j6:∀ (ms:List Im) (b:Int),(∀ m∈ms,Wf m)→∀ x∈qk b ms,x.1≤x.2.1∧x.2.1 < x.2.2∧b≤x.2.1∧x.2.1≤b+qp ms
 | [],b,_,x,h=>by cases h
 | m::ms,b,hw,x,h=>by
  have hwm:=hw m (by simp)
  have hl:=Nn.len (ms:=ms) fun x hx=>(hw x (by simp [hx])).mo
  have h0:=hwm.mo
  rw [qW]
  by_cases hm:m.wd="mix"
  · obtain⟨l,rfl⟩:=qz hm
    have l1:1≤l:=hwm
    have e0:(Im.mix l).mo=0:=rfl
    rw [qk] at h
    rcases List.mem_cons.mp h with rfl | h
    · dsimp only
      have:=q9 (p:=l) (q:=2) (by decide)
      refine⟨by omega,by omega,by omega,by omega⟩
    · have:=j6 ms b (fun x hx=>hw x (by simp [hx])) x h
      omega
  · rw [qY hm] at h
    have:=j6 ms (b+m.mo) (fun x hx=>hw x (by simp [hx])) x h
    omega
theorem qFw:∀ (ms:List Im) (b:Int) (p:Option Im),(∀ m∈ms,Wf m)→MO p ms→∀ x∈qk b ms,x.2.1 < b+qp ms
 | [],b,_,_,_,x,h=>by cases h
 | m::ms,b,p,hw,hM,x,h=>by
  have hwm:=hw m (by simp)
  have hw':∀ m∈ms,Wf m:=fun x hx=>hw x (by simp [hx])
  have h0:=hwm.mo
  rw [qW]
  by_cases hm:m.wd="mix"
  · obtain⟨l,rfl⟩:=qz hm
    have e0:(Im.mix l).mo=0:=rfl
    obtain⟨⟨h1,h2⟩,h3⟩:=hM
    rw [qk] at h
    rcases List.mem_cons.mp h with rfl | h
    · dsimp only
      obtain⟨n,p,q,r,s,k,h2⟩:=h2
      cases ms with
      | nil=>cases h2
      | cons y ms=>
       cases h2
       have hk:1≤k:=(hw' _ (List.mem_cons_self ..)).2.2.2
       have hl:=Nn.len (ms:=ms) fun x hx=>(hw x (by simp [hx])).mo
       rw [qW]
       show b < b+(0+(k+qp ms))
       omega
    · have:=qFw ms b _ hw' h3 x h
      omega
  · rw [qq hm] at hM
    rw [qY hm] at h
    have:=qFw ms (b+m.mo) _ hw' hM x h
    omega
theorem MO.nl:∀ {ms:List Im} {p:Option Im},MO p ms→NLM ms
 | [],_,_=>fun l e=>by cases e
 | m::ms,p,h=>fun l e=>by
  rw [xH] at e
  by_cases hm:m.wd="mix"
  · obtain⟨k,rfl⟩:=qz hm
    cases ms with
    | nil=>obtain⟨_,_,_,_,_,_,e⟩:=h.1.2;cases e
    | cons x ms=>
     refine h.2.nl l ?_
     cases h':(x::ms).getLast? with
     | none=>simp at h'
     | some y=>rw [h'] at e;exact e
  · rw [qq hm] at h
    cases ms with
    | nil=>cases e;exact hm rfl
    | cons x ms=>
     refine h.nl l ?_
     cases h':(x::ms).getLast? with
     | none=>simp at h'
     | some y=>rw [h'] at e;exact e
theorem qCo (m:Im)(lo hi:Int):qp [qm m lo hi]=hi - lo:=by rw [qW,jS,jF,Int.add_zero]
theorem qJ2 {ms:List Im}(hw:∀ m∈ms,Wf m){c:Int}(hc:0≤c)(hn:NMA 0 c ms):(∀ x∈qk 0 (xX c ms).1,x∈qk 0 ms∧x.2.1 < c)∧(∀ x∈qk c (xX c ms).2,x∈qk 0 ms∧c < x.2.1)∧((xX c ms).2=[]∨qp (xX c ms).1=c)∧qp (xX c ms).1≤c:=by
 have ord:=j6 ms 0 hw
 rcases zk ms c hc with ⟨h1,h2⟩ | ⟨A,B,m,d,h1,h2,h3,h4,h5,h6,h7⟩
 · have hwL:∀ m∈(xX c ms).1,Wf m:=fun m hm=>hw m (by rw [← h1];exact List.mem_append_left _ hm)
   have hwR:∀ m∈(xX c ms).2,Wf m:=fun m hm=>hw m (by rw [← h1];exact List.mem_append_right _ hm)
   have hs:qk 0 ms=qk 0 (xX c ms).1++qk (0+qp (xX c ms).1) (xX c ms).2:=by rw [← jv,h1]
   refine⟨fun x hx=>?_,fun x hx=>?_,?_,?_⟩
   · have hx':x∈qk 0 ms:=by rw [hs];exact List.mem_append_left _ hx
     have h4:=j6 _ 0 hwL x hx
     have h5:=hn x hx'
     refine⟨hx',?_⟩
     rcases h2 with h2 | ⟨h2,h3,_⟩ <;> omega
   · rcases h2 with h2 | ⟨h2,h3,h4⟩
     · rw [h2,Int.zero_add] at hs
       have hx':x∈qk 0 ms:=by rw [hs];exact List.mem_append_right _ hx
       have h4:=j6 _ c hwR x hx
       have h5:=hn x hx'
       exact⟨hx',by omega⟩
     · rw [h4] at hx;cases hx
   · rcases h2 with h2 | ⟨h2,h3,h4⟩
     · exact .inr h2
     · exact .inl h4
   · rcases h2 with h2 | ⟨h2,h3,h4⟩ <;> omega
 · have hwA:∀ m∈A,Wf m:=fun x hx=>hw x (by rw [h1];simp [hx])
   have hwB:∀ m∈B,Wf m:=fun x hx=>hw x (by rw [h1];simp [hx])
   have hs:qk 0 ms=qk 0 A++qk (0+qp A+m.mo) B:=by rw [h1,jv,qY h6]
   rw [h2,h3]
   refine⟨fun x hx=>?_,fun x hx=>?_,.inr ?_,?_⟩
   · rw [jv,qY (jP m 0 d)] at hx
     rcases List.mem_append.mp hx with hx | hx
     · have h8:=j6 _ 0 hwA x hx
       exact⟨by rw [hs];exact List.mem_append_left _ hx,by omega⟩
     · cases hx
   · rw [qY (jP m d m.mo),jS,show c+(m.mo - d)=0+qp A+m.mo by omega] at hx
     have h8:=j6 _ _ hwB x hx
     exact⟨by rw [hs];exact List.mem_append_right _ hx,by omega⟩
   · rw [jc,qCo];omega
   · rw [jc,qCo];omega
theorem qNx {ms:List Im}(hw:∀ m∈ms,Wf m){c:Int}(hc:0≤c)(hn:NMA 0 c ms)(hM:MO none ms):NLM (xX c ms).1:=by
 obtain⟨s1,_,s3,_⟩:=qJ2 hw hc hn
 rcases zk ms c hc with ⟨h1,h2⟩ | ⟨A,B,m,d,h1,h2,h3,h4,h5,h6,h7⟩
 · intro l e
   rcases s3 with h | h
   · rw [h,List.append_nil] at h1
     rw [h1] at e
     exact hM.nl l e
   · obtain⟨A,eA⟩:=List.getLast?_eq_some_iff.mp e
     have hx:(0+qp A - l.fdiv 2,0+qp A,0+qp A+(l - l.fdiv 2))∈qk 0 (xX c ms).1:=by
      rw [eA,jv]
      exact List.mem_append_right _ (by rw [qk];simp)
     have:=(s1 _ hx).2
     rw [eA,jc,qW,jF] at h
     have e0:(Im.mix l).mo=0:=rfl
     dsimp only at this
     omega
 · rw [h2]
   intro l e
   rw [List.getLast?_append] at e
   have e:qm m 0 d= .mix l:=by simpa using e
   exact jP m 0 d (by rw [e];rfl)
theorem qOk {ms:List Im}(hw:∀ m∈ms,Wf m){c:Int}(hc:0≤c)(hn:NMA 0 c ms):NHM (xX c ms).2:=by
 obtain⟨_,s2,_,_⟩:=qJ2 hw hc hn
 intro l e
 cases h:(xX c ms).2 with
 | nil=>rw [h] at e;cases e
 | cons x R=>
  rw [h] at e s2
  cases e
  have:=(s2 (c - l.fdiv 2,c,c+(l - l.fdiv 2)) (by rw [qk];simp)).2
  dsimp only at this
  omega
theorem qMz (p p':Option Im)(A B:List Im)(hA:MO p A)(hB:MO (A.getLast?.or p) B):MO p (A++B):=by
 induction A generalizing p with
 | nil=>exact hB
 | cons m A ih=>
  have el:(m::A).getLast?.or p=A.getLast?.or (some m):=by rw [xH];cases A.getLast? <;> rfl
  rw [el] at hB
  by_cases hm:m.wd="mix"
  · obtain⟨l,rfl⟩:=qz hm
    obtain⟨⟨h1,h2⟩,h3⟩:=hA
    refine⟨⟨h1,?_⟩,ih _ h3 hB⟩
    cases A with
    | nil=>obtain⟨_,_,_,_,_,_,e⟩:=h2;cases e
    | cons a A=>exact h2
  · rw [List.cons_append,qq hm] at*
    exact ih _ hA hB
theorem qPj {A:List Im}(h:∀ m∈A,m.wd≠"mix")(p:Option Im):MO p A:=by
 induction A generalizing p with
 | nil=>exact trivial
 | cons m A ih=>rw [qq (h m (by simp))];exact ih (fun x hx=>h x (by simp [hx])) _
theorem qSc {B:List Im}(h:NHM B){p p':Option Im}(hB:MO p B):MO p' B:=by
 cases B with
 | nil=>exact trivial
 | cons m B=>
  by_cases hm:m.wd="mix"
  · obtain⟨l,rfl⟩:=qz hm
    exact absurd rfl (h l)
  · rw [qq hm] at*;exact hB
theorem qN3:∀ {A B:List Im} {p:Option Im},MO p (A++B)→NLM A→MO p A
 | [],_,_,_,_=>trivial
 | m::A,B,p,h,hl=>by
  have hA:NLM A:=fun l e=>hl l (by rw [xH,e];rfl)
  by_cases hm:m.wd="mix"
  · obtain⟨l,rfl⟩:=qz hm
    have ne:A≠[]:=fun e=>hl l (by rw [e];rfl)
    obtain⟨⟨h1,h2⟩,h3⟩:=h
    refine⟨⟨h1,?_⟩,qN3 (B:=B) h3 hA⟩
    cases A with
    | nil=>exact absurd rfl ne
    | cons a A=>exact h2
  · rw [List.cons_append,qq hm] at h
    rw [qq hm]
    exact qN3 h hA
theorem qEn:∀ {A B:List Im} {p:Option Im},MO p (A++B)→MO (A.getLast?.or p) B
 | [],_,_,h=>h
 | m::A,B,p,h=>by
  have el:(m::A).getLast?.or p=A.getLast?.or (some m):=by rw [xH];cases A.getLast? <;> rfl
  rw [el]
  by_cases hm:m.wd="mix"
  · obtain⟨l,rfl⟩:=qz hm
    exact qEn h.2
  · rw [List.cons_append,qq hm] at h
    exact qEn h
theorem qIf {m:Im}(lo hi:Int):qPm (some m)→qPm (some (qm m lo hi)):=by
 rintro ⟨n,p,q,r,s,l,e⟩
 cases e
 exact⟨_,_,_,_,_,_,rfl⟩
theorem qQc {ms:List Im}(hw:∀ m∈ms,Wf m){c:Int}(hc:0≤c)(hn:NMA 0 c ms)(hM:MO none ms):MO none (xX c ms).1∧∀ p,MO p (xX c ms).2:=by
 have nl:=qNx hw hc hn hM
 have nh:=qOk hw hc hn
 rcases zk ms c hc with ⟨h1,h2⟩ | ⟨A,B,m,d,h1,h2,h3,h4,h5,h6,h7⟩
 · rw [← h1] at hM
   exact⟨qN3 hM nl,fun p=>qSc nh (qEn hM)⟩
 · rw [h1] at hM
   rw [h2,h3] at*
   have hs:=qEn hM
   rw [qq h6] at hs
   refine⟨?_,fun p=>?_⟩
   ·
    have:∀ (A:List Im) (p:Option Im),MO p (A++m::B)→MO p (A++[qm m 0 d]):=fun A=>by
     induction A with
     | nil=>intro p _;exact qPj (fun x hx=>by rw [List.nil_append,List.mem_singleton] at hx;subst hx;exact jP m 0 d) p
     | cons a A ih=>
      intro p h
      by_cases ha:a.wd="mix"
      · obtain⟨l,rfl⟩:=qz ha
        obtain⟨⟨h1,h2⟩,h3⟩:=h
        refine⟨⟨h1,?_⟩,ih _ h3⟩
        cases A with
        | nil=>exact qIf 0 d h2
        | cons a A=>exact h2
      · rw [List.cons_append,qq ha] at*
        exact ih _ h
    exact this A none hM
   · rw [qq (jP m d m.mo)]
     cases B with
     | nil=>exact trivial
     | cons x B=>
      by_cases hx:x.wd="mix"
      · obtain⟨l,rfl⟩:=qz hx
        exact⟨⟨qIf d m.mo hs.1.1,hs.1.2⟩,hs.2⟩
      · rw [qq hx] at hs ⊢;exact hs
theorem qKr {m:Im}(hw:Wf m){lo hi:Int}(h:lo < hi):Wf (qm m lo hi):=by
 cases m with
 | clip n p q r s l=>exact⟨qEl hw.1 hw.2.1,hw.2.1,qQn hw.1 hw.2.1,by show 1≤hi - lo;omega⟩
 | nest n b l=>show 1≤hi - lo;omega
 | gap l=>show 1≤hi - lo;omega
 | mix l=>show 1≤hi - lo;omega
theorem qMr {ms:List Im}(hw:∀ m∈ms,Wf m){c:Int}(hc:0≤c):(∀ m∈(xX c ms).1,Wf m)∧∀ m∈(xX c ms).2,Wf m:=by
 rcases zk ms c hc with ⟨h1,h2⟩ | ⟨A,B,m,d,h1,h2,h3,h4,h5,h6,h7⟩
 · exact⟨fun m hm=>hw m (by rw [← h1];exact List.mem_append_left _ hm),fun m hm=>hw m (by rw [← h1];exact List.mem_append_right _ hm)⟩
 · rw [h2,h3]
   have hm:=hw m (by rw [h1];simp)
   refine⟨fun x hx=>?_,fun x hx=>?_⟩
   · rcases List.mem_append.mp hx with hx | hx
     · exact hw x (by rw [h1];simp [hx])
     · rw [List.mem_singleton] at hx;subst hx;exact qKr hm h4
   · rcases List.mem_cons.mp hx with rfl | hx
     · exact qKr hm h5
     · exact hw x (by rw [h1];simp [hx])
structure Rel (ms:List Im)(lo hi:Int)(ls:List Im):Prop where
 wf:∀ m∈ms,Wf m
 mo:MO none ms
 l0:0≤lo
 lh:lo≤hi
 nt:jl ms lo hi=false
 lw:∀ m∈ls,Wf m
 lm:∀ m∈ls,m.wd≠"mix"
theorem Rel.far {ms:List Im}{lo hi:Int}{ls:List Im}(h:Rel ms lo hi ls):∀ x∈qk 0 ms,(x.2.1 < lo∧x.2.2≤lo)∨(hi < x.2.1∧hi≤x.1):=by
 intro x hx
 have ord:=j6 ms 0 h.wf x hx
 have nt:=h.nt
 have lh:=h.lh
 unfold jl at nt
 rw [List.any_eq_false] at nt
 have:=nt x hx
 unfold qNc at this
 simp only [Bool.or_eq_true,Bool.and_eq_true,decide_eq_true_eq] at this
 by_cases h1:x.2.1 < lo
 · left;refine⟨h1,?_⟩
   by_cases h2:x.2.2≤lo
   · exact h2
   · exact absurd (.inl ⟨by omega,by omega⟩) this
 · right
   have h2:hi < x.2.1:=by
    by_cases h3:hi < x.2.1
    · exact h3
    · exact absurd (.inr ⟨by omega,by omega⟩) this
   refine⟨h2,?_⟩
   by_cases h4:hi≤x.1
   · exact h4
   · exact absurd (.inl ⟨by omega,by omega⟩) this
theorem Rel.nlo {ms:List Im}{lo hi:Int}{ls:List Im}(h:Rel ms lo hi ls):NMA 0 lo ms:=fun x hx=>by have:=h.far x hx;have:=h.lh;omega
theorem Rel.nhi {ms:List Im}{lo hi:Int}{ls:List Im}(h:Rel ms lo hi ls):NMA 0 hi ms:=fun x hx=>by have:=h.far x hx;have:=h.lh;omega
theorem Rel.eq {ms:List Im}{lo hi:Int}{ls:List Im}(h:Rel ms lo hi ls):qEw ms lo hi ls=xv 0 ((xX lo ms).1++[.gap (vY (lo - qp ms) 0)]++ls++(xX hi ms).2):=by
 unfold qEw
 rw [qRv ms 0 lo h.wf h.nlo (Int.le_refl 0) h.l0 (fun _=>h.mo.nh fun⟨_,_,_,_,_,_,e⟩=>by cases e),qRu ms 0 hi (qp ms) h.wf h.nhi (by have:=h.l0;have:=h.lh;omega) (by omega) (fun x hx=>by have:=qFw ms 0 none h.wf h.mo x hx;omega),Int.sub_zero,Int.sub_zero]
def OS:Bool→List Im→Prop
 | g,[]=>g=false
 | g,.gap l::ms=>g=false∧1≤l∧OS true ms
 | _,.clip .. ::ms=>OS false ms
 | _,.nest .. ::ms=>OS false ms
 | _,.mix _::ms=>OS false ms
theorem jb {m:Im}(h:m.wd≠"gap")(g:Bool)(ms:List Im):OS g (m::ms)=OS false ms:=by
 cases m with
 | gap l=>exact absurd rfl h
 | _=>rfl
theorem OS.one:∀ {ms:List Im},(OS false ms→xv 0 ms=ms)∧(OS true ms→∀ w,0 < w→xv w ms= .gap w::ms)
 | []=>⟨fun _=>rfl,fun h=>by cases h⟩
 | m::ms=>by
  obtain⟨i1,i2⟩:=OS.one (ms:=ms)
  by_cases hg:m.wd="gap"
  · obtain⟨l,rfl⟩:=qBm hg
    refine⟨fun h=>?_,fun h=>?_⟩
    · rw [xv,i2 h.2.2 (0+l) (by have:=h.2.1;omega),Int.zero_add]
    · cases h.1
  · refine⟨fun h=>?_,fun h w hw=>?_⟩
    · rw [jb hg] at h
      rw [jC hg,if_neg (by omega),i1 h]
    · rw [jb hg] at h
      rw [jC hg,if_pos hw,i1 h]
theorem qOh {A B:Im}{rest:List Im}(l:Int)(hA:A.wd≠"gap")(hB:B.wd≠"gap"):∀ (pre:List Im) (g:Bool),OS g (pre++A::B::rest)→OS g (pre++A:: .mix l::B::rest)
 | [],g,h=>by
  rw [List.nil_append,jb hA,jb hB] at h
  rw [List.nil_append,jb hA]
  show OS false (B::rest)
  rw [jb hB]
  exact h
 | x::pre,g,h=>by
  by_cases hg:x.wd="gap"
  · obtain⟨k,rfl⟩:=qBm hg
    exact⟨h.1,h.2.1,qOh l hA hB pre _ h.2.2⟩
  · rw [List.cons_append,jb hg] at h ⊢
    exact qOh l hA hB pre _ h
theorem qJy:∀ (ms:List Im) (w:Int),Nn ms→0≤w→OS false (xv w ms)
 | [],_,_,_=>rfl
 | m::ms,w,hn,hw=>by
  have h0:=hn m (by simp)
  by_cases hg:m.wd="gap"
  · obtain⟨l,rfl⟩:=qBm hg
    have h0:0≤l:=h0
    rw [xv]
    exact qJy ms _ hn.tail (by omega)
  · have ih:=qJy ms 0 hn.tail (Int.le_refl 0)
    rw [jC hg]
    by_cases hp:0 < w
    · rw [if_pos hp]
      refine⟨rfl,by omega,?_⟩
      rw [jb hg];exact ih
    · rw [if_neg hp,jb hg];exact ih
def tkE (ms:List Im):Int:=match ms.head? with
 | some (.mix l)=>l.fdiv 2
 | _=>0
def FS (R:Im→Int→Im→Prop):Int→Option Im→List Im→Prop
 | _,_,[]=>True
 | _,p,.mix l::ms=>(∀ A B,p=some A→ms.head?=some B→R A l B)∧FS R (l - l.fdiv 2) (some (.mix l)) ms
 | tb,_,.clip n p q r s k::ms=>tb+tkE ms≤k∧FS R 0 (some (.clip n p q r s k)) ms
 | _,_,.nest n b l::ms=>FS R 0 (some (.nest n b l)) ms
 | _,_,.gap l::ms=>FS R 0 (some (.gap l)) ms
theorem qIb {R:Im→Int→Im→Prop}{n n':Str}{p q r s k p' q' r' s' k':Int}{rest:List Im}{l:Int}(h2:(l - l.fdiv 2)+tkE rest≤k')(hR:R (.clip n p q r s k) l (.clip n' p' q' r' s' k')):
 ∀ (pre:List Im) (tb:Int) (po:Option Im),(match pre.getLast? with | none=>tb | some (.mix x)=>x - x.fdiv 2 | _=>0)+l.fdiv 2≤k→FS R tb po (pre++ .clip n p q r s k:: .clip n' p' q' r' s' k'::rest)→FS R tb po (pre++ .clip n p q r s k:: .mix l:: .clip n' p' q' r' s' k'::rest)
 | [],tb,po,h1,h=>by
  refine⟨h1,fun A B eA eB=>?_,h2,h.2.2⟩
  cases eA;cases eB
  exact hR
 | x::pre,tb,po,h1,h=>by
  have hd:∀ (X Y:List Im),(pre++ .clip n p q r s k::X).head?=(pre++ .clip n p q r s k::Y).head?:=fun X Y=>by cases pre <;> rfl
  have e1:∀ tb',(x.wd≠"mix"→tb'=0)→(∀ y,x= .mix y→tb'=y - y.fdiv 2)→(match pre.getLast? with | none=>tb' | some (.mix x)=>x - x.fdiv 2 | _=>0)+l.fdiv 2≤k:=fun tb' ha hb=>by
   rw [xH] at h1
   cases hg:pre.getLast? with
   | none=>
    rw [hg] at h1
    cases x with
    | mix y=>rw [hb y rfl];exact h1
    | _=>rw [ha (by first | (show ("clip":Str)≠"mix";decide+kernel) | (show ("nest":Str)≠"mix";decide+kernel) | (show ("gap":Str)≠"mix";decide+kernel))];exact h1
   | some z=>rw [hg] at h1;cases z <;> exact h1
  cases x with
  | mix y=>
   obtain⟨a1,a2⟩:=h
   refine⟨fun A B eA eB=>a1 A B eA (by rw [← eB];exact hd _ _),qIb h2 hR pre _ _ (e1 _ (fun c=>absurd rfl c) (fun y' e=>by cases e;rfl)) a2⟩
  | clip n1 p1 q1 r1 s1 k1=>
   obtain⟨a1,a2⟩:=h
   refine⟨?_,qIb h2 hR pre _ _ (e1 0 (fun _=>rfl) (fun y e=>by cases e)) a2⟩
   unfold tkE at a1 ⊢
   rw [List.append_eq] at*
   rw [hd (.mix l:: .clip n' p' q' r' s' k'::rest) (.clip n' p' q' r' s' k'::rest)]
   exact a1
  | nest n1 b1 l1=>exact qIb h2 hR pre _ _ (e1 0 (fun _=>rfl) (fun y e=>by cases e)) h
  | gap l1=>exact qIb h2 hR pre _ _ (e1 0 (fun _=>rfl) (fun y e=>by cases e)) h
theorem qQ6 {R:Im→Int→Im→Prop}:∀ {ms:List Im} (p:Option Im),(∀ m∈ms,Wf m∧m.wd≠"mix")→FS R 0 p ms
 | [],_,_=>trivial
 | m::ms,p,h=>by
  have ih:=fun p=>qQ6 (R:=R) (ms:=ms) p fun x hx=>h x (by simp [hx])
  obtain⟨hw,hm⟩:=h m (by simp)
  cases m with
  | mix l=>exact absurd rfl hm
  | clip n p' q r s k=>
   refine⟨?_,ih _⟩
   have e:tkE ms=0:=by
    unfold tkE
    cases ms with
    | nil=>rfl
    | cons x ms=>
     have:=(h x (by simp)).2
     cases x with
     | mix y=>exact absurd rfl this
     | _=>rfl
   rw [e]
   have:=hw.2.2.2
   omega
  | nest n b l=>exact ih _
  | gap l=>exact ih _
theorem FS.span {R:Im→Int→Im→Prop}:∀ {ms:List Im} {tb:Int} {p:Option Im} {b:Int},FS R tb p ms→MO p ms→(∀ m∈ms,Wf m)→∀ x∈qk b ms,x.2.2≤b+qp ms
 | [],_,_,_,_,_,_,x,hx=>by cases hx
 | m::ms,tb,p,b,h,hM,hw,x,hx=>by
  have hw':∀ m∈ms,Wf m:=fun x hx=>hw x (by simp [hx])
  have hl:=Nn.len fun x hx=>(hw' x hx).mo
  have h0:=(hw m (by simp)).mo
  rw [qW]
  by_cases hm:m.wd="mix"
  · obtain⟨l,rfl⟩:=qz hm
    have e0:(Im.mix l).mo=0:=rfl
    rw [qk] at hx
    rcases List.mem_cons.mp hx with rfl | hx
    · obtain⟨n,p,q,r,s,k,e⟩:=hM.1.2
      cases ms with
      | nil=>cases e
      | cons y ms=>
       cases e
       have h1:l - l.fdiv 2+tkE ms≤k:=h.2.1
       have hl':=Nn.len (ms:=ms) fun x hx=>(hw' x (by simp [hx])).mo
       have tk:0≤tkE ms:=by
        unfold tkE
        cases ms with
        | nil=>exact Int.le_refl _
        | cons z ms=>
         cases z with
         | mix y=>
          have:1≤y:=hw' (.mix y) (by simp)
          have:=q9 (p:=y) (q:=2) (by decide)
          show 0≤y.fdiv 2
          omega
         | _=>exact Int.le_refl _
       rw [qW]
       show b+(l - l.fdiv 2)≤b+(0+(k+qp ms))
       omega
    · have:=FS.span h.2 hM.2 hw' x hx
      omega
  · rw [qY hm] at hx
    rw [qq hm] at hM
    have hF:FS R 0 (some m) ms:=by
     cases m with
     | mix l=>exact absurd rfl hm
     | clip n p q r s k=>exact h.2
     | nest n b l=>exact h
     | gap l=>exact h
    have:=FS.span hF hM hw' x hx
    omega
theorem qNe {A B:Im}{rest:List Im}(l:Int)(hA:qPm (some A))(hB:qPm (some B)):∀ (pre:List Im) (p:Option Im),MO p (pre++A::B::rest)→MO p (pre++A:: .mix l::B::rest)
 | [],p,h=>by
  obtain⟨n,p1,q,r,s,k,e⟩:=hA
  cases e
  obtain⟨n',p',q',r',s',k',e⟩:=hB
  cases e
  exact⟨⟨⟨_,_,_,_,_,_,rfl⟩,⟨_,_,_,_,_,_,rfl⟩⟩,h⟩
 | x::pre,p,h=>by
  by_cases hm:x.wd="mix"
  · obtain⟨y,rfl⟩:=qz hm
    refine⟨⟨h.1.1,?_⟩,qNe l hA hB pre _ h.2⟩
    have:=h.1.2
    cases pre <;> exact this
  · rw [List.cons_append,qq hm] at h ⊢
    exact qNe l hA hB pre _ h
theorem qVz {ms:List Im}(hw:∀ m∈ms,Wf m):0≤tkE ms:=by
 unfold tkE
 cases ms with
 | nil=>exact Int.le_refl _
 | cons z ms=>
  cases z with
  | mix y=>
   have:1≤y:=hw (.mix y) (by simp)
   have:=q9 (p:=y) (q:=2) (by decide)
   show 0≤y.fdiv 2
   omega
  | _=>exact Int.le_refl _
theorem qEp {ms:List Im}(h:NHM ms):tkE ms=0:=by
 unfold tkE
 cases ms with
 | nil=>rfl
 | cons z ms=>
  cases z with
  | mix y=>exact absurd rfl (h y)
  | _=>rfl
theorem jE {R:Im→Int→Im→Prop}{m:Im}(hm:m.wd≠"mix"){tb:Int}{p:Option Im}{ms:List Im}:FS R tb p (m::ms)↔((m.wd="clip"→tb+tkE ms≤m.mo)∧FS R 0 (some m) ms):=by
 cases m with
 | mix l=>exact absurd rfl hm
 | clip n p q r s k=>exact⟨fun h=>⟨fun _=>h.1,h.2⟩,fun h=>⟨h.1 rfl,h.2⟩⟩
 | nest n b l=>exact⟨fun h=>⟨fun c=>absurd (show ("nest":Str)="clip" from c) (by decide+kernel),h⟩,fun h=>h.2⟩
 | gap l=>exact⟨fun h=>⟨fun c=>absurd (show ("gap":Str)="clip" from c) (by decide+kernel),h⟩,fun h=>h.2⟩
theorem qE1 {R:Im→Int→Im→Prop}{l:Int}{tb:Int}{p:Option Im}{ms:List Im}:FS R tb p (.mix l::ms)↔((∀ A B,p=some A→ms.head?=some B→R A l B)∧FS R (l - l.fdiv 2) (some (.mix l)) ms):=Iff.rfl
theorem qR4 {R:Im→Int→Im→Prop}{B:List Im}(h:NHM B){tb:Int}{p p':Option Im}(hB:FS R tb p B):FS R tb p' B:=by
 cases B with
 | nil=>exact trivial
 | cons m B=>
  by_cases hm:m.wd="mix"
  · obtain⟨l,rfl⟩:=qz hm
    exact absurd rfl (h l)
  · exact(jE hm).mpr ((jE hm).mp hB)
theorem qP7 {A B:List Im}(h:A≠[]):(A++B).head?=A.head?:=by
 cases A with
 | nil=>exact absurd rfl h
 | cons a A=>rfl
theorem qS8 {A B:List Im}(hB:NHM B):tkE (A++B)=tkE A:=by
 cases A with
 | nil=>exact(qEp hB).trans rfl
 | cons a A=>rfl
theorem qKi {R:Im→Int→Im→Prop}{B:List Im}(hB:NHM B)(fB:∀ p,FS R 0 p B):∀ (A:List Im) (tb:Int) (p:Option Im),NLM A→(A=[]→tb=0)→FS R tb p A→FS R tb p (A++B)
 | [],tb,p,_,h,_=>by rw [h rfl];exact fB p
 | m::A,tb,p,hl,h,hA=>by
  have hl':NLM A:=fun l e=>hl l (by rw [xH,e];rfl)
  by_cases hm:m.wd="mix"
  · obtain⟨l,rfl⟩:=qz hm
    have ne:A≠[]:=fun e=>hl l (by rw [e];rfl)
    rw [List.cons_append,qE1] at*
    refine⟨fun X Y eX eY=>hA.1 X Y eX (by rw [← eY,qP7 ne]),qKi hB fB A _ _ hl' (fun e=>absurd e ne) hA.2⟩
  · rw [List.cons_append]
    obtain⟨h1,h2⟩:=(jE hm).mp hA
    exact(jE hm).mpr ⟨fun c=>by rw [qS8 hB];exact h1 c,qKi hB fB A _ _ hl' (fun _=>rfl) h2⟩
theorem qN6 {R:Im→Int→Im→Prop}{X:List Im}(hX:∀ m∈X,Wf m):∀ (A:List Im) (tb:Int) (p:Option Im),NLM A→FS R tb p (A++X)→FS R tb p A
 | [],_,_,_,_=>trivial
 | m::A,tb,p,hl,h=>by
  have hl':NLM A:=fun l e=>hl l (by rw [xH,e];rfl)
  by_cases hm:m.wd="mix"
  · obtain⟨l,rfl⟩:=qz hm
    have ne:A≠[]:=fun e=>hl l (by rw [e];rfl)
    rw [List.cons_append,qE1] at h
    refine⟨fun X' Y eX eY=>h.1 X' Y eX (by rw [qP7 ne,eY]),qN6 hX A _ _ hl' h.2⟩
  · rw [List.cons_append] at h
    obtain⟨h1,h2⟩:=(jE hm).mp h
    refine(jE hm).mpr ⟨fun c=>?_,qN6 hX A _ _ hl' h2⟩
    have:=h1 c
    cases A with
    | nil=>
     have e:tkE []=0:=rfl
     have:=qVz hX
     rw [List.nil_append] at*
     omega
    | cons a A=>exact this
theorem qNk {R:Im→Int→Im→Prop}{B:List Im}(hB:NHM B):∀ (A:List Im) (tb:Int) (p p':Option Im),NLM A→(A=[]→tb=0)→FS R tb p (A++B)→FS R 0 p' B
 | [],tb,p,p',_,h,h'=>by rw [h rfl] at h';exact qR4 hB h'
 | m::A,tb,p,p',hl,_,h=>by
  have hl':NLM A:=fun l e=>hl l (by rw [xH,e];rfl)
  by_cases hm:m.wd="mix"
  · obtain⟨l,rfl⟩:=qz hm
    have ne:A≠[]:=fun e=>hl l (by rw [e];rfl)
    exact qNk hB A _ _ p' hl' (fun e=>absurd e ne) h.2
  · rw [List.cons_append] at h
    exact qNk hB A _ _ p' hl' (fun _=>rfl) ((jE hm).mp h).2
def tbL (tb:Int)(A:List Im):Int:=match A.getLast? with
 | none=>tb
 | some (.mix x)=>x - x.fdiv 2
 | _=>0
theorem qPe {tb:Int}{m:Im}{A:List Im}:tbL tb (m::A)=tbL (match m with | .mix x=>x - x.fdiv 2 | _=>0) A:=by
 unfold tbL
 rw [xH]
 cases A.getLast? with
 | none=>cases m <;> rfl
 | some z=>cases z <;> rfl
structure qS2 (R:Im→Int→Im→Prop):Prop where
 beg:∀ {A m:Im} {l hi:Int},Wf m→R A l m→R A l (qm m 0 hi)
 fin:∀ {m B:Im} {l lo:Int},Wf m→R m l B→R (qm m lo m.mo) l B
theorem qPa {m:Im}(hm:m.wd≠"mix")(lo hi:Int):(qm m lo hi).wd=m.wd:=by
 cases m with
 | mix l=>exact absurd rfl hm
 | _=>rfl
theorem qIn {R:Im→Int→Im→Prop}(hR:qS2 R){m:Im}(hm:m.wd≠"mix")(hw:Wf m){B:List Im}{d:Int}:∀ (A:List Im) (tb:Int) (p:Option Im),tbL tb A≤d→FS R tb p (A++m::B)→FS R tb p (A++[qm m 0 d])
 | [],tb,p,hd,h=>by
  obtain⟨h1,h2⟩:=(jE hm).mp h
  refine(jE (jP m 0 d)).mpr ⟨fun _=>?_,trivial⟩
  have e:tkE []=0:=rfl
  have hd:tb≤d:=hd
  rw [e,jS]
  omega
 | x::A,tb,p,hd,h=>by
  rw [qPe] at hd
  by_cases hx:x.wd="mix"
  · obtain⟨l,rfl⟩:=qz hx
    rw [List.cons_append,qE1] at h ⊢
    refine⟨fun X Y eX eY=>?_,qIn hR hm hw A _ _ hd h.2⟩
    cases A with
    | nil=>
     cases eY
     exact hR.beg hw (h.1 X m eX rfl)
    | cons a A=>exact h.1 X Y eX eY
  · rw [List.cons_append] at h ⊢
    obtain⟨h1,h2⟩:=(jE hx).mp h
    refine(jE hx).mpr ⟨fun c=>?_,qIn hR hm hw A _ _ ?_ h2⟩
    · have:=h1 c
      have e:tkE (A++[qm m 0 d])=tkE (A++m::B):=by
       cases A with
       | nil=>rw [List.nil_append,List.nil_append,qEp,qEp]
              · intro l e;cases e;exact hm rfl
              · intro l e
                have e:qm m 0 d= .mix l:=by simpa using e
                exact jP m 0 d (by rw [e];rfl)
       | cons a A=>rfl
      rw [e];exact this
    · cases x with
      | mix l=>exact absurd rfl hx
      | _=>exact hd
theorem qQy {R:Im→Int→Im→Prop}(hR:qS2 R){m:Im}(hm:m.wd≠"mix")(hw:Wf m){B:List Im}{d tb:Int}{p p':Option Im}(hd:tkE B≤m.mo - d)(h:FS R tb p (m::B)):FS R 0 p' (qm m d m.mo::B):=by
 obtain⟨_,h2⟩:=(jE hm).mp h
 refine(jE (jP m d m.mo)).mpr ⟨fun _=>by rw [jS];omega,?_⟩
 cases B with
 | nil=>exact trivial
 | cons x B=>
  by_cases hx:x.wd="mix"
  · obtain⟨l,rfl⟩:=qz hx
    rw [qE1] at h2 ⊢
    exact⟨fun X Y eX eY=>by cases eX;exact hR.fin hw (h2.1 m Y rfl eY),h2.2⟩
  · exact(jE hx).mpr ((jE hx).mp h2)
theorem qJe {R:Im→Int→Im→Prop}{m:Im}{B:List Im}(hm:m.wd≠"mix"):∀ (A:List Im) (tb:Int) (p:Option Im),FS R tb p (A++m::B)→∃ tb' p',FS R tb' p' (m::B)
 | [],tb,p,h=>⟨tb,p,h⟩
 | x::A,tb,p,h=>by
  by_cases hx:x.wd="mix"
  · obtain⟨l,rfl⟩:=qz hx
    exact qJe hm A _ _ h.2
  · rw [List.cons_append] at h
    exact qJe hm A _ _ ((jE hx).mp h).2
def NoS (c:Int)(ms:List Im):Prop:=∀ x∈qk 0 ms,(x.2.1 < c∧x.2.2≤c)∨(c < x.2.1∧c≤x.1)
theorem NoS.nma {c:Int}{ms:List Im}(h:NoS c ms):NMA 0 c ms:=fun x hx=>by have:=h x hx;omega
theorem qP9 {R:Im→Int→Im→Prop}(hR:qS2 R){ms:List Im}(hw:∀ m∈ms,Wf m){c:Int}(hc:0≤c)(hn:NoS c ms)(hM:MO none ms)(hF:FS R 0 none ms):FS R 0 none (xX c ms).1∧∀ p,FS R 0 p (xX c ms).2:=by
 have nl:=qNx hw hc hn.nma hM
 have nh:=qOk hw hc hn.nma
 obtain⟨w1,w2⟩:=qMr hw hc
 rcases zk ms c hc with ⟨h1,h2⟩ | ⟨A,B,m,d,h1,h2,h3,h4,h5,h6,h7⟩
 · rw [← h1] at hF
   exact⟨qN6 w2 _ _ _ nl hF,fun p=>qNk nh _ _ _ p nl (fun _=>rfl) hF⟩
 · rw [h1] at hF
   rw [h2,h3]
   have hm:=hw m (by rw [h1];simp)
   have hs:qk 0 ms=qk 0 A++qk (0+qp A+m.mo) B:=by rw [h1,jv,qY h6]
   refine⟨qIn hR h6 hm A _ _ ?_ hF,fun p=>?_⟩
   · unfold tbL
     cases hA:A.getLast? with
     | none=>dsimp only;omega
     | some z=>
      cases z with
      | mix l=>
       dsimp only
       obtain⟨A',eA⟩:=List.getLast?_eq_some_iff.mp hA
       have hx:(0+qp A' - l.fdiv 2,0+qp A',0+qp A'+(l - l.fdiv 2))∈qk 0 ms:=by
        rw [hs,eA,jv]
        refine List.mem_append_left _ (List.mem_append_right _ ?_)
        rw [qk];simp
       have h8:=hn _ hx
       have e0:(Im.mix l).mo=0:=rfl
       have e1:qp A=qp A':=by rw [eA,jc,qW,jF];omega
       dsimp only at h8
       omega
      | _=>dsimp only;omega
   · obtain⟨tb',p',hB⟩:=qJe h6 A _ _ hF
     refine qQy hR h6 hm ?_ hB
     cases B with
     | nil=>show (0:Int)≤m.mo - d;omega
     | cons x B=>
      by_cases hx:x.wd="mix"
      · obtain⟨l,rfl⟩:=qz hx
        have h8:=hn (0+qp A+m.mo - l.fdiv 2,0+qp A+m.mo,0+qp A+m.mo+(l - l.fdiv 2)) (by rw [hs,qk];exact List.mem_append_right _ (by simp))
        dsimp only at h8
        show l.fdiv 2≤m.mo - d
        omega
      · have:tkE (x::B)=0:=qEp fun l e=>by cases e;exact hx rfl
        omega
theorem qM7:∀ {ms:List Im} {w:Int} {p:Option Im},MO p ms→0≤w→Nn ms→(NHM ms∨w=0)→tkE (xv w ms)=tkE ms
 | [],_,_,_,_,_,_=>rfl
 | m::ms,w,p,hM,hw,hN,hh=>by
  by_cases hm:m.wd="mix"
  · obtain⟨l,rfl⟩:=qz hm
    have hg:(Im.mix l).wd≠"gap":=by show ("mix":Str)≠"gap";decide+kernel
    rcases hh with hh | rfl
    · exact absurd rfl (hh l)
    · rw [jC hg,if_neg (by omega)];rfl
  · have e:tkE (m::ms)=0:=qEp fun l e=>by cases e;exact hm rfl
    rw [qq hm] at hM
    by_cases hg:m.wd="gap"
    · obtain⟨l,rfl⟩:=qBm hg
      have hn:NHM ms:=hM.nh fun⟨_,_,_,_,_,_,e⟩=>by cases e
      have hl:0≤l:=hN (.gap l) (by simp)
      rw [e,xv,qM7 hM (by omega) hN.tail (.inl hn),qEp hn]
    · rw [e,jC hg]
      split
      · rfl
      · exact e
theorem qKw {R:Im→Int→Im→Prop}:∀ (ms:List Im) (w tb:Int) (p p':Option Im),0≤w→(tb=0∨(w=0∧qPm ms.head?))→MO p' ms→Nn ms→(NHM ms∨(w=0∧p=p'))→FS R tb p' ms→FS R tb p (xv w ms)
 | [],_,_,_,_,_,_,_,_,_,_=>trivial
 | m::ms,w,tb,p,p',hw,ht,hM,hN,hh,hF=>by
  by_cases hm:m.wd="mix"
  · obtain⟨l,rfl⟩:=qz hm
    rcases hh with hh | ⟨rfl,rfl⟩
    · exact absurd rfl (hh l)
    obtain⟨⟨h1,h2⟩,h3⟩:=hM
    have hg:(Im.mix l).wd≠"gap":=by show ("mix":Str)≠"gap";decide+kernel
    rw [jC hg,if_neg (by omega),qE1]
    have eh:(xv 0 ms).head?=ms.head?:=by
     obtain⟨n,p,q,r,s,k,h2⟩:=h2
     cases ms with
     | nil=>cases h2
     | cons x ms=>cases h2;rw [xv,if_neg (by omega)];rfl
    exact⟨fun A B eA eB=>hF.1 A B eA (by rw [← eh,eB]),qKw ms 0 _ _ _ (Int.le_refl 0) (.inr ⟨rfl,h2⟩) h3 hN.tail (.inr ⟨rfl,rfl⟩) hF.2⟩
  · rw [qq hm] at hM
    obtain⟨h1,h2⟩:=(jE hm).mp hF
    by_cases hg:m.wd="gap"
    · obtain⟨l,rfl⟩:=qBm hg
      have hn:NHM ms:=hM.nh fun⟨_,_,_,_,_,_,e⟩=>by cases e
      have hl:0≤l:=hN (.gap l) (by simp)
      have e0:tb=0:=by
       rcases ht with ht | ⟨_,_,_,_,_,_,_,e⟩
       · exact ht
       · cases e
      subst e0
      rw [xv]
      exact qKw ms (w+l) 0 p (some (.gap l)) (by omega) (.inl rfl) hM hN.tail (.inl hn) h2
    · have ih:=qKw (R:=R) ms 0 0 (some m) (some m) (Int.le_refl 0) (.inl rfl) hM hN.tail (.inr ⟨rfl,rfl⟩) h2
      have et:=qM7 hM (Int.le_refl 0) hN.tail (.inr rfl)
      rw [jC hg]
      split
      · show FS R 0 _ (m::xv 0 ms)
        refine(jE hm).mpr ⟨fun c=>?_,ih⟩
        rw [et]
        have:=h1 c
        omega
      · refine(jE hm).mpr ⟨fun c=>?_,ih⟩
        rw [et]
        exact h1 c
theorem qK2:∀ (ms:List Im) (w:Int) (p p':Option Im),0≤w→MO p' ms→Nn ms→(NHM ms∨(w=0∧p=p'))→MO p (xv w ms)
 | [],_,_,_,_,_,_,_=>trivial
 | m::ms,w,p,p',hw,hM,hN,hh=>by
  by_cases hm:m.wd="mix"
  · obtain⟨l,rfl⟩:=qz hm
    rcases hh with hh | ⟨rfl,rfl⟩
    · exact absurd rfl (hh l)
    obtain⟨⟨h1,h2⟩,h3⟩:=hM
    have hg:(Im.mix l).wd≠"gap":=by show ("mix":Str)≠"gap";decide+kernel
    have eh:(xv 0 ms).head?=ms.head?:=by
     obtain⟨n,p,q,r,s,k,h2⟩:=h2
     cases ms with
     | nil=>cases h2
     | cons x ms=>cases h2;rw [xv,if_neg (by omega)];rfl
    rw [jC hg,if_neg (by omega)]
    exact⟨⟨h1,by rw [eh];exact h2⟩,qK2 ms 0 _ _ (Int.le_refl 0) h3 hN.tail (.inr ⟨rfl,rfl⟩)⟩
  · rw [qq hm] at hM
    by_cases hg:m.wd="gap"
    · obtain⟨l,rfl⟩:=qBm hg
      have hn:NHM ms:=hM.nh fun⟨_,_,_,_,_,_,e⟩=>by cases e
      have hl:0≤l:=hN (.gap l) (by simp)
      rw [xv]
      exact qK2 ms (w+l) p (some (.gap l)) (by omega) hM hN.tail (.inl hn)
    · have ih:=qK2 ms 0 (some m) (some m) (Int.le_refl 0) hM hN.tail (.inr ⟨rfl,rfl⟩)
      rw [jC hg]
      split
      · show MO (some (.gap w)) (m::xv 0 ms)
        rw [qq hm];exact ih
      · rw [qq hm];exact ih
theorem Rel.good {R:Im→Int→Im→Prop}(hR:qS2 R){ms:List Im}{lo hi:Int}{ls:List Im}(h:Rel ms lo hi ls)(hF:FS R 0 none ms):MO none (qEw ms lo hi ls)∧FS R 0 none (qEw ms lo hi ls)∧OS false (qEw ms lo hi ls)∧Nn ((xX lo ms).1++((.gap (vY (lo - qp ms) 0)::ls)++(xX hi ms).2))∧qEw ms lo hi ls=xv 0 ((xX lo ms).1++((.gap (vY (lo - qp ms) 0)::ls)++(xX hi ms).2)):=by
 have l0:=h.l0
 have lh:=h.lh
 have h0:0≤hi:=by omega
 have n1:NoS lo ms:=fun x hx=>by have:=h.far x hx;omega
 have n2:NoS hi ms:=fun x hx=>by have:=h.far x hx;omega
 obtain⟨aF,_⟩:=qP9 hR h.wf l0 n1 h.mo hF
 obtain⟨_,bF⟩:=qP9 hR h.wf h0 n2 h.mo hF
 have aN:=qNx h.wf l0 h.nlo h.mo
 have bH:=qOk h.wf h0 h.nhi
 obtain⟨aM,_⟩:=qQc h.wf l0 h.nlo h.mo
 obtain⟨_,bM2⟩:=qQc h.wf h0 h.nhi h.mo
 obtain⟨aW,_⟩:=qMr h.wf l0
 obtain⟨_,bW2⟩:=qMr h.wf h0
 have pad0:0≤vY (lo - qp ms) 0:=by unfold vY;split <;> omega
 have mG:∀ m∈Im.gap (vY (lo - qp ms) 0)::ls,m.wd≠"mix":=fun x hx=>by
  rcases List.mem_cons.mp hx with rfl | hx
  · show ("gap":Str)≠"mix";decide+kernel
  · exact h.lm x hx
 have nlG:NLM (.gap (vY (lo - qp ms) 0)::ls):=fun l e=>mG (.mix l) (List.mem_of_getLast? e) rfl
 have nhG:NHM ((.gap (vY (lo - qp ms) 0)::ls)++(xX hi ms).2):=fun l e=>by cases e
 have nX:Nn ((xX lo ms).1++((.gap (vY (lo - qp ms) 0)::ls)++(xX hi ms).2)):=fun x hx=>by
  rcases List.mem_append.mp hx with hx | hx
  · exact(aW x hx).mo
  · rcases List.mem_append.mp hx with hx | hx
    · rcases List.mem_cons.mp hx with rfl | hx
      · exact pad0
      · exact(h.lw x hx).mo
    · exact(bW2 x hx).mo
 have MX:MO none ((xX lo ms).1++((.gap (vY (lo - qp ms) 0)::ls)++(xX hi ms).2)):=qMz none none _ _ aM (qMz _ none _ _ (qPj mG _) (bM2 _))
 have fls:∀ p,FS R 0 p (.gap (vY (lo - qp ms) 0)::ls):=fun p=>qQ6 (R:=R) (ms:=ls) _ (fun x hx=>⟨h.lw x hx,h.lm x hx⟩)
 have FX:FS R 0 none ((xX lo ms).1++((.gap (vY (lo - qp ms) 0)::ls)++(xX hi ms).2)):=qKi nhG (fun p=>qKi bH bF _ 0 p nlG (fun _=>rfl) (fls p)) _ 0 none aN (fun _=>rfl) aF
 have e:qEw ms lo hi ls=xv 0 ((xX lo ms).1++((.gap (vY (lo - qp ms) 0)::ls)++(xX hi ms).2)):=by rw [h.eq];simp
 rw [e]
 exact⟨qK2 _ 0 none none (Int.le_refl 0) MX nX (.inr ⟨rfl,rfl⟩),qKw _ 0 0 none none (Int.le_refl 0) (.inl rfl) MX nX (.inr ⟨rfl,rfl⟩) FX,qJy _ 0 nX (Int.le_refl 0),nX,rfl⟩
instance:DecidableEq Te:=fun a b=>by
 cases a;cases b
 exact decidable_of_iff _ (by rw [Te.mk.injEq])
def wq (f:Str→Int→List Te)(ms:List Im)(n:Nat):List (List Te):=(List.range n).map fun(k:Nat)=>qJm f ms (k:Int)
def RmR (rl:Rls):Im→Int→Im→Prop:=fun A l B=>∀ n p q r s k n' p' q' r' s' k',A= .clip n p q r s k→B= .clip n' p' q' r' s' k'→∃ N N',rl n=some N∧rl n'=some N'∧l.fdiv 2≤qRb p' q' r' s' N'∧l - l.fdiv 2≤qPl p q r s k N
theorem qV7 (rl:Rls):qS2 (RmR rl):=by
 refine⟨fun {A m l hi} hw h=>?_,fun {m B l lo} hw h=>?_⟩
 · intro n p q r s k n' p' q' r' s' k' eA eB
   cases m with
   | clip n1 p1 q1 r1 s1 k1=>
    obtain⟨z1,z2⟩:=qC8 (r:=r1) (s:=s1) hw.1 hw.2.1 hw.2.2.1
    cases eB
    rw [z1,z2]
    exact h n p q r s k _ _ _ _ _ _ eA rfl
   | nest=>cases eB
   | gap=>cases eB
   | mix=>cases eB
 · intro n p q r s k n' p' q' r' s' k' eA eB
   cases m with
   | clip n1 p1 q1 r1 s1 k1=>
    cases eA
    obtain⟨N,N',q1',q2',q3',q4'⟩:=h _ _ _ _ _ _ _ _ _ _ _ _ rfl eB
    refine⟨N,N',q1',q2',q3',?_⟩
    obtain⟨z1,z2⟩:=qNd (p:=p1) (r:=r) (lo:=lo) (k:=k1 - lo) hw.1 hw.2.1
    unfold qPl at q4' ⊢
    show _≤wt (plP (plP p1 q1 r s lo) (plQ p1 q1 r s lo) r s (k1 - lo)*s) (1*r*plQ (plP p1 q1 r s lo) (plQ p1 q1 r s lo) r s (k1 - lo)) (plQ (plP p1 q1 r s lo) (plQ p1 q1 r s lo) r s (k1 - lo)*s) N
    rw [z1,z2,show lo+(k1 - lo)=k1 by omega]
    exact q4'
   | nest=>cases eA
   | gap=>cases eA
   | mix=>cases eA
theorem qSr {a b l:Int}(h:l≤mmV a b)(h1:1≤l):l.fdiv 2≤a∧l - l.fdiv 2≤b:=by
 have f:=q9 (p:=l) (q:=2) (by decide)
 unfold mmV qUw at h
 split at h
 · split at h <;> omega
 · split at h <;> omega
theorem qNb {a b x:Int}(h:x≤qS9 a b):x≤a∧x≤b:=by
 unfold qS9 at h
 split at h <;> omega
theorem qPt {ms:List Im}{i:Nat}(hi:i≤ms.length):tbL 0 (ms.take i)=tbF ms i:=by
 unfold tbL tbF
 cases i with
 | zero=>rfl
 | succ i=>
  have e:(ms.take (i+1)).getLast?=ms[i]?:=by
   rw [List.getLast?_eq_getElem?,List.length_take,Nat.min_eq_left hi]
   exact List.getElem?_take_of_lt (by omega)
  rw [e,if_neg (by omega),Nat.add_sub_cancel]
  cases h:ms[i]? with
  | none=>rfl
  | some z=>cases z <;> rfl
theorem qOy (ms:List Im)(i:Nat):tkE (ms.drop (i+1))=teF ms i:=by
 unfold tkE teF
 rw [List.head?_drop]
 all_goals
  cases ms[i+1]? with
  | none=>rfl
  | some z=>cases z <;> rfl
theorem qR7 {m:Im}(h:m.wd="clip"):∃ n p q r s l,m= .clip n p q r s l:=by
 cases m with
 | clip n p q r s l=>exact⟨_,_,_,_,_,_,rfl⟩
 | nest=>exact absurd (show ("nest":Str)="clip" from h) (by decide+kernel)
 | gap=>exact absurd (show ("gap":Str)="clip" from h) (by decide+kernel)
 | mix=>exact absurd (show ("mix":Str)="clip" from h) (by decide+kernel)
theorem qRy {ms:List Im}{t:Int}{i:Nat}(hc:cbF ms t=some ((i:Int),((i+1:Nat):Int))):∃ n p q r s k n' p' q' r' s' k',ms[i]? =some (.clip n p q r s k)∧ms[i+1]? =some (.clip n' p' q' r' s' k')∧ms=ms.take i++ .clip n p q r s k:: .clip n' p' q' r' s' k'::ms.drop (i+2)∧∀ l,ms.take (i+1)++[.mix l]++ms.drop (i+1)=ms.take i++ .clip n p q r s k:: .mix l:: .clip n' p' q' r' s' k'::ms.drop (i+2):=by
 obtain⟨k1,k2⟩:=wK hc
 have get:∀ j:Nat,jh ms (j:Int)="clip"→∃ n p q r s k,ms[j]? =some (.clip n p q r s k):=fun j hj=>by
  unfold jh at hj
  rw [if_neg (by omega),Int.toNat_natCast] at hj
  cases h:ms[j]? with
  | none=>rw [h] at hj;exact absurd hj (by decide+kernel)
  | some m=>
   rw [h] at hj
   obtain⟨n,p,q,r,s,l,rfl⟩:=qR7 hj
   exact⟨_,_,_,_,_,_,rfl⟩
 obtain⟨n,p,q,r,s,k,h1⟩:=get i k1
 obtain⟨n',p',q',r',s',k',h2⟩:=get (i+1) k2
 have d1:=jW h1
 have d2:=jW h2
 refine⟨n,p,q,r,s,k,n',p',q',r',s',k',h1,h2,?_,fun l=>?_⟩
 · rw [← d2,← d1,List.take_append_drop]
 · rw [List.take_add_one,h1,d2]
   simp
theorem qNt {rl:Rls}{ms:List Im}{t:Int}{i:Nat}{M l:Int}(hc:cbF ms t=some ((i:Int),((i+1:Nat):Int)))(hM:mmF rl ms t=some M)(h1:1≤l)(hl:l≤M)(hO:OS false ms)(hm:MO none ms)(hF:FS (RmR rl) 0 none ms):
 OS false (ms.take (i+1)++[.mix l]++ms.drop (i+1))∧MO none (ms.take (i+1)++[.mix l]++ms.drop (i+1))∧FS (RmR rl) 0 none (ms.take (i+1)++[.mix l]++ms.drop (i+1)):=by
 obtain⟨n,p,q,r,s,k,n',p',q',r',s',k',e1,e2,e3,e4⟩:=qRy hc
 have c1:zM ms ((i:Nat):Int)= .clip n p q r s k:=by unfold zM;rw [Int.toNat_natCast,e1];rfl
 have c2:zM ms ((i+1:Nat):Int)= .clip n' p' q' r' s' k':=by unfold zM;rw [Int.toNat_natCast,e2];rfl
 unfold mmF at hM
 rw [hc] at hM
 dsimp only at hM
 rw [c1,c2] at hM
 dsimp only at hM
 cases r1:rl n with
 | none=>rw [r1] at hM;cases hM
 | some N=>
 cases r2:rl n' with
 | none=>rw [r1,r2] at hM;cases hM
 | some N'=>
 rw [r1,r2] at hM
 dsimp only at hM
 rw [Int.toNat_natCast,Int.toNat_natCast] at hM
 cases hM
 obtain⟨q1,q2⟩:=qSr hl h1
 obtain⟨q3,q4⟩:=qNb q1
 obtain⟨q5,q6⟩:=qNb q2
 have hi:i < ms.length:=(glt e1)
 rw [e4 l]
 rw [e3] at hO hm hF
 refine⟨qOh l (by show ("clip":Str)≠"gap";decide+kernel) (by show ("clip":Str)≠"gap";decide+kernel) _ _ hO,qNe l ⟨_,_,_,_,_,_,rfl⟩ ⟨_,_,_,_,_,_,rfl⟩ _ _ hm,qIb ?_ ?_ _ _ _ ?_ hF⟩
 · have:=qOy ms (i+1)
   rw [this]
   omega
 · intro n1 p1 q1 r1' s1 k1 n2 p2 q2 r2' s2 k2 eA eB
   cases eA;cases eB
   exact⟨N,N',r1,r2,q4,q6⟩
 · show tbL 0 (ms.take i)+l.fdiv 2≤k
   rw [qPt (by omega)]
   omega
theorem qTj:∀ (ms:List Im) (g:Bool),(∀ l,Im.gap l∈ms→1≤l)→GG ms→qBg ms→(g=true→ms≠[]∧∀ l,ms.head?≠some (.gap l))→OS g ms
 | [],g,_,_,_,h=>by
  cases g with
  | false=>rfl
  | true=>exact absurd rfl (h rfl).1
 | m::ms,g,hp,hg,hl,h=>by
  have hg':GG ms:=fun i l l' a b=>hg (i+1) l l' (by rw [List.getElem?_cons_succ];exact a) (by rw [List.getElem?_cons_succ];exact b)
  have hl':qBg ms:=fun l e=>by
   cases ms with
   | nil=>simp at e
   | cons x ms=>exact hl l (by simpa using e)
  have ih:=fun g=>qTj ms g (fun l hm=>hp l (by simp [hm])) hg' hl'
  by_cases hx:m.wd="gap"
  · obtain⟨l,rfl⟩:=qBm hx
    refine⟨?_,hp l (by simp),ih true fun _=>⟨fun e=>?_,fun l' e=>?_⟩⟩
    · cases g with
      | false=>rfl
      | true=>exact absurd rfl ((h rfl).2 l)
    · subst e
      exact hl l rfl
    · refine hg 0 l l' rfl ?_
      rw [List.getElem?_cons_succ,← List.head?_eq_getElem?]
      exact e
  · rw [jb hx]
    exact ih false fun e=>by cases e
structure GdT (A:Int)(ms:List Im):Prop where
 os:OS false ms
 mo:MO none ms
 fs:FS (RmR (rlE A)) 0 none ms
def qVi (K:W.Frag)(C:Addr)(i:Option Nat)(tb:(Value→Option Addr→L2.St→Hp→Prop)→L2.TS)(ts:L2.TS):L2.TS:=fun D σ H=>∃ Ex,qSx K Ex C i (tb Ex) ts D σ H
theorem qQ3 {X:Cx}{body:List Stmt}{b₀:Stmt}{suite:List Stmt}{x:Str}{C:Addr}{nm:Option Str}{i:Option Nat}{np hpos pos:PySem.Pos}{tb:(Value→Option Addr→L2.St→Hp→Prop)→L2.TS}{ts:L2.TS}
 (hcl:qB4 X nm i) (hN:X.N.Nodup) (hg:Gl X x) (hm:X.mg x=some (.ref C))
 (hb:∀ Ex l,PSs ((pnX X l).wish (XES (pnX X l) Ex)) body (tb Ex)) (hs:∀ l ea,PSs (hdX (pnX X l) ea).nox (b₀::suite) ts)
 (hstk:X.stack=X.env::X.outer:=by rfl) (hfr:X.env.frame=some X.env.locals:=by rfl) (hex:X.ex=[]:=by rfl) (hdb:(x == ("__debug__":Str))=false:=by decide):
 PS X (.Try body [.ExceptHandler (some (.Name x np)) nm (b₀::suite) hpos] [] [] pos) (qVi X.K C i tb ts):=by
 have q:=fun Ex=>qRx (np:=np) (hpos:=hpos) (pos:=pos) Ex hcl hN hg hm (hb Ex) hs hstk hfr hex hdb
 unfold L2.PS at q ⊢
 rintro pins s σ H D I ⟨Ex,h⟩
 exact q Ex pins s σ H D I h
theorem qMk:∀ (ms:List Im) (b:Int) (j:Nat) (x:Int),(∀ m∈ms,m.wd≠"mix")→(b::qh b ms)[j]? =some x→x=b+vj ms j∧0≤x - b∨(∃ m∈ms,m.mo < 0)
 | [],b,0,x,_,h=>by
  have e:x=b:=by simpa using h.symm
  left
  rw [e]
  exact⟨by simp [vj],by omega⟩
 | [],b,j+1,x,_,h=>by simp [qh] at h
 | m::ms,b,0,x,_,h=>by
  have e:x=b:=by simpa using h.symm
  left
  rw [e]
  exact⟨by simp [vj],by omega⟩
 | m::ms,b,j+1,x,hw,h=>by
  have hm:=hw m (by simp)
  rw [List.getElem?_cons_succ,jR hm] at h
  have em:=qL7 hm
  rcases qMk ms (b+m.l) j x (fun y hy=>hw y (by simp [hy])) h with ⟨e,h0⟩ | ⟨y,hy,h0⟩
  · by_cases hn:m.mo < 0
    · exact .inr ⟨m,by simp,hn⟩
    · left
      have eb:vj (m::ms) (j+1)=m.mo+vj ms j:=by unfold vj;rw [List.take_succ_cons,List.map_cons,List.sum_cons]
      rw [eb]
      constructor <;> omega
  · exact .inr ⟨y,by simp [hy],h0⟩
structure WkG (A:Int)(ms0:List Im)(j:Nat)(ms:List Im):Prop where
 wk:Wk A ms0 j ms
 gd:GdT A ms
theorem WkG.next {A:Int}{ms0 ms:List Im}{j:Nat}(h:WkG A ms0 j ms)(hT:∀ m∈ms0,TI A m):WkG A ms0 (j+1) ms:=⟨h.wk.next hT,h.gd⟩
structure TbG (A:Int)(ts:List (List Im))(tie:List Int):Prop where
 tb:TbM A ts tie
 gd:∀ ms∈ts,GdT A ms
theorem TbG.set {A:Int}{ts:List (List Im)}{tie:List Int}{ms:List Im}(h:TbG A ts tie)(i:Nat)(hm:ms.length≤17∧∀ m∈ms,TM A m)(hg:GdT A ms):TbG A (ts.set i ms) tie:=by
 refine⟨?_,fun x hx=>?_⟩
 · refine⟨by rw [List.length_set];exact h.tb.l3,fun x hx=>?_,h.tb.tl,fun x hx=>by rw [List.length_set];exact h.tb.tin x hx⟩
   rcases List.mem_or_eq_of_mem_set hx with h' | h'
   · exact h.tb.ms x h'
   · subst h';exact hm
 · rcases List.mem_or_eq_of_mem_set hx with h' | h'
   · exact h.gd x h'
   · subst h';exact hg
theorem qKe {ts:List (List Im)}{i:Nat}{ms:List Im}(h:ts[i]? =some ms):ts.set i ms=ts:=by
 apply List.ext_getElem?
 intro k
 rw [List.getElem?_set]
 split
 · rename_i e
   subst e
   rw [if_pos (glt h),h]
 · rfl
inductive qFo (vs:List V)(H:Hp)(Q:VK)(_:XK):Prop
| mk (tz re:Addr) (ts:List (List Im)) (tie:List Int) (A c:Int) (_:vs=[.ref tz,.ref re,.int c]) (_:TabF H (.ref tz) ts tie) (_:TbG A ts tie) (_:(∀ ms∈ts,ms.length≤5∧∀ m∈ms,TI A m)) (_:RE H re A) (_:0≤c) (_:c < 2147483700) (_:∀ (t':Addr) (ts':List (List Im)) (H':Hp),Same H H'→TabF H' (.ref t') ts' tie→TbG A ts' tie→Q (.ref t') H')
theorem qGf (T:Tx K mg a):FnOk P w K mg base CX0 11 a.A82 a.B82 ["_law_table_here","_law_reels_here","_law_cell"] qFo:=by
 refine T.D82.F.ok jO (fun vs H Q E h=>?_) (fun cdv A outer s H vs Q E hr h=>?_)
 · obtain⟨tz,re,ts,tie,A',c,rfl,_⟩:=h
   rfl
 refine qL fun _ Y=>?_
 obtain⟨tz,re,ts,tie,A',c,rfl,hT,hM,hI,hre,c0,c1,kk⟩:=h
 apply Y
 refine⟨_,(qB (j2 PassesOwn.never rfl (xF rfl T.b_range (qA (qi xA rfl T.b_len rfl (qA (qI (pv 0)) qC)) qC)) (qt (i:=3) jO.nd rfl (Or.inl rfl)) (qE (j2 PassesOwn.never rfl (jX (qK T.D26 (ju T) hr rfl (qA (qv qZ (qI (pv 0)) (pv 3) (fun _ _=>rfl)) qC))) (qt (i:=4) jO.nd rfl (Or.inl rfl)) (qB (qU 2 jO.nd (qP jA (qP qo (qP qr (pv 2) qG) qG) qG))
  (qB (vR (qQ3 .none jO.nd rfl T.c_NoPlace (fun _ _=>(qE (qU 5 jO.nd (qPs T.D44 (km T) hr rfl (qA (qv (qPi (K:=K) rfl) (qv (qB3 (K:=K) rfl) (pv 0) qG (fun _ _=>rfl)) (pv 3) (fun _ _=>rfl)) (qA (pv 4) (qA (pv 1) qC))))))) (fun _ _=>(qE (qU 5 jO.nd qG)))))
  (qE (qd (qEq (PW.pt (jZ (qJ qF8 (pv 5) qG (qN _)) (jM (qJ qF8 (qP jA (qP qj (pv 2) qG) qG) qG (qN _)))))) (qE (qU 0 jO.nd (qK T.D73 (qA9 T) hr rfl (qA (pv 0) (qA (ql (qA qR (qA (pv 3) (qA (pv 4) (qA (qP qo qG (qP jA (qP qj (pv 2) qG) (qi (vS rfl) rfl T.b_min rfl (qA (pv 5) (qA qG qC))))) qC))))) (qA (pv 1) qC)))))) qQ)))))))
  (qE (qM (pv 0)))),?_⟩
 try dsimp only [je,qg]
 refine qL fun _ Y=>?_
 obtain⟨tt,tl,ti,zs,e0,g2,g3,g4,g5⟩:=id hT
 cases e0
 apply Y
 have hzl:=g4.len
 have l3:=hM.tb.l3
 refine⟨_,rfl,tz,_,_,_,rfl,rfl,SqT.of g2,at0,tl,zs,rfl,.inl (SqL.of g3),_,rfl,by omega,by omega,zE (n:=((zs.length:Nat):Int).toNat) (fun i σ H'=>∃ (t1:Addr) (ts1:List (List Im)) (c:Int) (o1 o2 o3:Option V),σ=[some (.ref t1),some (.ref re),some (.int c),o1,o2,o3]∧TabF H' (.ref t1) ts1 tie∧TbG A' ts1 tie∧(∀ k ms,i≤k→ts1[k]? =some ms→ms.length≤5∧∀ m∈ms,TI A' m)∧0≤c∧c < 2147483700∧Same H H')
  ⟨tz,ts,c,none,none,none,rfl,hT,hM,fun k ms _ hk=>hI ms (List.mem_of_getElem? hk),c0,c1,Same.refl _⟩ ?_ ?_⟩
 · rintro i σ H' hi ⟨t1,ts1,c,o1,o2,o3,rfl,hT1,hM1,hI1,c0,c1,e⟩
   refine qL fun _ Y=>?_
   obtain⟨_,tl1,ti1,zs1,e0,q2,q3,q4,q5⟩:=id hT1
   cases e0
   have hzl1:=q4.len
   have l31:=hM1.tb.l3
   obtain⟨v1,hv1⟩:∃ v,zs1[i]? =some v:=⟨_,List.getElem?_eq_getElem (by omega)⟩
   obtain⟨ms0,z,hms,rfl,tT⟩:=q4.get hv1
   have ai:atI zs1 (0+(i:Int))=some (.ref z):=by rw [Int.zero_add];exact qX hv1
   obtain⟨m5,mT⟩:=hI1 i ms0 (Nat.le_refl _) hms
   apply Y
   refine(ixO q2 at0 ⟨_,rfl,tl1,_,_,_,rfl,rfl,SqL.of q3,ai,z,ms0,rfl,tT,by omega,fun y H2 e2 hy hy2=>?_⟩)
   refine⟨y,rfl,⟨_,SqL.of hy2⟩,jy (K:=K) (a:=y) (xs:=(0::qh 0 ms0).map V.int) (fun j σ H'=>∃ (t2:Addr) (ms:List Im) (c:Int) (o2 o3:Option V),σ=[some (.ref t2),some (.ref re),some (.int c),some (.int (0+(i:Int))),o2,o3]∧TabF H' (.ref t2) (ts1.set i ms) tie∧WkG A' ms0 j ms∧0≤c∧c < 2147483700∧Same H2 H') ⟨t1,ms0,c,o2,o3,rfl,?_,⟨Wk.start,hM1.gd _ (List.mem_of_getElem? hms)⟩,c0,c1,Same.refl _⟩ ?_ ?_ ?_⟩
   · rw [qKe hms];exact hT1.same e2
   · rintro j σ H3 hj ⟨t2,ms,c,o2,o3,rfl,_,_,_,_,e3⟩
     exact SqL.of (e3 _ _ hy2)
   · rintro j x σ H3 hx ⟨t2,ms,c,o2,o3,rfl,hT2,hW,c0,c1,e3⟩
     refine qL fun _ Y=>?_
     obtain⟨t,ht,rfl⟩:∃ t:Int,(0::qh 0 ms0)[j]? =some t∧x= .int t:=by
      rw [List.getElem?_map] at hx
      cases hq:(0::qh 0 ms0)[j]? with
      | none=>rw [hq] at hx;cases hx
      | some k=>rw [hq] at hx;cases hx;exact⟨k,rfl,rfl⟩
     have hj6:j≤6:=by
      have h1:=(glt ht)
      rw [List.length_cons] at h1
      have:=zq 0 ms0
      omega
     obtain⟨et,ht0⟩:t=vj ms0 j∧0≤t:=by
      rcases qMk ms0 0 j t (fun m hm=>(mT m hm).nm) ht with h | ⟨m,hm,h⟩
      · omega
      · have:=(mT m hm).mo;omega
     apply Y
     have hMs:=hM1.set i (hW.wk.tm mT m5 hj6) hW.gd
     have eH3:=(e.trans e2).trans e3
     have hre3:=hre.same eH3
     have hD3:=hMs.tb.tabD hT2 hre3
     have f0:=fm (c*48271+11) (show (0:Int) < 2147483647 by decide)
     refine⟨_,rfl,_,_,rfl,rfl,cmR (by decide) (by decide),_,_,rfl,rfl,_,_,rfl,rfl,nz,?_⟩
     dsimp only
     generalize (c*48271+11).fmod 2147483647=c' at f0 ⊢
     refine qL fun _ Y=>?_
     obtain⟨_,tl2,ti2,zs2,e0,r2,r3,r4,r5⟩:=id hT2
     cases e0
     have hil:i < ts1.length:=by omega
     have hms2:(ts1.set i ms)[i]? =some ms:=by rw [List.getElem?_set,if_pos rfl,if_pos hil]
     obtain⟨v2,hv2⟩:∃ v,zs2[i]? =some v:=⟨_,List.getElem?_eq_getElem (by rw [r4.len,List.length_set];omega)⟩
     obtain⟨ms',z2,hms',rfl,tT2⟩:=r4.get hv2
     rw [hms2] at hms'
     cases hms'
     apply Y
     have ai2:atI zs2 (0+(i:Int))=some (.ref z2):=by rw [Int.zero_add];exact qX hv2
     refine⟨fun σ H'=>∃ M:Int,σ=[some (.ref t2),some (.ref re),some (.int c'),some (.int (0+(i:Int))),some (.int t),some (.int M)]∧Same H3 H'∧(0 < M→mmF (rlE A') ms t=some M),?_,?_⟩
     · refine⟨fun B od σ' H'=>B= .ref a.k_NoPlace∧Same H3 H'∧σ'=[some (.ref t2),some (.ref re),some (.int c'),some (.int (0+(i:Int))),some (.int t),o3],?_,?_⟩
       · exact(ixO r2 at0 ⟨_,rfl,tl2,_,_,_,rfl,rfl,SqL.of r3,ai2,_,rfl,_,rfl,z2,re,ms,_,some t,rlE A',rfl,tT2,(hD3.ok ms (List.mem_of_getElem? hms2)).2.2,hD3.re,.int t,fun _ H' e'=>⟨rfl,e',rfl⟩,fun M h H' e'=>⟨M,rfl,e',fun _=>h⟩⟩)
       · rintro ea ⟨B1,B2⟩ σ' H' ⟨hB,sH,rfl⟩ hn hl'
         dsimp only at hB
         subst hB
         exact⟨T.yPP,0,rfl,sH.trans (qF hn _),fun h=>absurd h (by decide)⟩
     rintro σ H4 ⟨M,rfl,e4,hMM⟩
     refine⟨fun b H'=>H'=H4∧(b=true→0 < M),?_,?_⟩
     · refine⟨_,rfl,_,_,rfl,rfl,_,rfl,jf (fun q=>?_) (fun _=>⟨rfl,by simp⟩)⟩
       have hp:0 < M:=by simpa using q
       exact⟨_,rfl,_,_,rfl,rfl,cdB (by decide) (by decide),_,_,rfl,rfl,nz,_,_,rfl,rfl,_,rfl,rfl,fun _=>hp⟩
     rintro b H' ⟨rfl,hp⟩
     cases b with
     | false=>exact jQ ⟨t2,ms,c',_,_,rfl,hT2.same e4,hW.next mT,f0.1,by omega,e3.trans e4⟩
     | true=>
     have hp:=hp rfl
     have hmm:=hMM hp
     rcases hW.wk.cb mT with hc | ⟨i2,hc,hWn⟩
     · rw [← et] at hc
       unfold mmF at hmm
       rw [hc] at hmm
       cases hmm
     rw [← et] at hc
     have hq:0 < (if (5:Int) < M then 5 else M)∧(if (5:Int) < M then 5 else M)≤M∧(if (5:Int) < M then 5 else M)≤5:=by split <;> omega
     refine xE ⟨_,rfl,_,rfl,_,rfl,_,rfl,_,_,rfl,rfl,cdB (by decide) (by decide),_,rfl,_,_,rfl,_,_,rfl,rfl,(by omega),_,_,rfl,rfl,qV8,fun p hp'=>?_⟩
     have f1:=fm (c'.fdiv 21) hq.1
     generalize (c'.fdiv 21).fmod (if (5:Int) < M then 5 else M)=u at f1
     have w5:=qF hp' (.tup [.str "mix",.int (0+(i:Int)),.int t,.int (1+u)])
     have e5:=e4.trans w5
     refine⟨_,rfl,t2,p,re,rlE A',_,tie,_,rfl,hD3.same e5,.mix (n:=i) (i:=i2) (t:=t) (l:=1+u) (M:=M) (ms:=ms) (by rw [show HO.tup [V.str "mix",.int (i:Int),.int t,.int (1+u)]=HO.tup [V.str "mix",.int (0+(i:Int)),.int t,.int (1+u)] by rw [Int.zero_add]];exact qD) hms2 ht0 (by omega) hc hmm (by rw [if_neg (by omega)]),fun t' H' e' hN=>?_⟩
     refine⟨t',_,c',_,_,rfl,?_,⟨hWn (1+u) (by omega) (by omega),?_⟩,f0.1,by omega,(e3.trans e5).trans e'⟩
     · have hN':=hN.tab
       rw [List.set_set] at hN'
       exact hN'
     · obtain⟨z1,z2,z3⟩:=qNt hc hmm (l:=1+u) (by omega) (by omega) hW.gd.os hW.gd.mo hW.gd.fs
       exact⟨z1,z2,z3⟩
   · rintro σ H3 ⟨t2,ms,c,o2,o3,rfl,hT2,hW,c0,c1,e3⟩
     have hj6:((0::qh 0 ms0).map V.int).length≤6:=by
      rw [List.length_map,List.length_cons]
      have:=zq 0 ms0
      omega
     refine⟨t2,ts1.set i ms,c,_,_,_,rfl,hT2,hM1.set i (hW.wk.tm mT m5 hj6) hW.gd,fun k ms' hk h=>?_,c0,c1,(e.trans e2).trans e3⟩
     rw [List.getElem?_set,if_neg (by omega)] at h
     exact hI1 k ms' (by omega) h
 · rintro σ H' ⟨t1,ts1,c,o1,o2,o3,rfl,hT1,hM1,hI1,c0,c1,e⟩
   exact⟨_,rfl,kk t1 ts1 _ e hT1 hM1⟩
theorem qT4 {xs:List V}{i:Int}(h0:0≤i)(h1:i < (xs.length:Int)):∃ v,atI xs i=some v∧v∈xs:=by
 obtain⟨k,rfl⟩:=Int.eq_ofNat_of_zero_le h0
 have hk:k < xs.length:=by omega
 exact⟨xs[k],qX (List.getElem?_eq_getElem hk),List.getElem_mem hk⟩
theorem TrsAt.sb {z:Addr}{H H':Hp}{us:List V}(e:SB z H H')(hz:H z=some (.lst us)):∀ {ts:List (List Im)} {vs:List V},(∀ b,V.ref b∈vs→b≠z)→TrsAt H ts vs→TrsAt H' ts vs
 | [],[],_,_=>trivial
 | _::_,v::vs,hn,⟨⟨y,h1,⟨ys,h2,h3⟩⟩,r⟩=>by
  subst h1
  exact⟨⟨y,rfl,ys,e _ _ (hn y (by simp)) h2,h3.ts (e.ts hz)⟩,TrsAt.sb e hz (fun b hb=>hn b (by simp [hb])) r⟩
 | [],_::_,_,h=>h.elim
 | _::_,[],_,h=>h.elim
theorem TI.wf {A:Int}{m:Im}(h:TI A m)(hA:60≤A∧A < 360):Wf m:=by
 rcases h with ⟨l,rfl,h1,h2⟩ | ⟨b,l,rfl,_,_,h1,h2⟩ | h
 · exact h1
 · exact h1
 · obtain⟨hit,_⟩:=h.it hA.1 hA.2
   obtain⟨nm,N,lo,rs,to,bo,len,hn,n0,n1,t0,t1,b0,b1,l0,l1,r0,r1,rfl⟩:=h
   obtain⟨N',hc⟩:=hit _ _ _ _ _ _ rfl
   exact⟨hc.g1.1,hc.g2.1,hc.g1.2.1,n0⟩
theorem qRp {A:Int}{ms:List Im}(hA:60≤A∧A < 360)(hT:∀ m∈ms,TI A m)(hG:GG ms)(hL:qBg ms):GdT A ms:=
 ⟨qTj ms false (fun l hm=>(hT _ hm).wf hA) hG hL (fun e=>by cases e),qPj (fun m hm=>(hT m hm).nm) none,qQ6 none fun m hm=>⟨(hT m hm).wf hA,(hT m hm).nm⟩⟩
inductive qE8 (vs:List V)(H:Hp)(Q:VK)(_:XK):Prop
| mk (c:Int) (re:Addr) (A:Int) (_:vs=[.int c,.ref re,.int 3,.int 10]) (_:RE H re A) (_:∀ (t':Addr) (ts:List (List Im)) (tie:List Int) (H':Hp),Same H H'→TabF H' (.ref t') ts tie→TbG A ts tie→Q (.ref t') H')
theorem qFr (T:Tx K mg a):FnOk P w K mg base CX0 12 a.A83 a.B83 ["_law_cell","_law_reels_here","_law_tracks","_law_size"] qE8:=by
 refine T.D83.F.ok xq (fun vs H Q E h=>?_) (fun cdv A outer s H vs Q E hr h=>?_)
 · obtain⟨c,re,A',rfl,_⟩:=h
   rfl
 refine qL fun _ Y=>?_
 obtain⟨c,re,A',rfl,hre,kk⟩:=h
 apply Y
 refine⟨_,(qB (qQp (i:=4) xq.nd rfl (Or.inr rfl) (qK T.D77 (vp T) hr rfl (qA (pv 0) (qA qG qC))))
  (qB (qU 5 xq.nd (qv qZ (jD (qA (jD qC) (qA (jD (qA qG (qA qG qC))) (qA (jD (qA qG (qA qG qC))) (qA (jD (qA qG (qA qG (qA qG qC)))) (qA (jD (qA qG qC)) qC)))))) (qP jA (qP qj (zR F.plainAttrs_list F.slot_list_pop F.type_list_pop zQ (pv 4)) qG) qG) (fun _ _=>rfl)))
  (qB (qU 6 xq.nd (ql (qA (qFm ["_law_reels_here","_law_size","_law_xs"] [1,3,4] rfl (xF rfl T.b_range (qA (pv 2) qC)) (fun _ _ _ _=>(qK T.D80 (qFc T) hr rfl (qA (pv 3) (qA (pv 1) (qA (pv 2) qC)))))) (qA (qGc ["_law_tracks"] [2] rfl (jX (pv 5)) (fun _ _ _ _=>(qJ zo (pv 0) (pv 1) (qN _))) (fun _ _ _ _=>(pv 0))) qC))))
  (qB (qd (qJ qF8 (qP jA (qP qj (zR F.plainAttrs_list F.slot_list_pop F.type_list_pop zQ (pv 4)) qG) qG) qG (qN _)) (qE (qM (qK T.D82 (qGf T) hr rfl (qA (pv 6) (qA (pv 1) (qA (qP qo (qP jA (pv 0) qG) qG) qC)))))) qQ)
  (qE (qM (pv 6))))))),?_⟩
 try dsimp only [je,qg]
 refine⟨_,rfl,c,200,rfl,by decide,by decide,fun xz xs H1 e1 hxz hxs hxl _=>?_⟩
 refine qL fun _ Y=>?_
 obtain⟨y1,x1,rfl,l1⟩:=zl (n:=199) (by rw [hxl];decide)
 apply Y
 refine⟨sL0,fun a0 h0=>⟨sL2,fun a1 h1=>⟨sL2,fun a2 h2=>⟨sL3,fun a3 h3=>⟨sL1,fun a4 h4=>⟨sL5,fun ld hld=>?_⟩⟩⟩⟩⟩⟩
 have w0:=qF h0 (.lst [])
 have w1:=qF h1 (.lst [.int 0,.int 1])
 have w2:=qF h2 (.lst [.int 1,.int 2])
 have w3:=qF h3 (.lst [.int 0,.int 1,.int 2])
 have w4:=qF h4 (.lst [.int 2])
 have w5:=qF hld (.lst [.ref a0,.ref a1,.ref a2,.ref a3,.ref a4])
 have k0:upd H1 a0 (.lst []) a0=some (.lst []):=qD
 generalize upd H1 a0 (.lst [])=G0 at*
 have k1:upd G0 a1 (.lst [.int 0,.int 1]) a1=some (.lst [.int 0,.int 1]):=qD
 generalize upd G0 a1 (.lst [.int 0,.int 1])=G1 at*
 have k2:upd G1 a2 (.lst [.int 1,.int 2]) a2=some (.lst [.int 1,.int 2]):=qD
 generalize upd G1 a2 (.lst [.int 1,.int 2])=G2 at*
 have k3:upd G2 a3 (.lst [.int 0,.int 1,.int 2]) a3=some (.lst [.int 0,.int 1,.int 2]):=qD
 generalize upd G2 a3 (.lst [.int 0,.int 1,.int 2])=G3 at*
 have k4:upd G3 a4 (.lst [.int 2]) a4=some (.lst [.int 2]):=qD
 generalize upd G3 a4 (.lst [.int 2])=G4 at*
 have k5:upd G4 ld (.lst [.ref a0,.ref a1,.ref a2,.ref a3,.ref a4]) ld=some (.lst [.ref a0,.ref a1,.ref a2,.ref a3,.ref a4]):=qD
 have nld:ld≠xz:=(qS ((w0.trans (w1.trans (w2.trans (w3.trans w4)))) _ _ hxs) hld).symm
 generalize upd G4 ld (.lst [.ref a0,.ref a1,.ref a2,.ref a3,.ref a4])=G5 at*
 have hx5:=((w0.trans (w1.trans (w2.trans (w3.trans w4)))).trans w5) _ _ hxs
 refine⟨_,rfl,.inl ⟨rfl,_,SqL.of hx5⟩,qLc hx5 fun H2 s2 hz2 _=>?_⟩
 have f1:=fm (x1.fdiv 3) (show (0:Int) < 5 by decide)
 refine qL fun _ Y=>?_
 obtain⟨v,hv,hmem⟩:=qT4 (xs:=[V.ref a0,.ref a1,.ref a2,.ref a3,.ref a4]) (i:=(x1.fdiv 3).fmod 5) f1.1 (show _ < ((5:Nat):Int) by omega)
 apply Y
 refine⟨_,_,rfl,rfl,cdB (by decide) (by decide),_,_,rfl,rfl,nz,ld,_,_,v,rfl,rfl,SqL.of (s2 _ _ nld k5),hv,?_⟩
 refine qL fun _ Y=>?_
 obtain⟨li,is,rfl,hli,hil,hin⟩:∃ (li:Addr) (is:List Int),v= .ref li∧G5 li=some (.lst (is.map V.int))∧is.length≤3∧∀ x∈is,∃ k:Nat,x=(k:Int)∧k < 3:=by
  simp only [List.mem_cons,List.not_mem_nil,or_false] at hmem
  rcases hmem with rfl | rfl | rfl | rfl | rfl
  · exact⟨a0,[],rfl,(w1.trans (w2.trans (w3.trans (w4.trans w5)))) _ _ k0,by simp,by simp⟩
  · exact⟨a1,[0,1],rfl,(w2.trans (w3.trans (w4.trans w5))) _ _ k1,by simp,fun x hx=>by
     simp only [List.mem_cons,List.not_mem_nil,or_false] at hx
     rcases hx with rfl | rfl
     · exact⟨0,rfl,by decide⟩
     · exact⟨1,rfl,by decide⟩⟩
  · exact⟨a2,[1,2],rfl,(w3.trans (w4.trans w5)) _ _ k2,by simp,fun x hx=>by
     simp only [List.mem_cons,List.not_mem_nil,or_false] at hx
     rcases hx with rfl | rfl
     · exact⟨1,rfl,by decide⟩
     · exact⟨2,rfl,by decide⟩⟩
  · exact⟨a3,[0,1,2],rfl,(w4.trans w5) _ _ k3,by simp,fun x hx=>by
     simp only [List.mem_cons,List.not_mem_nil,or_false] at hx
     rcases hx with rfl | rfl | rfl
     · exact⟨0,rfl,by decide⟩
     · exact⟨1,rfl,by decide⟩
     · exact⟨2,rfl,by decide⟩⟩
  · exact⟨a4,[2],rfl,w5 _ _ k4,by simp,fun x hx=>by
     simp only [List.mem_cons,List.not_mem_nil,or_false] at hx
     subst hx
     exact⟨2,rfl,by decide⟩⟩
 apply Y
 have w15:Same H1 G5:=(w0.trans (w1.trans (w2.trans (w3.trans w4)))).trans w5
 have sH:SB xz H H2:=(zY (e1.trans w15)).trans s2
 have nli:li≠xz∨li=xz:=by by_cases h:li=xz;exact .inr h;exact .inl h
 have nli:li≠xz:=by
  intro e
  rcases (by simpa using hmem:V.ref li= .ref a0∨V.ref li= .ref a1∨V.ref li= .ref a2∨V.ref li= .ref a3∨V.ref li= .ref a4) with h | h | h | h | h
  · cases h;rw [e,hxs] at h0;cases h0
  · cases h;rw [e,w0 _ _ hxs] at h1;cases h1
  · cases h;rw [e,(w0.trans w1) _ _ hxs] at h2;cases h2
  · cases h;rw [e,(w0.trans (w1.trans w2)) _ _ hxs] at h3;cases h3
  · cases h;rw [e,(w0.trans (w1.trans (w2.trans w3))) _ _ hxs] at h4;cases h4
 have hli2:=s2 _ _ nli hli
 have nre:re≠xz:=by
  rcases hre.1 with q | ⟨o,q⟩
  · exact qS q hxz
  · exact qS q hxz
 clear w0 w1 w2 w3 w4 w5 k0 k1 k2 k3 k4 k5 h0 h1 h2 h3 h4 hld hmem hv
 refine⟨_,rfl,3,rfl,by decide,by decide,qEu (n:=3) (fun i acc H3=>∃ (ts:List (List Im)) (xs':List Int),TrsAt H3 ts acc∧ts.length=i∧(∀ ms∈ts,(ms.length≤5∧∀ m∈ms,TI A' m)∧GdT A' ms)∧H3 xz=some (.lst (xs'.map V.int))∧199≤xs'.length+36*i∧(∀ b,V.ref b∈acc→b≠xz)∧SB xz H2 H3) ⟨[],y1,trivial,rfl,by simp,hz2,by omega,by simp,SB.refl _ _⟩ ?_ ?_ ?_⟩
 · rintro i acc H3 hi ⟨ts,xs',hT,hl,_⟩
   exact qf (by rw [hT.len];omega)
 · rintro i acc H3 hi ⟨ts,xs',hT,hl,hI,hz3,hlx,hne,sb⟩
   refine⟨_,rfl,_,rfl,_,rfl,xz,re,xs',A',rfl,hz3,by omega,hre.sb (sH.trans sb) nre,fun y ms xs'' H4 s4 hy hz4 hl4 tT m5 mT mG mL=>?_⟩
   have ny:y≠xz:=fun e=>by rw [e,hz3] at hy;cases hy
   refine Nxt.mk hi ⟨ts++[ms],xs'',qF3 (hT.sb s4 hz3 hne) tT,by simp [hl],fun ms' hm'=>?_,hz4,by omega,fun b hb=>?_,sb.trans s4⟩
   · rcases List.mem_append.mp hm' with h | h
     · exact hI ms' h
     · rw [List.mem_singleton] at h;subst h;exact⟨⟨m5,mT⟩,qRp (hre.2) mT mG mL⟩
   · rcases List.mem_append.mp hb with h | h
     · exact hne b h
     · rw [List.mem_singleton] at h;cases h;exact ny
 rintro acc H3 ⟨ts,xs',hT,hl,hI,hz3,hlx,hne,sb⟩ tl htl
 have w3:=qF htl (.lst acc)
 have kl:upd H3 tl (.lst acc) tl=some (.lst acc):=qD
 have ntl:tl≠xz:=(qS hz3 htl).symm
 generalize upd H3 tl (.lst acc)=H4 at w3 kl
 have hli4:=w3 _ _ (sb _ _ nli hli2)
 refine⟨_,rfl,li,rfl,⟨_,SqL.of hli4⟩,wy (K:=K) (a:=li) (xs:=is.map V.int) (fun j acc H5=>acc=(is.take j).map V.int∧H5=H4) ⟨rfl,rfl⟩ ?_ ?_ ?_⟩
 · rintro j acc H5 hj ⟨rfl,rfl⟩
   refine⟨SqL.of hli4,qf ?_⟩
   rw [List.length_map,List.length_take]
   omega
 · rintro j x acc H5 hj hx ⟨rfl,rfl⟩
   refine qL fun _ Y=>?_
   obtain⟨xi,hxi,rfl⟩:∃ xi:Int,is[j]? =some xi∧x= .int xi:=by
    rw [List.getElem?_map] at hx
    cases hq:is[j]? with
    | none=>rw [hq] at hx;cases hx
    | some k=>rw [hq] at hx;cases hx;exact⟨k,rfl,rfl⟩
   obtain⟨k,rfl,hk⟩:=hin xi (List.mem_of_getElem? hxi)
   apply Y
   refine⟨_,rfl,_,rfl,_,_,rfl,rfl,_,rfl,jf (fun _=>?_) (fun c=>?_)⟩
   · refine⟨_,rfl,Nxt.mk hj ⟨?_,rfl⟩⟩
     rw [List.take_add_one,hxi]
     simp
   · exact absurd (by simp;omega) c
 rintro acc' H5 ⟨rfl,rfl⟩ ti hti
 rw [List.length_map,List.take_length] at*
 have w5:=qF hti (.lst (is.map V.int))
 have ki:upd H5 ti (.lst (is.map V.int)) ti=some (.lst (is.map V.int)):=qD
 have nti:ti≠xz:=(qS (w3 _ _ hz3) hti).symm
 generalize upd H5 ti (.lst (is.map V.int))=H6 at w5 ki
 refine⟨sL2,fun tz htz=>?_⟩
 have w6:=qF htz (.tup [.ref tl,.ref ti])
 have kz:upd H6 tz (.tup [.ref tl,.ref ti]) tz=some (.tup [.ref tl,.ref ti]):=qD
 generalize upd H6 tz (.tup [.ref tl,.ref ti])=H7 at w6 kz
 have w37:=w3.trans (w5.trans w6)
 have hz7:=w37 _ _ hz3
 refine qL fun _ Y=>?_
 obtain⟨y2,x2,rfl,l2⟩:=zl (xs:=xs') (n:=xs'.length - 1) (by omega)
 apply Y
 refine⟨_,rfl,.inl ⟨rfl,_,SqL.of hz7⟩,qLc hz7 fun H8 s8 hz8 _=>?_⟩
 have sb8:SB xz H H8:=((sH.trans sb).trans (zY w37)).trans s8
 have e8:Same H H8:=fun b u hb=>sb8 b u (qS hb hxz) hb
 have hT8:TrsAt H8 ts acc:=(hT.same w37).sb s8 hz7 hne
 have hF:TabF H8 (.ref tz) ts is:=⟨tz,tl,ti,acc,rfl,s8 _ _ (qK5 kz hz7 (by intro q;cases q)) kz,s8 _ _ ntl ((w5.trans w6) _ _ kl),hT8,s8 _ _ nti (w6 _ _ ki)⟩
 have hM:TbG A' ts is:=⟨⟨hl,fun ms hm=>⟨by have:=(hI ms hm).1.1;omega,fun m hm'=>.inl ((hI ms hm).1.2 m hm')⟩,hil,fun x hx=>by rw [hl];exact hin x hx⟩,fun ms hm=>(hI ms hm).2⟩
 refine⟨_,_,rfl,rfl,cdB (by decide) (by decide),_,_,rfl,rfl,nz,_,_,rfl,rfl,_,rfl,jf (fun _=>?_) (fun _=>?_)⟩
 · have f0:=fm c (show (0:Int) < 2147483647 by decide)
   refine⟨_,rfl,_,rfl,_,rfl,_,_,rfl,rfl,nz,_,_,rfl,rfl,tz,re,ts,is,A',_,rfl,hF,hM,(fun ms hm=>(hI ms hm).1),hre.same e8,by omega,by omega,fun t' ts' H9 e9 hT9 hM9=>?_⟩
   exact kk t' ts' is H9 (e8.trans e9) hT9 hM9
 · exact⟨_,rfl,kk tz ts is _ e8 hF hM⟩
inductive qEj (vs:List V)(H:Hp)(Q:VK)(_:XK):Prop
| mk (tz:Addr) (ts:List (List Im)) (tie:List Int) (_:vs=[.ref tz]) (_:TabF H (.ref tz) ts tie) (_:ts.length≤8) (_:∀ (t:Addr) (H':Hp),Same H H'→TabF H' (.ref t) ts tie→Q (.ref t) H')
theorem qEi (T:Tx K mg a):FnOk P w K mg base CX0 1 a.A84 a.B84 ["_law_table_here"] qEj:=by
 refine T.D84.F.ok qEd (fun vs H Q E h=>?_) (fun cdv A outer s H vs Q E hr h=>?_)
 · obtain⟨tz,ts,tie,rfl,_⟩:=h
   rfl
 refine qL fun _ Y=>?_
 obtain⟨tz,ts,tie,rfl,⟨tt,tl,ti,zs,e0,h2,h3,h4,h5⟩,hl,kk⟩:=h
 cases e0
 apply Y
 have hzl:=h4.len
 refine⟨_,(qE (qM (ql (qA (qFm [] [] rfl (jX (qI (pv 0))) (fun _ _ _ _=>(wX (wN (K:=K) rfl) rfl T.b_list rfl (qA (pv 0) qC)))) (qA (wX kr rfl T.b_list rfl (qA (qI (pv 0)) qC)) qC))))),?_⟩
 try dsimp only [je,qg]
 refine(ixO h2 at0 ⟨tl,rfl,⟨_,SqL.of h3⟩,qCf (K:=K) (a:=tl) (xs:=zs) (fun j acc H2=>TrsAt H2 (ts.take j) acc∧Same H H2) ⟨trivial,Same.refl _⟩ ?_ ?_ ?_⟩)
 · rintro j acc H2 hj ⟨ht,e2⟩
   exact⟨SqL.of (e2 _ _ h3),qf (by rw [ht.len,List.length_take];omega)⟩
 · rintro j x acc H2 hj hx ⟨ht,e2⟩
   refine qL fun _ Y=>?_
   obtain⟨ms1,z,hms,rfl,us,hz,his⟩:=h4.get hx
   apply Y
   refine⟨_,rfl,z,us,rfl,.inl (SqL.of (e2 _ _ hz)),fun l hl'=>Nxt.mk hj ⟨?_,e2.trans (qF hl' _)⟩⟩
   have w3:=qF hl' (.lst us)
   have etk:ts.take (j+1)=ts.take j++[ms1]:=by rw [List.take_add_one,hms];rfl
   rw [etk]
   exact qF3 (ht.same w3) ⟨us,qD,his.ts (qc (e2.trans w3))⟩
 rintro acc H2 ⟨ht,e2⟩ d hd
 rw [hzl,List.take_length] at ht
 have w3:=qF hd (.lst acc)
 have e3:=e2.trans w3
 refine(ixO (e3 _ _ h2) at1 ⟨ti,_,rfl,.inl (SqL.of (e3 _ _ h5)),fun l hl'=>⟨sL2,fun t ht'=>?_⟩⟩)
 have w5:=qF hl' (.lst (tie.map V.int))
 have w6:=qF ht' (.tup [.ref d,.ref l])
 exact kk t _ ((e3.trans w5).trans w6) ⟨t,d,l,acc,rfl,qD,(w5.trans w6) _ _ qD,ht.same ((w3.trans w5).trans w6),w6 _ _ qD⟩
theorem eqA_tabS {neg:Bool}{H:Hp}{t:Addr}{ts:List (List Im)}{tie:List Int}{y:Str}{Q:VK}(h:TabF H (.ref t) ts tie)(q:Q (.bl neg) H):qQm K neg (.ref t) (.str y) H Q:=by
 refine⟨tabD ts tie,.leaf (.str y),h.rep,⟨rfl,rfl⟩,by have:=(qFp ts tie).2;omega,?_⟩
 have e:eqD (tabD ts tie) (.leaf (.str y))=false:=by unfold tabD eqD;rfl
 rw [e]
 cases neg <;> exact q
theorem qM1 {neg:Bool}{H:Hp}{x y:Addr}{ts:List (List Im)}{tie:List Int}{Q:VK}(h1:TabF H (.ref x) ts tie)(h2:TabF H (.ref y) ts tie)(q:Q (.bl (!neg)) H):qQm K neg (.ref x) (.ref y) H Q:=by
 refine⟨tabD ts tie,tabD ts tie,h1.rep,h2.rep,by have:=(qFp ts tie).2;omega,?_⟩
 rw [(qFp ts tie).1]
 cases neg <;> exact q
def IsTLs (K:W.Frag)(H:Hp):List (List Te)→List V→Prop
 | [],[]=>True
 | ts::tss,v::vs=>(∃ y,v= .ref y∧TL K H y ts)∧IsTLs K H tss vs
 | _,_=>False
theorem IsTLs.same {H H':Hp}(e:Same H H'):∀ {tss:List (List Te)} {vs:List V},IsTLs K H tss vs→IsTLs K H' tss vs
 | [],[],_=>trivial
 | _::_,_::_,⟨⟨y,h1,h2⟩,r⟩=>⟨⟨y,h1,h2.same e⟩,r.same e⟩
 | [],_::_,h=>h.elim
 | _::_,[],h=>h.elim
theorem IsTLs.len {H:Hp}:∀ {tss:List (List Te)} {vs:List V},IsTLs K H tss vs→vs.length=tss.length
 | [],[],_=>rfl
 | _::_,_::_,h=>by rw [List.length_cons,List.length_cons,h.2.len]
 | [],_::_,h=>h.elim
 | _::_,[],h=>h.elim
theorem IsTLs.app {H:Hp}:∀ {tss:List (List Te)} {vs:List V} {tss':List (List Te)} {vs':List V},IsTLs K H tss vs→IsTLs K H tss' vs'→IsTLs K H (tss++tss') (vs++vs')
 | [],[],_,_,_,h=>h
 | _::_,_::_,_,_,h,h'=>⟨h.1,h.2.app h'⟩
 | [],_::_,_,_,h,_=>h.elim
 | _::_,[],_,_,h,_=>h.elim
theorem IsTLs.one {H:Hp}{ts:List Te}{y:Addr}(h:TL K H y ts):IsTLs K H [ts] [.ref y]:=⟨⟨y,rfl,h⟩,trivial⟩
theorem IsTLs.rep {H:Hp}:∀ {tss:List (List Te)} {vs:List V},IsTLs K H tss vs→Reps K H (tss.map fun ts=>.lst (ts.map Te.d)) vs
 | [],[],_=>by unfold Reps;trivial
 | _::_,_::_,⟨⟨y,h1,h2⟩,r⟩=>by
  rw [List.map_cons]
  unfold Reps
  subst h1
  exact⟨h2.rep,r.rep⟩
 | [],_::_,h=>h.elim
 | _::_,[],h=>h.elim
def TLL (K:W.Frag)(H:Hp)(z:Addr)(tss:List (List Te)):Prop:=∃ vs,H z=some (.lst vs)∧IsTLs K H tss vs
theorem TLL.same {H H':Hp}(e:Same H H'){z:Addr}{tss:List (List Te)}(h:TLL K H z tss):TLL K H' z tss:=let ⟨vs,h1,h2⟩:=h;⟨vs,e _ _ h1,h2.same e⟩
theorem TLL.rep {H:Hp}{z:Addr}{tss:List (List Te)}(h:TLL K H z tss):Rep K H (.lst (tss.map fun ts=>.lst (ts.map Te.d))) (.ref z):=by
 obtain⟨vs,h1,h2⟩:=h
 unfold Rep
 exact⟨z,vs,rfl,SqL.of h1,h2.rep⟩
theorem qKk:∀ tss:List (List Te),zj (tss.map fun ts=>.lst (ts.map Te.d)) (tss.map fun ts=>.lst (ts.map Te.d))=true
 | []=>by simp [zj]
 | ts::tss=>by
  rw [List.map_cons]
  unfold zj eqD
  rw [qAk,qKk tss]
  rfl
theorem qOd:∀ ts:List Te,ke (ts.map Te.d)≤2
 | []=>by simp [ke]
 | t::ts=>by
  have:=qOd ts
  rw [List.map_cons]
  unfold ke
  have:dep t.d≤2:=by simp [Te.d,dep,ke]
  omega
theorem qMf:∀ tss:List (List Te),ke (tss.map fun ts=>.lst (ts.map Te.d))≤3
 | []=>by simp [ke]
 | ts::tss=>by
  have:=qMf tss
  have:=qOd ts
  rw [List.map_cons]
  unfold ke dep
  omega
theorem qSm {neg:Bool}{H:Hp}{x y:Addr}{X:List (List Te)}{Q:VK}(h1:TLL K H x X)(h2:TLL K H y X)(q:Q (.bl (!neg)) H):qQm K neg (.ref x) (.ref y) H Q:=by
 refine⟨_,_,h1.rep,h2.rep,by unfold dep;have:=qMf X;omega,?_⟩
 have e:eqD (.lst (X.map fun ts=>.lst (ts.map Te.d))) (.lst (X.map fun ts=>.lst (ts.map Te.d)))=true:=by unfold eqD;exact qKk X
 rw [e]
 cases neg <;> exact q
theorem qK8 (T:Tx K mg a):FnOk P w K mg base CX0 10 a.A74 a.B74 ["track","moment","room"] (vc K 1):=(qMh T 1).2
theorem qRe {t:Int}(h:t≤100000):t+((1:Nat):Int)*2 ^ 61+2 ^ 60 < 2 ^ 400:=by
 have e:(100000:Int)+1*2 ^ 61+2 ^ 60 < 2 ^ 400:=by decide
 generalize (2:Int) ^ 400=B at e ⊢
 omega
inductive qH8 (K:W.Frag)(vs:List V)(H:Hp)(Q:VK)(_:XK):Prop
| mk (z rz:Addr) (ms:List Im) (n:Int) (rm:Rms) (_:vs=[.ref z,.ref rz,.int n]) (_:Tr H z ms) (_:LvT rm 1 ms) (_:RoomAt H rz rm) (_:0≤n) (_:n≤900) (_:∀ (y:Addr) (H':Hp),Same H H'→TLL K H' y (wq (xI rm 1) ms n.toNat)→Q (.ref y) H')
theorem qLb (f:Str→Int→List Te)(ms:List Im)(i:Nat):wq f ms (i+1)=wq f ms i++[qJm f ms (i:Int)]:=by
 unfold wq
 rw [List.range_succ,List.map_append]
 rfl
theorem qMs (f:Str→Int→List Te)(ms:List Im)(n:Nat):(wq f ms n).length=n:=by unfold wq;simp
theorem zL (T:Tx K mg a):FnOk P w K mg base CX0 11 a.A85 a.B85 ["_law_track_here","_law_room","_law_last"] (qH8 K):=by
 refine T.D85.F.ok qHw (fun vs H Q E h=>?_) (fun cdv A outer s H vs Q E hr h=>?_)
 · obtain⟨z,rz,ms,n,rm,rfl,_⟩:=h
   rfl
 refine qL fun _ Y=>?_
 obtain⟨z,rz,ms,n,rm,rfl,tT,hL,hR,n0,n1,kk⟩:=h
 apply Y
 refine⟨_,(qE (qM (qFm ["_law_track_here","_law_room"] [0,1] rfl (xF rfl T.b_range (qA (pv 2) qC)) (fun _ _ _ _=>(qK T.D74 (qK8 T) hr rfl (qA (pv 1) (qA (pv 0) (qA (pv 2) qC)))))))),?_⟩
 try dsimp only [je,qg]
 refine⟨_,rfl,n,rfl,by omega,by omega,qEu (n:=n.toNat) (fun i acc H2=>IsTLs K H2 (wq (xI rm 1) ms i) acc∧Same H H2) ⟨trivial,Same.refl _⟩ ?_ ?_ ?_⟩
 · rintro i acc H2 hi ⟨h,_⟩
   exact qf (by rw [h.len,qMs];omega)
 · rintro i acc H2 hi ⟨h,e⟩
   refine⟨_,rfl,_,rfl,_,rfl,z,rz,ms,_,rm,rfl,tT.same e,hL,fun _=>hR.same e,by omega,qRe (by omega),fun y H3 e3 hy tY=>Nxt.mk hi ⟨?_,e.trans e3⟩⟩
   rw [qTg,Int.zero_add] at tY
   rw [qLb]
   exact(h.same e3).app (.one tY)
 · rintro acc H2 ⟨h,e⟩ d hd
   have w:=qF hd (.lst acc)
   exact kk d _ (e.trans w) ⟨acc,qD,h.same w⟩
theorem qPc:∀ (zs:List Im),(∀ z∈zs,z.mo≤10)→(zs.map Im.mo).sum≤10*(zs.length:Int):=fun zs=>by
 induction zs with
 | nil=>intro _;simp
 | cons z zs ih=>intro h;have:=ih fun y hy=>h y (by simp [hy]);have:=h z (by simp);rw [List.map_cons,List.sum_cons,List.length_cons];omega
def rmL (m:Im):Rms:=fun nm=>if nm="low" then some [[m]] else none
theorem MO.ok {ms:List Im}(h:MO none ms):qPd ms:=by
 intro i l hi
 have hlt:=(glt hi)
 have e:ms=ms.take i++ .mix l::ms.drop (i+1):=by rw [← jW hi,List.take_append_drop]
 rw [e] at h
 obtain⟨⟨h1,h2⟩,_⟩:=qEn h
 have h1':1≤i∧qPm ms[i - 1]?:=by
  cases i with
  | zero=>obtain⟨_,_,_,_,_,_,e⟩:=h1;cases e
  | succ i=>
   have e:(ms.take (i+1)).getLast?=ms[i]?:=by
    rw [List.getLast?_eq_getElem?,List.length_take,Nat.min_eq_left (by omega)]
    exact List.getElem?_take_of_lt (by omega)
   rw [e,Option.or_none] at h1
   exact⟨by omega,h1⟩
 rw [List.head?_drop] at h2
 exact⟨h1'.1,h1'.2,h2⟩
def GI (m:Im):Prop:=m.g∧∀ nm b l,m= .nest nm b l→nm="low"
theorem GI.gap {w:Int}(h:0 < w):GI (.gap w):=⟨by show 1≤w;omega,fun _ _ _ e=>by cases e⟩
theorem qOm {i:Int}(h:i.natAbs < 2 ^ 110):i.natAbs < 2 ^ 400:=Nat.lt_of_lt_of_le h (Nat.pow_le_pow_right (by decide) (by decide))
theorem qWj {p q r s k:Int}(g1:qJc 110 p q)(g2:qJc 110 r s)(hk:k.natAbs≤1000):(plP p q r s k).natAbs < 2 ^ 400∧(plQ p q r s k).natAbs < 2 ^ 400:=by
 obtain⟨q0,_,bp,bq⟩:=g1
 obtain⟨s0,_,br,bs⟩:=g2
 have h1:=qJh (p:=p) (r:=r) (k:=k) q0 s0
 have h2:=qIk (p:=p) (r:=r) (k:=k) q0 s0
 have m1:(p*s).natAbs≤2 ^ 110*2 ^ 110:=by rw [Int.natAbs_mul];exact Nat.mul_le_mul (Nat.le_of_lt bp) (Nat.le_of_lt bs)
 have m2:(k*r*q).natAbs≤1000*2 ^ 110*2 ^ 110:=by rw [Int.natAbs_mul,Int.natAbs_mul];exact Nat.mul_le_mul (Nat.mul_le_mul hk (Nat.le_of_lt br)) (Nat.le_of_lt bq)
 have m3:(q*s).natAbs≤2 ^ 110*2 ^ 110:=by rw [Int.natAbs_mul];exact Nat.mul_le_mul (Nat.le_of_lt bq) (Nat.le_of_lt bs)
 have t:=Int.natAbs_add_le (p*s) (k*r*q)
 have e1:2 ^ 110*2 ^ 110+1000*2 ^ 110*2 ^ 110 < 2 ^ 400:=by decide
 have e2:2 ^ 110*2 ^ 110 < 2 ^ 400:=by decide
 exact⟨Nat.lt_of_le_of_lt (Nat.le_trans h1 (Nat.le_trans t (Nat.add_le_add m1 m2))) e1,Nat.lt_of_le_of_lt (Nat.le_trans h2 m3) e2⟩
theorem qT8 {l:Int}(h:l≤1000000):l < 2 ^ 400:=by
 have e:(1000000:Int) < 2 ^ 400:=by decide
 generalize (2:Int) ^ 400=B at e ⊢
 omega
theorem CF.gi {A:Int}{m:Im}(h:CF A m)(hA:60≤A∧A < 360):GI m∧∀ x y,0≤x→x < y→y≤m.mo→GI (qm m x y):=by
 obtain⟨hit,_⟩:=h.it hA.1 hA.2
 obtain⟨nm,N,lo,rs,to,bo,len,hn,n0,n1,t0,t1,b0,b1,l0,l1,r0,r1,rfl⟩:=h
 obtain⟨N',hc⟩:=hit _ _ _ _ _ _ rfl
 refine⟨⟨⟨hc.g1.1,hc.g2.1,qOm hc.g1.2.2.1,qOm hc.g1.2.2.2,qOm hc.g2.2.2.1,qOm hc.g2.2.2.2,n0,qT8 (by omega)⟩,fun _ _ _ e=>by cases e⟩,fun x y hx hxy hy=>?_⟩
 have hy:y≤len:=hy
 obtain⟨z1,z2⟩:=qWj hc.g1 hc.g2 (k:=x) (by omega)
 exact⟨⟨qEl hc.g1.1 hc.g2.1,hc.g2.1,z1,z2,qOm hc.g2.2.2.1,qOm hc.g2.2.2.2,by omega,qT8 (by omega)⟩,fun _ _ _ e=>by cases e⟩
theorem qTb {A:Int}{m:Im}(h:CF A m)(hA:60≤A∧A < 360):Lv (rmL m) 1 "low":=by
 refine⟨[[m]],by unfold rmL;rw [if_pos rfl],(by show 1≤300;decide),fun ms hms=>?_⟩
 rw [List.mem_singleton] at hms
 subst hms
 refine⟨(by show 1≤300;decide),MO.ok (qPj (fun x hx=>?_) none),fun x hx=>?_⟩
 · rw [List.mem_singleton] at hx;subst hx;exact TI.nm (.inr (.inr h))
 · rw [List.mem_singleton] at hx;subst hx
   refine⟨(h.gi hA).1.1,fun nm b l e=>?_⟩
   obtain⟨_,_,_,_,_,_,_,_,_,_,_,_,_,_,_,_,_,_,e2⟩:=h
   rw [e] at e2;cases e2
theorem lvT {A:Int}{m:Im}(h:CF A m)(hA:60≤A∧A < 360){ms:List Im}(hl:ms.length≤300)(hM:MO none ms)(hg:∀ x∈ms,GI x):LvT (rmL m) 1 ms:=by
 refine⟨hl,hM.ok,fun x hx=>⟨(hg x hx).1,fun nm b l e=>?_⟩⟩
 rw [(hg x hx).2 nm b l e]
 exact qTb h hA
theorem qPh {lo rs to bo len:Int}(l0:0≤lo)(l1:lo≤1000000000)(r0:0≤rs)(r1:rs < 7)(t0:-6≤to)(t1:to≤6)(b0:1≤bo)(b1:bo≤5)(n0:1≤len)(n1:len≤10):(stF lo rs to bo len).natAbs < 2 ^ 40:=by
 have h1:=qCt (x:=lo*7) (y:=bo) (X:=7000000000) (Y:=5) ⟨by omega,by omega⟩ ⟨by omega,by omega⟩ (by decide) (by decide)
 have h2:=qCt (x:=rs) (y:=bo) (X:=7) (Y:=5) ⟨by omega,by omega⟩ ⟨by omega,by omega⟩ (by decide) (by decide)
 have h3:=qCt (x:=7*(len - 1)) (y:=to) (X:=63) (Y:=6) ⟨by omega,by omega⟩ ⟨by omega,by omega⟩ (by decide) (by decide)
 unfold stF
 split <;> omega
def PC (A:Int)(m:Im):Prop:=∃ (n:Str) (p q r s L x y N:Int),qJc 40 p q∧qJc 40 r s∧rlE A n=some N∧N.natAbs≤1000000000∧0≤x∧x < y∧y≤L∧L≤10∧m= .clip n (plP p q r s x) (plQ p q r s x) r s (y - x)
theorem CF.pc {A:Int}{m:Im}(h:CF A m)(hA:60≤A∧A < 360):PC A m:=by
 obtain⟨nm,N,lo,rs,to,bo,len,hn,n0,n1,t0,t1,b0,b1,l0,l1,r0,r1,rfl⟩:=h
 have hf:0≤((len - 1)*qDv to).fdiv bo:=by
  have:=q9 (p:=(len - 1)*qDv to) (q:=bo) (by omega)
  have h0:0≤(len - 1)*qDv to:=Int.mul_nonneg (by omega) (by unfold qDv;split <;> omega)
  have:¬ (((len - 1)*qDv to).fdiv bo+1≤0):=fun q=>by
   have:=Int.mul_le_mul_of_nonneg_right (c:=bo) q (by omega)
   omega
  omega
 have lo1:lo≤1000000000:=by rcases hn with ⟨_,rfl⟩ | ⟨_,rfl⟩ <;> omega
 have hs:=qPh l0 lo1 r0 r1 t0 t1 b0 b1 n0 n1
 have g1:qJc 40 (ji (stF lo rs to bo len) (7*bo)) (jY (stF lo rs to bo len) (7*bo)):=qBy (by omega) hs (by omega)
 have g2:qJc 40 (ji to bo) (jY to bo):=qBy (by omega) (by omega) (by omega)
 have hr:rlE A nm=some N:=by
  unfold rlE
  rcases hn with ⟨rfl,rfl⟩ | ⟨rfl,rfl⟩
  · rw [if_pos rfl]
  · rw [if_neg (by decide+kernel),if_pos rfl]
 obtain⟨z1,z2⟩:=qC8 (r:=ji to bo) (s:=jY to bo) g1.1 g2.1 g1.2.1
 refine⟨nm,_,_,_,_,len,0,len,N,g1,g2,hr,by rcases hn with ⟨_,rfl⟩ | ⟨_,rfl⟩ <;> omega,by omega,by omega,by omega,n1,?_⟩
 rw [z1,z2,Int.sub_zero]
def PT (A:Int)(m:Im):Prop:=(∃ l,m= .gap l∧1≤l∧l≤10)∨(∃ b l,m= .nest "low" b l∧0≤b∧b≤1000∧1≤l∧l≤10∧b+l≤20)∨PC A m∨∃ l,m= .mix l∧1≤l∧l≤5
theorem TM.pt {A:Int}{m:Im}(h:TM A m)(hA:60≤A∧A < 360):PT A m:=by
 rcases h with (⟨l,rfl,h1,h2⟩ | ⟨b,l,rfl,b0,b1,h1,h2⟩ | h) | ⟨l,rfl,h1,h2⟩
 · exact .inl ⟨l,rfl,h1,h2⟩
 · exact .inr (.inl ⟨b,l,rfl,b0,by omega,h1,h2,by omega⟩)
 · exact .inr (.inr (.inl (h.pc hA)))
 · exact .inr (.inr (.inr ⟨l,rfl,h1,h2⟩))
theorem PT.part {A:Int}{m:Im}(h:PT A m)(hm:m.wd≠"mix"){x y:Int}(h0:0≤x)(h1:x < y)(h2:y≤m.mo):PT A (qm m x y):=by
 rcases h with ⟨l,rfl,g1,g2⟩ | ⟨b,l,rfl,b0,b1,g1,g2,g3⟩ | ⟨n,p,q,r,s,L,u,v,N,a1,a2,a3,a4,a5,a6,a7,a8,rfl⟩ | ⟨l,rfl,_⟩
 · have h2:y≤l:=h2
   exact .inl ⟨y - x,rfl,by omega,by omega⟩
 · have h2:y≤l:=h2
   exact .inr (.inl ⟨b+x,y - x,rfl,by omega,by omega,by omega,by omega,by omega⟩)
 · have h2:y≤v - u:=h2
   refine .inr (.inr (.inl ⟨n,p,q,r,s,L,u+x,u+y,N,a1,a2,a3,a4,by omega,by omega,by omega,a8,?_⟩))
   show Im.clip n (plP (plP p q r s u) (plQ p q r s u) r s x) (plQ (plP p q r s u) (plQ p q r s u) r s x) r s (y - x)=_
   obtain⟨e1,e2⟩:=qNd (p:=p) (r:=r) (lo:=u) (k:=x) a1.1 a2.1
   rw [e1,e2]
   congr 1
   omega
 · exact absurd rfl hm
theorem PC.rc {A:Int}{m:Im}(h:PC A m):∃ n p q r s l N,m= .clip n p q r s l∧Rc n p q r s l (rlE A) N∧l≤10:=by
 obtain⟨n,p,q,r,s,L,u,v,N,a1,a2,a3,a4,a5,a6,a7,a8,rfl⟩:=h
 have h1:=qJh (p:=p) (r:=r) (k:=u) a1.1 a2.1
 have h2:=qIk (p:=p) (r:=r) (k:=u) a1.1 a2.1
 obtain⟨q0,_,bp,bq⟩:=id a1
 obtain⟨s0,_,br,bs⟩:=id a2
 have m1:(p*s).natAbs≤2 ^ 40*2 ^ 40:=by rw [Int.natAbs_mul];exact Nat.mul_le_mul (Nat.le_of_lt bp) (Nat.le_of_lt bs)
 have m2:(u*r*q).natAbs≤10*2 ^ 40*2 ^ 40:=by rw [Int.natAbs_mul,Int.natAbs_mul];exact Nat.mul_le_mul (Nat.mul_le_mul (by omega) (Nat.le_of_lt br)) (Nat.le_of_lt bq)
 have m3:(q*s).natAbs≤2 ^ 40*2 ^ 40:=by rw [Int.natAbs_mul];exact Nat.mul_le_mul (Nat.le_of_lt bq) (Nat.le_of_lt bs)
 have t:=Int.natAbs_add_le (p*s) (u*r*q)
 have e1:2 ^ 40*2 ^ 40+10*2 ^ 40*2 ^ 40 < 2 ^ 110:=by decide
 have e2:2 ^ 40*2 ^ 40 < 2 ^ 110:=by decide
 have e4:2 ^ 40 < 2 ^ 110:=by decide
 refine⟨n,_,_,r,s,v - u,N,rfl,⟨⟨qEl a1.1 a2.1,qQn a1.1 a2.1,Nat.lt_of_le_of_lt (Nat.le_trans h1 (Nat.le_trans t (Nat.add_le_add m1 m2))) e1,Nat.lt_of_le_of_lt (Nat.le_trans h2 m3) e2⟩,⟨s0,a2.2.1,Nat.lt_trans br e4,Nat.lt_trans bs e4⟩,Nat.lt_of_le_of_lt (show (v - u).natAbs≤10 by omega) (by decide),by omega,a3,Nat.lt_of_le_of_lt a4 (by decide)⟩,by omega⟩
structure ItG (A:Int)(m:Im):Prop where
 it:ItR (rlE A) m
 ib:ImB m
 ih:ImH m
 wf:Wf m
 gi:GI m
 mo:m.mo≤10
theorem PT.g {A:Int}{m:Im}(h:PT A m):ItG A m:=by
 rcases h with ⟨l,rfl,g1,g2⟩ | ⟨b,l,rfl,b0,b1,g1,g2,g3⟩ | h | ⟨l,rfl,g1,g2⟩
 · exact⟨(fun _ _ _ _ _ _ e=>by cases e),trivial,trivial,g1,⟨g1,fun _ _ _ e=>by cases e⟩,g2⟩
 · exact⟨(fun _ _ _ _ _ _ e=>by cases e),trivial,trivial,g1,⟨⟨b0,by omega,g1⟩,fun _ _ _ e=>by cases e;rfl⟩,g2⟩
 · obtain⟨n,p,q,r,s,l,N,rfl,c,l10⟩:=h.rc
   have hb:=c.bn
   exact⟨(fun _ _ _ _ _ _ e=>by cases e;exact⟨N,c⟩),hb.mono (m:=700),⟨hb.mono (m:=700),Nat.lt_trans c.bl (by decide)⟩,⟨c.g1.1,c.g2.1,c.g1.2.1,c.l1⟩,⟨⟨c.g1.1,c.g2.1,qOm c.g1.2.2.1,qOm c.g1.2.2.2,qOm c.g2.2.2.1,qOm c.g2.2.2.2,c.l1,qT8 (by omega)⟩,fun _ _ _ e=>by cases e⟩,l10⟩
 · exact⟨(fun _ _ _ _ _ _ e=>by cases e),trivial,trivial,g1,⟨⟨g1,by omega⟩,fun _ _ _ e=>by cases e⟩,by show (0:Int)≤10;decide⟩
theorem vT:∀ (xs:List Im) (b:Int) (i0:Nat) (m:Im) (ys:List Im) (d:Int),Nn xs→0≤d→d < m.mo→jn b i0 (xs++m::ys) (b+qp xs+d)=some (i0+xs.length,d)
 | [],b,i0,m,ys,d,_,h0,hd=>by
  rw [List.nil_append,jn,jF,if_pos (by omega)]
  have e:b+0+d - b=d:=by omega
  rw [e];rfl
 | x::xs,b,i0,m,ys,d,hx,h0,hd=>by
  have hx0:=hx x (by simp)
  have hs:=Nn.len hx.tail
  have ih:=vT xs (b+x.mo) (i0+1) m ys d hx.tail h0 hd
  rw [List.cons_append,jn,qW,if_neg (by omega)]
  have e:b+(x.mo+qp xs)+d=b+x.mo+qp xs+d:=by omega
  rw [e,ih,List.length_cons]
  congr 2
  omega
theorem qAa:∀ {ms:List Im} {b:Int} {i0 i:Nat} {t d:Int},jn b i0 ms t=some (i,d)→∃ A m B,ms=A++m::B∧i=i0+A.length∧t=b+qp A+d∧0≤d∧d < m.mo
 | [],_,_,_,_,_,h=>by simp [jn] at h
 | m::ms,b,i0,i,t,d,h=>by
  rw [jn] at h
  by_cases hc:b≤t∧t < b+m.mo
  · rw [if_pos hc] at h
    cases h
    exact⟨[],m,ms,rfl,rfl,by rw [jF];omega,by omega,by omega⟩
  · rw [if_neg hc] at h
    obtain⟨A,x,B,h1,h2,h3,h4,h5⟩:=qAa h
    exact⟨m::A,x,B,by rw [h1];rfl,by rw [List.length_cons];omega,by rw [qW];omega,h4,h5⟩
theorem zK {α:Type}(A:List α)(m:α)(B:List α):(A++m::B)[A.length]? =some m:=by
 rw [List.getElem?_append_right (Nat.le_refl _),Nat.sub_self];rfl
structure Wi (ms:List Im)(t:Int)(A:List Im)(m:Im)(B:List Im)(d:Int):Prop where
 eq:ms=A++m::B
 t:t=qp A+d
 d0:0 < d
 d1:d < m.mo
 k:m.wd="clip"∨m.wd="nest"
theorem zt {ms:List Im}{t:Int}(hw:Nn ms):j7 ms t=true↔∃ A m B d,Wi ms t A m B d:=by
 constructor
 · intro h
   unfold j7 at h
   cases hi:jn 0 0 ms t with
   | none=>rw [hi] at h;cases h
   | some r=>
    obtain⟨i,d⟩:=r
    rw [hi] at h
    dsimp only at h
    obtain⟨A,m,B,h1,h2,h3,h4,h5⟩:=qAa hi
    rw [Nat.zero_add] at h2
    have hk:jh ms (i:Int)=m.wd:=j3 (by rw [h1,h2];exact zK A m B) rfl
    rw [hk] at h
    simp only [Bool.and_eq_true,Bool.or_eq_true,decide_eq_true_eq] at h
    exact⟨A,m,B,d,h1,by omega,by omega,h5,h.2⟩
 · rintro ⟨A,m,B,d,hW⟩
   have hA:Nn A:=fun x hx=>hw x (by rw [hW.eq];simp [hx])
   have hi:=vT A 0 0 m B d hA (by have:=hW.d0;omega) hW.d1
   rw [← hW.eq,Int.zero_add,← hW.t,Nat.zero_add] at hi
   unfold j7
   rw [hi]
   dsimp only
   have hk:jh ms (A.length:Int)=m.wd:=j3 (by rw [hW.eq];exact zK A m B) rfl
   rw [hk]
   have:=hW.d0
   rcases hW.k with h | h
   · rw [h];simp;omega
   · rw [h];simp;omega
theorem Wi.nm {ms:List Im}{t:Int}{A:List Im}{m:Im}{B:List Im}{d:Int}(h:Wi ms t A m B d):m.wd≠"mix"∧m.wd≠"gap":=by
 rcases h.k with e | e <;> rw [e] <;> exact⟨by decide+kernel,by decide+kernel⟩
theorem qMg {m:Im}{B:List Im}{d:Int}(d0:0 < d)(d1:d < m.mo):∀ {A:List Im},Nn A→xX (qp A+d) (A++m::B)=(A++[qm m 0 d],qm m d m.mo::B)
 | [],_=>by
  rw [jF,Int.zero_add,List.nil_append,xX,if_neg (by omega),if_pos d0]
  rfl
 | x::A,h=>by
  have:=Nn.len h.tail
  have ih:=qMg (B:=B) d0 d1 (A:=A) h.tail
  rw [List.cons_append,xX,qW,if_pos (by omega),show x.mo+qp A+d - x.mo=qp A+d by omega,ih]
  rfl
theorem qDa {Y:List Im}:∀ (X:List Im) (w:Int),xv w (X++ .gap 0::Y)=xv w (X++Y)
 | [],w=>by rw [List.nil_append,xv,Int.add_zero];rfl
 | x::X,w=>by
  by_cases hg:x.wd="gap"
  · obtain⟨l,rfl⟩:=qBm hg
    rw [List.cons_append,List.cons_append,xv,xv,qDa X]
  · rw [List.cons_append,List.cons_append,jC hg,jC hg,qDa X]
theorem qFg {m x y:Im}{B:List Im}(hm:m.wd≠"gap")(hx:x.wd≠"gap")(hy:y.wd≠"gap"):∀ {A:List Im} {g:Bool},OS g (A++m::B)→OS g (A++x::y::B)
 | [],g,h=>by
  rw [List.nil_append,jb hm] at h
  rw [List.nil_append,jb hx,jb hy]
  exact h
 | a::A,g,h=>by
  by_cases hg:a.wd="gap"
  · obtain⟨l,rfl⟩:=qBm hg
    exact⟨h.1,h.2.1,qFg hm hx hy h.2.2⟩
  · rw [List.cons_append,jb hg] at h
    rw [List.cons_append,jb hg]
    exact qFg hm hx hy h
def vh (A:List Im)(m:Im)(B:List Im)(d:Int):List Im:=A++qm m 0 d::qm m d m.mo::B
theorem qRt {ms:List Im}{t:Int}{A:List Im}{m:Im}{B:List Im}{d:Int}(h:Rel ms t t [])(hW:Wi ms t A m B d)(hO:OS false ms):qEw ms t t []=vh A m B d:=by
 have hA:Nn A:=fun x hx=>(h.wf x (by rw [hW.eq];simp [hx])).mo
 have hB:Nn B:=fun x hx=>(h.wf x (by rw [hW.eq];simp [hx])).mo
 have hl:t - qp ms≤0:=by
  have:=Nn.len hB
  have:=hW.d1
  have:=hW.t
  rw [hW.eq,jc,qW]
  omega
 have em:vY (t - qp ms) 0=0:=by unfold vY;split <;> omega
 have ec:=qMg (B:=B) hW.d0 hW.d1 hA
 rw [← hW.eq,← hW.t] at ec
 rw [h.eq,em,ec]
 obtain⟨n1,n2⟩:=hW.nm
 have e:A++[qm m 0 d]++[Im.gap 0]++[]++qm m d m.mo::B=(A++[qm m 0 d])++ .gap 0::qm m d m.mo::B:=by simp
 show xv 0 (A++[qm m 0 d]++[Im.gap 0]++[]++qm m d m.mo::B)=_
 rw [e,qDa]
 have e2:(A++[qm m 0 d])++qm m d m.mo::B=vh A m B d:=by unfold vh;simp
 rw [e2]
 rw [hW.eq] at hO
 refine OS.one.1 (qFg n2 ?_ ?_ hO) <;> rw [qPa n1] <;> exact n2
theorem qLn (f:Str→Int→List Te){A:List Im}{m:Im}{B:List Im}{d:Int}(hm:m.wd≠"mix")(hw:Wf m)(d0:0 < d)(d1:d < m.mo)(t:Int):qJm f (vh A m B d) t=qJm f (A++m::B) t:=by
 unfold qJm vh
 rw [qAx hm hw,qE2 f hm hw d0 d1]
theorem qEy (f:Str→Int→List Te){A:List Im}{m:Im}{B:List Im}{d:Int}(hm:m.wd≠"mix")(hw:Wf m)(d0:0 < d)(d1:d < m.mo)(n:Nat):wq f (vh A m B d) n=wq f (A++m::B) n:=by
 unfold wq
 exact List.map_congr_left fun k _=>qLn f hm hw d0 d1 _
theorem qL6 {A:List Im}{m:Im}{B:List Im}{d:Int}(hm:m.wd≠"mix")(b:Int):qk b (vh A m B d)=qk b (A++m::B):=by
 unfold vh
 rw [jv,jv,qY (jP m 0 d),qY (jP m d m.mo),qY hm,jS,jS]
 congr 2
 omega
theorem qLv {A:List Im}{m:Im}{B:List Im}{d:Int}:qp (vh A m B d)=qp (A++m::B):=by
 unfold vh
 rw [jc,jc,qW,qW,qW,jS,jS]
 omega
theorem qB2 (B:List Im):∀ (A:List Im) (b:Int),qh b (A++B)=qh b A++qh (b+qp A) B
 | [],b=>by rw [List.nil_append,jF,Int.add_zero];rfl
 | a::A,b=>by
  by_cases hm:a.wd="mix"
  · obtain⟨l,rfl⟩:=qz hm
    rw [List.cons_append,qh,qh,qB2 B A,qW]
    show _=_++qh (b+(0+qp A)) B
    rw [Int.zero_add]
  · rw [List.cons_append,jR hm,jR hm,qB2 B A,qW,qL7 hm,List.cons_append,Int.add_assoc]
theorem qE0 {A:List Im}{m:Im}{B:List Im}{d:Int}(hm:m.wd≠"mix"):∃ Y,qh 0 (A++m::B)=qh 0 A++Y∧qh 0 (vh A m B d)=qh 0 A++(qp A+d)::Y:=by
 refine⟨qh (0+qp A) (m::B),qB2 _ _ _,?_⟩
 unfold vh
 have e1:(qm m 0 d).l=d:=by rw [← qL7 (jP m 0 d),jS];omega
 have e2:(qm m d m.mo).l=m.mo - d:=by rw [← qL7 (jP m d m.mo),jS]
 rw [qB2,jR (jP m 0 d),jR (jP m d m.mo),jR hm,e1,e2,← qL7 hm,Int.zero_add]
 have e3:qp A+d+(m.mo - d)=qp A+m.mo:=by omega
 rw [e3]
theorem qC6:∀ {ms:List Im} {b:Int},(∀ m∈ms,Wf m)→(∀ x∈qh b ms,b < x)∧(qh b ms).Pairwise (· < ·)
 | [],b,_=>⟨fun x h=>(by cases h),.nil⟩
 | m::ms,b,hw=>by
  by_cases hm:m.wd="mix"
  · obtain⟨l,rfl⟩:=qz hm
    rw [qh]
    exact qC6 fun x hx=>hw x (by simp [hx])
  · have h1:=(hw m (by simp)).pos hm
    obtain⟨i1,i2⟩:=qC6 (ms:=ms) (b:=b+m.l) fun x hx=>hw x (by simp [hx])
    rw [jR hm]
    rw [qL7 hm] at h1
    refine⟨fun x hx=>?_,List.Pairwise.cons i1 i2⟩
    rcases List.mem_cons.mp hx with rfl | hx
    · omega
    · have:=i1 x hx
      omega
theorem qKb {ms:List Im}(hw:∀ m∈ms,Wf m):(0::qh 0 ms).Pairwise (· < ·):=List.Pairwise.cons (qC6 hw).1 (qC6 hw).2
theorem qCi:∀ {xs ys:List Int},xs.Perm ys→xs.Pairwise (· ≤ ·)→ys.Pairwise (· ≤ ·)→xs=ys
 | [],ys,h,_,_=>by rw [List.nil_perm] at h;exact h.symm
 | x::xs,[],h,_,_=>by have:=h.length_eq;simp at this
 | x::xs,y::ys,h,h1,h2=>by
  have hx:x∈y::ys:=h.subset (by simp)
  have hy:y∈x::xs:=h.symm.subset (by simp)
  have a1:x≤y:=by
   rcases List.mem_cons.mp hy with e | e
   · omega
   · exact(List.pairwise_cons.mp h1).1 y e
  have a2:y≤x:=by
   rcases List.mem_cons.mp hx with e | e
   · omega
   · exact(List.pairwise_cons.mp h2).1 x e
  have e:x=y:=by omega
  subst e
  rw [qCi (List.Perm.cons_inv h) (List.pairwise_cons.mp h1).2 (List.pairwise_cons.mp h2).2]
theorem qSw {m:Im}(h:m.wd="clip"∨m.wd="nest"):(∃ n p q r s l,m= .clip n p q r s l)∨∃ n b l,m= .nest n b l:=by
 rcases h with h | h
 · exact .inl (wC h)
 · exact .inr (qDo h)
theorem qLs {m:Im}(hw:Wf m)(hk:m.wd="clip"∨m.wd="nest")(d:Int):glue (qm m 0 d) (qm m d m.mo)=m∧wG (qm m 0 d) (qm m d m.mo)=true:=by
 rcases qSw hk with ⟨n,p,q,r,s,l,rfl⟩ | ⟨n,b,l,rfl⟩
 · obtain⟨h1,h2⟩:=qC8 (r:=r) (s:=s) hw.1 hw.2.1 hw.2.2.1
   constructor
   · show Im.clip n (plP p q r s 0) (plQ p q r s 0) r s (d - 0+(l - d))=_
     rw [h1,h2]
     congr 1
     omega
   · show goB n n (plP p q r s 0) (plQ p q r s 0) r s (d - 0) (plP p q r s d) (plQ p q r s d) r s=true
     unfold goB
     rw [h1,h2,Int.sub_zero]
     simp
 · constructor
   · show Im.nest n (b+0) (d - 0+(l - d))=_
     congr 1 <;> omega
   · show (decide (n=n) && decide (b+d=b+0+(d - 0)))=true
     rw [decide_eq_true rfl,decide_eq_true (by omega)]
     rfl
theorem qQh {A:List Im}{m:Im}{B:List Im}{d:Int}(hA:Nn A)(d0:0 < d)(d1:d < m.mo):nbF (vh A m B d) (qp A+d)=some ((A.length:Int),((A.length+1:Nat):Int)):=by
 have e:vh A m B d=(A++[qm m 0 d])++qm m d m.mo::B:=by unfold vh;simp
 have hX:Nn (A++[qm m 0 d]):=fun x hx=>by
  rcases List.mem_append.mp hx with hx | hx
  · exact hA x hx
  · rw [List.mem_singleton] at hx
    rw [hx,jS];omega
 have hi:=vT (A++[qm m 0 d]) 0 0 (qm m d m.mo) B 0 hX (Int.le_refl 0) (by rw [jS];omega)
 rw [← e,jc,qCo,List.length_append,List.length_singleton,Nat.zero_add] at hi
 have et:0+(qp A+(d - 0))+0=qp A+d:=by omega
 rw [et] at hi
 have hk:jh (vh A m B d) (((A.length+1:Nat):Int) - 1)=(qm m 0 d).wd:=j3 (i:=A.length) (by unfold vh;exact zK _ _ _) (by omega)
 unfold nbF
 rw [hi]
 dsimp only
 rw [if_neg (by omega),hk,if_neg (jP m 0 d)]
 congr 2
 omega
theorem qOp {A:List Im}{m:Im}{B:List Im}{d:Int}(hA:Nn A)(hw:Wf m)(hk:m.wd="clip"∨m.wd="nest")(d0:0 < d)(d1:d < m.mo):kc (vh A m B d) (qp A+d)=some (A++m::B):=by
 obtain⟨g1,g2⟩:=qLs hw hk d
 unfold kc
 rw [qQh hA d0 d1]
 dsimp only
 rw [Int.toNat_natCast,Int.toNat_natCast]
 have e1:(vh A m B d)[A.length]? =some (qm m 0 d):=zK _ _ _
 have e:vh A m B d=(A++[qm m 0 d])++qm m d m.mo::B:=by unfold vh;simp
 have e2:(vh A m B d)[A.length+1]? =some (qm m d m.mo):=by
  have:=zK (A++[qm m 0 d]) (qm m d m.mo) B
  rw [List.length_append,List.length_singleton] at this
  rw [e];exact this
 rw [e1,e2]
 dsimp only
 rw [if_pos g2,g1]
 have e3:(vh A m B d).take A.length=A:=by unfold vh;rw [List.take_left'];rfl
 have e4:(vh A m B d).drop (A.length+1+1)=B:=by
  have e5:vh A m B d=(A++[qm m 0 d,qm m d m.mo])++B:=by unfold vh;simp
  rw [e5,List.drop_left']
  simp
 rw [e3,e4]
 simp
theorem qLg {x y:Im}(hx:Wf x)(hy:Wf y)(hc:wG x y=true):x=qm (glue x y) 0 x.mo∧y=qm (glue x y) x.mo (glue x y).mo∧Wf (glue x y)∧((glue x y).wd="clip"∨(glue x y).wd="nest")∧0 < x.mo∧x.mo < (glue x y).mo:=by
 rcases zw hc with ⟨n,p,q,r,s,l,n',p',q',r',s',l',rfl,rfl⟩ | ⟨n,b,l,n',b',l',rfl,rfl⟩
 · have hc:goB n n' p q r s l p' q' r' s'=true:=hc
   unfold goB at hc
   simp only [Bool.and_eq_true,beq_iff_eq,decide_eq_true_eq] at hc
   obtain⟨rfl,⟨rfl,rfl⟩,rfl,rfl⟩:=hc
   obtain⟨h1,h2⟩:=qC8 (r:=r) (s:=s) hx.1 hx.2.1 hx.2.2.1
   have l1:1≤l:=hx.2.2.2
   have l2:1≤l':=hy.2.2.2
   refine⟨?_,?_,⟨hx.1,hx.2.1,hx.2.2.1,by show 1≤l+l';omega⟩,.inl rfl,by show 0 < l;omega,by show l < l+l';omega⟩
   · show _=Im.clip n (plP p q r s 0) (plQ p q r s 0) r s (l - 0)
     rw [h1,h2,Int.sub_zero]
   · show _=Im.clip n (plP p q r s l) (plQ p q r s l) r s (l+l' - l)
     congr 1
     omega
 · have hc:(decide (n=n') && decide (b'=b+l))=true:=hc
   simp only [Bool.and_eq_true,decide_eq_true_eq] at hc
   obtain⟨rfl,rfl⟩:=hc
   have l1:1≤l:=hx
   have l2:1≤l':=hy
   refine⟨?_,?_,(by show 1≤l+l';omega),.inr rfl,by show 0 < l;omega,by show l < l+l';omega⟩
   · show _=Im.nest n (b+0) (l - 0)
     rw [Int.add_zero,Int.sub_zero]
   · show _=Im.nest n (b+l) (l+l' - l)
     congr 1
     omega
theorem qCq {α:Type}{A:List α}(h:A≠[]):∃ (X:List α) (a:α),A=X++[a]:=⟨A.dropLast,A.getLast h,(List.dropLast_concat_getLast h).symm⟩
theorem qRs {ms:List Im}{t i j:Int}(h:nbF ms t=some (i,j)):(∃ (A:List Im) (x y:Im) (B:List Im),ms=A++x::y::B∧i=(A.length:Int)∧j=i+1∧t=qp A+x.mo∧x.wd≠"mix"∧0 < y.mo)∨∃ (A:List Im) (l:Int) (y:Im) (B:List Im),ms=A++ .mix l::y::B∧j=((A.length+1:Nat):Int)∧i=(A.length:Int) - 1∧t=qp A∧0 < y.mo:=by
 unfold nbF at h
 cases hi:jn 0 0 ms t with
 | none=>rw [hi] at h;cases h
 | some r=>
  obtain⟨k,d⟩:=r
  rw [hi] at h
  dsimp only at h
  by_cases hc:d≠0∨(k:Int)=0
  · rw [if_pos hc] at h;cases h
  · rw [if_neg hc] at h
    have d0:d=0:=by omega
    subst d0
    obtain⟨A,y,B,h1,h2,h3,h4,h5⟩:=qAa hi
    have hA:A≠[]:=by
     rintro rfl
     apply hc
     right
     rw [h2];rfl
    obtain⟨X,x,rfl⟩:=qCq hA
    have e:ms=X++x::y::B:=by rw [h1];simp
    have hkx:k=X.length+1:=by rw [h2,List.length_append];show 0+(X.length+1)=_;omega
    have hk:jh ms ((k:Int) - 1)=x.wd:=j3 (i:=X.length) (by rw [e];exact zK _ _ _) (by omega)
    rw [hk] at h
    rw [jc,qW,jF] at h3
    by_cases hm:x.wd="mix"
    · obtain⟨l,rfl⟩:=qz hm
      rw [if_pos hm] at h
      have:=Prod.mk.inj (Option.some.inj h)
      have e0:(Im.mix l).mo=0:=rfl
      exact .inr ⟨X,l,y,B,e,by omega,by omega,by omega,by omega⟩
    · rw [if_neg hm] at h
      have:=Prod.mk.inj (Option.some.inj h)
      exact .inl ⟨X,x,y,B,e,by omega,by omega,by omega,hm,by omega⟩
theorem qNa {A:List Im}{x y:Im}{B:List Im}{t:Int}(h:nbF (A++x::y::B) t=some ((A.length:Int),(A.length:Int)+1)):kc (A++x::y::B) t=if wG x y=true then some (A++glue x y::B) else none:=by
 unfold kc
 rw [h]
 dsimp only
 have e0:((A.length:Int)+1).toNat=A.length+1:=by omega
 rw [Int.toNat_natCast,e0]
 have e1:(A++x::y::B)[A.length]? =some x:=zK _ _ _
 have e2:(A++x::y::B)[A.length+1]? =some y:=by
  have:=zK (A++[x]) y B
  rw [List.length_append,List.length_singleton] at this
  have e:A++x::y::B=(A++[x])++y::B:=by simp
  rw [e];exact this
 rw [e1,e2]
 dsimp only
 have e3:(A++x::y::B).take A.length=A:=by rw [List.take_left'];rfl
 have e4:(A++x::y::B).drop (A.length+1+1)=B:=by
  have e5:A++x::y::B=(A++[x,y])++B:=by simp
  rw [e5,List.drop_left']
  simp
 rw [e3,e4]
 have e6:A++[glue x y]++B=A++glue x y::B:=by simp
 rw [e6]
def mxB (t:Int):Int→List Im→Bool
 | _,[]=>false
 | b,m::ms=>if m.wd="mix" then (decide (b - m.l.fdiv 2 < t) && (decide (t < b+m.l - m.l.fdiv 2) && !decide (t=b))) || mxB t b ms else mxB t (b+m.mo) ms
def insB (t:Int):Int→List Im→Bool
 | _,[]=>false
 | b,m::ms=>if m.wd="mix" then insB t b ms else (decide (b < t) && (decide (t < b+m.mo) && !decide (m.wd="gap"))) || insB t (b+m.mo) ms
def qOo (ms:List Im)(t:Int):Str:=if mxB t 0 ms=true then "mixed" else if insB t 0 ms=true then "good" else "noplace"
theorem qJb:∀ {ms:List Im} {b:Int} {x:Int × Int × Int},x∈qk b ms→∃ A l B,ms=A++ .mix l::B∧x=(b+qp A - l.fdiv 2,b+qp A,b+qp A+(l - l.fdiv 2))
 | [],_,_,h=>by cases h
 | m::ms,b,x,h=>by
  by_cases hm:m.wd="mix"
  · obtain⟨l,rfl⟩:=qz hm
    rw [qk] at h
    rcases List.mem_cons.mp h with h | h
    · refine⟨[],l,ms,rfl,?_⟩
      rw [h,jF,Int.add_zero]
    · obtain⟨A,l',B,h1,h2⟩:=qJb h
      refine⟨.mix l::A,l',B,by rw [h1];rfl,?_⟩
      rw [h2,qW]
      have e0:(Im.mix l).mo=0:=rfl
      rw [e0,Int.zero_add]
  · rw [qY hm] at h
    obtain⟨A,l',B,h1,h2⟩:=qJb h
    refine⟨m::A,l',B,by rw [h1];rfl,?_⟩
    rw [h2,qW,Int.add_assoc]
theorem qJ7 (t:Int):∀ (ms:List Im) (b:Int),mxB t b ms=true↔∃ x∈qk b ms,x.1 < t∧t < x.2.2∧t≠x.2.1
 | [],b=>⟨fun h=>(by cases h),fun⟨x,h,_⟩=>(by cases h)⟩
 | m::ms,b=>by
  by_cases hm:m.wd="mix"
  · obtain⟨l,rfl⟩:=qz hm
    rw [mxB,if_pos hm,qk,Bool.or_eq_true,qJ7 t ms b]
    constructor
    · rintro (h | ⟨x,hx,h⟩)
      · simp only [Bool.and_eq_true,decide_eq_true_eq,Bool.not_eq_true',decide_eq_false_iff_not] at h
        refine⟨_,List.mem_cons_self,?_,?_,?_⟩
        · exact h.1
        · show t < b+(l - l.fdiv 2)
          have h2:t < b+l - l.fdiv 2:=h.2.1
          omega
        · exact h.2.2
      · exact⟨x,List.mem_cons_of_mem _ hx,h⟩
    · rintro ⟨x,hx,h1,h2,h3⟩
      rcases List.mem_cons.mp hx with rfl | hx
      · left
        simp only [Bool.and_eq_true,decide_eq_true_eq,Bool.not_eq_true',decide_eq_false_iff_not]
        have h2:t < b+(l - l.fdiv 2):=h2
        exact⟨h1,by show t < b+l - l.fdiv 2;omega,h3⟩
      · exact .inr ⟨x,hx,h1,h2,h3⟩
  · rw [mxB,if_neg hm,qY hm]
    exact qJ7 t ms _
theorem qOs {m:Im}(h1:m.wd≠"mix")(h2:m.wd≠"gap"):m.wd="clip"∨m.wd="nest":=by
 cases m with
 | clip=>exact .inl rfl
 | nest=>exact .inr rfl
 | gap l=>exact absurd rfl h2
 | mix l=>exact absurd rfl h1
theorem qJi (t:Int):∀ (ms:List Im) (b:Int),insB t b ms=true↔∃ (A:List Im) (m:Im) (B:List Im) (d:Int),ms=A++m::B∧t=b+qp A+d∧0 < d∧d < m.mo∧(m.wd="clip"∨m.wd="nest")
 | [],b=>⟨fun h=>(by cases h),fun⟨A,m,B,d,h,_⟩=>(by cases A <;> cases h)⟩
 | m::ms,b=>by
  have up:∀ {b':Int},b'=b+m.mo→insB t b' ms=true→∃ (A:List Im) (x:Im) (B:List Im) (d:Int),m::ms=A++x::B∧t=b+qp A+d∧0 < d∧d < x.mo∧(x.wd="clip"∨x.wd="nest"):=fun {b'} hb h=>by
   obtain⟨A,x,B,d,h1,h2,h3⟩:=(qJi t ms b').mp h
   exact⟨m::A,x,B,d,by rw [h1];rfl,by rw [qW];omega,h3⟩
  have dn:∀ {b':Int},b'=b+m.mo→∀ {A:List Im} {x:Im} {B:List Im} {d:Int},m::ms=m::A++x::B→t=b+qp (m::A)+d→0 < d→d < x.mo→(x.wd="clip"∨x.wd="nest")→insB t b' ms=true:=fun {b'} hb {A x B d} h1 h2 h3 h4 h5=>by
   refine(qJi t ms b').mpr ⟨A,x,B,d,?_,?_,h3,h4,h5⟩
   · exact(List.cons.inj h1).2
   · rw [qW] at h2;omega
  by_cases hm:m.wd="mix"
  · obtain⟨l,rfl⟩:=qz hm
    rw [insB,if_pos hm]
    have e0:b=b+(Im.mix l).mo:=by show b=b+0;omega
    constructor
    · exact up e0
    · rintro ⟨A,x,B,d,h1,h2,h3,h4,h5⟩
      cases A with
      | nil=>
       rw [List.nil_append] at h1
       have:=(List.cons.inj h1).1
       rw [← this] at h4
       have:d < 0:=h4
       omega
      | cons a A=>
       obtain rfl:Im.mix l=a:=(List.cons.inj h1).1
       exact dn e0 h1 h2 h3 h4 h5
  · rw [insB,if_neg hm,Bool.or_eq_true]
    constructor
    · rintro (h | h)
      · simp only [Bool.and_eq_true,decide_eq_true_eq,Bool.not_eq_true',decide_eq_false_iff_not] at h
        exact⟨[],m,ms,t - b,rfl,by rw [jF];omega,by omega,by omega,qOs hm h.2.2⟩
      · exact up rfl h
    · rintro ⟨A,x,B,d,h1,h2,h3,h4,h5⟩
      cases A with
      | nil=>
       left
       rw [List.nil_append] at h1
       obtain rfl:=(List.cons.inj h1).1
       rw [jF] at h2
       simp only [Bool.and_eq_true,decide_eq_true_eq,Bool.not_eq_true',decide_eq_false_iff_not]
       refine⟨by omega,by omega,fun e=>?_⟩
       rcases h5 with h5 | h5 <;> rw [h5] at e <;> exact absurd e (by decide+kernel)
      | cons a A=>
       right
       obtain rfl:m=a:=(List.cons.inj h1).1
       exact dn rfl h1 h2 h3 h4 h5
theorem qLl {ms:List Im}(hw:Nn ms)(t:Int):insB t 0 ms=j7 ms t:=by
 rw [Bool.eq_iff_iff,qJi,zt hw]
 constructor
 · rintro ⟨A,m,B,d,h1,h2,h3,h4,h5⟩
   exact⟨A,m,B,d,h1,by omega,h3,h4,h5⟩
 · rintro ⟨A,m,B,d,h⟩
   exact⟨A,m,B,d,h.eq,by have:=h.t;omega,h.d0,h.d1,h.k⟩
theorem qRd {R:Im→Int→Im→Prop}{n n':Str}{p q r s k l p' q' r' s' k':Int}{B:List Im}:∀ {A:List Im} {tb:Int} {o:Option Im},0≤tb→(∀ m∈A++ .clip n p q r s k:: .mix l:: .clip n' p' q' r' s' k'::B,Wf m)→FS R tb o (A++ .clip n p q r s k:: .mix l:: .clip n' p' q' r' s' k'::B)→l.fdiv 2≤k∧l - l.fdiv 2≤k'
 | [],tb,o,h0,hw,h=>by
  have h1:tb+tkE (.mix l:: .clip n' p' q' r' s' k'::B)≤k:=h.1
  have h2:l - l.fdiv 2+tkE B≤k':=h.2.2.1
  have e:tkE (.mix l:: .clip n' p' q' r' s' k'::B)=l.fdiv 2:=rfl
  have:=qVz (ms:=B) fun m hm=>hw m (by simp [hm])
  omega
 | a::A,tb,o,h0,hw,h=>by
  have hw':∀ m∈A++ .clip n p q r s k:: .mix l:: .clip n' p' q' r' s' k'::B,Wf m:=fun m hm=>hw m (List.mem_cons_of_mem _ hm)
  by_cases hm:a.wd="mix"
  · obtain⟨l',rfl⟩:=qz hm
    rw [List.cons_append,qE1] at h
    refine qRd ?_ hw' h.2
    have h1:1≤l':=hw (.mix l') List.mem_cons_self
    have:=q9 (p:=l') (q:=2) (by decide)
    omega
  · rw [List.cons_append,jE hm] at h
    exact qRd (Int.le_refl 0) hw' h.2
theorem wj {ms A B:List Im}{l:Int}(hM:MO none ms)(e:ms=A++ .mix l::B):∃ A' n p q r s k n' p' q' r' s' k' B',A=A'++[.clip n p q r s k]∧B= .clip n' p' q' r' s' k'::B':=by
 rw [e] at hM
 have h:=qEn hM
 obtain⟨⟨n,p,q,r,s,k,h1⟩,n',p',q',r',s',k',h2⟩:=h.1
 have hA:A≠[]:=by
  rintro rfl
  cases h1
 obtain⟨X,x,rfl⟩:=qCq hA
 rw [List.getLast?_concat] at h1
 have h1:some x=some (.clip n p q r s k):=h1
 cases h1
 cases B with
 | nil=>cases h2
 | cons b B=>
  have h2:some b=some (.clip n' p' q' r' s' k'):=h2
  cases h2
  exact⟨X,n,p,q,r,s,k,n',p',q',r',s',k',B,rfl,rfl⟩
theorem qH7 {R:Im→Int→Im→Prop}{ms:List Im}{t:Int}(hw:∀ m∈ms,Wf m)(hM:MO none ms)(hF:FS R 0 none ms)(h:mxB t 0 ms=true):j7 ms t=true:=by
 obtain⟨x,hx,h1,h2,h3⟩:=(qJ7 t ms 0).mp h
 obtain⟨A,l,B,e,rfl⟩:=qJb hx
 obtain⟨X,n,p,q,r,s,k,n',p',q',r',s',k',Y,rfl,rfl⟩:=wj hM e
 have e':ms=X++ .clip n p q r s k:: .mix l:: .clip n' p' q' r' s' k'::Y:=by rw [e];simp
 rw [e'] at hF hw
 obtain⟨g1,g2⟩:=qRd (Int.le_refl 0) hw hF
 rw [jc,qW,jF] at h1 h2 h3
 have e0:(Im.clip n p q r s k).mo=k:=rfl
 dsimp only at h1 h2 h3
 refine(zt fun m hm=>(hw m (by rw [← e'];exact hm)).mo).mpr ?_
 by_cases ht:t < qp X+k
 · exact⟨X,_,_,t - qp X,e',by omega,by omega,by show t - qp X < k;omega,.inl rfl⟩
 · refine⟨X++[.clip n p q r s k,.mix l],.clip n' p' q' r' s' k',Y,t - (qp X+k),by rw [e'];simp,?_,by omega,by show t - (qp X+k) < k';omega,.inl rfl⟩
   rw [jc,qW,qW,jF]
   have e1:(Im.mix l).mo=0:=rfl
   omega
theorem qRk {ms:List Im}{t:Int}{A:List Im}{m:Im}{B:List Im}{d:Int}(hw:∀ m∈ms,Wf m)(hW:Wi ms t A m B d):∀ x∈qk 0 ms,x.2.1≠t:=by
 intro x hx
 have he:=hW.eq
 have ht:=hW.t
 have h0:=hW.d0
 have h1:=hW.d1
 rw [he,jv,qY hW.nm.1] at hx
 rcases List.mem_append.mp hx with hx | hx
 · have:=j6 A 0 (fun y hy=>hw y (by rw [he];simp [hy])) x hx
   omega
 · have:=j6 B _ (fun y hy=>hw y (by rw [he];simp [hy])) x hx
   omega
theorem touch_iff {ms:List Im}{t:Int}:jl ms t t=true↔mxB t 0 ms=true∨∃ x∈qk 0 ms,x.2.1=t:=by
 unfold jl
 rw [List.any_eq_true,qJ7]
 constructor
 · rintro ⟨x,hx,h⟩
   unfold qNc at h
   simp only [Bool.or_eq_true,Bool.and_eq_true,decide_eq_true_eq] at h
   by_cases e:x.2.1=t
   · exact .inr ⟨x,hx,e⟩
   · exact .inl ⟨x,hx,by omega,by omega,by omega⟩
 · rintro (⟨x,hx,h1,h2,h3⟩ | ⟨x,hx,h⟩)
   · refine⟨x,hx,?_⟩
     unfold qNc
     simp only [Bool.or_eq_true,Bool.and_eq_true,decide_eq_true_eq]
     exact .inl ⟨h1,h2⟩
   · refine⟨x,hx,?_⟩
     unfold qNc
     simp only [Bool.or_eq_true,Bool.and_eq_true,decide_eq_true_eq]
     exact .inr ⟨by omega,by omega⟩
theorem qIm {R:Im→Int→Im→Prop}{ms:List Im}{t:Int}(hw:∀ m∈ms,Wf m)(hM:MO none ms)(hF:FS R 0 none ms):
 (qOo ms t="mixed"∧j7 ms t=true∧jl ms t t=true)∨(qOo ms t="good"∧j7 ms t=true∧jl ms t t=false)∨(qOo ms t="noplace"∧j7 ms t=false):=by
 have hn:Nn ms:=fun m hm=>(hw m hm).mo
 unfold qOo
 by_cases h:mxB t 0 ms=true
 · rw [if_pos h]
   exact .inl ⟨rfl,qH7 hw hM hF h,touch_iff.mpr (.inl h)⟩
 · rw [if_neg h,qLl hn]
   by_cases hi:j7 ms t=true
   · rw [if_pos hi]
     refine .inr (.inl ⟨rfl,hi,?_⟩)
     rw [Bool.eq_false_iff]
     intro z
     obtain⟨A,m,B,d,hW⟩:=(zt hn).mp hi
     rcases touch_iff.mp z with z | ⟨x,hx,z⟩
     · exact h z
     · exact qRk hw hW x hx z
   · rw [if_neg hi]
     exact .inr (.inr ⟨rfl,by rw [Bool.eq_false_iff];exact hi⟩)
def hdS (ms:List Im)(t:Int):Str:=match nbF ms t with
 | none=>"noplace"
 | some (i,j)=>match ms[i.toNat]?,ms[j.toNat]? with
  | some m,some m'=>if wG m m'=true then (if j=i+1 then "good" else "mixed") else "noplace"
  | _,_=>"noplace"
theorem qPp {R:Im→Int→Im→Prop}{ms:List Im}{t:Int}(hw:∀ m∈ms,Wf m)(hM:MO none ms)(hF:FS R 0 none ms):
 (hdS ms t="good"∧jl ms t t=false∧∃ (A:List Im) (x y:Im) (B:List Im),ms=A++x::y::B∧wG x y=true∧t=qp A+x.mo∧kc ms t=some (A++glue x y::B))∨
 (hdS ms t="mixed"∧jl ms t t=true∧∃ ms',kc ms t=some ms')∨(hdS ms t="noplace"∧kc ms t=none):=by
 have hn:Nn ms:=fun m hm=>(hw m hm).mo
 cases hb:nbF ms t with
 | none=>
  refine .inr (.inr ⟨?_,?_⟩)
  · unfold hdS;rw [hb]
  · unfold kc;rw [hb]
 | some r=>
  obtain⟨i,j⟩:=r
  rcases qRs hb with ⟨A,x,y,B,e,rfl,rfl,ht,hx,hy⟩ | ⟨A,l,y,B,e,rfl,rfl,ht,hy⟩
  · have hs:=qNa (A:=A) (x:=x) (y:=y) (B:=B) (t:=t) (by rw [← e];exact hb)
    rw [← e] at hs
    have e0:((A.length:Int)+1).toNat=A.length+1:=by omega
    have e1:ms[((A.length:Int)).toNat]? =some x:=by rw [Int.toNat_natCast,e];exact zK _ _ _
    have e2:ms[((A.length:Int)+1).toNat]? =some y:=by
     rw [e0,e]
     have:=zK (A++[x]) y B
     rw [List.length_append,List.length_singleton] at this
     have e':A++x::y::B=(A++[x])++y::B:=by simp
     rw [e'];exact this
    have hh:hdS ms t=if wG x y=true then ("good":Str) else "noplace":=by
     unfold hdS
     rw [hb]
     dsimp only
     rw [e1,e2]
     dsimp only
     rw [if_pos rfl]
    by_cases hc:wG x y=true
    · rw [if_pos hc] at hs hh
      refine .inl ⟨hh,?_,A,x,y,B,e,hc,ht,hs⟩
      rw [Bool.eq_false_iff]
      intro z
      have hA:Nn A:=fun m hm=>hn m (by rw [e];simp [hm])
      have hyw:y.wd≠"mix":=fun q=>by
       obtain⟨l,rfl⟩:=qz q
       have:(0:Int) < 0:=hy
       omega
      have hx1:=(hw x (by rw [e];simp)).pos hx
      rcases touch_iff.mp z with z | ⟨u,hu,z⟩
      · obtain⟨A',m',B',d',hW⟩:=(zt hn).mp (qH7 hw hM hF z)
        have i1:=vT A' 0 0 m' B' d' (fun m hm=>hn m (by rw [hW.eq];simp [hm])) (by have:=hW.d0;omega) hW.d1
        have hAx:Nn (A++[x]):=fun m hm=>hn m (by
         rw [e]
         rcases List.mem_append.mp hm with h | h
         · simp [h]
         · rw [List.mem_singleton] at h
           simp [h])
        have i2:=vT (A++[x]) 0 0 y B 0 hAx (Int.le_refl 0) hy
        have e':A++[x]++y::B=ms:=by rw [e];simp
        rw [e',jc,qW,jF] at i2
        rw [← hW.eq] at i1
        have t1:0+qp A'+d'=t:=by have:=hW.t;omega
        have t2:0+(qp A+(x.mo+0))+0=t:=by omega
        rw [t1] at i1
        rw [t2,i1] at i2
        have:=(Prod.mk.inj (Option.some.inj i2)).2
        have:=hW.d0
        omega
      · rw [e,jv,qY hx,qY hyw] at hu
        rcases List.mem_append.mp hu with hu | hu
        · have:=j6 A 0 (fun m hm=>hw m (by rw [e];simp [hm])) u hu
          omega
        · have:=j6 B _ (fun m hm=>hw m (by rw [e];simp [hm])) u hu
          omega
    · rw [if_neg hc] at hs hh
      exact .inr (.inr ⟨hh,hs⟩)
  · obtain⟨X,n,p,q,r,s,k,n',p',q',r',s',k',Y,rfl,e5⟩:=wj hM (show ms=A++ .mix l::(y::B) from e)
    have hl:((X++[Im.clip n p q r s k]).length:Int)=(X.length:Int)+1:=by rw [List.length_append];rfl
    have e1:ms[(((X++[Im.clip n p q r s k]).length:Int) - 1).toNat]? =some (.clip n p q r s k):=by
     have e0:(((X++[Im.clip n p q r s k]).length:Int) - 1).toNat=X.length:=by omega
     have e':ms=X++ .clip n p q r s k:: .mix l::y::B:=by rw [e];simp
     rw [e0,e'];exact zK _ _ _
    have e2:ms[(((X++[Im.clip n p q r s k]).length+1:Nat):Int).toNat]? =some y:=by
     have e':ms=(X++[.clip n p q r s k]++[.mix l])++y::B:=by rw [e];simp
     have:=zK (X++[.clip n p q r s k]++[.mix l]) y B
     rw [List.length_append,List.length_singleton] at this
     rw [Int.toNat_natCast,e'];exact this
    have ht':jl ms t t=true:=by
     refine touch_iff.mpr (.inr ⟨(qp (X++[Im.clip n p q r s k]) - l.fdiv 2,qp (X++[Im.clip n p q r s k]),qp (X++[Im.clip n p q r s k])+(l - l.fdiv 2)),?_,ht.symm⟩)
     rw [e,jv,qk,Int.zero_add]
     simp
    have hh:hdS ms t=if wG (.clip n p q r s k) y=true then ("mixed":Str) else "noplace":=by
     unfold hdS
     rw [hb]
     dsimp only
     rw [e1,e2]
     dsimp only
     have hne:¬ (((X++[Im.clip n p q r s k]).length+1:Nat):Int)=((X++[Im.clip n p q r s k]).length:Int) - 1+1:=by omega
     rw [if_neg hne]
    have hf:(∃ ms',kc ms t=some ms')∨(¬ wG (.clip n p q r s k) y=true∧kc ms t=none):=by
     unfold kc
     rw [hb]
     dsimp only
     rw [e1,e2]
     dsimp only
     by_cases hc:wG (.clip n p q r s k) y=true
     · exact .inl ⟨_,by rw [if_pos hc]⟩
     · exact .inr ⟨hc,by rw [if_neg hc]⟩
    by_cases hc:wG (.clip n p q r s k) y=true
    · rw [if_pos hc] at hh
      rcases hf with hf | ⟨z,_⟩
      · exact .inr (.inl ⟨hh,ht',hf⟩)
      · exact absurd hc z
    · rw [if_neg hc] at hh
      refine .inr (.inr ⟨hh,?_⟩)
      rcases hf with ⟨ms',hf⟩ | ⟨_,z⟩
      · unfold kc at hf
        rw [hb] at hf
        dsimp only at hf
        rw [e1,e2] at hf
        dsimp only at hf
        rw [if_neg hc] at hf
        cases hf
      · exact z
theorem qTc {ms:List Im}(hM:MO none ms){t i j:Int}(h:nbF ms t=some (i,j)):0≤i:=by
 rcases qRs h with ⟨A,x,y,B,e,rfl,_⟩ | ⟨A,l,y,B,e,_,rfl,_⟩
 · omega
 · obtain⟨X,n,p,q,r,s,k,n',p',q',r',s',k',Y,rfl,_⟩:=wj hM (show ms=A++ .mix l::(y::B) from e)
   rw [List.length_append,List.length_singleton]
   omega
theorem qU7 {x y:Str}(h:decide (V.str x=V.str y)=true):x=y:=V.str.inj (of_decide_eq_true h)
theorem qV2 {x y:Str}(h:¬ decide (V.str x=V.str y)=true):x≠y:=fun e=>h (by rw [e];exact decide_eq_true rfl)
theorem qS6 {neg:Bool}{H:Hp}{x y:Addr}{ms:List Im}{Q:VK}(h1:Tr H x ms)(h2:Tr H y ms)(q:Q (.bl (!neg)) H):qQm K neg (.ref x) (.ref y) H Q:=by
 refine⟨.lst (ms.map Im.d),.lst (ms.map Im.d),h1.rep,h2.rep,by unfold dep;have:=qDi ms;omega,?_⟩
 have e:eqD (.lst (ms.map Im.d)) (.lst (ms.map Im.d))=true:=by unfold eqD;exact wY ms
 rw [e]
 cases neg <;> exact q
theorem qBu {neg:Bool}{H:Hp}{x y:Addr}{ns:List Int}{Q:VK}(h1:H x=some (.lst (ns.map V.int)))(h2:H y=some (.lst (ns.map V.int)))(q:Q (.bl (!neg)) H):qQm K neg (.ref x) (.ref y) H Q:=by
 refine⟨_,_,qF6 h1,qF6 h2,by unfold dep;rw [qDc];omega,?_⟩
 have e:eqD (.lst ((ns.map V.int).map D.leaf)) (.lst ((ns.map V.int).map D.leaf))=true:=by unfold eqD;exact qF0 ns
 rw [e]
 cases neg <;> exact q
theorem qSv {H:Hp}{z:Addr}{us:List V}{ms:List Im}{js0:List Nat}{σ:L2.St}{tc:TT}{te:TE}{Q:VK}(hz:H z=some (.lst us))(his:IsIs H ms us)(hl:ms.length≤300)
 (htc:∀ (x:V) (zi:Addr) (xi:List V) (m:Im) (Q:Bool→Hp→Prop),x= .ref zi→H zi=some (.tup xi)→atI xi 0=some (.str m.wd)→Q (!decide (V.str m.wd=V.str "mix")) H→tc (some x::wr js0 σ) H Q)
 (hte:∀ (x:V) (zi:Addr) (xi:List V) (m:Im) (Q:VK),x= .ref zi→H zi=some (.tup xi)→atI xi (-1)=some (.int m.l)→Q (.int m.l) H→te (some x::wr js0 σ) H Q)
 (k:∀ (D:Addr) (js:List Int),H D=none→js.sum=qp ms→Q (.ref D) (upd H D (.lst (js.map V.int)))):CompEndF js0 tc te σ Q (Itl K z) H:=by
 have hul:=his.len
 refine wy (K:=K) (a:=z) (xs:=us) (fun j acc H7=>H=H7∧∃ js:List Int,acc=js.map V.int∧js.length≤j∧js.sum=((ms.take j).map Im.mo).sum) ⟨rfl,[],rfl,by simp,rfl⟩ ?_ ?_ ?_
 · rintro j acc H7 hj ⟨rfl,js,rfl,hjl,_⟩
   exact⟨SqL.of hz,qf (by rw [List.length_map];omega)⟩
 · rintro j x acc H7 hj hx ⟨rfl,js,rfl,hjl,hjs⟩
   obtain⟨m,hm,hI⟩:=his.get hx
   obtain⟨zi,xi,rfl,hzi,b0,bl⟩:=hI.opn
   have etk:((ms.take (j+1)).map Im.mo).sum=((ms.take j).map Im.mo).sum+m.mo:=by rw [List.take_add_one,hm];simp
   refine htc _ zi xi m _ rfl hzi b0 ?_
   by_cases hw:m.wd="mix"
   · obtain⟨l,rfl⟩:=qz hw
     have e:(!decide (V.str (Im.mix l).wd=V.str "mix"))=false:=by rw [decide_eq_true (by rw [hw])];rfl
     rw [e]
     exact jQ (Nxt.mk hj ⟨rfl,js,rfl,by omega,by rw [etk,hjs];simp [Im.mo]⟩)
   · have e:(!decide (V.str m.wd=V.str "mix"))=true:=by rw [decide_eq_false (fun h=>hw (V.str.inj h))];rfl
     rw [e]
     refine xE (hte _ zi xi m _ rfl hzi bl (Nxt.mk hj ⟨rfl,js++[m.l],by simp,by simp;omega,?_⟩))
     rw [etk,qL7 hw,List.sum_append,hjs]
     simp
 · rintro acc H7 ⟨rfl,js,rfl,_,hjs⟩ D hD
   rw [hul,List.take_length] at hjs
   exact k D js hD hjs
inductive qHc (K:W.Frag)(vs:List V)(H:Hp)(Q:VK)(_:XK):Prop
| mk (tz dz rd:Addr) (rl:Rls) (ts:List (List Im)) (tie:List Int) (r:Res) (_:vs=[.ref tz,.ref dz,.ref rd]) (_:TabD H tz rd rl ts tie) (_:DdX K H rd dz rl ts tie r) (_:r≠ .clip) (_:(∀ m,r≠ .short m)) (_:(r= .place→∀ H',Same H H'→Q (.str "noplace") H')) (_:(r= .mixed→∀ H',Same H H'→Q (.str "mixed") H')) (_:∀ ts',r= .good ts'→∀ (t':Addr) (H':Hp),Same H H'→NewTab H H' t' ts' tie→Q (.ref t') H')
theorem xD (T:Tx K mg a):FnOk P w K mg base CX0 11 a.A86 a.B86 ["_law_table_here","_law_deed","_law_reels_here"] (qHc K):=by
 refine T.D86.F.ok j9 (fun vs H Q E h=>?_) (fun cdv A outer s H vs Q E hr h=>?_)
 · obtain⟨tz,dz,rd,rl,ts,tie,r,rfl,_⟩:=h
   rfl
 refine qL fun _ Y=>?_
 obtain⟨tz,dz,rd,rl,ts,tie,r,rfl,hP,hD,nc,ns,k0,k1,k2⟩:=h
 obtain⟨Exn,hEx⟩:∃ Exn:Value→Option Addr→Hp→Prop,Exn=fun B od H'=>Same H H'∧((B= .ref a.k_NoPlace∧r= .place)∨(B= .ref a.k_Mixed∧r= .mixed)):=⟨_,rfl⟩
 apply Y
 refine⟨_,(qB (qU 3 j9.nd qEz)
  (qB (qR2 (Exn) j9.nd (fun _=>(qE (qU 3 j9.nd (xy T.D73 (vK T) hr rfl (qA (pv 0) (qA (pv 1) (qA (pv 2) qC))))))) (PHs.cons .none rfl T.c_NoPlace (fun _ _=>(qE (qU 3 j9.nd qR))) (PHs.cons .none rfl T.c_Mixed (fun _ _=>(qE (qU 3 j9.nd qR))) PHs.nil)))
  (qE (qM (pv 3))))),?_⟩
 try dsimp only [je,qg]
 subst hEx
 refine⟨?_,?_⟩
 · refine⟨_,rfl,_,rfl,_,rfl,tz,dz,rd,rl,ts,tie,r,rfl,hP,hD,fun h H' e=>⟨e,.inl ⟨rfl,h⟩⟩,fun h H' e=>⟨e,.inr ⟨rfl,h⟩⟩,fun h=>absurd h nc,fun m h=>absurd h (ns m),fun ts' h t' H' e hN=>?_⟩
   exact⟨_,rfl,k2 ts' h t' H' e hN⟩
 · rintro ea ⟨B1,B2⟩ σ' H' ⟨sH,hB⟩ hn hl'
   refine qL fun _ Y=>?_
   obtain⟨o1,o2,o3,o4,rfl⟩:∃ o1 o2 o3 o4,σ'=[o1,o2,o3,o4]:=by
    match σ',hl' with
    | [o1,o2,o3,o4],_=>exact⟨o1,o2,o3,o4,rfl⟩
   apply Y
   have eo:∀ o:HO,Same H (upd H' ea o):=fun o=>sH.trans (qF hn _)
   rcases hB with ⟨e1,h⟩ | ⟨e1,h⟩
   · dsimp only at e1;subst e1
     exact⟨true,T.yPP,xE ⟨_,rfl,k0 h _ (eo _)⟩⟩
   · dsimp only at e1;subst e1
     exact⟨false,T.yMP,jQ ⟨true,T.yMM,xE ⟨_,rfl,k1 h _ (eo _)⟩⟩⟩
inductive qDm (vs:List V)(H:Hp)(Q:VK)(_:XK):Prop
| mk (z rd:Addr) (ms:List Im) (t:Int) (rl:Rls) (_:vs=[.ref z,.int t,.ref rd]) (_:Tr H z ms) (_:(∀ m∈ms,ItR rl m)) (_:ReelsAt H rd rl) (_:∀ H',Same H H'→Q (.int ((mmF rl ms t).getD 0)) H')
theorem qB6 (T:Tx K mg a):FnOk P w K mg base CX0 7 a.A93 a.B93 ["_law_track_here","_law_place","_law_reels_here"] qDm:=by
 refine T.D93.F.ok jt (fun vs H Q E h=>?_) (fun cdv A outer s H vs Q E hr h=>?_)
 · obtain⟨z,rd,ms,t,rl,rfl,_⟩:=h
   rfl
 refine qL fun _ Y=>?_
 obtain⟨z,rd,ms,t,rl,rfl,tT,hit,hrl,kk⟩:=h
 obtain⟨Exn,hEx⟩:∃ Exn:Value→Option Addr→Hp→Prop,Exn=fun B od H'=>Same H H'∧B= .ref a.k_NoPlace∧mmF rl ms t=none:=⟨_,rfl⟩
 apply Y
 refine⟨_,(qB (qU 3 jt.nd qG)
  (qB (qTr (Exn) .none jt.nd rfl T.c_NoPlace (fun _=>(qE (qU 3 jt.nd (xy T.D44 (km T) hr rfl (qA (pv 0) (qA (pv 1) (qA (pv 2) qC))))))) (fun _ _=>(qE (qU 3 jt.nd qG))))
  (qE (qM (pv 3))))),?_⟩
 try dsimp only [je,qg]
 subst hEx
 refine⟨?_,?_⟩
 · refine⟨_,rfl,_,rfl,_,rfl,z,rd,ms,_,some t,rl,rfl,tT,hit,hrl,.int t,fun h=>?_,fun M' h=>?_⟩
   · intro H' e
     exact⟨e,rfl,h⟩
   · intro H' e
     have h':mmF rl ms t=some M':=h
     rw [h'] at kk
     exact⟨_,rfl,kk H' e⟩
 · rintro ea ⟨B1,B2⟩ σ' H' ⟨sH,hB,hno⟩ hn hl'
   refine qL fun _ Y=>?_
   obtain⟨o1,o2,o3,o4,rfl⟩:∃ o1 o2 o3 o4,σ'=[o1,o2,o3,o4]:=by
    match σ',hl' with
    | [o1,o2,o3,o4],_=>exact⟨o1,o2,o3,o4,rfl⟩
   apply Y
   dsimp only at hB;subst hB
   rw [hno] at kk
   exact⟨T.yPP,_,rfl,kk _ (sH.trans (qF hn _))⟩
inductive qJa (vs:List V)(H:Hp)(Q:VK)(_:XK):Prop
| mk (z:Addr) (ms:List Im) (t:Int) (_:vs=[.ref z,.int t]) (_:Tr H z ms) (_:Q (.str (qOo ms t)) H)
theorem qJj (T:Tx K mg a):FnOk P w K mg base CX0 1 a.A87 a.B87 ["_law_track_here","_law_moment"] qJa:=by
 refine T.D87.F.ok xN (fun vs H Q E h=>?_) (fun cdv A outer s H vs Q E hr h=>?_)
 · obtain⟨z,ms,t,rfl,_⟩:=h
   rfl
 refine qL fun _ Y=>?_
 obtain⟨z,ms,t,rfl,⟨us,hz,his⟩,kk⟩:=h
 apply Y
 refine⟨_,(qB (qU 2 xN.nd qG)
  (qB (qU 3 xN.nd z7)
  (qB (j2 PassesOwn.never rfl (jX (pv 0)) (qt (i:=4) xN.nd rfl (Or.inl rfl)) (qE (qd (qJ jU (qI (pv 4)) qR (qN _)) (qE (qd (qEq (PW.pt (jZ (qJ zo (qP jJ (pv 2) (qP qj (qI (pv 4)) qG)) (pv 1) (qN _)) (jZ (qJ zo (pv 1) (qP jJ (qP qo (pv 2) (qI (pv 4))) (qP qj (qI (pv 4)) qG)) (qN _)) (jM (qJ xo (pv 1) (pv 2) (qN _))))))) (qE (qM qR)) qQ)) (qB (qd (qEq (PW.pt (jZ (qJ zo (pv 2) (pv 1) (qN _)) (jZ (qJ zo (pv 1) (qP qo (pv 2) (qv wg (pv 4) (ka xK qG) (fun _ _=>rfl))) (qN _)) (jM (qJ xo (qI (pv 4)) qR (qN _))))))) (qE (qU 3 xN.nd z7)) qQ)
  (qE (qU 2 xN.nd (qP qo (pv 2) (qv wg (pv 4) (ka xK qG) (fun _ _=>rfl)))))))))
  (qB (qd (j4 (pv 3)) (qE (qM qR)) qQ)
  (qE (qM qR)))))),?_⟩
 try dsimp only [je,qg]
 refine⟨_,rfl,z,rfl,⟨_,SqL.of hz⟩,jy (K:=K) (a:=z) (xs:=us) (fun i σ H'=>H=H'∧∃ (b:Int) (ib:Bool) (o1:Option V),σ=[some (.ref z),some (.int t),some (.int b),some (.bl ib),o1]∧mxB t b (ms.drop i)=mxB t 0 ms∧(ib || insB t b (ms.drop i))=insB t 0 ms) ⟨rfl,0,false,none,rfl,rfl,rfl⟩ ?_ ?_ ?_⟩
 · rintro i σ H' hi' ⟨rfl,_⟩
   exact SqL.of hz
 · rintro i x σ H' hx ⟨rfl,b,ib,o1,rfl,hmx,hin⟩
   refine qL fun _ Y=>?_
   obtain⟨m,hm,hI⟩:=his.get hx
   obtain⟨zi,xi,rfl,hzi,b0,bl⟩:=hI.opn
   apply Y
   rw [jW hm] at hmx hin
   refine⟨_,rfl,zi,xi,_,_,rfl,rfl,SqT.of hzi,b0,rfl,_,rfl,jf (fun c=>?_) (fun c=>?_)⟩
   · have hmw:m.wd="mix":=qU7 c
     rw [mxB,if_pos hmw] at hmx
     rw [insB,if_pos hmw] at hin
     refine qL fun _ Y=>?_
     obtain⟨l,rfl⟩:=qz hmw
     obtain⟨zi',ez,hzi'⟩:=id hI
     cases ez
     apply Y
     have el:(Im.mix l).l=l:=rfl
     rw [el] at hmx
     refine⟨fun bb H'=>H=H'∧(bb=true↔(b - l.fdiv 2 < t∧t < b+l - l.fdiv 2∧¬ t=b)),?_,?_⟩
     · refine⟨_,rfl,ixO hzi' at1 ⟨_,_,rfl,rfl,cdB (by decide) (by decide),_,_,rfl,rfl,_,rfl,_,_,rfl,rfl,_,rfl,jf (fun c1=>?_) (fun c1=>⟨rfl,?_⟩)⟩⟩
       · have n1:b - l.fdiv 2 < t:=by simpa using c1
         refine⟨_,rfl,_,rfl,ixO hzi' at1 ⟨_,_,rfl,rfl,ixO hzi' at1 ⟨_,_,rfl,rfl,cdB (by decide) (by decide),_,_,rfl,rfl,_,_,rfl,rfl,_,rfl,jf (fun c2=>?_) (fun c2=>⟨rfl,?_⟩)⟩⟩⟩
         · have n2:t < b+l - l.fdiv 2:=by simpa using c2
           refine⟨_,rfl,_,rfl,rfl,_,rfl,rfl,?_⟩
           constructor
           · intro q
             refine⟨n1,n2,fun e=>?_⟩
             rw [e] at q
             simp at q
           · rintro ⟨_,_,q⟩
             simp [q]
         · have n2:¬ t < b+l - l.fdiv 2:=by simpa using c2
           exact⟨(fun h=>by cases h),fun h=>absurd h.2.1 n2⟩
       · have n1:¬ b - l.fdiv 2 < t:=by simpa using c1
         exact⟨(fun h=>by cases h),fun h=>absurd h.1 n1⟩
     rintro bb H' ⟨rfl,hb⟩
     cases bb with
     | true=>
      refine qL fun _ Y=>?_
      obtain⟨h1,h2,h3⟩:=hb.mp rfl
      apply Y
      have h4:mxB t 0 ms=true:=by
       rw [← hmx,decide_eq_true h1,decide_eq_true h2,decide_eq_false h3]
       rfl
      unfold qOo at kk
      rw [if_pos h4] at kk
      exact xE kk
     | false=>
      refine jQ ⟨rfl,b,ib,_,rfl,?_,hin⟩
      rw [← hmx]
      have:(decide (b - l.fdiv 2 < t) && (decide (t < b+l - l.fdiv 2) && !decide (t=b)))=false:=by
       rw [Bool.eq_false_iff]
       intro q
       simp only [Bool.and_eq_true,decide_eq_true_eq,Bool.not_eq_true',decide_eq_false_iff_not] at q
       exact Bool.false_ne_true (hb.mpr q)
      rw [this,Bool.false_or]
   · have hmw:m.wd≠"mix":=fun e=>c (by rw [e];exact decide_eq_true rfl)
     rw [mxB,if_neg hmw] at hmx
     rw [insB,if_neg hmw] at hin
     have eml:=qL7 hmw
     refine⟨fun bb H'=>H=H'∧(bb=true↔(b < t∧t < b+m.mo∧¬ m.wd="gap")),?_,?_⟩
     · refine⟨_,rfl,_,rfl,_,_,rfl,rfl,_,rfl,jf (fun c1=>?_) (fun c1=>⟨rfl,?_⟩)⟩
       · have n1:b < t:=by simpa using c1
         refine⟨_,rfl,_,rfl,_,rfl,1,rfl,zi,xi,_,_,rfl,rfl,SqT.of hzi,bl,_,_,rfl,rfl,_,_,rfl,rfl,_,rfl,jf (fun c2=>?_) (fun c2=>⟨rfl,?_⟩)⟩
         · have n2:t < b+m.l:=by simpa using c2
           refine⟨_,rfl,zi,xi,_,_,rfl,rfl,SqT.of hzi,b0,rfl,_,rfl,rfl,?_⟩
           rw [qD5,eml]
           constructor
           · intro q
             exact⟨n1,n2,by simpa using q⟩
           · rintro ⟨_,_,q⟩
             simpa using q
         · have n2:¬ t < b+m.l:=by simpa using c2
           rw [eml]
           exact⟨(fun h=>by cases h),fun h=>absurd h.2.1 n2⟩
       · have n1:¬ b < t:=by simpa using c1
         exact⟨(fun h=>by cases h),fun h=>absurd h.1 n1⟩
     rintro bb H' ⟨rfl,hb⟩
     cases bb with
     | true=>
      refine qL fun _ Y=>?_
      obtain⟨h1,h2,h3⟩:=hb.mp rfl
      apply Y
      refine xE ⟨_,rfl,_,rfl,1,rfl,zi,xi,_,_,rfl,rfl,SqT.of hzi,bl,_,_,rfl,rfl,rfl,_,true,_,rfl,?_,?_⟩
      · rw [← eml];exact hmx
      · rw [← hin,decide_eq_true h1,decide_eq_true h2,decide_eq_false h3]
        simp
     | false=>
      refine jQ ⟨_,rfl,_,rfl,1,rfl,zi,xi,_,_,rfl,rfl,SqT.of hzi,bl,_,_,rfl,rfl,rfl,_,ib,_,rfl,?_,?_⟩
      · rw [← eml];exact hmx
      · rw [← hin,← eml]
        have:(decide (b < t) && (decide (t < b+m.mo) && !decide (m.wd="gap")))=false:=by
         rw [Bool.eq_false_iff]
         intro q
         simp only [Bool.and_eq_true,decide_eq_true_eq,Bool.not_eq_true',decide_eq_false_iff_not] at q
         exact Bool.false_ne_true (hb.mpr q)
        rw [this,Bool.false_or]
 · rintro σ H' ⟨rfl,b,ib,o1,rfl,hmx,hin⟩
   rw [his.len,List.drop_length] at hmx hin
   have h1:¬ mxB t 0 ms=true:=by rw [← hmx];exact Bool.false_ne_true
   have h2:insB t 0 ms=ib:=by rw [← hin];cases ib <;> rfl
   unfold qOo at kk
   rw [if_neg h1,h2] at kk
   cases ib with
   | true=>exact⟨_,rfl,_,rfl,xE kk⟩
   | false=>exact⟨_,rfl,_,rfl,jQ kk⟩
theorem qNf {p q r s l p' q':Int}(hq:0 < q)(hs:0 < s)(hq':0 < q')(g:Int.gcd p' q'=1):((p*s+l*r*q)*q'=p'*q*s)↔(p'=plP p q r s l∧q'=plQ p q r s l):=by
 have hb:q*s≠0:=Int.ne_of_gt (Int.mul_pos hq hs)
 constructor
 · intro h
   have c:p'*(q*s)=(p*s+l*r*q)*q':=by rw [h,Int.mul_assoc]
   obtain⟨e1,e2⟩:=qEs hb hq' g c
   exact⟨e1.symm,e2.symm⟩
 · rintro ⟨rfl,rfl⟩
   rw [← qGn p q r s l,Int.mul_assoc]
def PrO (m m':Im):Prop:=(∃ n p q r s l n' p' q' r' s' l',m= .clip n p q r s l∧m'= .clip n' p' q' r' s' l'∧Bn 110 p q r s∧Bn 110 p' q' r' s'∧l.natAbs < 2 ^ 30∧Int.gcd p' q'=1)∨∃ n b l n' b' l',m= .nest n b l∧m'= .nest n' b' l'
theorem qSg {x0 x1 x2 x3 x4:V}:atI [x0,x1,x2,x3,x4] (-1)=some x4:=rfl
inductive qCl (vs:List V)(H:Hp)(Q:VK)(_:XK):Prop
| mk (v u:V) (m m':Im) (_:vs=[v,u]) (_:IsI H m v) (_:IsI H m' u) (_:PrO m m') (_:Q (.bl (wG m m')) H)
theorem vL (T:Tx K mg a):FnOk P w K mg base CX0 1 a.A88 a.B88 ["_law_one","_law_item"] qCl:=by
 refine T.D88.F.ok vO (fun vs H Q E h=>?_) (fun cdv A outer s H vs Q E hr h=>?_)
 · obtain⟨v,u,m,m',rfl,_⟩:=h
   rfl
 refine qL fun _ Y=>?_
 obtain⟨v,u,m,m',rfl,hI,hI',hO,kk⟩:=h
 apply Y
 have hu:=hr.units0
 refine⟨_,(qB (qd (qJ jU (qI (pv 1)) qR (qN _)) (qE (qM (vk (jp jU (qI (pv 0)) (qI (pv 1)) (qN _)) (qBc (jp jU (qP qo (qI (pv 0)) (qI (pv 0))) (qI (pv 1)) (qN _)))))) qQ)
  (qB (qd (PW.pt (z6 (qJ xo (qI (pv 0)) (qI (pv 1)) (qN _)) (xk (qJ (qQb hu) (qI (pv 0)) (qI (pv 1)) (qN _))))) (qE (qM z7)) qQ)
  (qB (qU 2 vO.nd (qP qo (qP qr (qI (qI (pv 0))) (qI (qI (pv 0)))) (qP qr (qP qr (qv wg (pv 0) (ka xK qG) (fun _ _=>rfl)) (qI (qI (pv 0)))) (qI (qI (pv 0))))))
  (qE (qM (jp jU (qP qr (pv 2) (qI (qI (pv 1)))) (qP qr (qP qr (qI (qI (pv 1))) (qI (qI (pv 0)))) (qI (qI (pv 0)))) (qN _))))))),?_⟩
 try dsimp only [je,qg]
 rcases hO with ⟨n,p,q,r,s1,l,n',p',q',r',s2,l',rfl,rfl,hb,hb',bl,hg⟩ | ⟨n,b,l,n',b',l',rfl,rfl⟩
 · obtain⟨z,x,y,rfl,hz,hx,hy⟩:=id hI
   refine qL fun _ Y=>?_
   obtain⟨z',x',y',rfl,hz',hx',hy'⟩:=id hI'
   apply Y
   have h0:=SqT.of (K:=K) hz
   have h1:=SqT.of (K:=K) hx
   have h2:=SqT.of (K:=K) hy
   have d0:=SqT.of (K:=K) hz'
   have d1:=SqT.of (K:=K) hx'
   have d2:=SqT.of (K:=K) hy'
   refine⟨_,rfl,z',_,_,_,rfl,rfl,d0,qT6,rfl,_,rfl,xn (by show decide (V.str "clip"=V.str "nest")=false;rw [qD5];decide+kernel) ?_⟩
   refine(zA rfl h0 qD8 ⟨_,rfl,z',_,_,_,rfl,rfl,d0,qD8,rfl,_,rfl,?_⟩)
   by_cases en:n=n'
   rotate_left
   · have e:(!decide (V.str n=V.str n'))=true:=by simp [en]
     rw [e]
     refine xE (xE ?_)
     have g:wG (.clip n p q r s1 l) (.clip n' p' q' r' s2 l')=false:=by
      show goB n n' p q r s1 l p' q' r' s2=false
      simp [goB,en]
     rw [g] at kk
     exact kk
   have e:(!decide (V.str n=V.str n'))=false:=by simp [en]
   rw [e]
   refine jQ ?_
   refine(zA rfl h0 qB5 ⟨_,rfl,z',_,_,_,rfl,rfl,d0,qB5,_,_,_,_,rfl,rfl,h2,d2,rfl,rfl,_,rfl,?_⟩)
   rw [eq2]
   by_cases er:(r == r' && s1 == s2)=true
   rotate_left
   · have er':(r == r' && s1 == s2)=false:=by simpa using er
     rw [er']
     refine xE ?_
     have g:wG (.clip n p q r s1 l) (.clip n' p' q' r' s2 l')=false:=by
      show goB n n' p q r s1 l p' q' r' s2=false
      unfold goB;rw [er'];simp
     rw [g] at kk
     exact kk
   rw [er]
   refine jQ ?_
   have S:∀ {i:Int},i.natAbs < 2 ^ 700→Sm i:=fun h=>kf h
   have B1:=hb.mono (m:=700)
   have B2:=hb'.mono (m:=700)
   have bl7:l.natAbs < 2 ^ 700:=kf bl
   have ps:(p*s1).natAbs < 2 ^ 220:=jI hb.bp hb.bs
   have lr:(l*r).natAbs < 2 ^ 140:=jI bl hb.br
   have lrq:(l*r*q).natAbs < 2 ^ 250:=jI lr hb.bq
   have tp:(p*s1+l*r*q).natAbs < 2 ^ 700:=by
    have t:=Int.natAbs_add_le (p*s1) (l*r*q)
    have e:2 ^ 220+2 ^ 250 < 2 ^ 700:=by decide
    omega
   have pq:(p'*q).natAbs < 2 ^ 220:=jI hb'.bp hb.bq
   refine(zA rfl h0 qJ1 (ixT h1 at0 (zA rfl h0 qB5 (ixT h2 at1 ⟨_,_,rfl,rfl,(S B1.bp).mul (S B1.bs),?_⟩))))
   refine⟨_,rfl,1,rfl,z,_,_,_,rfl,rfl,h0,qSg,zA rfl h0 qB5 (ixT h2 at0 ⟨_,_,rfl,rfl,(S bl7).mul (S B1.br),zA rfl h0 qJ1 (ixT h1 at1 ⟨_,_,rfl,rfl,(S (kf lr)).mul (S B1.bq),_,_,rfl,rfl,?_⟩)⟩)⟩
   refine⟨_,rfl,_,rfl,z',_,_,_,rfl,rfl,d0,qJ1,x',_,_,_,rfl,rfl,d1,at1,_,_,rfl,rfl,(S tp).mul (S B2.bq),?_⟩
   refine⟨_,rfl,z',_,_,_,rfl,rfl,d0,qJ1,x',_,_,_,rfl,rfl,d1,at0,zA rfl h0 qJ1 (ixT h1 at1 ⟨_,_,rfl,rfl,(S B2.bp).mul (S B1.bq),zA rfl h0 qB5 (ixT h2 at1 ⟨_,_,rfl,rfl,(S (kf pq)).mul (S B1.bs),rfl,?_⟩)⟩)⟩
   have g:wG (.clip n p q r s1 l) (.clip n' p' q' r' s2 l')=decide (V.int ((p*s1+l*r*q)*q')=V.int (p'*q*s1)):=by
    show goB n n' p q r s1 l p' q' r' s2=_
    unfold goB
    rw [er,decide_eq_true en,Bool.true_and,Bool.true_and,Bool.eq_iff_iff]
    simp only [Bool.and_eq_true,beq_iff_eq,decide_eq_true_eq,V.int.injEq]
    exact(qNf hb.q0 hb.s0 hb'.q0 hg).symm
   rw [g] at kk
   exact kk
 · obtain⟨z,rfl,hz⟩:=id hI
   refine qL fun _ Y=>?_
   obtain⟨z',rfl,hz'⟩:=id hI'
   apply Y
   have h0:=SqT.of (K:=K) hz
   have d0:=SqT.of (K:=K) hz'
   have w0:atI [V.str "nest",.str n',.int b',.int l'] 0=some (.str "nest"):=rfl
   have w1:∀ (m:Str) (c k:Int),atI [V.str "nest",.str m,.int c,.int k] 1=some (.str m):=fun _ _ _=>rfl
   have w2:∀ (m:Str) (c k:Int),atI [V.str "nest",.str m,.int c,.int k] 2=some (.int c):=fun _ _ _=>rfl
   have w3:∀ (m:Str) (c k:Int),atI [V.str "nest",.str m,.int c,.int k] 3=some (.int k):=fun _ _ _=>rfl
   have kk':Q (.bl (decide (n=n') && decide (b'=b+l))) H:=kk
   refine⟨_,rfl,z',_,_,_,rfl,rfl,d0,w0,rfl,_,rfl,vD (decide_eq_true rfl) ?_⟩
   refine⟨_,rfl,z,_,_,_,rfl,rfl,h0,w1 _ _ _,_,rfl,z',_,_,_,rfl,rfl,d0,w1 _ _ _,rfl,_,rfl,?_⟩
   rw [qD5]
   by_cases en:n=n'
   · rw [decide_eq_true en] at kk' ⊢
     refine xE ⟨_,rfl,z,_,_,_,rfl,rfl,h0,w2 _ _ _,_,rfl,z,_,_,_,rfl,rfl,h0,w3 _ _ _,_,_,rfl,rfl,_,rfl,z',_,_,_,rfl,rfl,d0,w2 _ _ _,rfl,?_⟩
     have g:decide (V.int (b+l)=V.int b')=decide (b'=b+l):=by
      rw [Bool.eq_iff_iff]
      simp only [decide_eq_true_eq,V.int.injEq]
      exact eq_comm
     rw [g]
     exact kk'
   · rw [decide_eq_false en] at kk' ⊢
     exact jQ kk'
theorem qOg {ms:List Im}{k:Nat}{m:Im}(hn:Nn ms)(hk:ms[k+1]? =some m)(hp:0 < m.mo):nbF ms (vj ms (k+1))=some (if jh ms (k:Int)="mix" then (k:Int) - 1 else (k:Int),((k+1:Nat):Int)):=by
 have hl:k+1 < ms.length:=(glt hk)
 have e:ms.take (k+1)++m::ms.drop (k+2)=ms:=by rw [← jW hk,List.take_append_drop]
 have hi:=vT (ms.take (k+1)) 0 0 m (ms.drop (k+2)) 0 (fun x hx=>hn x (List.mem_of_mem_take hx)) (Int.le_refl 0) hp
 rw [e,List.length_take,Nat.min_eq_left (by omega),Nat.zero_add] at hi
 have et:0+qp (ms.take (k+1))+0=vj ms (k+1):=by show 0+vj ms (k+1)+0=_;omega
 rw [et] at hi
 have ek:((k+1:Nat):Int) - 1=(k:Int):=by omega
 have ek2:((k+1:Nat):Int) - 2=(k:Int) - 1:=by omega
 unfold nbF
 rw [hi]
 dsimp only
 rw [if_neg (by omega),ek,ek2]
theorem qQj {ms:List Im}{k:Nat}{m x:Im}(hn:Nn ms)(hk:ms[k+1]? =some m)(hp:0 < m.mo)(hx:ms[k]? =some x)(hm:x.wd≠"mix"):hdS ms (vj ms (k+1))=if wG x m=true then ("good":Str) else "noplace":=by
 have kd:jh ms (k:Int)=x.wd:=j3 hx rfl
 unfold hdS
 rw [qOg hn hk hp,kd,if_neg hm]
 dsimp only
 rw [Int.toNat_natCast,Int.toNat_natCast,hx,hk]
 dsimp only
 have e:((k+1:Nat):Int)=(k:Int)+1:=by omega
 rw [if_pos e]
theorem qSs {ms:List Im}{k:Nat}{m x:Im}{l:Int}(hn:Nn ms)(hk:ms[k+2]? =some m)(hp:0 < m.mo)(hl:ms[k+1]? =some (.mix l))(hx:ms[k]? =some x):hdS ms (vj ms (k+2))=if wG x m=true then ("mixed":Str) else "noplace":=by
 have kd:jh ms ((k+1:Nat):Int)="mix":=j3 hl rfl
 have hb:=qOg hn (k:=k+1) hk hp
 rw [kd,if_pos rfl] at hb
 unfold hdS
 have e:vj ms (k+2)=vj ms (k+1+1):=rfl
 rw [e,hb]
 dsimp only
 have e1:(((k+1:Nat):Int) - 1).toNat=k:=by omega
 have e2:(((k+1+1:Nat):Int)).toNat=k+2:=by omega
 rw [e1,e2,hx,hk]
 dsimp only
 have hne:¬ ((k+1+1:Nat):Int)=((k+1:Nat):Int) - 1+1:=by omega
 rw [if_neg hne]
def ChI (m:Im):Prop:=Wf m∧∀ n p q r s l,m= .clip n p q r s l→Bn 110 p q r s∧l.natAbs < 2 ^ 30
theorem ChI.pr {m m':Im}(h:ChI m)(h':ChI m')(e:m.wd=m'.wd)(hk:m'.wd="clip"∨m'.wd="nest"):PrO m m':=by
 rcases hk with hk | hk
 · obtain⟨n,p,q,r,s,l,rfl⟩:=wC (e.trans hk)
   obtain⟨n',p',q',r',s',l',rfl⟩:=wC hk
   exact .inl ⟨n,p,q,r,s,l,n',p',q',r',s',l',rfl,rfl,(h.2 _ _ _ _ _ _ rfl).1,(h'.2 _ _ _ _ _ _ rfl).1,(h.2 _ _ _ _ _ _ rfl).2,h'.1.2.2.1⟩
 · obtain⟨n,b,l,rfl⟩:=qDo (e.trans hk)
   obtain⟨n',b',l',rfl⟩:=qDo hk
   exact .inr ⟨n,b,l,n',b',l',rfl,rfl⟩
theorem qNn {m m':Im}(h:wG m m'=true):m.wd=m'.wd∧(m'.wd="clip"∨m'.wd="nest"):=by
 rcases zw h with ⟨n,p,q,r,s,l,n',p',q',r',s',l',rfl,rfl⟩ | ⟨n,b,l,n',b',l',rfl,rfl⟩
 · exact⟨rfl,.inl rfl⟩
 · exact⟨rfl,.inr rfl⟩
inductive qBk (vs:List V)(H:Hp)(Q:VK)(_:XK):Prop
| mk (z:Addr) (ms:List Im) (t:Int) (_:vs=[.ref z,.int t]) (_:Tr H z ms) (_:ms.length≤300) (_:MO none ms) (_:(∀ m∈ms,ChI m)) (_:∀ H',Same H H'→Q (.str (hdS ms t)) H')
theorem qBp (T:Tx K mg a):FnOk P w K mg base CX0 2 a.A89 a.B89 ["_law_track_here","_law_moment"] qBk:=by
 refine T.D89.F.ok jN (fun vs H Q E h=>?_) (fun cdv A outer s H vs Q E hr h=>?_)
 · obtain⟨z,ms,t,rfl,_⟩:=h
   rfl
 refine qL fun _ Y=>?_
 obtain⟨z,ms,t,rfl,⟨us,hz,his⟩,hl,hM,hC,kk⟩:=h
 apply Y
 refine⟨_,(qB (qU 2 jN.nd qG)
  (qB (j2 PassesOwn.never rfl (xF rfl T.b_range (qA (qi xA rfl T.b_len rfl (qA (pv 0) qC)) qC)) (qt (i:=3) jN.nd rfl (Or.inl rfl)) (qB (qU 4 jN.nd (qv qZ (pv 0) (pv 3) (fun _ _=>rfl)))
  (qB (vR (qd (PW.pt (jZ (qJ jU (pv 2) (pv 1) (qN _)) (jZ (qJ qF8 (pv 3) qG (qN _)) (jM (qJ xW (qI (pv 4)) (ql (qA qR (qA qR qC))) rfl))))) (qB (qU 5 jN.nd (qv qZ (pv 0) (qP jJ (pv 3) qG) (fun _ _=>rfl)))
  (qB (qd (PW.pt (jZ (qJ jU (qI (pv 5)) qR (qN _)) (jM (j4 (qK T.D88 (vL T) hr rfl (qA (qv qZ (pv 0) (qP jJ (pv 3) qG) (fun _ _=>rfl)) (qA (pv 4) qC))))))) (qE (qM qR)) qQ)
  (qE (qd (PW.pt (jZ (qJ jU (qI (pv 5)) (qI (pv 4)) (qN _)) (jM (j4 (qK T.D88 (vL T) hr rfl (qA (pv 5) (qA (pv 4) qC))))))) (qE (qM qR)) qQ)))) qQ))
  (qE (qd (qJ xo (qI (pv 4)) qR (qN _)) (qE (qU 2 jN.nd (qP qo (pv 2) (qv wg (pv 4) (ka xK qG) (fun _ _=>rfl))))) qQ)))))
  (qE (qM qR)))),?_⟩
 try dsimp only [je,qg]
 have hul:=his.len
 have hn:Nn ms:=fun m hm=>(hC m hm).1.mo
 refine⟨_,rfl,z,_,rfl,.inl (SqL.of hz),_,rfl,by omega,by omega,zE (n:=((us.length:Nat):Int).toNat) (fun k σ H'=>∃ o1 o2 o3:Option V,σ=[some (.ref z),some (.int t),some (.int (vj ms k)),o1,o2,o3]∧Same H H'∧∀ (k':Nat) (m:Im),k'+1 < k→ms[k'+1]? =some m→(m.wd="clip"∨m.wd="nest")→vj ms (k'+1)=t→hdS ms t="noplace") ⟨none,none,none,rfl,Same.refl _,fun k' m h=>absurd h (by omega)⟩ ?_ ?_⟩
 · rintro k σ H1 hk ⟨o1,o2,o3,rfl,e1,hno⟩
   have hk':k < ms.length:=by omega
   have hmk:ms[k]? =some ms[k]:=List.getElem?_eq_getElem hk'
   generalize ms[k]=m at hmk
   have hCm:=hC m (List.mem_of_getElem? hmk)
   refine qL fun _ Y=>?_
   obtain⟨v,hv,hI⟩:=his.get' hmk
   have hI1:=hI.ts (qc e1)
   obtain⟨zi,xi,rfl,hzi,b0,bl⟩:=hI1.opn
   apply Y
   have hz1:=e1 _ _ hz
   have hav:atI us (0+(k:Int))=some (.ref zi):=by rw [Int.zero_add];exact qX hv
   refine⟨_,rfl,_,rfl,z,_,_,_,rfl,rfl,SqL.of hz1,hav,?_⟩
   refine⟨fun σ' H'=>∃ o3:Option V,σ'=[some (.ref z),some (.int t),some (.int (vj ms k)),some (.int (0+(k:Int))),some (.ref zi),o3]∧Same H1 H'∧∀ (k':Nat),k=k'+1→(m.wd="clip"∨m.wd="nest")→vj ms (k'+1)=t→hdS ms t="noplace",?_,?_⟩
   · refine⟨_,rfl,_,rfl,rfl,_,rfl,jf (fun c1=>?_) (fun c1=>⟨o3,rfl,Same.refl _,fun k' ek _ hb=>?_⟩)⟩
     · have hb:vj ms k=t:=V.int.inj (of_decide_eq_true c1)
       refine⟨_,rfl,_,_,rfl,rfl,_,rfl,jf (fun c2=>?_) (fun c2=>⟨o3,rfl,Same.refl _,fun k' ek _ _=>?_⟩)⟩
       · have hk0:0 < 0+(k:Int):=by simpa using c2
         obtain⟨j,rfl⟩:∃ j,k=j+1:=⟨k - 1,by omega⟩
         refine⟨_,rfl,zi,xi,_,_,rfl,rfl,SqT.of hzi,b0,sL2,fun tp htp=>?_⟩
         have w2:=qF htp (.tup [.str "clip",.str "nest"])
         have k2:upd H1 tp (.tup [.str "clip",.str "nest"]) tp=some (.tup [.str "clip",.str "nest"]):=qD
         change _
         generalize upd H1 tp (.tup [.str "clip",.str "nest"])=H2 at w2 k2
         refine⟨tp,_,rfl,.inr (SqT.of k2),rfl,rfl,_,qCu qP8,?_⟩
         refine jf (fun c3=>?_) (fun c3=>⟨o3,rfl,w2,fun k' _ hw _=>?_⟩)
         · have hw:m.wd="clip"∨m.wd="nest":=by simpa using c3
           have hp:0 < m.mo:=by
            have:=hCm.1.pos (by rcases hw with e | e <;> rw [e] <;> decide+kernel)
            omega
           have hmj:ms[j]? =some ms[j]:=List.getElem?_eq_getElem (by omega)
           generalize ms[j]=x at hmj
           have hCx:=hC x (List.mem_of_getElem? hmj)
           have e12:=e1.trans w2
           have hz2:=e12 _ _ hz
           refine qL fun _ Y=>?_
           obtain⟨v',hv',hIx⟩:=his.get' hmj
           have hI2:=hIx.ts (qc e12)
           have hIm:=hI.ts (qc e12)
           obtain⟨zx,xx,rfl,hzx,x0,xl⟩:=hI2.opn
           apply Y
           have hax:atI us (0+((j+1:Nat):Int) - 1)=some (.ref zx):=by
            have e:0+((j+1:Nat):Int) - 1=(j:Int):=by omega
            rw [e];exact qX hv'
           refine⟨_,rfl,_,rfl,_,_,rfl,rfl,z,_,_,_,rfl,rfl,SqL.of hz2,hax,?_⟩
           have second:x.wd="mix"∨(x.wd≠"mix"∧hdS ms t=if wG x m=true then ("good":Str) else "noplace"):=by
            by_cases hxm:x.wd="mix"
            · exact .inl hxm
            · refine .inr ⟨hxm,?_⟩
              rw [← hb]
              exact qQj hn hmk hp hmj hxm
           refine⟨_,rfl,zx,xx,_,_,rfl,rfl,SqT.of hzx,x0,rfl,_,rfl,jf (fun c4=>?_) (fun c4=>?_)⟩
           · have hxm:x.wd="mix":=qU7 c4
             refine qL fun _ Y=>?_
             obtain⟨l,rfl⟩:=qz hxm
             have hok:=(hM.ok) j l hmj
             obtain⟨j1,⟨n,p,q,r,s1,kk1,ha⟩,n',p',q',r',s2,kk2,hb2⟩:=hok
             obtain⟨i,rfl⟩:∃ i,j=i+1:=⟨j - 1,by omega⟩
             have ha:ms[i]? =some (.clip n p q r s1 kk1):=ha
             rw [hmk] at hb2
             cases hb2
             obtain⟨v'',hv'',hIa⟩:=his.get' ha
             apply Y
             have haa:atI us (0+((i+1+1:Nat):Int) - 2)=some v'':=by
              have e:0+((i+1+1:Nat):Int) - 2=(i:Int):=by omega
              rw [e];exact qX hv''
             have hh:=qSs hn hmk hp hmj ha
             have hb':vj ms (i+2)=t:=hb
             rw [hb'] at hh
             refine⟨_,rfl,_,rfl,_,_,rfl,rfl,z,_,_,_,rfl,rfl,SqL.of hz2,haa,_,rfl,_,_,_,_,rfl,hIa.ts (qc e12),hIm,(hC _ (List.mem_of_getElem? ha)).pr hCm rfl (.inl rfl),_,rfl,?_⟩
             cases hc:wG (.clip n p q r s1 kk1) (.clip n' p' q' r' s2 kk2) with
             | true=>
              rw [hc,if_pos rfl] at hh
              rw [hh] at kk
              exact xE (kk _ e12)
             | false=>
              rw [hc,if_neg (by decide)] at hh
              refine jQ ?_
              refine⟨_,rfl,zx,xx,_,_,rfl,rfl,SqT.of hzx,x0,_,rfl,zi,xi,_,_,rfl,rfl,SqT.of (w2 _ _ hzi),b0,rfl,_,rfl,xn (by show decide (V.str "mix"=V.str "clip")=false;rw [qD5];decide+kernel) ?_⟩
              exact⟨_,rfl,w2,fun _ _ _ _=>hh⟩
           · have hxm:x.wd≠"mix":=qV2 c4
             have hh:hdS ms t=if wG x m=true then ("good":Str) else "noplace":=by
              rcases second with h | h
              · exact absurd h hxm
              · exact h.2
             refine⟨_,rfl,zx,xx,_,_,rfl,rfl,SqT.of hzx,x0,_,rfl,zi,xi,_,_,rfl,rfl,SqT.of (w2 _ _ hzi),b0,rfl,_,rfl,jf (fun c5=>?_) (fun c5=>⟨_,rfl,w2,fun _ _ _ _=>?_⟩)⟩
             · have hwd:x.wd=m.wd:=qU7 c5
               refine⟨_,rfl,_,rfl,_,_,x,m,rfl,hI2,hIm,hCx.pr hCm hwd hw,_,rfl,?_⟩
               cases hc:wG x m with
               | true=>
                rw [hc,if_pos rfl] at hh
                rw [hh] at kk
                exact xE (kk _ e12)
               | false=>
                rw [hc,if_neg (by decide)] at hh
                exact jQ ⟨_,rfl,w2,fun _ _ _ _=>hh⟩
             · have hwd:x.wd≠m.wd:=qV2 c5
               rw [if_neg (fun hc=>hwd (qNn hc).1)] at hh
               exact hh
         · exact absurd (by rcases hw with e | e <;> rw [e] <;> simp) c3
       · have:¬ 0 < 0+(k:Int):=by simpa using c2
         omega
     · subst ek
       exact absurd (by rw [hb];exact decide_eq_true rfl) c1
   rintro σ' H2 ⟨o3',rfl,e2,hnew⟩
   have hall:∀ (k':Nat) (m':Im),k'+1 < k+1→ms[k'+1]? =some m'→(m'.wd="clip"∨m'.wd="nest")→vj ms (k'+1)=t→hdS ms t="noplace":=fun k' m' h1 h2 h3 h4=>by
    by_cases h:k'+1 < k
    · exact hno k' m' h h2 h3 h4
    · have ek:k=k'+1:=by omega
      rw [← ek,hmk] at h2
      cases h2
      exact hnew k' ek h3 h4
   have hnx:=wl hmk
   refine⟨_,rfl,zi,xi,_,_,rfl,rfl,SqT.of (e2 _ _ hzi),b0,rfl,_,rfl,jf (fun c=>?_) (fun c=>?_)⟩
   · have hw:m.wd≠"mix":=fun e=>by rw [e] at c;simp at c
     refine⟨_,rfl,_,rfl,1,rfl,zi,xi,_,_,rfl,rfl,SqT.of (e2 _ _ hzi),bl,_,_,rfl,rfl,some (.int (0+(k:Int))),some (.ref zi),o3',?_,e1.trans e2,hall⟩
     rw [hnx,qL7 hw]
     rfl
   · have hw:m.wd="mix":=by
      by_cases e:m.wd="mix"
      · exact e
      · exact absurd (by rw [qD5];simpa using e) c
     obtain⟨l,rfl⟩:=qz hw
     refine⟨some (.int (0+(k:Int))),some (.ref zi),o3',?_,e1.trans e2,hall⟩
     have e0:(Im.mix l).mo=0:=rfl
     rw [hnx,e0,Int.add_zero]
 · rintro σ H1 ⟨o1,o2,o3,rfl,e1,hno⟩
   have hfin:hdS ms t="noplace":=by
    cases hb:nbF ms t with
    | none=>unfold hdS;rw [hb]
    | some r=>
     obtain⟨i,j⟩:=r
     have lst:∀ {A:List Im} {x y:Im} {B:List Im},ms=A++x::y::B→ms[A.length]? =some x∧ms[A.length+1]? =some y∧A.length+1 < ms.length∧vj ms (A.length+1)=qp A+x.mo:=fun {A x y B} e=>by
      have h1:ms[A.length]? =some x:=by rw [e];exact zK _ _ _
      refine⟨h1,?_,?_,?_⟩
      · have:=zK (A++[x]) y B
        rw [List.length_append,List.length_singleton] at this
        have e':A++x::y::B=(A++[x])++y::B:=by simp
        rw [e,e'];exact this
      · rw [e,List.length_append]
        show A.length+1 < A.length+(B.length+1+1)
        omega
      · rw [wl h1]
        have:vj ms A.length=qp A:=by
         unfold vj
         rw [e,List.take_left']
         · rfl
         · rfl
        rw [this]
     rcases qRs hb with ⟨A,x,y,B,e,_,_,ht,hx,hy⟩ | ⟨A,l,y,B,e,_,_,ht,hy⟩
     · obtain⟨h1,h2,h3,h4⟩:=lst e
       have hbt:vj ms (A.length+1)=t:=by omega
       by_cases hw:y.wd="clip"∨y.wd="nest"
       · exact hno A.length y (by omega) h2 hw hbt
       · rw [← hbt,qQj hn h2 hy h1 hx,if_neg (fun hc=>hw (qNn hc).2)]
     · obtain⟨h1,h2,h3,h4⟩:=lst e
       obtain⟨X,n,p,q,r,s1,k1,n',p',q',r',s2,k2,Y,_,e5⟩:=wj hM (show ms=A++ .mix l::(y::B) from e)
       have ey:y= .clip n' p' q' r' s2 k2:=(List.cons.inj e5).1
       have e0:(Im.mix l).mo=0:=rfl
       exact hno A.length y (by omega) h2 (by rw [ey];exact .inl rfl) (by omega)
   rw [hfin] at kk
   exact kk H1 e1
structure TrP (A:Int)(N:Nat)(ms:List Im):Prop where
 len:ms.length≤N
 it:∀ m∈ms,PT A m
 gd:GdT A ms
 tot:qp ms≤300
structure TbP (A:Int)(N:Nat)(ts:List (List Im))(tie:List Int):Prop where
 l3:ts.length=3
 ms:∀ ms∈ts,TrP A N ms
 tl:tie.length≤3
 tin:∀ x∈tie,∃ k:Nat,x=(k:Int)∧k < 3
theorem TrP.wf {A:Int}{N:Nat}{ms:List Im}(h:TrP A N ms):∀ m∈ms,Wf m:=fun m hm=>(h.it m hm).g.wf
theorem TrP.nn {A:Int}{N:Nat}{ms:List Im}(h:TrP A N ms):Nn ms:=fun m hm=>(h.wf m hm).mo
theorem TrP.mono {A:Int}{N M:Nat}{ms:List Im}(h:TrP A N ms)(hl:N≤M):TrP A M ms:=⟨by have:=h.len;omega,h.it,h.gd,h.tot⟩
theorem TbP.tabD {A:Int}{N:Nat}{H:Hp}{tz re:Addr}{ts:List (List Im)}{tie:List Int}(h:TbP A N ts tie)(hN:N≤40)(ht:TabF H (.ref tz) ts tie)(hr:RE H re A):TabD H tz re (rlE A) ts tie:=by
 refine⟨ht,fun ms hm=>?_,by have:=h.l3;omega,by have:=h.tl;omega,fun x hx=>?_,hr.at⟩
 · have q:=h.ms ms hm
   have:=q.len
   exact⟨⟨fun m hm'=>⟨(q.it m hm').g.ib,(q.wf m hm').mo⟩,by omega⟩,by omega,fun m hm'=>(q.it m hm').g.it⟩
 · obtain⟨k,e,hk⟩:=h.tin x hx
   exact⟨k,e,by rw [h.l3];exact hk⟩
theorem TbP.set {A:Int}{N M:Nat}{ts:List (List Im)}{tie:List Int}{ms:List Im}(h:TbP A N ts tie)(i:Nat)(hl:N≤M)(hm:TrP A M ms):TbP A M (ts.set i ms) tie:=by
 refine⟨by rw [List.length_set];exact h.l3,fun x hx=>?_,h.tl,h.tin⟩
 rcases List.mem_or_eq_of_mem_set hx with h' | h'
 · exact(h.ms x h').mono hl
 · subst h';exact hm
theorem qQf (tie:List Int)(n:Int):chF tie n false=[n]:=by
 unfold chF
 rw [if_neg (fun h=>Bool.false_ne_true h.1)]
theorem qNm {ts:List (List Im)}{tie:List Int}{n:Nat}{ms:List Im}{lo hi:Int}(hm:ts[n]? =some ms):jw ts (chF tie (n:Int) false) lo hi=jl ms lo hi:=by
 rw [qQf]
 unfold jw
 simp only [List.any_cons,List.any_nil,Bool.or_false]
 rw [Int.toNat_natCast,List.getD_eq_getElem?_getD,hm]
 rfl
theorem qSe {ts:List (List Im)}{tie:List Int}{n:Nat}{ms:List Im}{t:Int}(hm:ts[n]? =some ms):qL4 ts (.cut t) (n:Int) (chF tie (n:Int) false)=ts.set n (qEw ms t t []):=by
 rw [qQf]
 show ts.set ((n:Int)).toNat (qEw (ts.getD ((n:Int)).toNat []) t t (qD2 (.cut t) (n:Int) (n:Int)))=_
 rw [Int.toNat_natCast,List.getD_eq_getElem?_getD,hm]
 unfold qD2
 rw [if_pos rfl]
 rfl
def qP5 (ts:List (List Im))(n:Nat)(ms:List Im)(t:Int):Res:=if qOo ms t="good" then .good (ts.set n (qEw ms t t [])) else if qOo ms t="mixed" then .mixed else .place
theorem qP4 {A:Int}{N:Nat}{H:Hp}{re dz:Addr}{ts:List (List Im)}{tie:List Int}{n:Nat}{ms:List Im}{t:Int}(hm:ts[n]? =some ms)(hT:TrP A N ms)(hd:H dz=some (.tup [.str "cut",.int (n:Int),.int t]))(h0:0≤t)(h1:t≤1000000):DdX K H re dz (rlE A) ts tie (qP5 ts n ms t):=by
 have b4:t≤2 ^ 400:=by
  have e:(1000000:Int) < 2 ^ 400:=by decide
  generalize (2:Int) ^ 400=B at e ⊢
  omega
 have ok:j7 ms t=true→DdX K H re dz (rlE A) ts tie (if jl ms t t=true then .mixed else .good (ts.set n (qEw ms t t []))):=fun hw=>by
  have hO:DOk H re ms (.cut t):=⟨h0,b4,hw⟩
  have hDa:DAt H dz (n:Int) (.cut t):=hd
  have hnb:qGs "cut" t none=true:=by unfold qGs;rw [if_neg (by decide+kernel),if_neg (by decide+kernel)]
  have hNc:qUb H [V.str "cut",.int (n:Int),.int t] "cut" t none:=⟨rfl,rfl,fun z=>absurd z (by decide+kernel)⟩
  have htn:jw ts (chF tie (n:Int) false) t t=jl ms t t:=qNm hm
  cases htb:jl ms t t with
  | true=>
   rw [if_pos rfl]
   exact .chg0 (c:=1) (o:=none) hd (.inl rfl) rfl hNc hm h0 hnb (.ok hDa hO (by show 1=if jw ts (chF tie (n:Int) false) t t=true then 1 else 2;rw [htn,htb];rfl)) (by decide)
  | false=>
   rw [if_neg (by decide),← qSe (tie:=tie) hm]
   exact .chg (o:=none) hd (.inl rfl) rfl hNc hm h0 hnb hDa hO (by show jw ts (chF tie (n:Int) false) t t=false;rw [htn,htb])
 unfold qP5
 rcases qIm (t:=t) hT.wf hT.gd.mo hT.gd.fs with ⟨e,hw,ht⟩ | ⟨e,hw,ht⟩ | ⟨e,hw⟩
 · have:=ok hw
   rw [ht,if_pos rfl] at this
   rw [e,if_neg (by decide+kernel),if_pos rfl]
   exact this
 · have:=ok hw
   rw [ht,if_neg (by decide)] at this
   rw [e,if_pos rfl]
   exact this
 · rw [e,if_neg (by decide+kernel),if_neg (by decide+kernel)]
   exact .chg0 (c:=0) (o:=none) hd (.inl rfl) rfl ⟨rfl,rfl,fun z=>absurd z (by decide+kernel)⟩ hm h0 (by unfold qGs;rw [if_neg (by decide+kernel),if_neg (by decide+kernel)]) (.cut0 hd hw) (by decide)
theorem qF5 {A:Int}{N:Nat}{H:Hp}{re dz:Addr}{ts:List (List Im)}{tie:List Int}{n:Nat}{ms:List Im}{t:Int}{r:Res}(hm:ts[n]? =some ms)(hT:TrP A N ms)(hd:H dz=some (.tup [.str "heal",.int (n:Int),.int t]))(h0:0≤t)
 (hr:r=match kc ms t with | none=>.place | some ms'=>if jl ms t t=true then .mixed else .good (ts.set n ms')):DdX K H re dz (rlE A) ts tie r:=by
 refine .heal hd hm h0 (fun m hm=>(hT.it m hm).g.ih) (fun i j h=>qTc hT.gd.mo h) ?_
 rw [qNm hm]
 exact hr
structure CutG (A:Int)(N:Nat)(ms X:List Im)(t:Int):Prop where
 tr:TrP A (N+1) X
 heal:kc X t=some ms
 nt:jl X t t=false
 tell:∀ f n,wq f X n=wq f ms n
 bord:∃ U Y,qh 0 ms=U++Y∧qh 0 X=U++t::Y
 len:qp X=qp ms
 nb:∃ i:Nat,nbF X t=some ((i:Int),((i+1:Nat):Int))
theorem qK0 {A:Int}{N:Nat}{ms:List Im}{t:Int}(hT:TrP A N ms)(h0:0≤t)(hw:j7 ms t=true)(ht:jl ms t t=false):CutG A N ms (qEw ms t t []) t:=by
 have hR:Rel ms t t []:=⟨hT.wf,hT.gd.mo,h0,Int.le_refl _,ht,(fun _ h=>by cases h),(fun _ h=>by cases h)⟩
 obtain⟨B1,m,B2,d,hW⟩:=(zt hT.nn).mp hw
 have eX:=qRt hR hW hT.gd.os
 obtain⟨g1,g2,g3,_,_⟩:=hR.good (qV7 (rlE A)) hT.gd.fs
 rw [eX] at g1 g2 g3 ⊢
 have hm:m∈ms:=by rw [hW.eq];simp
 have hPm:=hT.it m hm
 have d0:=hW.d0
 have d1:=hW.d1
 have hB1:Nn B1:=fun x hx=>hT.nn x (by rw [hW.eq];simp [hx])
 have eq:=hW.eq
 have et:=hW.t
 have hlen:qp (vh B1 m B2 d)=qp ms:=by rw [qLv,eq]
 refine⟨⟨?_,fun x hx=>?_,⟨g3,g1,g2⟩,by rw [hlen];exact hT.tot⟩,?_,?_,fun f n=>?_,?_,hlen,⟨B1.length,by rw [et];exact qQh hB1 d0 d1⟩⟩
 · have:=hT.len
   rw [eq] at this
   unfold vh
   simp only [List.length_append,List.length_cons] at this ⊢
   omega
 · unfold vh at hx
   rcases List.mem_append.mp hx with hx | hx
   · exact hT.it x (by rw [eq];simp [hx])
   · rcases List.mem_cons.mp hx with rfl | hx
     · exact hPm.part hW.nm.1 (Int.le_refl 0) d0 (by omega)
     · rcases List.mem_cons.mp hx with rfl | hx
       · exact hPm.part hW.nm.1 (by omega) d1 (Int.le_refl _)
       · exact hT.it x (by rw [eq];simp [hx])
 · rw [et,qOp hB1 (hT.wf m hm) hW.k d0 d1,eq]
 · unfold jl
   rw [qL6 hW.nm.1,← eq]
   exact ht
 · rw [qEy f hW.nm.1 (hT.wf m hm) d0 d1,eq]
 · obtain⟨Y,e1,e2⟩:=qE0 (A:=B1) (m:=m) (B:=B2) (d:=d) hW.nm.1
   exact⟨qh 0 B1,Y,by rw [eq];exact e1,by rw [et];exact e2⟩
theorem qVq {xs:List Int}(h:xs.Pairwise (· < ·)):xs.Pairwise (· ≤ ·):=h.imp fun h=>Int.le_of_lt h
theorem CutG.sort {A:Int}{N:Nat}{ms X:List Im}{t:Int}(h:CutG A N ms X t){ns:List Int}(hp:ns.Perm ((0::qh 0 ms)++[t]))(hs:ns.Pairwise (· ≤ ·)):ns=0::qh 0 X:=by
 obtain⟨U,Y,e1,e2⟩:=h.bord
 refine qCi (hp.trans ?_) hs (qVq (qKb h.tr.wf))
 rw [e1,e2]
 have:(0::(U++Y))++[t]=(0::U)++(Y++[t]):=by simp
 rw [this]
 have:0::(U++t::Y)=(0::U)++(t::Y):=by simp
 rw [this]
 exact List.Perm.append_left _ List.perm_append_comm
structure qSj (A:Int)(N:Nat)(ms X:List Im)(t:Int):Prop where
 len:X.length≤N
 mo:MO none X
 gi:∀ m∈X,GI m
 tell:∀ f n,wq f X n=wq f ms n
 bord:(0::qh 0 ms).filter (fun x=>!decide (x=t))=0::qh 0 X
theorem GI.glue {x y:Im}(hx:GI x)(hy:GI y)(hl:(glue x y).mo≤1000000)(hc:wG x y=true):GI (glue x y):=by
 rcases zw hc with ⟨n,p,q,r,s,l,n',p',q',r',s',l',rfl,rfl⟩ | ⟨n,b,l,n',b',l',rfl,rfl⟩
 · obtain⟨⟨a1,a2,a3,a4,a5,a6,a7,a8⟩,_⟩:=hx
   obtain⟨⟨_,_,_,_,_,_,b7,_⟩,_⟩:=hy
   have hl:l+l'≤1000000:=hl
   exact⟨⟨a1,a2,a3,a4,a5,a6,by show 1≤l+l';omega,qT8 hl⟩,fun _ _ _ e=>by cases e⟩
 · obtain⟨⟨a1,a2,a3⟩,a4⟩:=hx
   obtain⟨⟨_,_,b3⟩,_⟩:=hy
   exact⟨⟨a1,a2,by show 1≤l+l';omega⟩,fun nm b0 l0 e=>by cases e;exact a4 _ _ _ rfl⟩
theorem qJz {g:Im}{B:List Im}{x y:Im}(hx:x.wd="clip"∨x.wd="nest")(hxy:x.wd=y.wd)(hg:g.wd=x.wd):∀ {A:List Im} {p:Option Im},MO p (A++x::y::B)→MO p (A++g::B)
 | [],p,h=>by
  have nx:x.wd≠"mix":=by rcases hx with e | e <;> rw [e] <;> decide+kernel
  rw [List.nil_append,qq nx,qq (by rw [← hxy];exact nx)] at h
  rw [List.nil_append,qq (by rw [hg];exact nx)]
  cases B with
  | nil=>trivial
  | cons b B=>
   by_cases hb:b.wd="mix"
   · obtain⟨l,rfl⟩:=qz hb
     refine⟨⟨?_,h.1.2⟩,h.2⟩
     obtain⟨n,p',q,r,s,k,e⟩:=h.1.1
     have ey:y.wd="clip":=by rw [Option.some.inj e];rfl
     obtain⟨n2,p2,q2,r2,s2,k2,rfl⟩:=wC (hg.trans (hxy.trans ey))
     exact⟨n2,p2,q2,r2,s2,k2,rfl⟩
   · rw [qq hb] at h ⊢
     exact h
 | a::A,p,h=>by
  by_cases hm:a.wd="mix"
  · obtain⟨l,rfl⟩:=qz hm
    refine⟨⟨h.1.1,?_⟩,qJz hx hxy hg h.2⟩
    cases A with
    | nil=>
     obtain⟨n,p',q,r,s,k,e⟩:=h.1.2
     have ex:x.wd="clip":=by
      have e:some x=some (.clip n p' q r s k):=e
      rw [Option.some.inj e];rfl
     obtain⟨n2,p2,q2,r2,s2,k2,rfl⟩:=wC (hg.trans ex)
     exact⟨n2,p2,q2,r2,s2,k2,rfl⟩
    | cons b A=>exact h.1.2
  · rw [List.cons_append,qq hm] at h ⊢
    exact qJz hx hxy hg h
theorem qM2 {A:Int}{N:Nat}{ms:List Im}{t:Int}(hT:TrP A N ms){U:List Im}{x y:Im}{B:List Im}(e:ms=U++x::y::B)(hc:wG x y=true)(ht:t=qp U+x.mo):qSj A N ms (U++glue x y::B) t:=by
 have hwx:=hT.wf x (by rw [e];simp)
 have hwy:=hT.wf y (by rw [e];simp)
 obtain⟨e1,e2,gw,gk,g0,g1⟩:=qLg hwx hwy hc
 have gm:(glue x y).wd≠"mix":=by rcases gk with q | q <;> rw [q] <;> decide+kernel
 have eC:ms=vh U (glue x y) B x.mo:=by
  unfold vh
  rw [e,← e1,← e2]
 obtain⟨k1,k2⟩:=qNn hc
 have kg:(glue x y).wd=x.wd:=by
  rcases zw hc with ⟨n,p,q,r,s,l,n',p',q',r',s',l',rfl,rfl⟩ | ⟨n,b,l,n',b',l',rfl,rfl⟩ <;> rfl
 have gmo:(glue x y).mo≤1000000:=by
  have hx10:=(hT.it x (by rw [e];simp)).g.mo
  have hy10:=(hT.it y (by rw [e];simp)).g.mo
  have:(glue x y).mo=x.mo+y.mo:=by
   rcases zw hc with ⟨n,p,q,r,s,l,n',p',q',r',s',l',rfl,rfl⟩ | ⟨n,b,l,n',b',l',rfl,rfl⟩ <;> rfl
  omega
 refine⟨?_,?_,fun m hm=>?_,fun f n=>?_,?_⟩
 · have:=hT.len
   rw [e] at this
   simp only [List.length_append,List.length_cons] at this ⊢
   omega
 · have:=hT.gd.mo
   rw [e] at this
   exact qJz (by rw [k1];exact k2) k1 kg this
 · rcases List.mem_append.mp hm with hm | hm
   · exact(hT.it m (by rw [e];simp [hm])).g.gi
   · rcases List.mem_cons.mp hm with rfl | hm
     · exact GI.glue (hT.it x (by rw [e];simp)).g.gi (hT.it y (by rw [e];simp)).g.gi gmo hc
     · exact(hT.it m (by rw [e];simp [hm])).g.gi
 · rw [eC,qEy f gm gw g0 g1]
 · obtain⟨Y,b1,b2⟩:=qE0 (A:=U) (m:=glue x y) (B:=B) (d:=x.mo) gm
   rw [← eC,← ht] at b2
   have hp:=qKb hT.wf
   rw [b2] at hp ⊢
   rw [b1]
   have hp':((0::qh 0 U)++t::Y).Pairwise (· < ·):=hp
   obtain⟨p1,p2,p3⟩:=List.pairwise_append.mp hp'
   have f1:(0::qh 0 U).filter (fun x=>!decide (x=t))=0::qh 0 U:=List.filter_eq_self.mpr fun a ha=>by
    have:=p3 a ha t List.mem_cons_self
    simp;omega
   have f2:(t::Y).filter (fun x=>!decide (x=t))=Y:=by
    rw [List.filter_cons_of_neg (by simp)]
    refine List.filter_eq_self.mpr fun a ha=>?_
    have:=(List.pairwise_cons.mp p2).1 a ha
    simp;omega
   show ((0::qh 0 U)++t::Y).filter _=_
   rw [List.filter_append,f1,f2]
   rfl
structure SpI (zs:List V)(Hb H':Hp)(i:Nat):Prop where
 sb:∀ a o,V.ref a ∉ zs→Hb a=some o→H' a=some o
 ls:∀ b,V.ref b∈zs→∃ us,H' b=some (.lst us)∧us.length≤200+i
theorem SpI.step {zs:List V}{Hb H':Hp}{i:Nat}{z g:Addr}{us:List V}{o:HO}(h:SpI zs Hb H' i)(hz:V.ref z∈zs)(hu:H' z=some (.lst us))(hl:us.length≤200+i)(hg:H' g=none):SpI zs Hb (upd (upd H' g o) z (.lst (us++[.ref g]))) (i+1):=by
 refine⟨fun a u ha hb=>?_,fun b hb=>?_⟩
 · have:=h.sb a u ha hb
   have nz:a≠z:=by rintro rfl;exact ha hz
   have ng:a≠g:=by rintro rfl;rw [hg] at this;cases this
   rw [qV nz,qV ng]
   exact this
 · by_cases e:b=z
   · subst e
     exact⟨_,qD,by rw [List.length_append,List.length_singleton];omega⟩
   · obtain⟨us',h1,h2⟩:=h.ls b hb
     have ng:b≠g:=by rintro rfl;rw [hg] at h1;cases h1
     exact⟨us',by rw [qV e,qV ng];exact h1,by omega⟩
theorem SpI.same {zs:List V}{H Hb H':Hp}{i:Nat}(h:SpI zs Hb H' i)(e:Same H Hb)(hf:∀ b,V.ref b∈zs→H b=none):Same H H':=fun a o ha=>h.sb a o (fun hz=>by rw [hf a hz] at ha;cases ha) (e a o ha)
theorem qIo {A:Int}{N:Nat}{H:Hp}(hN:N≤40):∀ {ts:List (List Im)} {zs:List V},TrsAt H ts zs→(∀ ms∈ts,ms.length≤N)→∀ b,V.ref b∈zs→∃ us,H b=some (.lst us)∧us.length≤200+0
 | [],[],_,_,b,hb=>by cases hb
 | ms::ts,v::zs,⟨⟨z,e,us,h1,h2⟩,h⟩,hl,b,hb=>by
  rcases List.mem_cons.mp hb with q | q
  · rw [e] at q
    cases q
    refine⟨us,h1,?_⟩
    have:=h2.len
    have:=hl ms List.mem_cons_self
    omega
  · exact qIo (A:=A) hN h (fun m hm=>hl m (List.mem_cons_of_mem _ hm)) b q
 | [],_::_,h,_,_,_=>h.elim
 | _::_,[],h,_,_,_=>h.elim
theorem qQo {zs:List V}{Hb H':Hp}{i:Nat}(h:SpI zs Hb H' i)(hts:TS Hb H'):∀ {ts:List (List Im)} {vs:List V},TrsAt Hb ts vs→(∀ b,V.ref b∈vs→V.ref b ∉ zs)→TrsAt H' ts vs
 | [],[],_,_=>trivial
 | ms::ts,v::vs,⟨⟨z,e,us,h1,h2⟩,hr⟩,hn=>⟨⟨z,e,us,h.sb z _ (hn z (by rw [e];exact List.mem_cons_self)) h1,h2.ts hts⟩,qQo h hts hr fun b hb=>hn b (List.mem_cons_of_mem _ hb)⟩
 | [],_::_,hq,_=>hq.elim
 | _::_,[],hq,_=>hq.elim
theorem NewTab.sb {H5 Hb H':Hp}{t:Addr}{ts:List (List Im)}{tie:List Int}{zs:List V}{i:Nat}(hN:NewTab H5 Hb t ts tie)(e:Same H5 Hb)(hz:∀ b,V.ref b∈zs→∃ us,H5 b=some (.lst us))(h:SpI zs Hb H' i):TabF H' (.ref t) ts tie:=by
 obtain⟨tl,ti,vs,q1,q2,q3,q4,q5,q6,q7,q8⟩:=hN.ex
 have nt:∀ {a:Addr} {xs:List V},Hb a=some (.tup xs)→V.ref a ∉ zs:=fun {a xs} ha hm=>by
  obtain⟨us,hu⟩:=hz a hm
  rw [e _ _ hu] at ha
  cases ha
 have nf:∀ {a:Addr},H5 a=none→V.ref a ∉ zs:=fun {a} ha hm=>by
  obtain⟨us,hu⟩:=hz a hm
  rw [hu] at ha
  cases ha
 have hts:TS Hb H':=fun a xs ha=>h.sb a _ (nt ha) ha
 exact⟨t,tl,ti,vs,rfl,h.sb _ _ (nt q1) q1,h.sb _ _ (nf q5) q2,qQo h hts q3 fun b hb=>nf (q8 b hb).1,h.sb _ _ (nf q6) q4⟩
inductive qJo (vs:List V)(H:Hp)(Q:VK)(_:XK):Prop
| mk (tz re rz:Addr) (A:Int) (N:Nat) (ts:List (List Im)) (tie:List Int) (n:Nat) (ms:List Im) (t last:Int) (cm:Im) (_:vs=[.ref tz,.int (n:Int),.int t,.ref re,.ref rz,.int last]) (_:TabF H (.ref tz) ts tie) (_:TbP A N ts tie) (_:N≤39) (_:ts[n]? =some ms) (_:0≤t) (_:t≤1000) (_:RE H re A) (_:RoomAt H rz (rmL cm)) (_:CF A cm) (_:0≤last) (_:last≤900) (_:∀ H',Same H H'→Q (.bl true) H')
set_option maxHeartbeats 1000000 in
theorem qI6 (T:Tx K mg a):FnOk P w K mg base CX0 12 a.A90 a.B90 ["_law_table_here","_law_number","_law_moment","_law_reels_here","_law_room","_law_last"] qJo:=by
 refine T.D90.F.ok xP (fun vs H Q E h=>?_) (fun cdv A outer s H vs Q E hr h=>?_)
 · obtain⟨tz,re,rz,A,N,ts,tie,n,ms,t,last,cm,rfl,_⟩:=h
   rfl
 refine qL fun _ Y=>?_
 obtain⟨tz,re,rz,A',N,ts,tie,n,ms,t,last,cm,rfl,hT,hP,hN,hm,t0,t1,hre,hR,hcm,l0,l1,kk⟩:=h
 apply Y
 have hu:=hr.units
 refine⟨_,(qB (qU 6 xP.nd (qK T.D86 (xD T) hr rfl (qA (pv 0) (qA (ql (qA qR (qA (pv 1) (qA (pv 2) qC)))) (qA (pv 3) qC)))))
  (qB (qU 7 xP.nd (qK T.D87 (qJj T) hr rfl (qA (qv qZ (qI (pv 0)) (pv 1) (fun _ _=>rfl)) (qA (pv 2) qC))))
  (qB (qd (qJ xo (pv 7) qR (qN _)) (qE (qM (jp jU (pv 6) (pv 7) (qN _)))) qQ)
  (qB (qd (PW.pt (z6 (zS (j4 (qi j8 rfl T.b_isinstance rfl (qA (pv 6) (qA (qI2 rfl T.b_tuple rfl) qC))))) (z6 (qJ xo (qi xA rfl T.b_len rfl (qA (pv 6) qC)) qG (qN _)) (xk (qJ (wT hu) (qI (pv 6)) (qI (pv 0)) (qN _)))))) (qE (qM z7)) qQ)
  (qB (qd (qJ (wT hu) (qK T.D26 (ju T) hr rfl (qA (qv qZ (qI (pv 6)) (pv 1) (fun _ _=>rfl)) qC)) (qi qGy rfl T.b_sorted rfl (qA (qP wJ (qK T.D26 (ju T) hr rfl (qA (qv qZ (qI (pv 0)) (pv 1) (fun _ _=>rfl)) qC)) (jD (qA (pv 2) qC))) qC)) (qN _)) (qE (qM z7)) qQ)
  (qB (j2 PassesOwn.never rfl (xF rfl T.b_range (qA qG qC)) (qt (i:=8) xP.nd rfl (Or.inl rfl)) (qE (qd (PW.pt (jZ (qJ xo (pv 8) (pv 1) (qN _)) (jM (qJ (wT hu) (qv qZ (qI (pv 6)) (pv 8) (fun _ _=>rfl)) (qv qZ (qI (pv 0)) (pv 8) (fun _ _=>rfl)) (qN _))))) (qE (qM z7)) qQ)))
  (qB (qd (qJ (wT hu) (qK T.D85 (zL T) hr rfl (qA (qv qZ (qI (pv 6)) (pv 1) (fun _ _=>rfl)) (qA (pv 4) (qA (pv 5) qC)))) (qK T.D85 (zL T) hr rfl (qA (qv qZ (qI (pv 0)) (pv 1) (fun _ _=>rfl)) (qA (pv 4) (qA (pv 5) qC)))) (qN _)) (qE (qM z7)) qQ)
  (qB (qU 9 xP.nd (qK T.D86 (xD T) hr rfl (qA (pv 6) (qA (ql (qA qR (qA (pv 1) (qA (pv 2) qC)))) (qA (pv 3) qC)))))
  (qB (j2 PassesOwn.never rfl (jX (qI (pv 6))) (qt (i:=10) xP.nd rfl (Or.inl rfl)) (qE (jV (qAo F.plainAttrs_list F.slot_list_append F.type_list_append jT (pv 10) (qA (ql (qA qR (qA qG qC))) qC)))))
  (qE (qM (jp (qSk hu) (pv 9) (pv 0) (qN _))))))))))))),?_⟩
 try dsimp only [je,qg]
 have hA:60≤A'∧A' < 360:=hre.2
 have hnl:n < ts.length:=(glt hm)
 have hn3:n < 3:=by have:=hP.l3;omega
 have hTr:=hP.ms ms (List.mem_of_getElem? hm)
 have hlen:=hTr.len
 refine qL fun _ Y=>?_
 obtain⟨tt,tl,ti,zs,e0,g2,g3,g4,g5⟩:=id hT
 cases e0
 have hzl:=g4.len
 obtain⟨v0,hv⟩:∃ v,zs[n]? =some v:=⟨_,List.getElem?_eq_getElem (by omega)⟩
 obtain⟨ms',z,hms',rfl,tT⟩:=g4.get hv
 rw [hm] at hms'
 cases hms'
 apply Y
 refine⟨_,rfl,_,rfl,_,rfl,sL3,fun dz hdz=>?_⟩
 have w1:=qF hdz (.tup [.str "cut",.int (n:Int),.int t])
 have y1:upd H dz (.tup [.str "cut",.int (n:Int),.int t]) dz=some (.tup [.str "cut",.int (n:Int),.int t]):=qD
 change _
 generalize upd H dz (.tup [.str "cut",.int (n:Int),.int t])=H1 at w1 y1
 have hD:=qP4 (K:=K) (re:=re) (tie:=tie) hm hTr y1 t0 (by omega)
 have hTD:=hP.tabD (by omega) (hT.same w1) (hre.same w1)
 have refused:∀ w:Str,qOo ms t=w→w≠"good"→decide (V.str w=V.str "good")=false:=fun w _ h=>by rw [qD5];exact decide_eq_false h
 rcases qIm (t:=t) hTr.wf hTr.gd.mo hTr.gd.fs with ⟨ed,hw,ht⟩ | ⟨ed,hw,ht⟩ | ⟨ed,hw⟩
 · unfold qP5 at hD
   rw [ed,if_neg (by decide+kernel),if_pos rfl] at hD
   refine⟨_,rfl,tz,dz,re,rlE A',ts,tie,.mixed,rfl,hTD,hD,(fun h=>by cases h),(fun m h=>by cases h),(fun h=>by cases h),fun _ H2 e2=>?_,(fun ts' h=>by cases h)⟩
   have e12:=w1.trans e2
   refine(ixO (e12 _ _ g2) at0 ⟨_,rfl,tl,_,_,_,rfl,rfl,SqL.of (e12 _ _ g3),qX hv,_,rfl,z,ms,t,rfl,tT.same e12,?_⟩)
   rw [ed]
   refine⟨_,rfl,rfl,_,rfl,jf (fun _=>?_) (fun c=>absurd (by rw [qD5];decide+kernel) c)⟩
   refine⟨_,rfl,_,rfl,rfl,?_⟩
   rw [decide_eq_true rfl]
   exact kk H2 e12
 · unfold qP5 at hD
   rw [ed,if_pos rfl] at hD
   have hX:=qK0 hTr t0 hw ht
   generalize qEw ms t t []=X at hD hX
   have hXl:=hX.tr.len
   refine⟨_,rfl,tz,dz,re,rlE A',ts,tie,.good (ts.set n X),rfl,hTD,hD,(fun h=>by cases h),(fun m h=>by cases h),(fun h=>by cases h),(fun h=>by cases h),fun ts' h t' H2 e2 hNT=>?_⟩
   refine qL fun _ Y=>?_
   cases h
   have e12:=w1.trans e2
   have hNT:=hNT.back w1
   obtain⟨tl',ti',zs',q1,q2,q3,q4,q5,q6,q7,q8⟩:=hNT.ex
   have hzl':=q3.len
   rw [List.length_set] at hzl'
   obtain⟨v1,hv'⟩:∃ v,zs'[n]? =some v:=⟨_,List.getElem?_eq_getElem (by omega)⟩
   obtain⟨X',z',hX',rfl,tT'⟩:=q3.get hv'
   rw [List.getElem?_set,if_pos rfl,if_pos hnl] at hX'
   cases hX'
   apply Y
   refine(ixO (e12 _ _ g2) at0 ⟨_,rfl,tl,_,_,_,rfl,rfl,SqL.of (e12 _ _ g3),qX hv,_,rfl,z,ms,t,rfl,tT.same e12,?_⟩)
   rw [ed]
   refine⟨_,rfl,rfl,_,rfl,jf (fun c=>absurd c (by rw [qD5];decide+kernel)) (fun _=>?_)⟩
   refine⟨_,rfl,_,_,_,true,rfl,.tup q1,⟨_,.inl ⟨rfl,by kernel_rfl⟩⟩,true,rfl,jQ ?_⟩
   refine⟨_,rfl,t',_,rfl,.inr (SqT.of q1),rfl,_,rfl,xn (by show (!decide (V.int ((2:Nat):Int)=V.int 2))=false;decide) ?_⟩
   refine(ixO q1 at1 (ixO (e12 _ _ g2) at1 (qBu (neg:=true) q4 (e12 _ _ g5) ⟨false,rfl,jQ ?_⟩)))
   refine(ixO q1 at0 ⟨_,rfl,tl',_,_,_,rfl,rfl,SqL.of q2,qX hv',z',X,rfl,tT',by omega,fun b1 H3 e3 _ kb1=>?_⟩)
   have e13:=e12.trans e3
   refine(ixO (e13 _ _ g2) at0 ⟨_,rfl,tl,_,_,_,rfl,rfl,SqL.of (e13 _ _ g3),qX hv,z,ms,rfl,tT.same e13,by omega,fun b2 H4 e4 _ kb2=>?_⟩)
   have hbl:=zq 0 ms
   have sm:∀ j:Nat,j≤1000→j≤sizeLine:=fun j h=>by have:=qf (n:=j) (by omega);omega
   have hl3:=hP.l3
   refine⟨_,rfl,sL1,fun b3 hb3=>?_⟩
   have w5:=qF hb3 (.lst [.int t])
   have kb3:upd H4 b3 (.lst [.int t]) b3=some (.lst [.int t]):=qD
   change _
   generalize upd H4 b3 (.lst [.int t])=H5 at w5 kb3
   refine⟨b2,b3,_,_,rfl,rfl,w5 _ _ kb2,kb3,sm _ (by rw [List.length_map,List.length_cons];show (qh 0 ms).length+1+1≤1000;omega),fun b4 hb4=>?_⟩
   have eb:(0::qh 0 ms).map V.int++[.int t]=((0::qh 0 ms)++[t]).map V.int:=by rw [List.map_append];rfl
   rw [eb]
   have w6:=qF hb4 (.lst (((0::qh 0 ms)++[t]).map V.int))
   have kb4:upd H5 b4 (.lst (((0::qh 0 ms)++[t]).map V.int)) b4=some (.lst (((0::qh 0 ms)++[t]).map V.int)):=qD
   change _
   generalize upd H5 b4 (.lst (((0::qh 0 ms)++[t]).map V.int))=H6 at w6 kb4
   refine⟨b4,_,rfl,SqL.of kb4,by rw [List.length_append,List.length_cons];show (qh 0 ms).length+1+1 < 64;omega,fun b5 ns' hb5 hpm hst=>?_⟩
   obtain rfl:=hX.sort hpm hst
   have w7:=qF hb5 (.lst ((0::qh 0 X).map V.int))
   have kb5:upd H6 b5 (.lst ((0::qh 0 X).map V.int)) b5=some (.lst ((0::qh 0 X).map V.int)):=qD
   change _
   generalize upd H6 b5 (.lst ((0::qh 0 X).map V.int))=H7 at w7 kb5
   have e37:Same H3 H7:=e4.trans (w5.trans (w6.trans w7))
   have e27:Same H2 H7:=e3.trans e37
   have e17:Same H H7:=e12.trans e27
   refine qBu (neg:=true) (e37 _ _ kb1) kb5 ⟨false,rfl,jQ ?_⟩
   refine⟨3,rfl,by decide,by decide,zE (n:=3) (fun k σ H'=>H'=H7∧∃ o:Option V,σ=[some (.ref tz),some (.int (n:Int)),some (.int t),some (.ref re),some (.ref rz),some (.int last),some (.ref t'),some (.str "good"),o,none,none]) ⟨rfl,none,rfl⟩ ?_ ?_⟩
   · rintro k σ H' hk ⟨rfl,o,rfl⟩
     refine⟨_,rfl,_,rfl,rfl,_,rfl,jf (fun c=>?_) (fun c=>⟨rfl,_,rfl⟩)⟩
     have hkn:¬ k=n:=fun q=>by
      subst q
      rw [Int.zero_add] at c
      simp at c
     refine qL fun _ Y=>?_
     obtain⟨u1,hu1⟩:∃ v,zs'[k]? =some v:=⟨_,List.getElem?_eq_getElem (by omega)⟩
     obtain⟨m1,x1,hm1,rfl,t1'⟩:=q3.get hu1
     obtain⟨u2,hu2⟩:∃ v,zs[k]? =some v:=⟨_,List.getElem?_eq_getElem (by omega)⟩
     obtain⟨m2,x2,hm2,rfl,t2'⟩:=g4.get hu2
     rw [List.getElem?_set,if_neg (fun q=>hkn q.symm),hm2] at hm1
     cases hm1
     apply Y
     have ek:(0:Int)+(k:Int)=(k:Int):=by omega
     rw [ek]
     exact(ixO (e27 _ _ q1) at0 ⟨_,rfl,tl',_,_,_,rfl,rfl,SqL.of (e27 _ _ q2),qX hu1,ixO (e17 _ _ g2) at0 ⟨_,rfl,tl,_,_,_,rfl,rfl,SqL.of (e17 _ _ g3),qX hu2,qS6 (neg:=true) (t1'.same e27) (t2'.same e17) ⟨false,rfl,jQ ⟨rfl,_,rfl⟩⟩⟩⟩)
   rintro σ H' ⟨rfl,ok8,rfl⟩
   have lvM:=lvT hcm hA (by omega) hTr.gd.mo (fun x hx=>(hTr.it x hx).g.gi)
   have lvX:=lvT hcm hA (by omega) hX.tr.gd.mo (fun x hx=>(hX.tr.it x hx).g.gi)
   refine(ixO (e27 _ _ q1) at0 ⟨_,rfl,tl',_,_,_,rfl,rfl,SqL.of (e27 _ _ q2),qX hv',_,rfl,_,rfl,z',rz,X,last,rmL cm,rfl,tT'.same e27,lvX,hR.same e17,l0,l1,fun c1 H8 e8 hc1=>?_⟩)
   have e18:=e17.trans e8
   refine(ixO (e18 _ _ g2) at0 ⟨_,rfl,tl,_,_,_,rfl,rfl,SqL.of (e18 _ _ g3),qX hv,_,rfl,_,rfl,z,rz,ms,last,rmL cm,rfl,tT.same e18,lvM,hR.same e18,l0,l1,fun c2 H9 e9 hc2=>?_⟩)
   rw [hX.tell] at hc1
   refine qSm (neg:=true) (hc1.same e9) hc2 ⟨false,rfl,jQ ?_⟩
   have e29:Same H2 H9:=e27.trans (e8.trans e9)
   have e19:Same H H9:=e12.trans e29
   refine⟨_,rfl,_,rfl,_,rfl,sL3,fun dh hdh=>?_⟩
   have w10:=qF hdh (.tup [.str "heal",.int (n:Int),.int t])
   have y10:upd H9 dh (.tup [.str "heal",.int (n:Int),.int t]) dh=some (.tup [.str "heal",.int (n:Int),.int t]):=qD
   change _
   generalize upd H9 dh (.tup [.str "heal",.int (n:Int),.int t])=Ha at w10 y10
   have e2a:Same H2 Ha:=e29.trans w10
   have e1a:Same H Ha:=e12.trans e2a
   have hPX:TbP A' (N+1) (ts.set n X) tie:=hP.set n (by omega) hX.tr
   have hmX:(ts.set n X)[n]? =some X:=by rw [List.getElem?_set,if_pos rfl,if_pos hnl]
   have hDh:DdX K Ha re dh (rlE A') (ts.set n X) tie (.good ts):=by
    refine qF5 hmX hX.tr y10 t0 ?_
    rw [hX.heal]
    dsimp only
    rw [hX.nt,if_neg (by decide),List.set_set,qKe hm]
   refine⟨_,rfl,t',dh,re,rlE A',ts.set n X,tie,.good ts,rfl,hPX.tabD (by omega) (hNT.tab.same e2a) (hre.same e1a),hDh,(fun h=>by cases h),(fun m h=>by cases h),(fun h=>by cases h),(fun h=>by cases h),fun ts' h bt Hb eb' hNB=>?_⟩
   cases h
   have e2b:=e2a.trans eb'
   have e1b:=e1a.trans eb'
   have hzs:∀ b,V.ref b∈zs'→∃ us,Ha b=some (.lst us):=fun b hb=>(q3.same e2a).refs hb
   have hS0:SpI zs' Hb Hb 0:=⟨fun _ _ _ h=>h,qIo (A:=A') (N:=N+1) (by omega) (q3.same e2b) fun x hx=>(hPX.ms x hx).len⟩
   have hnt:V.ref tl' ∉ zs':=fun hz=>(q8 tl' hz).2.1 rfl
   refine(ixO (e2b _ _ q1) at0 ⟨tl',rfl,⟨_,SqL.of (e2b _ _ q2)⟩,jy (K:=K) (a:=tl') (xs:=zs') (fun i σ H'=>∃ o:Option V,σ=[some (.ref tz),some (.int (n:Int)),some (.int t),some (.ref re),some (.ref rz),some (.int last),some (.ref t'),some (.str "good"),ok8,some (.ref bt),o]∧SpI zs' Hb H' i) ⟨none,rfl,hS0⟩ ?_ ?_ ?_⟩)
   · rintro i σ H' hi ⟨o,rfl,hS⟩
     exact SqL.of (hS.sb _ _ hnt (e2b _ _ q2))
   · rintro i x σ H' hx ⟨o,rfl,hS⟩
     have hmem:=List.mem_of_getElem? hx
     refine qL fun _ Y=>?_
     obtain⟨m1,x1,_,rfl,_⟩:=q3.get hx
     obtain⟨us,hus,hul⟩:=hS.ls x1 hmem
     apply Y
     have hil:i < 3:=by
      have:=(glt hx)
      have:=hP.l3
      omega
     refine⟨_,rfl,.inl ⟨rfl,_,SqL.of hus⟩,sL2,fun g hg=>?_⟩
     refine⟨x1,us,_,rfl,rfl,(qF hg _) _ _ hus,qf (by omega),_,rfl,hS.step hmem hus hul hg⟩
   · rintro σ H' ⟨o,rfl,hS⟩
     have hB:TabF H' (.ref bt) ts tie:=hNB.sb eb' hzs hS
     have hsame:Same H H':=hS.same e1b fun b hb=>(q8 b hb).1
     refine⟨_,rfl,_,rfl,qM1 (neg:=false) hB (hT.same hsame) (kk H' hsame)⟩
 · unfold qP5 at hD
   rw [ed,if_neg (by decide+kernel),if_neg (by decide+kernel)] at hD
   refine⟨_,rfl,tz,dz,re,rlE A',ts,tie,.place,rfl,hTD,hD,(fun h=>by cases h),(fun m h=>by cases h),(fun _ H2 e2=>?_),(fun h=>by cases h),(fun ts' h=>by cases h)⟩
   have e12:=w1.trans e2
   refine(ixO (e12 _ _ g2) at0 ⟨_,rfl,tl,_,_,_,rfl,rfl,SqL.of (e12 _ _ g3),qX hv,_,rfl,z,ms,t,rfl,tT.same e12,?_⟩)
   rw [ed]
   refine⟨_,rfl,rfl,_,rfl,jf (fun _=>?_) (fun c=>absurd (by rw [qD5];decide+kernel) c)⟩
   refine⟨_,rfl,_,rfl,rfl,?_⟩
   rw [decide_eq_true rfl]
   exact kk H2 e12
inductive qDx (vs:List V)(H:Hp)(Q:VK)(_:XK):Prop
| mk (Hs:Hp) (tz t' rz:Addr) (A:Int) (N:Nat) (ts:List (List Im)) (tie:List Int) (n:Nat) (ms X:List Im) (t last:Int) (cm:Im) (_:vs=[.ref tz,.ref t',.int (n:Int),.int t,.ref rz,.int last]) (_:Same Hs H) (_:NewTab Hs H t' (ts.set n X) tie) (_:qSj A N ms X t) (_:TabF Hs (.ref tz) ts tie) (_:TbP A N ts tie) (_:N≤39) (_:ts[n]? =some ms) (_:60≤A) (_:A < 360) (_:RoomAt Hs rz (rmL cm)) (_:CF A cm) (_:0≤last) (_:last≤900) (_:∀ H',Same Hs H'→Q (.bl true) H')
set_option maxHeartbeats 1000000 in
theorem qD7 (T:Tx K mg a):FnOk P w K mg base CX0 12 a.A91 a.B91 ["_law_table_here","_law_found","_law_number","_law_moment","_law_room","_law_last"] qDx:=by
 refine T.D91.F.ok zf (fun vs H Q E h=>?_) (fun cdv A outer s H vs Q E hr h=>?_)
 · obtain⟨Hs,tz,t',rz,A,N,ts,tie,n,ms,X,t,last,cm,rfl,_⟩:=h
   rfl
 refine qL fun _ Y=>?_
 obtain⟨Hs,tz,t',rz,A',N,ts,tie,n,ms,X,t,last,cm,rfl,es,hNT,hX,hTs,hP,hN,hm,A0,A1,hRs,hcm,l0,l1,kk⟩:=h
 apply Y
 have hu:=hr.units
 refine⟨_,(qB (qd (PW.pt (z6 (zS (j4 (qi j8 rfl T.b_isinstance rfl (qA (pv 1) (qA (qI2 rfl T.b_tuple rfl) qC))))) (xk (qJ (wT hu) (qI (pv 1)) (qI (pv 0)) (qN _))))) (qE (qM z7)) qQ)
  (qB (qO8 (i:=6) ["_law_moment"] [3] zf.nd rfl rfl rfl (jX (qK T.D26 (ju T) hr rfl (qA (qv qZ (qI (pv 0)) (pv 2) (fun _ _=>rfl)) qC))) (fun _ _ _ _=>(qJ xo (pv 0) (pv 1) (qN _))) (fun _ _ _ _=>(pv 0)))
  (qB (qd (qJ (wT hu) (qK T.D26 (ju T) hr rfl (qA (qv qZ (qI (pv 1)) (pv 2) (fun _ _=>rfl)) qC)) (pv 6) (qN _)) (qE (qM z7)) qQ)
  (qB (qd (qJ (wT hu) (qK T.D85 (zL T) hr rfl (qA (qv qZ (qI (pv 1)) (pv 2) (fun _ _=>rfl)) (qA (pv 4) (qA (pv 5) qC)))) (qK T.D85 (zL T) hr rfl (qA (qv qZ (qI (pv 0)) (pv 2) (fun _ _=>rfl)) (qA (pv 4) (qA (pv 5) qC)))) (qN _)) (qE (qM z7)) qQ)
  (qB (j2 PassesOwn.never rfl (jX (qI (pv 1))) (qt (i:=7) zf.nd rfl (Or.inl rfl)) (qE (jV (qAo F.plainAttrs_list F.slot_list_append F.type_list_append jT (pv 7) (qA (ql (qA qR (qA qG qC))) qC)))))
  (qE (qM z7))))))),?_⟩
 try dsimp only [je,qg]
 have hT:=hTs.same es
 have hR:=hRs.same es
 have hA:60≤A'∧A' < 360:=⟨A0,A1⟩
 have hnl:n < ts.length:=(glt hm)
 have hl3:=hP.l3
 have hTr:=hP.ms ms (List.mem_of_getElem? hm)
 have hlen:=hTr.len
 have hXl:=hX.len
 refine qL fun _ Y=>?_
 obtain⟨tt,tl,ti,zs,e0,g2,g3,g4,g5⟩:=id hT
 cases e0
 have hzl:=g4.len
 obtain⟨v0,hv⟩:∃ v,zs[n]? =some v:=⟨_,List.getElem?_eq_getElem (by omega)⟩
 obtain⟨ms',z,hms',rfl,tT⟩:=g4.get hv
 rw [hm] at hms'
 cases hms'
 obtain⟨tl',ti',zs',q1,q2,q3,q4,q5,q6,q7,q8⟩:=hNT.ex
 have hzl':=q3.len
 rw [List.length_set] at hzl'
 obtain⟨v1,hv'⟩:∃ v,zs'[n]? =some v:=⟨_,List.getElem?_eq_getElem (by omega)⟩
 obtain⟨X',z',hX',rfl,tT'⟩:=q3.get hv'
 rw [List.getElem?_set,if_pos rfl,if_pos hnl] at hX'
 cases hX'
 apply Y
 refine⟨_,rfl,_,_,_,true,rfl,.tup q1,⟨_,.inl ⟨rfl,by kernel_rfl⟩⟩,true,rfl,jQ ?_⟩
 refine(ixO q1 at1 (ixO g2 at1 (qBu (neg:=true) q4 g5 ⟨false,rfl,jQ ?_⟩)))
 refine(ixO g2 at0 ⟨_,rfl,tl,_,_,_,rfl,rfl,SqL.of g3,qX hv,z,ms,rfl,tT,by omega,fun b1 H2 e2 _ kb1=>?_⟩)
 have hbl:=zq 0 ms
 refine⟨b1,rfl,⟨_,SqL.of kb1⟩,wy (K:=K) (a:=b1) (xs:=(0::qh 0 ms).map V.int) (fun i acc H'=>H'=H2∧acc=(((0::qh 0 ms).take i).filter (fun x=>!decide (x=t))).map V.int) ⟨rfl,rfl⟩ ?_ ?_ ?_⟩
 · rintro i acc H' hi ⟨rfl,rfl⟩
   refine⟨SqL.of kb1,qf ?_⟩
   rw [List.length_map]
   refine Nat.le_trans (List.length_filter_le _ _) ?_
   rw [List.length_take,List.length_cons]
   omega
 · rintro i x acc H' hi hx ⟨rfl,rfl⟩
   refine qL fun _ Y=>?_
   obtain⟨y,hy,rfl⟩:∃ y:Int,(0::qh 0 ms)[i]? =some y∧x= .int y:=by
    rw [List.getElem?_map] at hx
    cases hq:(0::qh 0 ms)[i]? with
    | none=>rw [hq] at hx;cases hx
    | some k=>rw [hq] at hx;cases hx;exact⟨k,rfl,rfl⟩
   apply Y
   have etk:(0::qh 0 ms).take (i+1)=(0::qh 0 ms).take i++[y]:=by rw [List.take_add_one,hy];rfl
   refine⟨_,rfl,_,rfl,rfl,_,rfl,jf (fun c=>?_) (fun c=>?_)⟩
   · have hne:¬ y=t:=fun q=>by rw [q] at c;simp at c
     refine⟨_,rfl,Nxt.mk hi ⟨rfl,?_⟩⟩
     rw [etk,List.filter_append,List.map_append]
     have:[y].filter (fun x=>!decide (x=t))=[y]:=by simp [hne]
     rw [this]
     rfl
   · have heq:y=t:=by
      by_cases q:y=t
      · exact q
      · exact absurd (by simp [q]) c
     refine Nxt.mk hi ⟨rfl,?_⟩
     rw [etk,List.filter_append,List.map_append]
     have:[y].filter (fun x=>!decide (x=t))=[]:=by simp [heq]
     rw [this,List.map_nil,List.append_nil]
 rintro acc H' ⟨rfl,rfl⟩ b2 hb2
 rw [List.length_map,List.take_length,hX.bord]
 have w3:=qF hb2 (.lst ((0::qh 0 X).map V.int))
 have kb2:upd H' b2 (.lst ((0::qh 0 X).map V.int)) b2=some (.lst ((0::qh 0 X).map V.int)):=qD
 generalize upd H' b2 (.lst ((0::qh 0 X).map V.int))=H3 at w3 kb2 ⊢
 have e13:=e2.trans w3
 refine(ixO (e13 _ _ q1) at0 ⟨_,rfl,tl',_,_,_,rfl,rfl,SqL.of (e13 _ _ q2),qX hv',z',X,rfl,tT'.same e13,by omega,fun b3 H4 e4 _ kb3=>?_⟩)
 refine⟨_,rfl,qBu (neg:=true) kb3 (e4 _ _ kb2) ⟨false,rfl,jQ ?_⟩⟩
 have e14:=e13.trans e4
 have lvM:=lvT hcm hA (by omega) hTr.gd.mo (fun x hx=>(hTr.it x hx).g.gi)
 have lvX:=lvT hcm hA (by omega) hX.mo hX.gi
 refine(ixO (e14 _ _ q1) at0 ⟨_,rfl,tl',_,_,_,rfl,rfl,SqL.of (e14 _ _ q2),qX hv',_,rfl,_,rfl,z',rz,X,last,rmL cm,rfl,tT'.same e14,lvX,hR.same e14,l0,l1,fun c1 H8 e8 hc1=>?_⟩)
 have e18:=e14.trans e8
 refine(ixO (e18 _ _ g2) at0 ⟨_,rfl,tl,_,_,_,rfl,rfl,SqL.of (e18 _ _ g3),qX hv,_,rfl,_,rfl,z,rz,ms,last,rmL cm,rfl,tT.same e18,lvM,hR.same e18,l0,l1,fun c2 H9 e9 hc2=>?_⟩)
 rw [hX.tell] at hc1
 refine qSm (neg:=true) (hc1.same e9) hc2 ⟨false,rfl,jQ ?_⟩
 have e19:Same H H9:=e18.trans e9
 have hS0:SpI zs' H9 H9 0:=⟨fun _ _ _ h=>h,qIo (A:=A') (N:=39) (by omega) (q3.same e19) fun x hx=>by
  rcases List.mem_or_eq_of_mem_set hx with h' | h'
  · have:=(hP.ms x h').len;omega
  · subst h';omega⟩
 have hnt:V.ref tl' ∉ zs':=fun hz=>(q8 tl' hz).2.1 rfl
 refine(ixO (e19 _ _ q1) at0 ⟨tl',rfl,⟨_,SqL.of (e19 _ _ q2)⟩,jy (K:=K) (a:=tl') (xs:=zs') (fun i σ H'=>∃ o:Option V,σ=[some (.ref tz),some (.ref t'),some (.int (n:Int)),some (.int t),some (.ref rz),some (.int last),some (.ref b2),o]∧SpI zs' H9 H' i) ⟨none,rfl,hS0⟩ ?_ ?_ ?_⟩)
 · rintro i σ H' hi ⟨o,rfl,hS⟩
   exact SqL.of (hS.sb _ _ hnt (e19 _ _ q2))
 · rintro i x σ H' hx ⟨o,rfl,hS⟩
   have hmem:=List.mem_of_getElem? hx
   refine qL fun _ Y=>?_
   obtain⟨m1,x1,_,rfl,_⟩:=q3.get hx
   obtain⟨us,hus,hul⟩:=hS.ls x1 hmem
   apply Y
   have hil:i < 3:=by
    have:=(glt hx)
    omega
   refine⟨_,rfl,.inl ⟨rfl,_,SqL.of hus⟩,sL2,fun g hg=>?_⟩
   refine⟨x1,us,_,rfl,rfl,(qF hg _) _ _ hus,qf (by omega),_,rfl,hS.step hmem hus hul hg⟩
 · rintro σ H' ⟨o,rfl,hS⟩
   exact kk H' (hS.same (es.trans e19) fun b hb=>(q8 b hb).1)
theorem qIl:∀ {ms:List Im} {b:Int},(∀ m∈ms,Wf m)→∀ x∈qh b ms,x≤b+qp ms
 | [],b,_,x,h=>by cases h
 | m::ms,b,hw,x,h=>by
  have hn:=Nn.len fun y hy=>(hw y (List.mem_cons_of_mem m hy)).mo
  by_cases hm:m.wd="mix"
  · obtain⟨l,rfl⟩:=qz hm
    rw [qh] at h
    have:=qIl (fun y hy=>hw y (List.mem_cons_of_mem _ hy)) x h
    have e0:(Im.mix l).mo=0:=rfl
    rw [qW];omega
  · rw [jR hm] at h
    have em:=qL7 hm
    rw [qW]
    rcases List.mem_cons.mp h with rfl | h
    · omega
    · have:=qIl (fun y hy=>hw y (List.mem_cons_of_mem _ hy)) x h
      omega
theorem TrP.mix {A:Int}{N:Nat}{ms:List Im}{t M:Int}{i:Nat}(h:TrP A N ms)(hc:cbF ms t=some ((i:Int),((i+1:Nat):Int)))(hM:mmF (rlE A) ms t=some M)(hl:1≤M):TrP A (N+1) (ms.take (i+1)++[.mix 1]++ms.drop (i+1)):=by
 obtain⟨g1,g2,g3⟩:=qNt hc hM (l:=1) (by decide) hl h.gd.os h.gd.mo h.gd.fs
 refine⟨?_,fun m hm=>?_,⟨g1,g2,g3⟩,?_⟩
 · have:=h.len
   rw [List.length_append,List.length_append,List.length_take,List.length_drop,List.length_singleton]
   omega
 · rcases List.mem_append.mp hm with hm | hm
   · rcases List.mem_append.mp hm with hm | hm
     · exact h.it m (List.mem_of_mem_take hm)
     · rw [List.mem_singleton] at hm
       exact .inr (.inr (.inr ⟨1,hm,by decide,by decide⟩))
   · exact h.it m (List.mem_of_mem_drop hm)
 · have e:qp (ms.take (i+1)++[.mix 1]++ms.drop (i+1))=qp ms:=by
    rw [jc,jc,qW,jF]
    have:qp (ms.take (i+1))+qp (ms.drop (i+1))=qp ms:=by rw [← jc,List.take_append_drop]
    have e0:(Im.mix 1).mo=0:=rfl
    omega
   rw [e];exact h.tot
theorem qR3 {neg:Bool}{H:Hp}{x y:Addr}{ms:List Im}{Q:VK}(h1:Tr H x ms)(h2:H y=some (.lst []))(hne:ms≠[])(q:Q (.bl neg) H):qQm K neg (.ref x) (.ref y) H Q:=by
 refine⟨.lst (ms.map Im.d),.lst [],h1.rep,qMt h2,by unfold dep;have:=qDi ms;omega,?_⟩
 have e:eqD (.lst (ms.map Im.d)) (.lst [])=false:=by
  cases ms with
  | nil=>exact absurd rfl hne
  | cons m ms=>simp [eqD,zj]
 rw [e]
 cases neg <;> exact q
inductive qAt (K:W.Frag)(vs:List V)(H:Hp)(Q:VK)(_:XK):Prop
| mk (tz zs re:Addr) (ns:List Int) (A:Int) (N:Nat) (ts:List (List Im)) (tie:List Int) (n:Nat) (_:vs=[.ref tz,.int (n:Int),.ref zs,.ref re]) (_:TabF H (.ref tz) ts tie) (_:TbP A N ts tie) (_:N≤30) (_:n < 3) (_:SqL K H zs (ns.map V.int)) (_:ns.length≤63) (_:RE H re A) (_:∀ (t':Addr) (ts':List (List Im)) (H':Hp),Same H H'→TabF H' (.ref t') ts' tie→TbP A (N+4) ts' tie→Q (.ref t') H')
set_option maxHeartbeats 1000000 in
theorem qAj (T:Tx K mg a):FnOk P w K mg base CX0 12 a.A92 a.B92 ["_law_table_here","_law_number","_law_script","_law_reels_here"] (qAt K):=by
 refine T.D92.F.ok jB (fun vs H Q E h=>?_) (fun cdv A outer s H vs Q E hr h=>?_)
 · obtain⟨tz,zs,re,ns,A,N,ts,tie,n,rfl,_⟩:=h
   rfl
 refine qL fun _ Y=>?_
 obtain⟨tz,zs,re,ns,A',N,ts,tie,n,rfl,hT,hP,hN,hn3,hS,hnl,hre,kk⟩:=h
 apply Y
 have hu:=hr.units
 refine⟨_,(qB (j2 PassesOwn.never rfl (jX (jD (qA qG (qA qG qC)))) (qt (i:=4) jB.nd rfl (Or.inl rfl)) (qB (qU 5 jB.nd (qK T.D76 (jr T) hr rfl (qA (pv 2) (qA (pv 4) qC))))
  (qB (qU 6 jB.nd (qP jA (qP qj (pv 5) qG) (qP qo (qv qZ (qK T.D26 (ju T) hr rfl (qA (qv qZ (qI (pv 0)) (pv 1) (fun _ _=>rfl)) qC)) (ka xK qG) (fun _ _=>rfl)) qG)))
  (qB (qU 7 jB.nd (qK T.D86 (xD T) hr rfl (qA (pv 0) (qA (ql (qA qR (qA (pv 1) (qA (pv 6) qC)))) (qA (pv 3) qC)))))
  (qE (qd (j4 (qi j8 rfl T.b_isinstance rfl (qA (pv 7) (qA (qI2 rfl T.b_tuple rfl) qC)))) (qB (qU 0 jB.nd (pv 7))
  (qE (qd (PW.pt (jZ (qJ jU (qP jA (pv 5) qG) qG (qN _)) (jZ (qJ (wT hu) (qv qZ (qI (pv 0)) (pv 1) (fun _ _=>rfl)) (jD qC) (qN _)) (jM (qJ qF8 (qK T.D93 (qB6 T) hr rfl (qA (qv qZ (qI (pv 0)) (pv 1) (fun _ _=>rfl)) (qA (pv 6) (qA (pv 3) qC)))) qG (qN _)))))) (qE (qU 0 jB.nd (qK T.D73 (qA9 T) hr rfl (qA (pv 0) (qA (ql (qA qR (qA (pv 1) (qA (pv 6) (qA qG qC))))) (qA (pv 3) qC)))))) qQ))) qQ))))))
  (qE (qM (pv 0)))),?_⟩
 try dsimp only [je,qg]
 refine⟨sL2,fun ld hld=>?_⟩
 have w1:=qF hld (.lst [.int 3,.int 4])
 have kl:upd H ld (.lst [.int 3,.int 4]) ld=some (.lst [.int 3,.int 4]):=qD
 generalize upd H ld (.lst [.int 3,.int 4])=H1 at w1 kl ⊢
 refine⟨ld,rfl,⟨_,SqL.of kl⟩,jy (K:=K) (a:=ld) (xs:=[.int 3,.int 4]) (fun i σ H'=>∃ (t1:Addr) (ts1:List (List Im)) (o1 o2 o3 o4:Option V),σ=[some (.ref t1),some (.int (n:Int)),some (.ref zs),some (.ref re),o1,o2,o3,o4]∧Same H1 H'∧TabF H' (.ref t1) ts1 tie∧TbP A' (N+2*i) ts1 tie) ⟨tz,ts,none,none,none,none,rfl,Same.refl _,hT.same w1,hP⟩ ?_ ?_ ?_⟩
 · rintro i σ H' hi ⟨t1,ts1,o1,o2,o3,o4,rfl,e,_⟩
   exact SqL.of (e _ _ kl)
 · rintro i x σ H2 hx ⟨t1,ts1,o1,o2,o3,o4,rfl,e2,hT2,hP2⟩
   have hi2:i < 2:=(glt hx)
   refine qL fun _ Y=>?_
   obtain⟨k,rfl,hk0,hk1⟩:∃ k:Int,x= .int k∧0≤k∧k≤4:=by
    have hmem:=List.mem_of_getElem? hx
    clear hT2 hP2
    rcases List.mem_cons.mp hmem with h | h
    · exact⟨3,h,by decide,by decide⟩
    · rw [List.mem_singleton] at h
      exact⟨4,h,by decide,by decide⟩
   have e12:=w1.trans e2
   have hS2:=e12.seq hS
   have hre2:=hre.same e12
   have hl3:=hP2.l3
   obtain⟨ms,hm⟩:∃ ms,ts1[n]? =some ms:=⟨_,List.getElem?_eq_getElem (by omega)⟩
   have hTr:=hP2.ms ms (List.mem_of_getElem? hm)
   have hlen:=hTr.len
   obtain⟨tt,tl,ti,zv,e0,g2,g3,g4,g5⟩:=id hT2
   cases e0
   have hzl:=g4.len
   obtain⟨v0,hv⟩:∃ v,zv[n]? =some v:=⟨_,List.getElem?_eq_getElem (by omega)⟩
   obtain⟨ms',z,hms',rfl,tT⟩:=g4.get hv
   rw [hm] at hms'
   cases hms'
   apply Y
   refine⟨_,rfl,_,rfl,zs,ns,k,rfl,hS2,hnl,hk0,fun c=>?_⟩
   refine⟨_,rfl,_,_,rfl,rfl,cdB (by decide) (by decide),ixO g2 at0 ⟨_,rfl,tl,_,_,_,rfl,rfl,SqL.of g3,qX hv,z,ms,rfl,tT,by omega,fun b1 H3 e3 _ kb1=>?_⟩⟩
   refine qL fun _ Y=>?_
   obtain⟨L,hL,L0,L1⟩:∃ L:Int,atI ((0::qh 0 ms).map V.int) (-1)=some (.int L)∧0≤L∧L≤300:=by
    obtain⟨Y,L,eY⟩:=qCq (A:=0::qh 0 ms) (by simp)
    refine⟨L,?_,?_,?_⟩
    · rw [eY,List.map_append]
      exact qKu _ _
    · have hmem:L∈0::qh 0 ms:=by rw [eY];simp
      rcases List.mem_cons.mp hmem with h | h
      · omega
      · have:=(qC6 hTr.wf).1 L h
        omega
    · have hmem:L∈0::qh 0 ms:=by rw [eY];simp
      have:=hTr.tot
      have:=Nn.len hTr.nn
      rcases List.mem_cons.mp hmem with h | h
      · omega
      · have:=qIl hTr.wf L h
        omega
   apply Y
   refine⟨1,rfl,b1,_,_,_,rfl,rfl,SqL.of kb1,hL,_,_,rfl,rfl,_,_,rfl,rfl,by omega,?_⟩
   have fP:=fm (c.fdiv 3) (show (0:Int) < L+1 by omega)
   generalize (c.fdiv 3).fmod (L+1)=pl at fP ⊢
   have e13:=e2.trans e3
   refine⟨_,rfl,_,rfl,_,rfl,sL3,fun dz hdz=>?_⟩
   have w4:=qF hdz (.tup [.str "cut",.int (n:Int),.int pl])
   have y4:upd H3 dz (.tup [.str "cut",.int (n:Int),.int pl]) dz=some (.tup [.str "cut",.int (n:Int),.int pl]):=qD
   change _
   generalize upd H3 dz (.tup [.str "cut",.int (n:Int),.int pl])=H4 at w4 y4
   have e24:=e3.trans w4
   have e14:=e2.trans e24
   have e04:=w1.trans e14
   have hD:=qP4 (K:=K) (re:=re) (tie:=tie) hm hTr y4 (by omega) (by omega)
   have hTD:=hP2.tabD (by omega) (hT2.same e24) (hre.same e04)
   rcases qIm (t:=pl) hTr.wf hTr.gd.mo hTr.gd.fs with ⟨ed,hw,ht⟩ | ⟨ed,hw,ht⟩ | ⟨ed,hw⟩
   · unfold qP5 at hD
     rw [ed,if_neg (by decide+kernel),if_pos rfl] at hD
     refine⟨_,rfl,t1,dz,re,rlE A',ts1,tie,.mixed,rfl,hTD,hD,(fun h=>by cases h),(fun m h=>by cases h),(fun h=>by cases h),fun _ H5 e5=>?_,(fun ts' h=>by cases h)⟩
     exact⟨_,rfl,_,_,_,false,rfl,.str _,⟨_,.inl ⟨rfl,by kernel_rfl⟩⟩,false,rfl,jQ ⟨t1,ts1,_,_,_,_,rfl,e14.trans e5,(hT2.same e24).same e5,⟨hl3,fun x hx=>(hP2.ms x hx).mono (by omega),hP2.tl,hP2.tin⟩⟩⟩
   · unfold qP5 at hD
     rw [ed,if_pos rfl] at hD
     have hX:=qK0 hTr (by omega) hw ht
     generalize qEw ms pl pl []=X at hD hX
     have hXl:=hX.tr.len
     refine⟨_,rfl,t1,dz,re,rlE A',ts1,tie,.good (ts1.set n X),rfl,hTD,hD,(fun h=>by cases h),(fun m h=>by cases h),(fun h=>by cases h),(fun h=>by cases h),fun ts' h t' H5 e5 hNT=>?_⟩
     refine qL fun _ Y=>?_
     cases h
     obtain⟨tl',ti',zs',q1,q2,q3,q4,q5,q6,q7,q8⟩:=hNT.ex
     have hzl':=q3.len
     rw [List.length_set] at hzl'
     have hnt:n < ts1.length:=by omega
     obtain⟨v1,hv'⟩:∃ v,zs'[n]? =some v:=⟨_,List.getElem?_eq_getElem (by omega)⟩
     obtain⟨X',z',hX',rfl,tT'⟩:=q3.get hv'
     rw [List.getElem?_set,if_pos rfl,if_pos hnt] at hX'
     cases hX'
     apply Y
     have e15:=e14.trans e5
     have hPX:TbP A' (N+2*i+1) (ts1.set n X) tie:=hP2.set n (by omega) hX.tr
     refine⟨_,rfl,_,_,_,true,rfl,.tup q1,⟨_,.inl ⟨rfl,by kernel_rfl⟩⟩,true,rfl,xE ?_⟩
     refine⟨_,rfl,?_⟩
     refine⟨_,rfl,_,_,rfl,rfl,nz,rfl,_,rfl,jf (fun c1=>?_) (fun c1=>?_)⟩
     · refine(ixO q1 at0 ⟨_,rfl,tl',_,_,_,rfl,rfl,SqL.of q2,qX hv',sL0,fun en hen=>?_⟩)
       have w6:=qF hen (.lst [])
       have k6:upd H5 en (.lst []) en=some (.lst []):=qD
       generalize upd H5 en (.lst [])=H6 at w6 k6 ⊢
       obtain⟨i0,hnb⟩:=hX.nb
       have hXne:X≠[]:=by
        rintro rfl
        cases hnb
       refine qR3 (neg:=true) (tT'.same w6) k6 hXne ⟨true,rfl,xE ?_⟩
       have hre6:=hre.same (e04.trans (e5.trans w6))
       refine(ixO (w6 _ _ q1) at0 ⟨_,rfl,tl',_,_,_,rfl,rfl,SqL.of (w6 _ _ q2),qX hv',_,rfl,_,rfl,z',re,X,pl,rlE A',rfl,tT'.same w6,(fun m hm=>(hX.tr.it m hm).g.it),hre6.at,fun H7 e7=>?_⟩)
       have e57:=w6.trans e7
       refine⟨_,_,rfl,rfl,_,rfl,jf (fun c3=>?_) (fun c3=>?_)⟩
       · have hpos:0 < (mmF (rlE A') X pl).getD 0:=by simpa using c3
         cases hM:mmF (rlE A') X pl with
         | none=>rw [hM] at hpos;exact absurd hpos (by decide)
         | some M=>
         rw [hM] at hpos
         have hpos:0 < M:=hpos
         have hcb:cbF X pl=some ((i0:Int),((i0+1:Nat):Int)):=by
          cases hc:cbF X pl with
          | none=>
           unfold mmF at hM
           rw [hc] at hM
           cases hM
          | some r=>
           unfold cbF at hc
           rw [hnb] at hc
           dsimp only at hc
           split at hc
           · exact hc.symm
           · cases hc
         refine⟨_,rfl,_,rfl,_,rfl,sL4,fun dm hdm=>?_⟩
         have w8:=qF hdm (.tup [.str "mix",.int (n:Int),.int pl,.int 1])
         have y8:upd H7 dm (.tup [.str "mix",.int (n:Int),.int pl,.int 1]) dm=some (.tup [.str "mix",.int (n:Int),.int pl,.int 1]):=qD
         change _
         generalize upd H7 dm (.tup [.str "mix",.int (n:Int),.int pl,.int 1])=H8 at w8 y8
         have e58:=e57.trans w8
         have hmX:(ts1.set n X)[n]? =some X:=by rw [List.getElem?_set,if_pos rfl,if_pos hnt]
         have hre8:=hre.same (e04.trans (e5.trans e58))
         refine⟨_,rfl,t',dm,re,rlE A',ts1.set n X,tie,_,rfl,hPX.tabD (by omega) (hNT.tab.same e58) hre8,.mix y8 hmX (by omega) (by decide) hcb hM (by rw [if_neg (by omega)]),fun t'' H9 e9 hNT'=>?_⟩
         refine⟨t'',_,_,_,_,_,rfl,e15.trans (e58.trans e9),hNT'.tab,?_⟩
         have:=hPX.set n (M:=N+2*i+2) (by omega) (hX.tr.mix hcb hM (by omega))
         exact this
       · exact⟨t',_,_,_,_,_,rfl,e15.trans e57,hNT.tab.same e57,⟨hPX.l3,fun x hx=>(hPX.ms x hx).mono (by omega),hPX.tl,hPX.tin⟩⟩
     · exact⟨t',_,_,_,_,_,rfl,e15,hNT.tab,⟨hPX.l3,fun x hx=>(hPX.ms x hx).mono (by omega),hPX.tl,hPX.tin⟩⟩
   · unfold qP5 at hD
     rw [ed,if_neg (by decide+kernel),if_neg (by decide+kernel)] at hD
     refine⟨_,rfl,t1,dz,re,rlE A',ts1,tie,.place,rfl,hTD,hD,(fun h=>by cases h),(fun m h=>by cases h),(fun _ H5 e5=>?_),(fun h=>by cases h),(fun ts' h=>by cases h)⟩
     exact⟨_,rfl,_,_,_,false,rfl,.str _,⟨_,.inl ⟨rfl,by kernel_rfl⟩⟩,false,rfl,jQ ⟨t1,ts1,_,_,_,_,rfl,e14.trans e5,(hT2.same e24).same e5,⟨hl3,fun x hx=>(hP2.ms x hx).mono (by omega),hP2.tl,hP2.tin⟩⟩⟩
 · rintro σ H' ⟨t1,ts1,o1,o2,o3,o4,rfl,e,hT1,hP1⟩
   exact⟨_,rfl,kk t1 ts1 H' (w1.trans e) hT1 hP1⟩
theorem qQ8 {H:Hp}{l:Addr}{kvs:List (Key × V)}{o:HO}(h:H l=some (.dK kvs)):TS H (upd H l o):=fun b ys hb=>by
 rw [qV (qK5 hb h (by intro q;cases q))];exact hb
theorem TbG.p {A:Int}{ts:List (List Im)}{tie:List Int}(h:TbG A ts tie)(hA:60≤A∧A < 360):TbP A 17 ts tie:=by
 refine⟨h.tb.l3,fun ms hm=>?_,h.tb.tl,fun x hx=>by obtain⟨k,e,hk⟩:=h.tb.tin x hx;exact⟨k,e,by rw [h.tb.l3] at hk;exact hk⟩⟩
 obtain⟨q1,q2⟩:=h.tb.ms ms hm
 refine⟨q1,fun m hm'=>(q2 m hm').pt hA,h.gd ms hm,?_⟩
 have:=qPc ms fun m hm'=>((q2 m hm').pt hA).g.mo
 show (ms.map Im.mo).sum≤300
 omega
theorem TrP.ch {A:Int}{N:Nat}{ms:List Im}(h:TrP A N ms):∀ m∈ms,ChI m:=fun m hm=>⟨h.wf m hm,fun n p q r s l e=>by
 obtain⟨N',c⟩:=(h.it m hm).g.it n p q r s l e
 exact⟨c.bn,c.bl⟩⟩
theorem qTs {H:Hp}{re dz:Addr}{rl:Rls}{ts:List (List Im)}{tie:List Int}{n t:Int}(hd:H dz=some (.tup [.str "cut",.int n,.int t]))(h:qL8 ts.length (some n) (some t)=false):DdX K H re dz rl ts tie .place:=
 .place hd rfl rfl rfl (by decide+kernel) (.int n) (.int t) h
set_option maxHeartbeats 2000000 in
theorem qTq (T:Tx K mg a):FnOk P w K mg base CX0 14 a.A94 a.B94 ["_law_script"] (qPk K):=by
 refine T.D94.F.ok kn (fun vs H Q E h=>?_) (fun cdv A outer s H vs Q E hr h=>?_)
 · obtain⟨a,ns,rfl,_⟩:=h
   rfl
 refine qL fun _ Y=>?_
 obtain⟨zs,ns,rfl,hS,hlen,kk⟩:=h
 apply Y
 have hu:=hr.units
 refine⟨_,(qB (qU 1 kn.nd (qK T.D81 (qFh T) hr rfl (qA (qK T.D76 (jr T) hr rfl (qA (pv 0) (qA qG qC))) qC)))
  (qB (qU 2 kn.nd (qK T.D83 (qFr T) hr rfl (qA (qK T.D76 (jr T) hr rfl (qA (pv 0) (qA qG qC))) (qA (pv 1) (qA qG (qA qG qC))))))
  (qB (qU 3 kn.nd (ql (qA (pv 1) (qA (qNs (qF4 qR (ql (qA (jD (qA (jD (qA (qK T.D79 (qBf T) hr rfl (qA (qK T.D77 (vp T) hr rfl (qA (qK T.D76 (jr T) hr rfl (qA (pv 0) (qA qG qC))) (qA qG qC))) (qA (pv 1) (qA qG qC)))) qC)) qC)) (qA (jD qC) qC))) qMx) rfl rfl (by simp) (by decide)) qC))))
  (qB (qU 4 kn.nd (qP jA (qK T.D76 (jr T) hr rfl (qA (pv 0) (qA qG qC))) qG))
  (qB (qU 2 kn.nd (qK T.D92 (qAj T) hr rfl (qA (pv 2) (qA (pv 4) (qA (pv 0) (qA (pv 1) qC))))))
  (qB (qU 5 kn.nd (qK T.D84 (qEi T) hr rfl (qA (pv 2) qC)))
  (qB (qU 6 kn.nd (qP qo (qi (qH6 rfl) rfl T.b_sum rfl (qA (qGc [] [] rfl (jX (qv qZ (qI (pv 2)) (pv 4) (fun _ _=>rfl))) (fun _ _ _ _=>(qJ xo (qv (qB3 (K:=K) rfl) (pv 0) qG (fun _ _=>rfl)) qR (qN _))) (fun _ _ _ _=>(qv (qB3 (K:=K) rfl) (pv 0) (ka xK qG) (fun _ _=>rfl)))) qC)) qG))
  (qB (j2 PassesOwn.never rfl (xF rfl T.b_range (qA (pv 6) qC)) (qt (i:=7) kn.nd rfl (Or.inl rfl)) (qB (qd (zS (j4 (qK T.D90 (qI6 T) hr rfl (qA (pv 2) (qA (pv 4) (qA (pv 7) (qA (pv 1) (qA (pv 3) (qA (pv 6) qC))))))))) (qE (qM z7)) qQ)
  (qB (qU 8 kn.nd (qK T.D86 (xD T) hr rfl (qA (pv 2) (qA (ql (qA qR (qA (pv 4) (qA (pv 7) qC)))) (qA (pv 1) qC)))))
  (qB (qU 9 kn.nd (qK T.D89 (qBp T) hr rfl (qA (qv qZ (qI (pv 2)) (pv 4) (fun _ _=>rfl)) (qA (pv 7) qC))))
  (qB (qd (PW.pt (jZ (qJ xo (pv 9) qR (qN _)) (jM (qJ xo (pv 8) (pv 9) (qN _))))) (qE (qM z7)) qQ)
  (qE (qd (PW.pt (jZ (qJ jU (pv 9) qR (qN _)) (jM (zS (j4 (qK T.D91 (qD7 T) hr rfl (qA (pv 2) (qA (pv 8) (qA (pv 4) (qA (pv 7) (qA (pv 3) (qA (pv 6) qC)))))))))))) (qE (qM z7)) qQ)))))))
  (qB (qd (PW.pt (z6 (qJ (wT hu) (pv 2) (pv 5) (qN _)) (xk (qJ xo (qK T.D86 (xD T) hr rfl (qA (pv 2) (qA (ql (qA qR (qA qG (qA qG qC)))) (qA (pv 1) qC)))) qR (qN _))))) (qE (qM z7)) qQ)
  (qE (qM (jp jU (qK T.D86 (xD T) hr rfl (qA (pv 2) (qA (ql (qA qR (qA (pv 4) (qA (ka xK qG) qC)))) (qA (pv 1) qC)))) qR (qN _))))))))))))),?_⟩
 try dsimp only [je,qg]
 refine⟨_,rfl,zs,ns,1,rfl,hS,hlen,by decide,fun c1=>?_⟩
 refine⟨c1,rfl,fun re A' H1 e1 _ hre1 A0 A1=>?_⟩
 have hre:RE H1 re A':=⟨.inl hre1,A0,A1⟩
 have hA:60≤A'∧A' < 360:=⟨A0,A1⟩
 refine⟨_,rfl,zs,ns,0,rfl,e1.seq hS,hlen,by decide,fun c0=>⟨_,rfl,c0,re,A',rfl,hre,fun tz0 ts0 tie H3 e2 hT0 hM0=>?_⟩⟩
 have hP0:=hM0.p hA
 have hre3:=hre.same e2
 have hS3:=(e1.trans e2).seq hS
 refine⟨_,rfl,fun td htd=>?_⟩
 have w3:=qF htd (.dK [])
 have k3:upd H3 td (.dK []) td=some (.dK []):=qD
 generalize upd H3 td (.dK [])=H4 at w3 k3 ⊢
 refine⟨_,rfl,zs,ns,2,rfl,w3.seq hS3,hlen,by decide,fun c2=>⟨c2,9,rfl,by decide,by decide,fun xz xs H5 e5 hxz hxs hxl _=>?_⟩⟩
 have nre:re≠xz:=by
  rcases (hre3.same w3).1 with q | ⟨o,q⟩
  · exact qS q hxz
  · exact qS q hxz
 refine⟨_,rfl,xz,re,xs,A',9,rfl,hxs,by rw [hxl];decide,(hre3.same w3).same e5,by decide,by decide,fun v cm xs' H6 s6 hz6 _ hcf hI=>?_⟩
 have e46:Same H4 H6:=fun b u hb=>s6 b u (qS hb hxz) (e5 b u hb)
 refine⟨sL1,fun l1 h1=>⟨sL1,fun l2 h2=>⟨sL0,fun l0 h0=>⟨sL2,fun t4 h4=>?_⟩⟩⟩⟩
 have v1:=qF h1 (.lst [v])
 have m1:upd H6 l1 (.lst [v]) l1=some (.lst [v]):=qD
 generalize upd H6 l1 (.lst [v])=I1 at v1 m1 h2 h0 h4 ⊢
 have v2:=qF h2 (.lst [.ref l1])
 have m2:upd I1 l2 (.lst [.ref l1]) l2=some (.lst [.ref l1]):=qD
 generalize upd I1 l2 (.lst [.ref l1])=I2 at v2 m2 h0 h4 ⊢
 have v3:=qF h0 (.lst [])
 have m3:upd I2 l0 (.lst []) l0=some (.lst []):=qD
 generalize upd I2 l0 (.lst [])=I3 at v3 m3 h4 ⊢
 have v4:=qF h4 (.tup [.ref l2,.ref l0])
 have m4:upd I3 t4 (.tup [.ref l2,.ref l0]) t4=some (.tup [.ref l2,.ref l0]):=qD
 generalize upd I3 t4 (.tup [.ref l2,.ref l0])=I4 at v4 m4 ⊢
 have v64:=v1.trans (v2.trans (v3.trans v4))
 have k4:=(e46.trans v64) _ _ k3
 refine⟨k4,[(Sum.inr "low",.ref t4)],rfl,(by show 1≤15;decide),?_⟩
 have em:∀ x:V,qC3 [] [((Sum.inr ("low":Str):Key),x)]=[(Sum.inr ("low":Str),x)]:=fun x=>by rfl
 rw [em]
 have n1:l1≠td:=(qS (e46 _ _ k3) h1).symm
 have n2:l2≠td:=(qS ((e46.trans v1) _ _ k3) h2).symm
 have n4:t4≠td:=(qS ((e46.trans (v1.trans (v2.trans v3))) _ _ k3) h4).symm
 have S5:Same H3 (upd I4 td (.dK [(Sum.inr "low",.ref t4)])):=xU (w3.trans (e46.trans v64)) htd
 have kd:upd I4 td (.dK [(Sum.inr "low",.ref t4)]) td=some (.dK [(Sum.inr "low",.ref t4)]):=qD
 have tA:TabAt (upd I4 td (.dK [(Sum.inr "low",.ref t4)])) (.ref t4) [[cm]]:=by
  refine⟨t4,l2,l0,[.ref l1],rfl,by rw [qV n4];exact m4,by rw [qV n2];exact(v3.trans v4) _ _ m2,⟨⟨l1,rfl,[v],by rw [qV n1];exact(v2.trans (v3.trans v4)) _ _ m1,.one ((hI.ts (qc v64)).ts (qQ8 k4))⟩,trivial⟩⟩
 generalize upd I4 td (.dK [(Sum.inr "low",.ref t4)])=H7 at S5 kd tA ⊢
 refine⟨sL2,fun rz hrz=>?_⟩
 have w8:=qF hrz (.tup [.ref re,.ref td])
 have k8:upd H7 rz (.tup [.ref re,.ref td]) rz=some (.tup [.ref re,.ref td]):=qD
 generalize upd H7 rz (.tup [.ref re,.ref td])=H8 at w8 k8 ⊢
 have hR:RoomAt H8 rz (rmL cm):=by
  refine⟨re,td,_,k8,.inl (w8 _ _ kd),fun nm ts' h=>?_⟩
  unfold rmL at h
  split at h
  · rename_i e
    cases h
    subst e
    exact⟨.ref t4,rfl,tA.same w8⟩
  · cases h
 have S8:=S5.trans w8
 have hT8:=hT0.same S8
 have hre8:=hre3.same S8
 have hS8:=S8.seq hS3
 clear hT0 hM0 hre hre1 hre3 tA kd S5 hS3 v1 v2 v3 v4 m1 m2 m3 m4 v64 h1 h2 h0 h4 hI s6 hz6 e46 k4 w3 k3 e5 hxs hxz k8 w8
 refine⟨_,rfl,zs,ns,2,rfl,hS8,hlen,by decide,fun c3=>⟨_,_,rfl,rfl,nz,?_⟩⟩
 have f3:=fm c3 (show (0:Int) < 3 by decide)
 refine qL fun _ Y=>?_
 obtain⟨n,en,hn3⟩:∃ n:Nat,c3.fmod 3=(n:Int)∧n < 3:=⟨(c3.fmod 3).toNat,by omega,by omega⟩
 apply Y
 rw [en]
 clear f3 en
 refine⟨_,rfl,_,rfl,_,rfl,_,rfl,tz0,zs,re,ns,A',17,ts0,tie,n,rfl,hT8,hP0,by decide,hn3,hS8,hlen,hre8,fun tz ts H9 e9 hT9 hP=>?_⟩
 have hl3:=hP.l3
 refine⟨_,rfl,tz,ts,tie,rfl,hT9,by omega,fun cz Ha ea hC=>?_⟩
 have e8a:=e9.trans ea
 have hTa:=hT9.same ea
 have hrea:=hre8.same e8a
 have hRa:=hR.same e8a
 clear hT9 hT8 hre8 hS8 hR S8
 refine qL fun _ Y=>?_
 obtain⟨ms,hm⟩:∃ ms,ts[n]? =some ms:=⟨_,List.getElem?_eq_getElem (by omega)⟩
 have hTr:=hP.ms ms (List.mem_of_getElem? hm)
 have hml:=hTr.len
 have htot:=hTr.tot
 have hn0:=Nn.len hTr.nn
 obtain⟨tt,tl,ti,zv,e0,g2,g3,g4,g5⟩:=id hTa
 cases e0
 have hzl:=g4.len
 obtain⟨v0,hv⟩:∃ v,zv[n]? =some v:=⟨_,List.getElem?_eq_getElem (by omega)⟩
 obtain⟨ms',z,hms',rfl,tT⟩:=g4.get hv
 rw [hm] at hms'
 cases hms'
 obtain⟨us,kz,iz⟩:=id tT
 apply Y
 refine(ixO g2 at0 ⟨_,rfl,tl,_,_,_,rfl,rfl,SqL.of g3,qX hv,z,rfl,⟨_,SqL.of kz⟩,qSv kz iz (by omega) (fun x zi xi m Q ex hzi b0 q=>by subst ex;exact(ixO hzi b0 ⟨rfl,_,rfl,q⟩)) (fun x zi xi m Q ex hzi bl q=>by subst ex;exact⟨_,rfl,1,rfl,zi,xi,_,_,rfl,rfl,SqT.of hzi,bl,q⟩) fun D js hD' hjs=>?_⟩)
 refine⟨D,js,rfl,SqL.of qD,?_⟩
 have wb:=qF hD' (.lst (js.map V.int))
 generalize upd Ha D (.lst (js.map V.int))=Hb at wb ⊢
 rw [hjs]
 refine⟨_,_,rfl,rfl,?_⟩
 have hTb:=hTa.same wb
 have hCb:=hC.same wb
 have hreb:=hrea.same wb
 have hRb:=hRa.same wb
 have tTb:=tT.same wb
 have g2b:=wb _ _ g2
 have g3b:=wb _ _ g3
 clear hTa hC hrea hRa tT g2 g3 g4 g5 kz iz
 refine⟨_,rfl,_,rfl,by omega,by omega,zE (n:=(qp ms+3).toNat) (fun k σ H'=>∃ o1 o2 o3:Option V,σ=[some (.ref zs),some (.ref re),some (.ref tz),some (.ref rz),some (.int (n:Int)),some (.ref cz),some (.int (qp ms+3)),o1,o2,o3]∧Same Hb H') ⟨none,none,none,rfl,Same.refl _⟩ ?_ ?_⟩
 · rintro k σ Hc hk ⟨o1,o2,o3,rfl,ec⟩
   generalize et:(0:Int)+(k:Int)=t
   have t0:0≤t:=by omega
   have t1:t≤1000:=by omega
   refine⟨_,rfl,_,rfl,_,rfl,_,rfl,_,rfl,_,rfl,tz,re,rz,A',17+4,ts,tie,n,ms,t,qp ms+3,cm,rfl,hTb.same ec,hP,by decide,hm,t0,t1,hreb.same ec,hRb.same ec,hcf,by omega,by omega,fun Hd ed=>?_⟩
   refine⟨true,rfl,jQ ?_⟩
   have ebd:=ec.trans ed
   refine⟨_,rfl,_,rfl,_,rfl,sL3,fun dh hdh=>?_⟩
   have we:=qF hdh (.tup [.str "heal",.int (n:Int),.int t])
   have ye:upd Hd dh (.tup [.str "heal",.int (n:Int),.int t]) dh=some (.tup [.str "heal",.int (n:Int),.int t]):=qD
   change _
   generalize upd Hd dh (.tup [.str "heal",.int (n:Int),.int t])=He at we ye
   have ebe:=ebd.trans we
   have hTD:=hP.tabD (by decide) (hTb.same ebe) (hreb.same ebe)
   rcases qPp (t:=t) hTr.wf hTr.gd.mo hTr.gd.fs with ⟨hs,ht,U,x,y,B,eU,hc,htU,hh⟩ | ⟨hs,ht,ms1,hh⟩ | ⟨hs,hh⟩
   · have hX:=qM2 hTr eU hc htU
     have hD:DdX K He re dh (rlE A') ts tie (.good (ts.set n (U++glue x y::B))):=by
      refine qF5 hm hTr ye t0 ?_
      rw [hh]
      dsimp only
      rw [ht,if_neg (by decide)]
     generalize U++glue x y::B=X at hX hD
     refine⟨_,rfl,tz,dh,re,rlE A',ts,tie,.good (ts.set n X),rfl,hTD,hD,(fun h=>by cases h),(fun m h=>by cases h),(fun h=>by cases h),(fun h=>by cases h),fun ts' h t' Hf ef hNT=>?_⟩
     cases h
     have ebf:=ebe.trans ef
     refine(ixO (ebf _ _ g2b) at0 ⟨_,rfl,tl,_,_,_,rfl,rfl,SqL.of (ebf _ _ g3b),qX hv,_,rfl,z,ms,t,rfl,tTb.same ebf,by omega,hTr.gd.mo,hTr.ch,fun Hg eg=>?_⟩)
     rw [hs]
     refine⟨_,rfl,rfl,_,rfl,jf (fun c=>absurd c (by rw [qD5];decide+kernel)) (fun _=>?_)⟩
     refine⟨_,rfl,rfl,_,rfl,vD (decide_eq_true rfl) ?_⟩
     refine⟨_,rfl,_,rfl,_,rfl,_,rfl,_,rfl,_,rfl,He,tz,t',rz,A',17+4,ts,tie,n,ms,X,t,qp ms+3,cm,rfl,ef.trans eg,hNT.same eg,hX,hTb.same ebe,hP,by decide,hm,A0,A1,hRb.same ebe,hcf,by omega,by omega,fun Hh eh=>?_⟩
     exact⟨true,rfl,jQ ⟨_,_,_,rfl,ebe.trans eh⟩⟩
   · have hD:DdX K He re dh (rlE A') ts tie .mixed:=by
      refine qF5 hm hTr ye t0 ?_
      rw [hh]
      dsimp only
      rw [ht,if_pos rfl]
     refine⟨_,rfl,tz,dh,re,rlE A',ts,tie,.mixed,rfl,hTD,hD,(fun h=>by cases h),(fun m h=>by cases h),(fun h=>by cases h),fun _ Hf ef=>?_,(fun ts' h=>by cases h)⟩
     have ebf:=ebe.trans ef
     refine(ixO (ebf _ _ g2b) at0 ⟨_,rfl,tl,_,_,_,rfl,rfl,SqL.of (ebf _ _ g3b),qX hv,_,rfl,z,ms,t,rfl,tTb.same ebf,by omega,hTr.gd.mo,hTr.ch,fun Hg eg=>?_⟩)
     rw [hs]
     refine⟨_,rfl,rfl,_,rfl,jf (fun _=>?_) (fun c=>absurd (by rw [qD5];decide+kernel) c)⟩
     refine⟨_,rfl,_,rfl,rfl,_,rfl,xn (by rw [decide_eq_true rfl];rfl) ?_⟩
     refine⟨_,rfl,rfl,_,rfl,xn (by show decide (V.str "mixed"=V.str "good")=false;rw [qD5];decide+kernel) ?_⟩
     exact⟨_,_,_,rfl,ebf.trans eg⟩
   · have hD:DdX K He re dh (rlE A') ts tie .place:=by
      refine qF5 hm hTr ye t0 ?_
      rw [hh]
     refine⟨_,rfl,tz,dh,re,rlE A',ts,tie,.place,rfl,hTD,hD,(fun h=>by cases h),(fun m h=>by cases h),(fun _ Hf ef=>?_),(fun h=>by cases h),(fun ts' h=>by cases h)⟩
     have ebf:=ebe.trans ef
     refine(ixO (ebf _ _ g2b) at0 ⟨_,rfl,tl,_,_,_,rfl,rfl,SqL.of (ebf _ _ g3b),qX hv,_,rfl,z,ms,t,rfl,tTb.same ebf,by omega,hTr.gd.mo,hTr.ch,fun Hg eg=>?_⟩)
     rw [hs]
     refine⟨_,rfl,rfl,_,rfl,jf (fun _=>?_) (fun c=>absurd (by rw [qD5];decide+kernel) c)⟩
     refine⟨_,rfl,_,rfl,rfl,_,rfl,xn (by rw [decide_eq_true rfl];rfl) ?_⟩
     refine⟨_,rfl,rfl,_,rfl,xn (by show decide (V.str "noplace"=V.str "good")=false;rw [qD5];decide+kernel) ?_⟩
     exact⟨_,_,_,rfl,ebf.trans eg⟩
 · rintro σ Hc ⟨o1,o2,o3,rfl,ec⟩
   refine⟨_,rfl,_,rfl,qM1 (neg:=true) (hTb.same ec) (hCb.same ec) ⟨false,rfl,jQ ?_⟩⟩
   refine⟨_,rfl,sL3,fun d1 hd1=>?_⟩
   have w1:=qF hd1 (.tup [.str "cut",.int 3,.int 0])
   have y1:upd Hc d1 (.tup [.str "cut",.int 3,.int 0]) d1=some (.tup [.str "cut",.int 3,.int 0]):=qD
   change _
   generalize upd Hc d1 (.tup [.str "cut",.int 3,.int 0])=Hd at w1 y1
   have ebd:=ec.trans w1
   refine⟨_,rfl,tz,d1,re,rlE A',ts,tie,.place,rfl,hP.tabD (by decide) (hTb.same ebd) (hreb.same ebd),qTs y1 ?_,(fun h=>by cases h),(fun m h=>by cases h),(fun _ He ee=>?_),(fun h=>by cases h),(fun ts' h=>by cases h)⟩
   · rw [hl3];rfl
   refine⟨rfl,_,rfl,xn (by rw [decide_eq_true rfl];rfl) ?_⟩
   have ebe:=ebd.trans ee
   refine⟨_,rfl,_,rfl,1,rfl,sL3,fun d2 hd2=>?_⟩
   have w2:=qF hd2 (.tup [.str "cut",.int (n:Int),.int (-1)])
   have y2:upd He d2 (.tup [.str "cut",.int (n:Int),.int (-1)]) d2=some (.tup [.str "cut",.int (n:Int),.int (-1)]):=qD
   change _
   generalize upd He d2 (.tup [.str "cut",.int (n:Int),.int (-1)])=Hf at w2 y2
   have ebf:=ebe.trans w2
   refine⟨_,rfl,tz,d2,re,rlE A',ts,tie,.place,rfl,hP.tabD (by decide) (hTb.same ebf) (hreb.same ebf),qTs y2 ?_,(fun h=>by cases h),(fun m h=>by cases h),(fun _ Hg eg=>?_),(fun h=>by cases h),(fun ts' h=>by cases h)⟩
   · unfold qL8
     dsimp only
     simp
   refine⟨rfl,?_⟩
   rw [decide_eq_true rfl]
   exact kk Hg
end
structure DF (K:W.Frag)(x:Str)(st:Stmt)(f:Addr)(fd:FuncData):Prop where
 n:W.nsIn K mainGlobals x=some (some (.ref f))
 F:Fun K x x st f fd
theorem df_mk {K:W.Frag}{x:Str}{st:Stmt}{f:Addr}{oc:Value}{od an:Option Addr}{osl:Array (Option Value)}{kV doc pm cdv ct:Value}(n:W.nsIn K mainGlobals x=some (some (.ref f)))(l:K.lookup f=some ⟨oc,od,.func (W.fnOf x x (vH st) (zW st) (qH st) .none kV doc pm an cdv ct),osl⟩)(c:W.codeIn K cdv x=true)(k:W.keepIn K (.ref f)=true):DF K x st f (W.fnOf x x (vH st) (zW st) (qH st) .none kV doc pm an cdv ct):=⟨n,qQr l c k⟩
def GL (K:W.Frag)(x:Str)(v:Option Value):Prop:=W.nsIn K mainGlobals x=some v
theorem gl_mk {K:W.Frag}{x:Str}{v:Option Value}(h:W.nsIn K mainGlobals x=some v):GL K x v:=h
theorem dG {K:W.Frag}{x:Str}{st:Stmt}{f:Addr}{fd:FuncData}{h:Heap}{mg:Str→Option Value}{ps:List Str}(X:K.In h)(G:h.Ns mainGlobals mg)(d:DF K x st f fd)
 (b:∀ (kV doc pm:Value) (an:Option Addr) (cdv ct:Value) (us:List Value),us.length=ps.length→bindArgs (W.fnOf x x (vH st) (zW st) (qH st) .none kV doc pm an cdv ct) ⟨us,[]⟩=pure (ps.zip us):=by
   first | exact(fun _ _ _ _ _ _ us hl=>match us,hl with | [_],_=>rfl) | exact(fun _ _ _ _ _ _ us hl=>match us,hl with | [_,_],_=>rfl) | exact(fun _ _ _ _ _ _ us hl=>match us,hl with | [_,_,_],_=>rfl) | exact(fun _ _ _ _ _ _ us hl=>match us,hl with | [_,_,_,_],_=>rfl) | exact(fun _ _ _ _ _ _ us hl=>match us,hl with | [_,_,_,_,_],_=>rfl) | exact(fun _ _ _ _ _ _ us hl=>match us,hl with | [_,_,_,_,_,_],_=>rfl)):L3.Def K mg x st ps f fd:=⟨d.F,d.F.binds b,W.mg_of X G d.n⟩
theorem all_mk {l:W.OpenLaw}{w:World}{K:W.Frag}{h:Heap}{mg:Str→Option Value}{fa f0 f1 f2 f3 f4 f5 f6 f7 f8 f9 f10 f11 f12 f13 f14 f15 f16 f17 f18 f19 f20 f21 f22 f23 f24 f25 f26 f27 f28 f29 f30 f31 f32 f33 f34 f35 f36 f37 f38 f39 f40 f41 f42 f43 f44 f45 f46 f47 f48 f49 f50 f51 f52 f53 f54 f55 f56 f57 f58 f59 f60 f61 f62 f63 f64 f65 f66 f67 f68 f69 f70 f71 f72 f73 f74 f75 f76 f77 f78 f79 f80 f81 f82 f83 f84 f85 f86 f87 f88 f89 f90 f91 f92 f93 f94 C0 C1 C2 C3 C4 C5 nNOUGHT nROLLS nLAYS nPUSHES nCHANGES nWHOLE_SHARE fmShort:Addr}{g0 g1 g2 g3 g4 g5 g6 g7 g8 g9 g10 g11 g12 g13 g14 g15 g16 g17 g18 g19 g20 g21 g22 g23 g24 g25 g26 g27 g28 g29 g30 g31 g32 g33 g34 g35 g36 g37 g38 g39 g40 g41 g42 g43 g44 g45 g46 g47 g48 g49 g50 g51 g52 g53 g54 g55 g56 g57 g58 g59 g60 g61 g62 g63 g64 g65 g66 g67 g68 g69 g70 g71 g72 g73 g74 g75 g76 g77 g78 g79 g80 g81 g82 g83 g84 g85 g86 g87 g88 g89 g90 g91 g92 g93 g94:FuncData}(X:K.In h)(G:h.Ns mainGlobals mg)(hfa:mg "law"=some (.ref fa))
 {odNOUGHT odROLLS odLAYS odPUSHES odCHANGES odWHOLE_SHARE odmShort anmShort:Option Addr} {slNOUGHT slROLLS slLAYS slPUSHES slCHANGES slWHOLE_SHARE slmShort:Array (Option Value)} {ocmShort kVmShort dcmShort pmmShort cdmShort ctmShort:Value} {tLETTERS tLONGEST_NAME tMOST_ROOM tNOUGHT_0 tNOUGHT_1 tMOST_BY tROLLS_0 tROLLS_1 tROLLS_2 tLAYS_0 tLAYS_1 tPUSHES_0 tPUSHES_1 tPUSHES_2 tCHANGES_0 tCHANGES_1 tCHANGES_2 tCHANGES_3 tCHANGES_4 tCHANGES_5 tWHOLE_SHARE_0 tWHOLE_SHARE_1:Tok} {nnNOUGHT nnROLLS nnLAYS nnPUSHES nnCHANGES nnWHOLE_SHARE:Nat}
 (h0:DF K "is_whole" wv f0 g0)
 (h1:DF K "common_divisor" xf f1 g1)
 (h2:DF K "is_fraction" wn f2 g2)
 (h3:DF K "fraction" qAf f3 g3)
 (h4:DF K "sum_of" qGp f4 g4)
 (h5:DF K "less_by" qCg f5 g5)
 (h6:DF K "times_of" qAz f6 g6)
 (h7:DF K "quotient" qA4 f7 g7)
 (h8:DF K "is_before" vv f8 g8)
 (h9:DF K "floor_of" qAy f9 g9)
 (h10:DF K "is_name" qB8 f10 g10)
 (h11:DF K "has_clip_form" zF f11 g11)
 (h12:DF K "place_at" qA2 f12 g12)
 (h13:DF K "picture_at" kj f13 g13)
 (h14:DF K "is_there" qAe f14 g14)
 (h15:DF K "check_clip" ku f15 g15)
 (h16:DF K "clip_part" vx f16 g16)
 (h17:DF K "goes_on" qDl f17 g17)
 (h18:DF K "moments_there" zH f18 g18)
 (h19:DF K "head_room" vw f19 g19)
 (h20:DF K "tail_room" wE f20 g20)
 (h21:DF K "is_length" v8 f21 g21)
 (h22:DF K "has_nest_form" x8 f22 g22)
 (h23:DF K "moments_of" kh f23 g23)
 (h24:DF K "one_form" wu f24 g24)
 (h25:DF K "length_of" wB f25 g25)
 (h26:DF K "borders_of" vC f26 g26)
 (h27:DF K "item_at" qC7 f27 g27)
 (h28:DF K "kind_at" qCk f28 g28)
 (h29:DF K "place_ahead" kI f29 g29)
 (h30:DF K "place_behind" vf f30 g30)
 (h31:DF K "neighbours_at" x9 f31 g31)
 (h32:DF K "clips_at_border" xO f32 g32)
 (h33:DF K "lies_within" kF f33 g33)
 (h34:DF K "item_part" v9 f34 g34)
 (h35:DF K "part_of_track" zC f35 g35)
 (h36:DF K "part_ahead" kx f36 g36)
 (h37:DF K "part_behind" kT f37 g37)
 (h38:DF K "mix_spans" wA f38 g38)
 (h39:DF K "mix_shares" vI f39 g39)
 (h40:DF K "mix_at" qFx f40 g40)
 (h41:DF K "told_in_mix" kO f41 g41)
 (h42:DF K "taken_at_begin" xj f42 g42)
 (h43:DF K "taken_at_end" zX f43 g43)
 (h44:DF K "most_mix" qAp f44 g44)
 (h45:DF K "check_place" kA f45 g45)
 (h46:DF K "check_by" qEm f46 g46)
 (h47:DF K "clip_there" qA8 f47 g47)
 (h48:DF K "clip_and_sides" kX f48 g48)
 (h49:DF K "places_named" vi f49 g49)
 (h50:DF K "has_mix" qGt f50 g50)
 (h51:DF K "check_short" wa f51 g51)
 (h52:DF K "most_slip" qCh f52 g52)
 (h53:DF K "most_roll" qDf f53 g53)
 (h54:DF K "slipped" qGz f54 g54)
 (h55:DF K "with_rolled_ends" zN f55 g55)
 (h56:DF K "table_with" vA f56 g56)
 (h57:DF K "rolled" qKj f57 g57)
 (h58:DF K "stretch_of" vB f58 g58)
 (h59:DF K "laid_by" qDs f59 g59)
 (h60:DF K "laid_on_tied" zg f60 g60)
 (h61:DF K "tracks_changed" xg f61 g61)
 (h62:DF K "check_numbers" zD f62 g62)
 (h63:DF K "touches_mix" kH f63 g63)
 (h64:DF K "check_mixes" z9 f64 g64)
 (h65:DF K "check_change" zd f65 g65)
 (h66:DF K "nest_goes_on" zZ f66 g66)
 (h67:DF K "can_heal" qAn f67 g67)
 (h68:DF K "healed" qFv f68 g68)
 (h69:DF K "mixed" qI1 f69 g69)
 (h70:DF K "unmixed" qHs f70 g70)
 (h71:DF K "relaid" qGk f71 g71)
 (h72:DF K "changed" qCr f72 g72)
 (h73:DF K "deed_done" vz f73 g73)
 (h74:DF K "told_on" qCj f74 g74)
 (h75:DF K "told_at" wU f75 g75)
 (h76:DF K "_law_cell_at" zU f76 g76)
 (h77:DF K "_law_stream" kR f77 g77)
 (h78:DF K "_law_lowest" kD f78 g78)
 (h79:DF K "_law_clip" kC f79 g79)
 (h80:DF K "_law_track" vP f80 g80)
 (h81:DF K "_law_reels" vE f81 g81)
 (h82:DF K "_law_mixed" kq f82 g82)
 (h83:DF K "_law_table" vN f83 g83)
 (h84:DF K "_law_copied" kK f84 g84)
 (h85:DF K "_law_told" vt f85 g85)
 (h86:DF K "_law_done" wH f86 g86)
 (h87:DF K "_law_due" qAd f87 g87)
 (h88:DF K "_law_goes_on" zh f88 g88)
 (h89:DF K "_law_heal_due" zI f89 g89)
 (h90:DF K "_law_cut" qA6 f90 g90)
 (h91:DF K "_law_healed" kL f91 g91)
 (h92:DF K "_law_cut_twice" xY f92 g92)
 (h93:DF K "_law_most_at" ze f93 g93)
 (h94:DF K "law" qRq f94 g94)
 (xg0:GL K "CutError" (some (.ref C0)))
 (xg1:GL K "NoNumber" (some (.ref C1)))
 (xg2:GL K "NoClip" (some (.ref C2)))
 (xg3:GL K "NoPlace" (some (.ref C3)))
 (xg4:GL K "Mixed" (some (.ref C4)))
 (xg5:GL K "Short" (some (.ref C5)))
 (x_NoPlace:L3.OwnX K C3)
 (x_Mixed:L3.OwnX K C4)
 (yPP:W.exmOne K (.ref C3) (.ref C3)=some true)
 (yMM:W.exmOne K (.ref C4) (.ref C4)=some true)
 (yMP:W.exmOne K (.ref C4) (.ref C3)=some false)
 (xz0:GL K "isinstance" none)
 (xz1:GL K "int" none)
 (xz2:GL K "bool" none)
 (xz3:GL K "abs" none)
 (xz4:GL K "tuple" none)
 (xz5:GL K "len" none)
 (xz6:GL K "all" none)
 (xz7:GL K "str" none)
 (xz8:GL K "min" none)
 (xz9:GL K "sum" none)
 (xz10:GL K "enumerate" none)
 (xz11:GL K "max" none)
 (xz12:GL K "zip" none)
 (xz13:GL K "list" none)
 (xz14:GL K "any" none)
 (xz15:GL K "range" none)
 (xz16:GL K "sorted" none)
 (xcLETTERS:GL K "LETTERS" (some (.str "abcdefghijklmnopqrstuvwxyz" tLETTERS)))
 (xcLONGEST_NAME:GL K "LONGEST_NAME" (some (.int 8 tLONGEST_NAME)))
 (xcMOST_ROOM:GL K "MOST_ROOM" (some (.int 1000000 tMOST_ROOM)))
 (xcNOUGHT:GL K "NOUGHT" (some (.ref nNOUGHT))) (xlNOUGHT:K.lookup nNOUGHT=some ⟨.type "tuple",odNOUGHT,.seq #[.int 0 tNOUGHT_0,.int 1 tNOUGHT_1] nnNOUGHT,slNOUGHT⟩)
 (xcMOST_BY:GL K "MOST_BY" (some (.int 1000000 tMOST_BY)))
 (xcROLLS:GL K "ROLLS" (some (.ref nROLLS))) (xlROLLS:K.lookup nROLLS=some ⟨.type "tuple",odROLLS,.seq #[.str "roll" tROLLS_0,.str "slip" tROLLS_1,.str "slide" tROLLS_2] nnROLLS,slROLLS⟩)
 (xcLAYS:GL K "LAYS" (some (.ref nLAYS))) (xlLAYS:K.lookup nLAYS=some ⟨.type "tuple",odLAYS,.seq #[.str "lay_in" tLAYS_0,.str "lay_over" tLAYS_1] nnLAYS,slLAYS⟩)
 (xcPUSHES:GL K "PUSHES" (some (.ref nPUSHES))) (xlPUSHES:K.lookup nPUSHES=some ⟨.type "tuple",odPUSHES,.seq #[.str "lay_in" tPUSHES_0,.str "open" tPUSHES_1,.str "close" tPUSHES_2] nnPUSHES,slPUSHES⟩)
 (xcCHANGES:GL K "CHANGES" (some (.ref nCHANGES))) (xlCHANGES:K.lookup nCHANGES=some ⟨.type "tuple",odCHANGES,.seq #[.str "cut" tCHANGES_0,.str "lay_in" tCHANGES_1,.str "open" tCHANGES_2,.str "close" tCHANGES_3,.str "lift" tCHANGES_4,.str "lay_over" tCHANGES_5] nnCHANGES,slCHANGES⟩)
 (xcWHOLE_SHARE:GL K "WHOLE_SHARE" (some (.ref nWHOLE_SHARE))) (xlWHOLE_SHARE:K.lookup nWHOLE_SHARE=some ⟨.type "tuple",odWHOLE_SHARE,.seq #[.int 1 tWHOLE_SHARE_0,.int 1 tWHOLE_SHARE_1] nnWHOLE_SHARE,slWHOLE_SHARE⟩)
 (iaShort:W.findIn K (.ref C5) "__init__"=some (some (.ref fmShort))) (ilShort:K.lookup fmShort=some ⟨ocmShort,odmShort,.func (W.fnOf "__init__" "Short.__init__" (vH vZ) (zW vZ) (qH vZ) .none kVmShort dcmShort pmmShort anmShort cdmShort ctmShort),slmShort⟩) (icShort:W.codeIn K cdmShort "Short.__init__"=true) (ikShort:W.keepIn K (.ref fmShort)=true) (ifShort:W.isFn K (.ref fmShort)=true)
 (ivShort:L3.exOver K C5 C0=true) (ihShort:W.hasDictIn K C5=true) (isShort:W.findIn K (.ref C5) "__setattr__"=some (some (.builtin "object.__setattr__"))) (ixShort:L3.excInitIn K C5 fmShort=true) (itShort:W.takerIn K C5 "most"=some none)
 :∃ fd:FuncData,(∀ (s:Shared) (v:Value),BindsTo s fd ⟨[v],[]⟩ [("_law_script",v)])∧∀ base:Heap,K.In base→base.Ns mainGlobals mg→FnOk l.prog w K mg base CX0 14 fa fd ["_law_script"] (qPk K):=by
 have e:=hfa.symm.trans (W.mg_of X G h94.n)
 obtain rfl:f94=fa:=by cases e;rfl
 obtain⟨_,_,_,_,_,_,_,_,_,rfl,_,_⟩:=h94.F.ex
 have FmShort:=qQr (st:=vZ) ilShort icShort ikShort
 have bmShort:=FmShort.binds (ps:=["self","most"]) fun _ _ _ _ _ _ us hl=>match us,hl with | [_,_],_=>rfl
 have T:Tx K mg ⟨f0,_,f1,_,f2,_,f3,_,f4,_,f5,_,f6,_,f7,_,f8,_,f9,_,f10,_,f11,_,f12,_,f13,_,f14,_,f15,_,f16,_,f17,_,f18,_,f19,_,f20,_,f21,_,f22,_,f23,_,f24,_,f25,_,f26,_,f27,_,f28,_,f29,_,f30,_,f31,_,f32,_,f33,_,f34,_,f35,_,f36,_,f37,_,f38,_,f39,_,f40,_,f41,_,f42,_,f43,_,f44,_,f45,_,f46,_,f47,_,f48,_,f49,_,f50,_,f51,_,f52,_,f53,_,f54,_,f55,_,f56,_,f57,_,f58,_,f59,_,f60,_,f61,_,f62,_,f63,_,f64,_,f65,_,f66,_,f67,_,f68,_,f69,_,f70,_,f71,_,f72,_,f73,_,f74,_,f75,_,f76,_,f77,_,f78,_,f79,_,f80,_,f81,_,f82,_,f83,_,f84,_,f85,_,f86,_,f87,_,f88,_,f89,_,f90,_,f91,_,f92,_,f93,_,f94,_,C0,C1,C2,C3,C4,C5,tLETTERS,tLONGEST_NAME,tMOST_ROOM,nNOUGHT,tMOST_BY,nROLLS,nLAYS,nPUSHES,nCHANGES,nWHOLE_SHARE,fmShort,_⟩:=⟨dG X G h0,dG X G h1,dG X G h2,dG X G h3,dG X G h4,dG X G h5,dG X G h6,dG X G h7,dG X G h8,dG X G h9,dG X G h10,dG X G h11,dG X G h12,dG X G h13,dG X G h14,dG X G h15,dG X G h16,dG X G h17,dG X G h18,dG X G h19,dG X G h20,dG X G h21,dG X G h22,dG X G h23,dG X G h24,dG X G h25,dG X G h26,dG X G h27,dG X G h28,dG X G h29,dG X G h30,dG X G h31,dG X G h32,dG X G h33,dG X G h34,dG X G h35,dG X G h36,dG X G h37,dG X G h38,dG X G h39,dG X G h40,dG X G h41,dG X G h42,dG X G h43,dG X G h44,dG X G h45,dG X G h46,dG X G h47,dG X G h48,dG X G h49,dG X G h50,dG X G h51,dG X G h52,dG X G h53,dG X G h54,dG X G h55,dG X G h56,dG X G h57,dG X G h58,dG X G h59,dG X G h60,dG X G h61,dG X G h62,dG X G h63,dG X G h64,dG X G h65,dG X G h66,dG X G h67,dG X G h68,dG X G h69,dG X G h70,dG X G h71,dG X G h72,dG X G h73,dG X G h74,dG X G h75,dG X G h76,dG X G h77,dG X G h78,dG X G h79,dG X G h80,dG X G h81,dG X G h82,dG X G h83,dG X G h84,dG X G h85,dG X G h86,dG X G h87,dG X G h88,dG X G h89,dG X G h90,dG X G h91,dG X G h92,dG X G h93,dG X G h94,W.mg_of X G xg0,W.mg_of X G xg1,W.mg_of X G xg2,W.mg_of X G xg3,W.mg_of X G xg4,W.mg_of X G xg5,W.mg_none_of X G xz0,W.mg_none_of X G xz1,W.mg_none_of X G xz2,W.mg_none_of X G xz3,W.mg_none_of X G xz4,W.mg_none_of X G xz5,W.mg_none_of X G xz6,W.mg_none_of X G xz7,W.mg_none_of X G xz8,W.mg_none_of X G xz9,W.mg_none_of X G xz10,W.mg_none_of X G xz11,W.mg_none_of X G xz12,W.mg_none_of X G xz13,W.mg_none_of X G xz14,W.mg_none_of X G xz15,W.mg_none_of X G xz16,W.mg_of X G xcLETTERS,W.mg_of X G xcLONGEST_NAME,W.mg_of X G xcMOST_ROOM,W.mg_of X G xcNOUGHT,fun H=>.inr ⟨_,_,_,xlNOUGHT,rfl,rfl,by show 2≤sizeLine;decide,.cons ⟨_,rfl⟩ (.cons ⟨_,rfl⟩ (.nil))⟩,W.mg_of X G xcMOST_BY,W.mg_of X G xcROLLS,fun H=>.inr ⟨_,_,_,xlROLLS,rfl,rfl,by show 3≤sizeLine;decide,.cons ⟨_,rfl⟩ (.cons ⟨_,rfl⟩ (.cons ⟨_,rfl⟩ (.nil)))⟩,W.mg_of X G xcLAYS,fun H=>.inr ⟨_,_,_,xlLAYS,rfl,rfl,by show 2≤sizeLine;decide,.cons ⟨_,rfl⟩ (.cons ⟨_,rfl⟩ (.nil))⟩,W.mg_of X G xcPUSHES,fun H=>.inr ⟨_,_,_,xlPUSHES,rfl,rfl,by show 3≤sizeLine;decide,.cons ⟨_,rfl⟩ (.cons ⟨_,rfl⟩ (.cons ⟨_,rfl⟩ (.nil)))⟩,W.mg_of X G xcCHANGES,fun H=>.inr ⟨_,_,_,xlCHANGES,rfl,rfl,by show 6≤sizeLine;decide,.cons ⟨_,rfl⟩ (.cons ⟨_,rfl⟩ (.cons ⟨_,rfl⟩ (.cons ⟨_,rfl⟩ (.cons ⟨_,rfl⟩ (.cons ⟨_,rfl⟩ (.nil))))))⟩,W.mg_of X G xcWHOLE_SHARE,fun H=>.inr ⟨_,_,_,xlWHOLE_SHARE,rfl,rfl,by show 2≤sizeLine;decide,.cons ⟨_,rfl⟩ (.cons ⟨_,rfl⟩ (.nil))⟩,x_NoPlace,x_Mixed,yPP,yMM,yMP,FmShort,bmShort,⟨ivShort,ihShort,isShort,ixShort,ifShort⟩,itShort⟩
 exact⟨_,fun s v=>.of_eq rfl,fun base _ _=>qTq T⟩
theorem walk {l:W.OpenLaw}{q:Program}{loose:List Str}{XP:(Str→Option Value)→Heap→Prop}{YP:World→Heap→Prop}{d:DefRec}{K:Params→W.Frag}(hn:l.most=some 63)(hdf:d.params.defaults=[])
 (hY:∀ (w:World) (h:Heap),YP w h→(K w.params).In h)
 (F:∀ (w:World) (mg:Str→Option Value) (fa:Addr) (h:Heap),(K w.params).In h→h.Ns mainGlobals mg→mg d.name=some (.ref fa)→
   ∃ fd:FuncData,(∀ (s:Shared) (u:Value),BindsTo s fd ⟨[u],[]⟩ [("_law_script",u)])∧∀ base:Heap,(K w.params).In base→base.Ns mainGlobals mg→FnOk l.prog w (K w.params) mg base CX0 14 fa fd ["_law_script"] (qPk (K w.params))):
 W.WalkO q loose XP YP l.row.toRowW d [] (fun f vs=>PySem.call f vs):=
 L2.walk_of (n:=63) (k:=14) (x:="_law_script") (CX:=fun _=>CX0) (sp:=fun w=>qPk (K w.params)) hn (by decide) hdf ⟨rfl,by decide,by decide⟩ hY F (fun _ _ a ns hl _ hS=>⟨a,ns,rfl,hS,hl,fun _=>rfl⟩) fun _ _ _ _ _ z=>z
end Lw
namespace PySem.W.Fast
def tw14702650574442200481 := ()
def tw9554452939945320194 := ()
def tw10691727907467607750 := ()
def tw6365385102044104999 := ()
def tw17207752083553448871 := ()
def tw5361463850799286666 := ()
def tw7437579748044946890 := ()
def tw859809553061396395 := ()
def tw9050400308671800235 := ()
def tw15248812985028007915 := ()
def tw8486863553516174988 := ()
def tw3210867893388401325 := ()
def tw14372023096789507726 := ()
def tw18205210329668824814 := ()
def tw12066330881034397264 := ()
def tw1206012146077265 := ()
def tw1894223223660265810 := ()
def tw9436999746727724339 := ()
def tw9607623321888037012 := ()
def tw15856937279561051412 := ()
def tw10303691917055853268 := ()
def tw12765097709768070997 := ()
def tw7609772773075687607 := ()
def tw2435761316998553943 := ()
def tw16171851003191678327 := ()
def tw16880878978725442359 := ()
def tw1724689794707546103 := ()
def tw7109136243508864216 := ()
def tw508814888736406136 := ()
def tw258833921073751129 := ()
def tw10166859504570101402 := ()
def tw16956186235034901054 := ()
def tw11933152643554272607 := ()
def tw310806021004247485 := ()
def tw3516364626011766244 := ()
def tw18039337894506373304 := ()
def tw7993052123909642902 := ()
def tw14867969073534219500 := ()
def tw4132911397333033212 := ()
def tw3846326231807878983 := ()
def tw13174972069069630645 := ()
def tw9482995090992397121 := ()
def tw761269174340335883 := ()
def tw7136492217469313100 := ()
def tw8974728163809230937 := ()
def tw9089789923534681736 := ()
def tw6821428827333641352 := ()
def tw5754545321713896528 := ()
def tw8163989886200733888 := ()
def tw14249745747243820334 := ()
def tw11429740528136784482 := ()
def tw15583318928055487342 := ()
def tw13362661920038040723 := ()
def tw6892178749343313386 := ()
def tw1804833722564207675 := ()
def tw14090645481687305628 := ()
def tw10440846439072096151 := ()
def tw15524005639215626301 := ()
def tw11226296674233618636 := ()
def tw7185782576316228852 := ()
def tw1186200957547736995 := ()
def tw4723084538348747761 := ()
def tw10503562774571914543 := ()
def tw7561005400831007794 := ()
def tw10777811378092960349 := ()
def tw8851253155078876946 := ()
def tw17840618594418173840 := ()
def tw17444020871650675121 := ()
def tw5545002821642551138 := ()
def tw12053401752566776760 := ()
def tw4483476405057259935 := ()
def tw6492121133638672726 := ()
def tw17095739411503799577 := ()
def tw6885332134089587509 := ()
def tw3578362051637340561 := ()
def tw178220462379787486 := ()
def tw386167724819796617 := ()
def tw11431218616722507337 := ()
def tw2592698122426471017 := ()
def tw4887309505747551767 := ()
def tw713268804602317552 := ()
def tw1784214461850392253 := ()
def tw14000215961674384991 := ()
def tw16255878878060074365 := ()
def tw16511597634567323505 := ()
def tw213898893299195772 := ()
def tw5932922929319974805 := ()
def tw9565307383650199354 := ()
def tw10271965379072308 := ()
def tw9831392066913522050 := ()
def tw12606459269498016131 := ()
def tw687423331477940941 := ()
def tw14611754565660726740 := ()
def tw1863721592116842691 := ()
def tw12630118656801104561 := ()
def tw7295710520033327092 := ()
def tw7949843525533728927 := ()
def tw4867516363045247793 := ()
def tw10007432002562501203 := ()
def tw5052131816173579159 := ()
def tw6580773950527604809 := ()
def tw9029219644529499862 := ()
def tw9827082062284732002 := ()
def tw12910679692193654787 := ()
def tw7937087368840314260 := ()
def tw5874505369205785248 := ()
def tw4965476003599838903 := ()
def tw10418517013589209394 := ()
def tw15099562135488686491 := ()
def tw15669024683269605252 := ()
def tw16296495500442921975 := ()
def tw2055602127967585901 := ()
def tw8121011013396856798 := ()
def tw12173206861426976592 := ()
def tw17936781234679707648 := ()
def tw11128687693057015815 := ()
def tw3207904067485733734 := ()
def tw14214825688033374956 := ()
def tw569762117724644376 := ()
def tw4818031383059627 := ()
def tw16376264312321437763 := ()
def tw15036013771016258858 := ()
def tw2172224878523375016 := ()
def tw16492281466073178617 := ()
def tw9343643633111662639 := ()
def tw11085292459804130962 := ()
def tw10264742919886258871 := ()
def tw17606603620718164104 := ()
def tw3814865297724999994 := ()
def tw3315314169389207089 := ()
def tw14734017624384137115 := ()
def tw17688566226541139671 := ()
def tw4626699371155969953 := ()
def tw2882059058115883363 := ()
def tw113414612928865765 := ()
def tw10069228175685579172 := ()
def tw4630597168510854167 := ()
def tw11514859568754264335 := ()
def tw931727450076408798 := ()
def tw8579220440503169055 := ()
def tw13751030784285357205 := ()
def tw5714785666137980200 := ()
def tw3963440799769386722 := ()
def tw5138300874916971971 := ()
def tw5819454545390905517 := ()
def tw16684431407989563778 := ()
def tw3818525284726064722 := ()
def tw14394714401527809687 := ()
def tw8709587888994741235 := ()
def tw13282304817623430797 := ()
def tw3497282988196765193 := ()
def tw17318097588081577266 := ()
def tw7796621543697675160 := ()
def tw10331857231423284895 := ()
def tw4149362184120299289 := ()
def tw14848560786537595686 := ()
def tw8819765105358892948 := ()
def tw4379186956610483568 := ()
def tw13661438698782205502 := ()
def tw5567924330587323198 := ()
def tw2995735063987370409 := ()
def tw13947631469556383066 := ()
def tw10462578943995384716 := ()
def tw15340066846498950835 := ()
def tw7134528389884183998 := ()
def tw14504177751543880048 := ()
def tw738999483092141939 := ()
def tw16964167616754320309 := ()
def tw10255686261286709206 := ()
def tw17092307895580172103 := ()
def tw5258129614981768397 := ()
def tw6298082493914664256 := ()
def tw13829460918364967550 := ()
def tw10336956607512578770 := ()
def tw12913473475388303717 := ()
def tw17665977693948606108 := ()
def tw14403092451085066545 := ()
def tw9493933596628028662 := ()
def tw3724649642372621582 := ()
def tw627437720287249173 := ()
def tw11448748392923452302 := ()
def tw16436104604364894083 := ()
def tw13065087465601171513 := ()
def tw12160444174293902114 := ()
def tw6692188785618356946 := ()
def tw7725554198204354431 := ()
def tw10499970905325924204 := ()
def tw17769001648652094588 := ()
def tw16408853390610896295 := ()
def tw18411024892672836327 := ()
def tw3332577229524936232 := ()
def tw5527554495451840647 := ()
def tw18246044416806915457 := ()
def tw1242626652020611559 := ()
def tw14424947343078838194 := ()
def tw12387230350700274175 := ()
def tw8558490210033318842 := ()
def tw2158555436312113224 := ()
def tw6495414282455643675 := ()
def tw3511351305267572591 := ()
def tw12539950428794070326 := ()
def tw7144980131497838918 := ()
def tw5046175261551493640 := ()
def tw1291802080709869847 := ()
def tw9156594783894769845 := ()
def tw8756142477132150858 := ()
def tw1799796948004338454 := ()
def tw14947451108112846866 := ()
def tw914811633476091395 := ()
def tw3364395364164857625 := ()
def tw1299208309270456198 := ()
def tw8561838282547562905 := ()
def tw15085238054454897158 := ()
def tw11304260308920908923 := ()
def tw15533294278872098561 := ()
def tw13535655992274169229 := ()
def tw17119892045701440289 := ()
def tw4394391209981357180 := ()
def tw12209124680488095345 := ()
def tw16244324270448328642 := ()
def tw17997697792205885232 := ()
def tw13282136515859739978 := ()
def tw8023934917081613630 := ()
def tw11926494497169442549 := ()
def tw2350375121573227311 := ()
def tw1283038467634106783 := ()
def tw12006419132317559031 := ()
def tw6362956944460622318 := ()
def tw12196760277357785762 := ()
def tw2340812183449393826 := ()
def tw7439516833112570433 := ()
def tw2834895470733215906 := ()
def tw11308491229853033602 := ()
def tw3766032762033795818 := ()
def tw3620256440515830273 := ()
def tw12123995688093820594 := ()
def tw6583170099003971596 := ()
def tw18422368399112378813 := ()
def tw14191370803806698651 := ()
def tw14124049665620498820 := ()
def tw3803404429490486530 := ()
def tw1667579373357300343 := ()
def tw9392570565120085567 := ()
def tw2138658071899907996 := ()
def tw12982658156442953503 := ()
def tw15854857565225949989 := ()
def tw12146381689751403454 := ()
def tw9558238254793118897 := ()
def tw9125073310310159514 := ()
def tw648007018082247145 := ()
def tw6884092322704384360 := ()
def tw8311825924177103639 := ()
def tw7255647255207489695 := ()
def tw1109388023326493933 := ()
def tw10884668695257485464 := ()
def tw2654768224011039360 := ()
def tw17843637980803659335 := ()
def tw3401049370849339730 := ()
def tw3492989774795443702 := ()
def tw12622564530695398957 := ()
def tw12581652423861062089 := ()
def tw5856967025782637230 := ()
def tw2794619040307104765 := ()
def tw12703518363079726482 := ()
def tw3118700036150220072 := ()
def tw14281848146283599639 := ()
def tw13014746141679963950 := ()
def tw3038477539961551738 := ()
def tw2350297119460127418 := ()
def tw1804632534126989195 := ()
def tw18007392817165793191 := ()
def tw16465160261911102787 := ()
def tw7802547628856487120 := ()
def tw3021501810752256441 := ()
def tw10080411825327874501 := ()
def tw2677688093771787947 := ()
def tw9715267245529451051 := ()
def tw4422181866163748463 := ()
def tw15663046928116369013 := ()
def tw1667071083499959380 := ()
def tw4263028978586849091 := ()
def tw17072710268650384569 := ()
def tw1292101307632890893 := ()
def tw2759918569248445414 := ()
def tw10026111669583640304 := ()
def tw6096309900193884624 := ()
def tw17366429399673686069 := ()
def tw7986302220186193654 := ()
def tw10356203328292118723 := ()
def tw15135710296968850248 := ()
def tw5480559928473252685 := ()
def tw6466940156069280513 := ()
def tw14423107367495074868 := ()
def tw17617171272733743119 := ()
def tw4537713453749196412 := ()
def tw9166718520428289006 := ()
def tw8872408629995233643 := ()
def tw13637753946060738774 := ()
def tw13046281215422554185 := ()
def tw4732090768825880903 := ()
def tw9262628572936808808 := ()
def tw13169411508176358334 := ()
def tw12168771140868172943 := ()
def tw5305316165378847445 := ()
def tw5518253301680926485 := ()
end PySem.W.Fast
open PySem PySem.W PyProof.Rows
set_option maxRecDepth 100000 in
set_option maxHeartbeats 0 in
theorem PySem.Challenge.cw_reelcut_k45_cut_and_healed_holds : PySem.Challenge.rw_reelcut_k45_cut_and_healed.Holds := by
 w_on;o_law;k_head;(case hw=>w_witness2)
 k_fill
 refine Lw.walk (l:=PySem.Challenge.rw_reelcut_k45_cut_and_healed) rfl rfl (fun w h Y=>PySem.W.kIn_of Y) ?F
 case F=>
  intro w mg fa h KX G hmg
  refine' Lw.all_mk KX G hmg (Lw.df_mk ?a0 ?l0 ?c0 ?k0) (Lw.df_mk ?a1 ?l1 ?c1 ?k1) (Lw.df_mk ?a2 ?l2 ?c2 ?k2) (Lw.df_mk ?a3 ?l3 ?c3 ?k3) (Lw.df_mk ?a4 ?l4 ?c4 ?k4) (Lw.df_mk ?a5 ?l5 ?c5 ?k5) (Lw.df_mk ?a6 ?l6 ?c6 ?k6) (Lw.df_mk ?a7 ?l7 ?c7 ?k7) (Lw.df_mk ?a8 ?l8 ?c8 ?k8) (Lw.df_mk ?a9 ?l9 ?c9 ?k9) (Lw.df_mk ?a10 ?l10 ?c10 ?k10) (Lw.df_mk ?a11 ?l11 ?c11 ?k11) (Lw.df_mk ?a12 ?l12 ?c12 ?k12) (Lw.df_mk ?a13 ?l13 ?c13 ?k13) (Lw.df_mk ?a14 ?l14 ?c14 ?k14) (Lw.df_mk ?a15 ?l15 ?c15 ?k15) (Lw.df_mk ?a16 ?l16 ?c16 ?k16) (Lw.df_mk ?a17 ?l17 ?c17 ?k17) (Lw.df_mk ?a18 ?l18 ?c18 ?k18) (Lw.df_mk ?a19 ?l19 ?c19 ?k19) (Lw.df_mk ?a20 ?l20 ?c20 ?k20) (Lw.df_mk ?a21 ?l21 ?c21 ?k21) (Lw.df_mk ?a22 ?l22 ?c22 ?k22) (Lw.df_mk ?a23 ?l23 ?c23 ?k23) (Lw.df_mk ?a24 ?l24 ?c24 ?k24) (Lw.df_mk ?a25 ?l25 ?c25 ?k25) (Lw.df_mk ?a26 ?l26 ?c26 ?k26) (Lw.df_mk ?a27 ?l27 ?c27 ?k27) (Lw.df_mk ?a28 ?l28 ?c28 ?k28) (Lw.df_mk ?a29 ?l29 ?c29 ?k29) (Lw.df_mk ?a30 ?l30 ?c30 ?k30) (Lw.df_mk ?a31 ?l31 ?c31 ?k31) (Lw.df_mk ?a32 ?l32 ?c32 ?k32) (Lw.df_mk ?a33 ?l33 ?c33 ?k33) (Lw.df_mk ?a34 ?l34 ?c34 ?k34) (Lw.df_mk ?a35 ?l35 ?c35 ?k35) (Lw.df_mk ?a36 ?l36 ?c36 ?k36) (Lw.df_mk ?a37 ?l37 ?c37 ?k37) (Lw.df_mk ?a38 ?l38 ?c38 ?k38) (Lw.df_mk ?a39 ?l39 ?c39 ?k39) (Lw.df_mk ?a40 ?l40 ?c40 ?k40) (Lw.df_mk ?a41 ?l41 ?c41 ?k41) (Lw.df_mk ?a42 ?l42 ?c42 ?k42) (Lw.df_mk ?a43 ?l43 ?c43 ?k43) (Lw.df_mk ?a44 ?l44 ?c44 ?k44) (Lw.df_mk ?a45 ?l45 ?c45 ?k45) (Lw.df_mk ?a46 ?l46 ?c46 ?k46) (Lw.df_mk ?a47 ?l47 ?c47 ?k47) (Lw.df_mk ?a48 ?l48 ?c48 ?k48) (Lw.df_mk ?a49 ?l49 ?c49 ?k49) (Lw.df_mk ?a50 ?l50 ?c50 ?k50) (Lw.df_mk ?a51 ?l51 ?c51 ?k51) (Lw.df_mk ?a52 ?l52 ?c52 ?k52) (Lw.df_mk ?a53 ?l53 ?c53 ?k53) (Lw.df_mk ?a54 ?l54 ?c54 ?k54) (Lw.df_mk ?a55 ?l55 ?c55 ?k55) (Lw.df_mk ?a56 ?l56 ?c56 ?k56) (Lw.df_mk ?a57 ?l57 ?c57 ?k57) (Lw.df_mk ?a58 ?l58 ?c58 ?k58) (Lw.df_mk ?a59 ?l59 ?c59 ?k59) (Lw.df_mk ?a60 ?l60 ?c60 ?k60) (Lw.df_mk ?a61 ?l61 ?c61 ?k61) (Lw.df_mk ?a62 ?l62 ?c62 ?k62) (Lw.df_mk ?a63 ?l63 ?c63 ?k63) (Lw.df_mk ?a64 ?l64 ?c64 ?k64) (Lw.df_mk ?a65 ?l65 ?c65 ?k65) (Lw.df_mk ?a66 ?l66 ?c66 ?k66) (Lw.df_mk ?a67 ?l67 ?c67 ?k67) (Lw.df_mk ?a68 ?l68 ?c68 ?k68) (Lw.df_mk ?a69 ?l69 ?c69 ?k69) (Lw.df_mk ?a70 ?l70 ?c70 ?k70) (Lw.df_mk ?a71 ?l71 ?c71 ?k71) (Lw.df_mk ?a72 ?l72 ?c72 ?k72) (Lw.df_mk ?a73 ?l73 ?c73 ?k73) (Lw.df_mk ?a74 ?l74 ?c74 ?k74) (Lw.df_mk ?a75 ?l75 ?c75 ?k75) (Lw.df_mk ?a76 ?l76 ?c76 ?k76) (Lw.df_mk ?a77 ?l77 ?c77 ?k77) (Lw.df_mk ?a78 ?l78 ?c78 ?k78) (Lw.df_mk ?a79 ?l79 ?c79 ?k79) (Lw.df_mk ?a80 ?l80 ?c80 ?k80) (Lw.df_mk ?a81 ?l81 ?c81 ?k81) (Lw.df_mk ?a82 ?l82 ?c82 ?k82) (Lw.df_mk ?a83 ?l83 ?c83 ?k83) (Lw.df_mk ?a84 ?l84 ?c84 ?k84) (Lw.df_mk ?a85 ?l85 ?c85 ?k85) (Lw.df_mk ?a86 ?l86 ?c86 ?k86) (Lw.df_mk ?a87 ?l87 ?c87 ?k87) (Lw.df_mk ?a88 ?l88 ?c88 ?k88) (Lw.df_mk ?a89 ?l89 ?c89 ?k89) (Lw.df_mk ?a90 ?l90 ?c90 ?k90) (Lw.df_mk ?a91 ?l91 ?c91 ?k91) (Lw.df_mk ?a92 ?l92 ?c92 ?k92) (Lw.df_mk ?a93 ?l93 ?c93 ?k93) (Lw.df_mk ?a94 ?l94 ?c94 ?k94) (Lw.gl_mk ?xg0) (Lw.gl_mk ?xg1) (Lw.gl_mk ?xg2) (Lw.gl_mk ?xg3) (Lw.gl_mk ?xg4) (Lw.gl_mk ?xg5) ?x_NoPlace ?x_Mixed ?yPP ?yMM ?yMP (Lw.gl_mk ?xz0) (Lw.gl_mk ?xz1) (Lw.gl_mk ?xz2) (Lw.gl_mk ?xz3) (Lw.gl_mk ?xz4) (Lw.gl_mk ?xz5) (Lw.gl_mk ?xz6) (Lw.gl_mk ?xz7) (Lw.gl_mk ?xz8) (Lw.gl_mk ?xz9) (Lw.gl_mk ?xz10) (Lw.gl_mk ?xz11) (Lw.gl_mk ?xz12) (Lw.gl_mk ?xz13) (Lw.gl_mk ?xz14) (Lw.gl_mk ?xz15) (Lw.gl_mk ?xz16) (Lw.gl_mk ?xcLETTERS) (Lw.gl_mk ?xcLONGEST_NAME) (Lw.gl_mk ?xcMOST_ROOM) (Lw.gl_mk ?xcNOUGHT) ?xlNOUGHT (Lw.gl_mk ?xcMOST_BY) (Lw.gl_mk ?xcROLLS) ?xlROLLS (Lw.gl_mk ?xcLAYS) ?xlLAYS (Lw.gl_mk ?xcPUSHES) ?xlPUSHES (Lw.gl_mk ?xcCHANGES) ?xlCHANGES (Lw.gl_mk ?xcWHOLE_SHARE) ?xlWHOLE_SHARE ?iaShort ?ilShort ?icShort ?ikShort ?ifShort ?ivShort ?ihShort ?isShort ?ixShort ?itShort
  (case a0 | l0 | c0 | k0 | a1 | l1 | c1 | k1 | a2 | l2 | c2 | k2 | a3 | l3 | c3 | k3 | a4 | l4 | c4 | k4 | a5 | l5 | c5 | k5 | a6 | l6 | c6 | k6 | a7 | l7 | c7 | k7 | a8 | l8 | c8 | k8 | a9 | l9 | c9 | k9 | a10 | l10 | c10 | k10 | a11 | l11 | c11 | k11 | a12 | l12 | c12 | k12 | a13 | l13 | c13 | k13 | a14 | l14 | c14 | k14 | a15 | l15 | c15 | k15 | a16 | l16 | c16 | k16 | a17 | l17 | c17 | k17 | a18 | l18 | c18 | k18 | a19 | l19 | c19 | k19 | a20 | l20 | c20 | k20 | a21 | l21 | c21 | k21 | a22 | l22 | c22 | k22 | a23 | l23 | c23 | k23 | a24 | l24 | c24 | k24 | a25 | l25 | c25 | k25 | a26 | l26 | c26 | k26 | a27 | l27 | c27 | k27 | a28 | l28 | c28 | k28 | a29 | l29 | c29 | k29 | a30 | l30 | c30 | k30 | a31 | l31 | c31 | k31 | a32 | l32 | c32 | k32 | a33 | l33 | c33 | k33 | a34 | l34 | c34 | k34 | a35 | l35 | c35 | k35 | a36 | l36 | c36 | k36 | a37 | l37 | c37 | k37 | a38 | l38 | c38 | k38 | a39 | l39 | c39 | k39 | a40 | l40 | c40 | k40 | a41 | l41 | c41 | k41 | a42 | l42 | c42 | k42 | a43 | l43 | c43 | k43 | a44 | l44 | c44 | k44 | a45 | l45 | c45 | k45 | a46 | l46 | c46 | k46 | a47 | l47 | c47 | k47 | a48 | l48 | c48 | k48 | a49 | l49 | c49 | k49 | a50 | l50 | c50 | k50 | a51 | l51 | c51 | k51 | a52 | l52 | c52 | k52 | a53 | l53 | c53 | k53 | a54 | l54 | c54 | k54 | a55 | l55 | c55 | k55 | a56 | l56 | c56 | k56 | a57 | l57 | c57 | k57 | a58 | l58 | c58 | k58 | a59 | l59 | c59 | k59 | a60 | l60 | c60 | k60 | a61 | l61 | c61 | k61 | a62 | l62 | c62 | k62 | a63 | l63 | c63 | k63 | a64 | l64 | c64 | k64 | a65 | l65 | c65 | k65 | a66 | l66 | c66 | k66 | a67 | l67 | c67 | k67 | a68 | l68 | c68 | k68 | a69 | l69 | c69 | k69 | a70 | l70 | c70 | k70 | a71 | l71 | c71 | k71 | a72 | l72 | c72 | k72 | a73 | l73 | c73 | k73 | a74 | l74 | c74 | k74 | a75 | l75 | c75 | k75 | a76 | l76 | c76 | k76 | a77 | l77 | c77 | k77 | a78 | l78 | c78 | k78 | a79 | l79 | c79 | k79 | a80 | l80 | c80 | k80 | a81 | l81 | c81 | k81 | a82 | l82 | c82 | k82 | a83 | l83 | c83 | k83 | a84 | l84 | c84 | k84 | a85 | l85 | c85 | k85 | a86 | l86 | c86 | k86 | a87 | l87 | c87 | k87 | a88 | l88 | c88 | k88 | a89 | l89 | c89 | k89 | a90 | l90 | c90 | k90 | a91 | l91 | c91 | k91 | a92 | l92 | c92 | k92 | a93 | l93 | c93 | k93 | a94 | l94 | c94 | k94 | xg0 | xg1 | xg2 | xg3 | xg4 | xg5=>k_is)
  (case x_NoPlace=>(unfold L3.OwnX;kernel_rfl))
  (case x_Mixed=>(unfold L3.OwnX;kernel_rfl))
  (case yPP=>kernel_rfl)
  (case yMM=>kernel_rfl)
  (case yMP=>kernel_rfl)
  (case xz0 | xz1 | xz2 | xz3 | xz4 | xz5 | xz6 | xz7 | xz8 | xz9 | xz10 | xz11 | xz12 | xz13 | xz14 | xz15 | xz16 | xcLETTERS | xcLONGEST_NAME | xcMOST_ROOM | xcNOUGHT | xlNOUGHT | xcMOST_BY | xcROLLS | xlROLLS | xcLAYS | xlLAYS | xcPUSHES | xlPUSHES | xcCHANGES | xlCHANGES | xcWHOLE_SHARE | xlWHOLE_SHARE | iaShort | ilShort | icShort | ikShort | ifShort=>k_is)
  (case ivShort=>(unfold L3.exOver;kernel_rfl))
  (case ihShort | isShort=>k_is)
  (case ixShort=>(unfold L3.excInitIn;kernel_rfl))
  (case itShort=>k_is)

import PyProof.Rows.All
import Wide.All
import OpenK.AllK
import Wide.FinOn
import Lean
import PyProof.EqAt
import PyProof.EqKinds
import PyProof.TupleCall
import PyProof.StrLawsTight
import KE.KIntText
import KE.KxPart
import KE.KDictLaws
import KE.KMinKey
import PySem.Challenge.RW_reelcut_k85_tracks_in_texts
set_option maxHeartbeats 4000000
set_option Elab.async false
set_option linter.all false
set_option maxRecDepth 100000
namespace L2
open PySem PySem.Spec PyProof.Rows
abbrev Key:=Sum Int Str
def qKl:Key→Value→Bool
 | .inl k,v=>Value.isInt k v
 | .inr x,v=>Value.isStrOf x v
def qMn (w:World):Key→Int
 | .inl k=>hashInt k
 | .inr x=>hashStr w x
theorem q8:∀ {k:Key} {v:Value},qKl k v=true→(∃ i t,k=Sum.inl i∧v=Value.int i t)∨(∃ x t,k=Sum.inr x∧v=Value.str x t)
 | .inl i,v,h=>by
  obtain⟨t,e⟩:=Value.isInt_shape (k:=i) (v:=v) h
  exact .inl ⟨i,t,rfl,e⟩
 | .inr x,v,h=>by
  obtain⟨t,e⟩:=Value.isStrOf_shape (x:=x) (v:=v) h
  exact .inr ⟨x,t,rfl,e⟩
theorem qJ4 (a b:Int):decide ((Sum.inl a:Key)=Sum.inl b)=(a == b):=by
 by_cases e:a=b
 · subst e;simp
 · have h:¬ (Sum.inl a:Key)=Sum.inl b:=fun q=>e (Sum.inl.inj q)
   rw [decide_eq_false h]
   exact(beq_eq_false_iff_ne.mpr e).symm
theorem qKe (a b:Str):decide ((Sum.inr a:Key)=Sum.inr b)=decide (a=b):=by
 by_cases e:a=b
 · subst e;simp
 · have h:¬ (Sum.inr a:Key)=Sum.inr b:=fun q=>e (Sum.inr.inj q)
   rw [decide_eq_false h,decide_eq_false e]
theorem qKa (a:Int)(b:Str):decide ((Sum.inl a:Key)=Sum.inr b)=false:=decide_eq_false (fun q=>nomatch q)
theorem qKh (a:Str)(b:Int):decide ((Sum.inr a:Key)=Sum.inl b)=false:=decide_eq_false (fun q=>nomatch q)
def qEd (prog:Program)(w:World):PySem.KeyKind prog w Key where
 is:=qKl
 hash:=qMn w
 inj:=fun v a b ha hb=>by
  rcases q8 ha with ⟨i,t,rfl,rfl⟩ | ⟨x,t,rfl,rfl⟩
  · rcases q8 hb with ⟨j,u,rfl,e⟩ | ⟨y,u,rfl,e⟩
    · injection e with e1 _;rw [e1]
    · exact nomatch e
  · rcases q8 hb with ⟨j,u,rfl,e⟩ | ⟨y,u,rfl,e⟩
    · exact nomatch e
    · injection e with e1 _;rw [e1]
 byValue:=fun k v h=>by
  rcases q8 h with ⟨i,t,rfl,rfl⟩ | ⟨x,t,rfl,rfl⟩ <;> rfl
 pyHash:=fun hv h=>by
  rcases q8 hv with ⟨i,t,rfl,rfl⟩ | ⟨x,t,rfl,rfl⟩
  · exact wpAny_pyHash_int h
  · exact wpAny_pyHash_str h
 eqBool:=fun hu hv h=>by
  rcases q8 hu with ⟨i,t,rfl,rfl⟩ | ⟨x,t,rfl,rfl⟩
  · rcases q8 hv with ⟨j,u,rfl,rfl⟩ | ⟨y,u,rfl,rfl⟩
    · rw [qJ4] at h;exact wpAny_eqBool_int h
    · rw [qKa] at h;exact SeqAt.EqAt.int_str i t y u _ _ _ _ h
  · rcases q8 hv with ⟨j,u,rfl,rfl⟩ | ⟨y,u,rfl,rfl⟩
    · rw [qKh] at h;exact SeqAt.EqAt.str_int x t j u _ _ _ _ h
    · rw [qKe] at h;exact wpAny_eqBool_str h
 «strs»:=fun k x t v h=>by
  rcases q8 h with ⟨i,u,rfl,e⟩ | ⟨y,u,rfl,e⟩
  · exact nomatch e
  · injection e with e1 _
    subst e1
    cases v <;> rfl
end L2
namespace L2
open PySem PySem.Spec PyProof.Rows
inductive V where
 | non | bl (b:Bool) | int (i:Int) | str (x:Str) | byt (b:Array UInt8) | flt (b:UInt64) | ref (a:Addr) | ty (n:String)
 deriving DecidableEq
def RelV:V→Value→Prop
 | .non,u=>u=Value.none
 | .bl b,u=>u=Value.bool b
 | .int i,u=>∃ t,u=Value.int i t
 | .str x,u=>∃ t,u=Value.str x t
 | .byt b,u=>∃ t,u=Value.bytes b t
 | .flt b,u=>∃ t,u=Value.float b t
 | .ref a,u=>u=Value.ref a
 | .ty n,u=>u=Value.type n
abbrev Vals:List V→List Value→Prop:=Paired RelV
theorem Vals.length {xs:List V}{us:List Value}(r:Vals xs us):xs.length=us.length:=Paired.length r
theorem Vals.get:∀ {xs:List V} {us:List Value} {i:Nat} {x:V},Vals xs us→xs[i]? =some x→∃ u,us[i]? =some u∧RelV x u
 | _,_,_,_,.nil,e=>by simp at e
 | _,_,0,_,.cons r _,e=>by simp at e;subst e;exact⟨_,rfl,r⟩
 | _,_,i+1,x,.cons _ t,e=>by
  obtain⟨u,h1,h2⟩:=Vals.get (i:=i) (x:=x) t (by simpa using e)
  exact⟨u,by simpa using h1,h2⟩
theorem Vals.set {x:V}{u:Value}(r:RelV x u):∀ {xs:List V} {us:List Value} (i:Nat),Vals xs us→Vals (xs.set i x) (us.set i u)
 | _,_,_,.nil=>.nil
 | _,_,0,.cons _ t=>.cons r t
 | _,_,i+1,.cons q t=>.cons q (Vals.set r i t)
theorem Vals.append:∀ {xs ys:List V} {us ws:List Value},Vals xs us→Vals ys ws→Vals (xs++ys) (us++ws)
 | _,_,_,_,.nil,s=>s
 | _,_,_,_,.cons r t,s=>.cons r (Vals.append t s)
theorem Vals.take:∀ {xs:List V} {us:List Value} (n:Nat),Vals xs us→Vals (xs.take n) (us.take n)
 | _,_,0,_=>.nil
 | _,_,_+1,.nil=>.nil
 | _,_,n+1,.cons r t=>.cons r (Vals.take n t)
theorem Vals.drop:∀ {xs:List V} {us:List Value} (n:Nat),Vals xs us→Vals (xs.drop n) (us.drop n)
 | _,_,0,r=>r
 | _,_,_+1,.nil=>.nil
 | _,_,n+1,.cons _ t=>Vals.drop n t
def RelO:Option V→Option Value→Prop
 | some v,some u=>RelV v u
 | none,none=>True
 | _,_=>False
def KV {κ:Type}:List (κ × V)→List (κ × Value)→Prop:=Paired fun(p:κ × V) (q:κ × Value)=>p.1=q.1∧RelV p.2 q.2
def kV:Key→V
 | .inl i=>.int i
 | .inr x=>.str x
inductive HO where
 | lst (xs:List V)
 | tup (xs:List V)
 | dK (kvs:List (Key × V)) | dT (kvs:List (List Key × V))
 | set (S:Int→Bool) (n:Nat)
 | ins (C dx:Addr) (fs:List (Str × V))
 | own (x:Addr)
 | xd (fs:List (Str × V))
 | met (f x:Addr)
 | rng (lo hi:Int)
 | frz (o:Obj) (u:HO)
 | tbl (ps:Array Value)
 | ext (φ:Heap→Prop)
abbrev Hp:=Addr→Option HO
def upd (H:Hp)(a:Addr)(o:HO):Hp:=fun b=>if b=a then some o else H b
theorem qC {H:Hp}{a:Addr}{o:HO}:upd H a o a=some o:=by unfold upd;rw [if_pos rfl]
theorem qY {H:Hp}{a b:Addr}{o:HO}(h:b≠a):upd H a o b=H b:=by unfold upd;rw [if_neg h]
theorem qIp {H:Hp}{a:Addr}{o u:HO}:upd (upd H a o) a u=upd H a u:=by
 funext b;unfold upd;split <;> rfl
theorem qLx {H:Hp}{a b:Addr}{o u:HO}(h:H a=some o)(h':H b=some u)(d:o≠u):a≠b:=by
 intro e;subst e;rw [h] at h';exact d (Option.some.inj h')
theorem qU {H:Hp}{a b:Addr}{o:HO}(h:H a=some o)(h':H b=none):a≠b:=by
 intro e;subst e;rw [h] at h';cases h'
section
variable (P : Program) (w : World)
def ObjOk (H:Hp)(h:Heap)(a:Addr):HO→Prop
 | .lst xs=>xs.length≤sizeLine∧∃ (its:List Value) (n:Nat),Vals xs its∧h.get? a=some {cls:=.type "list",data:=.seq its.toArray n}
 | .tup xs=>xs.length≤sizeLine∧∃ its:List Value,Vals xs its∧IsTup h a its.toArray
 | .dK kvs=>kvs.length≤sizeLine∧(a == sysModules)=false∧∃ vs,KV kvs vs∧h.DictOf (qEd P w) a vs
 | .dT kvs=>kvs.length≤sizeLine∧(a == sysModules)=false∧∃ xs:List (List Key × Addr × Value),
  Paired (fun(p:List Key × V) (q:List Key × Addr × Value)=>p.1=q.1∧H q.2.1=some (.tup (p.1.map kV))∧RelV p.2 q.2.2) kvs xs∧
  ∃ o es ep,h.get? a=some o∧o.ExactDict∧o.data= .dict es ep∧es.toList=xs.map (entryOfKey (tupleKind (qEd P w)))∧(xs.map (·.1)).Nodup
 | .set S n=>h.SetOf (intKind P w) a S n
 | .ins C dx fs=>H dx=some (.own a)∧fs.length≤1000∧dx≠a∧h.get? a=some (PySem.W.instObj C dx)∧
  ∃ mA,h.Ns1 dx mA∧(∀ f,RelO (fs.lookup f) (mA f))∧PySem.Within mA (fs.map (·.1))
 | .own _=>∃ o,h.get? a=some o
 | .xd fs=>∃ mA,h.Ns1 a mA∧∀ f,RelO (fs.lookup f) (mA f)
 | .rng lo hi=>∃ t u v,h.get? a=some {cls:=.type "range",data:=.fields #[.int lo t,.int hi u,.int 1 v]}
 | .frz o u=>h.get? a=some o∧ObjOk H h a u
 | .tbl ps=>h.get? a=some {cls:=.none,data:=.fields ps}
 | .met f x=>h.get? a=some (PySem.W.methodObj (.ref f) (.ref x))
 | .ext φ=>φ h∧(∃ o,h.get? a=some o)∧∀ h1 h2:Heap,φ h1→(∀ o,h1.get? a=some o→h2.get? a=some o)→φ h2
def HOk (H:Hp)(h:Heap):Prop:=∀ a o,H a=some o→ObjOk P w H h a o
end
section
variable {P : Program} {w : World} {H H' : Hp} {h h' : Heap} {a : Addr} {o : HO}
theorem ObjOk.lt (x:ObjOk P w H h a o):a < h.objs.size:=by
 cases o with
 | lst xs=>obtain⟨_,_,_,_,e⟩:=x;exact Heap.lt_size e
 | tup xs=>obtain⟨_,_,_,p⟩:=x;exact p.lt
 | dK kvs=>obtain⟨_,_,_,_,o,_,_,e,_⟩:=x;exact Heap.lt_size e
 | dT kvs=>obtain⟨_,_,_,_,o,_,_,e,_⟩:=x;exact Heap.lt_size e
 | set S n=>obtain⟨o,_,_,_,e,_⟩:=x;exact Heap.lt_size e
 | ins C dx fs=>obtain⟨_,_,_,e,_⟩:=x;exact Heap.lt_size e
 | own y=>obtain⟨_,e⟩:=x;exact Heap.lt_size e
 | xd fs=>obtain⟨_,⟨_,_,_,e,_⟩,_⟩:=x;exact Heap.lt_size e
 | rng lo hi=>obtain⟨_,_,_,e⟩:=x;exact Heap.lt_size e
 | frz ob u=>obtain⟨e,_⟩:=x;exact Heap.lt_size e
 | tbl ps=>exact Heap.lt_size (show h.get? a=some _ from x)
 | met f y=>exact Heap.lt_size (show h.get? a=some _ from x)
 | ext φ=>obtain⟨_,⟨_,e⟩,_⟩:=x;exact Heap.lt_size e
theorem Paired.mapP {α β:Type}{F G:α→β→Prop}:∀ {l₁:List α} {l₂:List β},Paired F l₁ l₂→(∀ a b,F a b→G a b)→Paired G l₁ l₂
 | _,_,.nil,_=>.nil
 | _,_,.cons r t,f=>.cons (f _ _ r) (Paired.mapP t f)
theorem ObjOk.stay (x:ObjOk P w H h a o)(k:∀ b u,(b=a∨H b=some (.own a))→h.get? b=some u→h'.get? b=some u)
 (ho:∀ b,H b=some (.own a)→H' b=some (.own a)) (ht:∀ b xs,H b=some (.tup xs)→H' b=some (.tup xs)):ObjOk P w H' h' a o:=by
 induction o with
 | lst xs=>obtain⟨z,its,n,r,e⟩:=x;exact⟨z,its,n,r,k _ _ (.inl rfl) e⟩
 | tup xs=>obtain⟨z,its,r,ob,e,c⟩:=x;exact⟨z,its,r,ob,k _ _ (.inl rfl) e,c⟩
 | dK kvs=>obtain⟨z,y,vs,r,ob,es,ep,e,c⟩:=x;exact⟨z,y,vs,r,ob,es,ep,k _ _ (.inl rfl) e,c⟩
 | dT kvs=>
  obtain⟨z,y,xs,r,ob,es,ep,e,c⟩:=x
  exact⟨z,y,xs,Paired.mapP r fun p q z=>⟨z.1,ht _ _ z.2.1,z.2.2⟩,ob,es,ep,k _ _ (.inl rfl) e,c⟩
 | set S n=>obtain⟨ob,es,ep,t,e,c⟩:=x;exact⟨ob,es,ep,t,k _ _ (.inl rfl) e,c⟩
 | ins C dx fs=>
  obtain⟨d,z,ne,e,mA,⟨od,es,ep,e2,c⟩,r⟩:=x
  exact⟨ho _ d,z,ne,k _ _ (.inl rfl) e,mA,⟨od,es,ep,k _ _ (.inr d) e2,c⟩,r⟩
 | own y=>obtain⟨ob,e⟩:=x;exact⟨ob,k _ _ (.inl rfl) e⟩
 | xd fs=>obtain⟨mA,⟨od,es,ep,e,c⟩,r⟩:=x;exact⟨mA,⟨od,es,ep,k _ _ (.inl rfl) e,c⟩,r⟩
 | rng lo hi=>obtain⟨t,u,v,e⟩:=x;exact⟨t,u,v,k _ _ (.inl rfl) e⟩
 | frz ob u ih=>obtain⟨e,q⟩:=x;exact⟨k _ _ (.inl rfl) e,ih q⟩
 | tbl ps=>
  have e:h.get? a=some {cls:=.none,data:=.fields ps}:=x
  show h'.get? a=some {cls:=.none,data:=.fields ps}
  exact k a _ (.inl rfl) e
 | met f y=>
  have e:h.get? a=some (PySem.W.methodObj (.ref f) (.ref y)):=x
  show h'.get? a=some (PySem.W.methodObj (.ref f) (.ref y))
  exact k a _ (.inl rfl) e
 | ext φ=>obtain⟨p,⟨o,e⟩,st⟩:=x;exact⟨st _ _ p fun o q=>k _ _ (.inl rfl) q,⟨o,k _ _ (.inl rfl) e⟩,st⟩
theorem HOk.lt (x:HOk P w H h)(e:H a=some o):a < h.objs.size:=(x a o e).lt
theorem HOk.fresh (x:HOk P w H h)(e:h.objs.size≤a):H a=none:=by
 cases q:H a with
 | none=>rfl
 | some u=>exact absurd (Nat.lt_of_lt_of_le (x.lt q) e) (Nat.lt_irrefl _)
theorem HOk.kept (x:HOk P w H h)(k:∀ b u,h.get? b=some u→h'.get? b=some u):HOk P w H h':=fun a o e=>
 (x a o e).stay (fun b u _ q=>k b u q) (fun _ q=>q) fun _ _ q=>q
theorem HOk.laid (x:HOk P w H h)(k:∀ b u,h.get? b=some u→h'.get? b=some u)(hp:h.objs.size≤a)(new:ObjOk P w (upd H a o) h' a o):HOk P w (upd H a o) h':=fun b u e=>by
 have hn:=x.fresh hp
 by_cases hb:b=a
 · subst hb;rw [qC] at e;cases e;exact new
 · rw [qY hb] at e
   exact(x b u e).stay (fun c v _ q=>k c v q) (fun c q=>by rw [qY (qU q hn)];exact q) fun c xs q=>by rw [qY (qU q hn)];exact q
end
def Rd (H:Hp)(a:Addr)(u:HO):Prop:=H a=some u∨∃ o,H a=some (.frz o u)
theorem Rd.ok {P:Program}{w:World}{H:Hp}{h:Heap}{a:Addr}{u:HO}(r:Rd H a u)(x:HOk P w H h):ObjOk P w H h a u:=by
 rcases r with r | ⟨o,r⟩
 · exact x a u r
 · obtain⟨_,q⟩:=x a _ r
   exact q
def Mut:Option HO→Prop
 | some (.lst _)=>True
 | some (.dK _)=>True
 | some (.dT _)=>True
 | some (.set _ _)=>True
 | some (.ins _ _ _)=>True
 | some (.ext _)=>True
 | _=>False
section
variable {P : Program} {w : World} {H : Hp} {h h' : Heap} {x e : Addr} {o' : HO}
theorem HOk.write (ok:HOk P w H h)(mu:Mut (H x))(he:e=x∨H e=some (.own x))(k:∀ b u,b≠e→h.get? b=some u→h'.get? b=some u)(heo:∃ u,h'.get? e=some u)
 (new:ObjOk P w (upd H x o') h' x o'):HOk P w (upd H x o') h':=fun b u q=>by
 have nown:∀ c y,H c=some (.own y)→c≠x:=fun c y r z=>by subst z;rw [r] at mu;exact mu
 have ntup:∀ c xs,H c=some (.tup xs)→c≠x:=fun c xs r z=>by subst z;rw [r] at mu;exact mu
 by_cases hb:b=x
 · subst hb;rw [qC] at q;cases q;exact new
 · rw [qY hb] at q
   by_cases hbe:b=e
   · have q':H b=some (.own x):=by
      rcases he with z | z
      · exact absurd (hbe.trans z) hb
      · rw [hbe];exact z
     rw [q] at q';cases q'
     obtain⟨v,hv⟩:=heo
     exact⟨v,by rw [hbe];exact hv⟩
   · refine(ok b u q).stay (fun c v hc r=>k c v ?_ r) (fun c r=>by rw [qY (nown c b r)];exact r) fun c xs r=>by rw [qY (ntup c xs r)];exact r
     rcases hc with rfl | hc
     · exact hbe
     · rintro rfl
       rcases he with z | z
       · exact nown c b hc z
       · rw [hc] at z;cases z;exact hb rfl
end
structure Un (fs ex:List Addr)(H H':Hp)(h h':Heap):Prop where
 keep:∀ b o,h.get? b=some o→H b=none→b ∉ fs→b ∉ ex→h'.get? b=some o
 slot:∀ b o,h.get? b=some o→H b=none→b∈fs→b ∉ ex→∃ sl,h'.get? b=some {o with slots:=sl}
 free:∀ b o,h.get? b=some o→H b=none→b ∉ ex→H' b=none
 there:∀ b o,h.get? b=some o→b ∉ ex→∃ o',h'.get? b=some o'
 tups:∀ b xs,H b=some (.tup xs)→H' b=some (.tup xs)
 frzs:∀ b o u,H b=some (.frz o u)→H' b=some (.frz o u)
 tbls:∀ b ps,H b=some (.tbl ps)→∃ more,H' b=some (.tbl (ps++more))
section
variable {fs fs' ex ex' : List Addr} {H H1 H2 : Hp} {h h1 h2 h' : Heap} {a x e : Addr} {o : HO}
theorem Un.any (u:Un fs ex H H1 h h1){b:Addr}{ob:Obj}(q:h.get? b=some ob)(n:H b=none)(hx:b ∉ ex):∃ sl,h1.get? b=some {ob with slots:=sl}:=by
 by_cases hb:b∈fs
 · exact u.slot b ob q n hb hx
 · exact⟨ob.slots,u.keep b ob q n hb hx⟩
theorem Un.trans (a:Un fs ex H H1 h h1)(b:Un fs ex H1 H2 h1 h2):Un fs ex H H2 h h2 where
 keep:=fun c ob q n hc hx=>b.keep c ob (a.keep c ob q n hc hx) (a.free c ob q n hx) hc hx
 slot:=fun c ob q n hc hx=>by
  obtain⟨sl,e1⟩:=a.slot c ob q n hc hx
  obtain⟨sl',e2⟩:=b.slot c _ e1 (a.free c ob q n hx) hc hx
  exact⟨sl',e2⟩
 free:=fun c ob q n hx=>by
  obtain⟨o',e1⟩:=a.there c ob q hx
  exact b.free c o' e1 (a.free c ob q n hx) hx
 there:=fun c ob q hx=>by
  obtain⟨o',e1⟩:=a.there c ob q hx
  exact b.there c o' e1 hx
 tups:=fun c xs q=>b.tups c xs (a.tups c xs q)
 frzs:=fun c ob xs q=>b.frzs c ob xs (a.frzs c ob xs q)
 tbls:=fun c ps q=>by
  obtain⟨m1,e1⟩:=a.tbls c ps q
  obtain⟨m2,e2⟩:=b.tbls c _ e1
  exact⟨m1++m2,by rw [e2,Array.append_assoc]⟩
theorem Un.kept (k:∀ b u,h.get? b=some u→h'.get? b=some u):Un fs ex H H h h':=
 ⟨fun b ob q _ _ _=>k b ob q,fun b ob q _ _ _=>⟨ob.slots,k b ob q⟩,fun _ _ _ n _=>n,fun b ob q _=>⟨ob,k b ob q⟩,fun _ _ q=>q,fun _ _ _ q=>q,fun _ ps q=>⟨#[],by rw [q];simp⟩⟩
theorem Un.refl:Un fs ex H H h h:=Un.kept fun _ _ q=>q
theorem Un.laid (k:∀ b u,h.get? b=some u→h'.get? b=some u)(hp:h.objs.size≤a)(hn:H a=none):Un fs ex H (upd H a o) h h' where
 keep:=fun b u q _ _ _=>k b u q
 slot:=fun b u q _ _ _=>⟨u.slots,k b u q⟩
 free:=fun b u q n _=>by rw [qY (Nat.ne_of_lt (Nat.lt_of_lt_of_le (Heap.lt_size q) hp))];exact n
 there:=fun b u q _=>⟨u,k b u q⟩
 tups:=fun b xs q=>by rw [qY (qU q hn)];exact q
 frzs:=fun b u xs q=>by rw [qY (qU q hn)];exact q
 tbls:=fun b ps q=>⟨#[],by rw [qY (qU q hn),q];simp⟩
theorem Un.write (mu:Mut (H x))(he:e=x∨H e=some (.own x))(k:∀ b u,b≠e→h.get? b=some u→h'.get? b=some u)(heo:∃ u,h'.get? e=some u):Un fs ex H (upd H x o) h h':=by
 have hx:∀ b,H b=none→b≠x:=fun b n z=>by subst z;rw [n] at mu;exact mu
 have hb:∀ b,H b=none→b≠e:=fun b n z=>by
  subst z
  rcases he with r | r
  · exact hx b n r
  · rw [n] at r;cases r
 have hm:∀ b u,H b=some u→¬ Mut (some u)→b≠x:=fun b u q nm z=>by subst z;rw [q] at mu;exact nm mu
 refine⟨fun b u q n _ _=>k b u (hb b n) q,fun b u q n _ _=>⟨u.slots,k b u (hb b n) q⟩,fun b u q n _=>by rw [qY (hx b n)];exact n,fun b u q _=>?_,
  fun b xs q=>by rw [qY (hm b _ q fun z=>z)];exact q,fun b u xs q=>by rw [qY (hm b _ q fun z=>z)];exact q,fun b ps q=>⟨#[],by rw [qY (hm b _ q fun z=>z),q];simp⟩⟩
 by_cases hbe:b=e
 · subst hbe;exact heo
 · exact⟨u,k b u hbe q⟩
end
def trk (h:Heap)(H:Hp):List Addr:=(List.range h.objs.size).filter fun a=>(H a).isSome
def qGu (h:Heap)(H:Hp):Heap:=PySem.W.hideAll h (trk h H)
theorem qEs (h:Heap)(H:Hp):(qGu h H).objs.size=h.objs.size:=PySem.W.hideAll_size _ _
theorem qGg {h:Heap}{H:Hp}{b:Addr}{o:Obj}(e:h.get? b=some o)(n:H b=none):(qGu h H).get? b=some o:=
 PySem.W.hideAll_get _ e fun hm=>by
  have q:(H b).isSome=true:=(List.mem_filter.mp hm).2
  rw [n] at q;simp at q
theorem qHv {h:Heap}{H:Hp}{b:Addr}{o:Obj}(e:(qGu h H).get? b=some o):h.get? b=some o∧H b=none:=by
 have e':h.get? b=some o:=PySem.W.of_hideAll (trk h H) e
 refine⟨e',?_⟩
 cases q:H b with
 | none=>rfl
 | some x=>
  have hm:b∈trk h H:=List.mem_filter.mpr ⟨List.mem_range.mpr (Heap.lt_size e'),by simp [q]⟩
  have z:(qGu h H).get? b=none:=PySem.W.hideAll_none (trk h H) hm
  rw [z] at e;cases e
def qHp (g h:Heap)(L:Addr):List (Addr × Obj):=(List.range h.objs.size).filterMap fun a=>if a=L∨(g.get? a).isSome=true then none else (h.get? a).map fun o=>(a,o)
def vv (g h:Heap)(L d:Addr):List (Addr × Obj):=(qHp g h L).filter fun p=>decide (p.1≠d)
end L2
namespace L2
open PySem PySem.Spec PyProof.Rows
structure Mod (K:PySem.W.Frag)(mg:Str→Option Value)(base:Heap):Prop where
 kin:K.In base
 glob:base.Ns mainGlobals mg
 blt:∃ mb,base.Ns builtinsNs mb∧∀ x:Str,x≠"__name__"→mb x=bootBuiltins x
 nolimit:base.NoLimit
structure Cx where
 prog:Program
 w:World
 K:PySem.W.Frag
 mg:Str→Option Value
 base:Heap
 A:Around
 N:List Str
 s₀:Shared
 H₀:Hp
 env:Env
 outer:List Env
 stack:List Env
 ex:List Addr
 fn:Str→Bool
 calm:Bool
 pn:List (Addr × Obj)
 xe:Value→Shared→Prop
def frs (l:List Env):List Addr:=l.filterMap (·.frame)
abbrev Cx.fs (X:Cx):List Addr:=frs X.outer
def Vis (sc:Scope)(x:Str):Prop:=sc.names.lookup x=some .local∨sc.names.lookup x=some .cell∨sc.names.lookup x=some .free
def Loc (sc:Scope)(x:Str):Prop:=sc.names.lookup x=some .local∨sc.names.lookup x=some .cell
def qMm (env:Env)(h:Heap)(m:Str→Option Value)(x:Str)(u:Value):Prop:=
 (env.kindOf x=some .local∧m x=some u)∨((env.kindOf x=some .cell∨env.kindOf x=some .free)∧∃ c,env.cells.lookup x=some c∧h.IsCell c (some u))
structure Cx.Ok (X:Cx):Prop where
 mod:Mod X.K X.mg X.base
 kind:X.env.scope.kind= .function
 glob:X.env.globals=mainGlobals
 blt:X.env.builtins=builtinsNs
 above:X.s₀.heap.objs.size≤X.env.locals
 inj:∀ x y c,X.env.cells.lookup x=some c→X.env.cells.lookup y=some c→x=y
 has:∀ x,(X.env.kindOf x=some .cell∨X.env.kindOf x=some .free)→∃ c,X.env.cells.lookup x=some c
 cab:∀ x c,X.fn x=true→X.env.cells.lookup x=some c→X.s₀.heap.objs.size≤c
 hd:X.calm=true→X.A.handled=none
 frames:X.A.frames=some X.stack
 stk:X.stack=X.outer∨(X.stack=X.env::X.outer∧X.env.frame=some X.env.locals)
 exf:∀ b∈X.ex,b≠X.env.locals∧∀ x c,X.env.cells.lookup x=some c→c≠b
 bs:∀ b o,X.base.get? b=some o→X.s₀.heap.get? b=some o∧X.H₀ b=none
 bsz:X.base.objs.size≤X.s₀.heap.objs.size
 noex:∀ b o,X.base.get? b=some o→b ∉ X.ex
 exfs:∀ b∈X.ex,b ∉ X.fs
 funs:X.s₀.heap.FunFrames X.base X.outer
 frf:∀ b∈X.fs,X.H₀ b=none
structure Inv (X:Cx)(pins:List (Addr × Obj))(σ:List (Option V))(H:Hp)(s:Shared):Prop where
 ok:X.Ok
 os:s.os=X.s₀.os
 bare:AllBare s.gens
 base:Un X.fs X.ex X.H₀ H X.s₀.heap s.heap
 loc:∃ m,s.heap.Ns X.env.locals m∧∀ (i:Nat) (x:Str) (v:V),X.N[i]? =some x→σ[i]? =some (some v)→Vis X.env.scope x→∃ u,RelV v u∧qMm X.env s.heap m x u
 cell:∀ x c,X.env.cells.lookup x=some c→∃ v,s.heap.IsCell c v
 free:H X.env.locals=none
 freeC:∀ x c,X.env.cells.lookup x=some c→H c=none
 pin:∀ p∈X.pn++pins,s.heap.get? p.1=some p.2∧H p.1=none∧p.1≠X.env.locals∧p.1 ∉ X.fs∧∀ v,p.2.data≠ .cell v
 hok:HOk X.prog X.w H s.heap
 len:σ.length=X.N.length
section
variable {X : Cx} {pins : List (Addr × Obj)} {σ : List (Option V)} {H H' : Hp} {s : Shared} {h' : Heap}
theorem Cx.Ok.nofr (ok:X.Ok){b:Addr}{o:Obj}(e:X.base.get? b=some o):b ∉ X.fs:=fun hb=>by
 have:=(ok.funs.mem hb).1
 rw [e] at this;cases this
theorem Inv.bs (I:Inv X pins σ H s):∀ b o,X.base.get? b=some o→s.heap.get? b=some o∧H b=none:=fun b o e=>
 ⟨I.base.keep b o (I.ok.bs b o e).1 (I.ok.bs b o e).2 (I.ok.nofr e) (I.ok.noex b o e),I.base.free b o (I.ok.bs b o e).1 (I.ok.bs b o e).2 (I.ok.noex b o e)⟩
theorem Inv.bk (I:Inv X pins σ H s):∀ b o,X.base.get? b=some o→s.heap.get? b=some o:=fun b o e=>(I.bs b o e).1
theorem Inv.mod (I:Inv X pins σ H s):Mod X.K X.mg X.base:=I.ok.mod
theorem Inv.kIn (I:Inv X pins σ H s):X.K.In s.heap:=I.ok.mod.kin.keeps I.bk
theorem Inv.nolimit (I:Inv X pins σ H s):s.heap.NoLimit:=I.ok.mod.nolimit.keeps I.bk
theorem Inv.fr (I:Inv X pins σ H s):∃ m,Fr X.base X.env.locals s.heap m:=
 let ⟨m,hn,_⟩:=I.loc
 ⟨m,hn,I.bk,Nat.le_trans I.ok.bsz I.ok.above⟩
theorem Inv.lt (I:Inv X pins σ H s):X.env.locals < s.heap.objs.size:=let ⟨_,hn,_⟩:=I.loc;hn.lt
theorem Inv.sz (I:Inv X pins σ H s):X.s₀.heap.objs.size≤s.heap.objs.size:=Nat.le_trans I.ok.above (Nat.le_of_lt I.lt)
theorem Inv.nofs (I:Inv X pins σ H s){a:Addr}(h:s.heap.objs.size≤a):a ∉ X.fs:=fun hb=>by
 obtain⟨_,o,ho,_⟩:=I.ok.funs.mem hb
 exact absurd (Nat.lt_of_lt_of_le (Heap.lt_size ho) (Nat.le_trans I.sz h)) (Nat.lt_irrefl _)
theorem Inv.cne (I:Inv X pins σ H s):∀ x c,X.env.cells.lookup x=some c→c≠X.env.locals:=fun x c e z=>by
 obtain⟨v,o,ho,hd⟩:=I.cell x c e
 obtain⟨m,⟨o',es,ep,ho',hd',_⟩,_⟩:=I.loc
 rw [z,ho'] at ho;cases ho;rw [hd'] at hd;cases hd
theorem Inv.funs (I:Inv X pins σ H s):s.heap.FunFrames X.base X.outer:=by
 have all:∀ (l:List Env),(∀ b∈frs l,b∈X.fs)→X.s₀.heap.FunFrames X.base l→s.heap.FunFrames X.base l:=by
  intro l
  induction l with
  | nil=>intro _ _;trivial
  | cons env r ih=>
   intro hs hl
   obtain⟨hk,⟨L,o,hf,hn,ho,hd⟩,hr⟩:=hl
   have hL:L∈X.fs:=hs L (by unfold frs;rw [List.filterMap_cons,hf];exact List.mem_cons_self)
   obtain⟨sl,e⟩:=I.base.slot L o ho (I.ok.frf L hL) hL fun z=>I.ok.exfs L z hL
   exact⟨hk,⟨L,_,hf,hn,e,hd⟩,ih (fun b hb=>hs b (by unfold frs;rw [List.filterMap_cons,hf];exact List.mem_cons_of_mem _ hb)) hr⟩
 exact all X.outer (fun _ hb=>hb) I.ok.funs
theorem Inv.stack (I:Inv X pins σ H s):s.heap.FunFrames X.base X.stack:=by
 rcases I.ok.stk with e | ⟨e,hf⟩
 · rw [e];exact I.funs
 · rw [e]
   obtain⟨m,hn,_⟩:=I.loc
   refine .cons (by rw [I.ok.kind];decide) hf hn ?_ I.funs
   exact Heap.get?_none_of_le (Nat.le_trans I.ok.bsz I.ok.above)
theorem Inv.stkSub (I:Inv X pins σ H s):∀ b∈frs X.stack,b∈X.env.locals::X.fs:=fun b hb=>by
 rcases I.ok.stk with e | ⟨e,hf⟩
 · rw [e] at hb;exact List.mem_cons_of_mem _ hb
 · rw [e] at hb
   unfold frs at hb
   rw [List.filterMap_cons,hf] at hb
   exact hb
theorem Inv.stkFree (I:Inv X pins σ H s):∀ b∈frs X.stack,H b=none:=fun b hb=>by
 rcases List.mem_cons.mp (I.stkSub b hb) with e | hb
 · rw [e];exact I.free
 · obtain⟨_,o,ho,_⟩:=I.ok.funs.mem hb
   exact I.base.free b o ho (I.ok.frf b hb) fun z=>I.ok.exfs b z hb
theorem Inv.step {g':Array GenState}{t':Nat}{d':Drawn}{ch:List Addr}(I:Inv X pins σ H s)
 (hch:∀ b∈ch,(b∈X.ex∨X.s₀.heap.objs.size≤b)∧b≠X.env.locals∧(∀ x c,X.env.cells.lookup x=some c→c≠b)∧∀ p∈X.pn++pins,p.1≠b)
 (keep:∀ b o,b≠X.env.locals→b ∉ X.fs→b ∉ ch→s.heap.get? b=some o→H b=none→h'.get? b=some o)
 (slot:∀ b o,b≠X.env.locals→b∈X.fs→b ∉ ch→s.heap.get? b=some o→H b=none→∃ sl,h'.get? b=some {o with slots:=sl}) (free:∀ b o,b ∉ ch→s.heap.get? b=some o→H b=none→H' b=none)
 (there:∀ b o,b ∉ ch→s.heap.get? b=some o→∃ o',h'.get? b=some o')
 (tups:∀ b xs,H b=some (.tup xs)→H' b=some (.tup xs)) (frzs:∀ b o u,H b=some (.frz o u)→H' b=some (.frz o u)) (tbls:∀ b ps,H b=some (.tbl ps)→∃ more,H' b=some (.tbl (ps++more)))
 (ns:∀ m,s.heap.Ns X.env.locals m→h'.Ns X.env.locals m) (hok:HOk X.prog X.w H' h') (hg:AllBare g'):
 Inv X pins σ H' {s with heap:=h',gens:=g',drawn:=d',toks:=t'}:=by
 have neL:∀ b o,X.s₀.heap.get? b=some o→b≠X.env.locals:=fun b o e=>Nat.ne_of_lt (Nat.lt_of_lt_of_le (Heap.lt_size e) I.ok.above)
 have neC:∀ b o,X.s₀.heap.get? b=some o→b ∉ X.ex→b ∉ ch:=fun b o e hx hb=>by
  rcases (hch b hb).1 with z | z
  · exact hx z
  · exact absurd (Nat.lt_of_lt_of_le (Heap.lt_size e) z) (Nat.lt_irrefl _)
 have cellK:∀ x c,X.env.cells.lookup x=some c→∀ v,s.heap.IsCell c v→h'.IsCell c v:=fun x c e v ⟨o,ho,hd⟩=>by
  have nch:c ∉ ch:=fun z=>(hch c z).2.2.1 x c e rfl
  by_cases hc:c∈X.fs
  · obtain⟨sl,q⟩:=slot c o (I.cne x c e) hc nch ho (I.freeC x c e)
    exact⟨_,q,hd⟩
  · exact⟨o,keep c o (I.cne x c e) hc nch ho (I.freeC x c e),hd⟩
 refine⟨I.ok,I.os,hg,⟨fun b o e n hb hx=>?_,fun b o e n hb hx=>?_,fun b o e n hx=>?_,fun b o e hx=>?_,fun b xs e=>tups b xs (I.base.tups b xs e),fun b o xs e=>frzs b o xs (I.base.frzs b o xs e),fun b ps e=>?_⟩,?_,fun x c e=>?_,?_,fun x c e=>?_,fun p hp=>?_,hok,I.len⟩
 · exact keep b o (neL b o e) hb (neC b o e hx) (I.base.keep b o e n hb hx) (I.base.free b o e n hx)
 · obtain⟨sl,e1⟩:=I.base.slot b o e n hb hx
   obtain⟨sl',e2⟩:=slot b _ (neL b o e) hb (neC b o e hx) e1 (I.base.free b o e n hx)
   exact⟨sl',e2⟩
 · obtain⟨o',e1⟩:=I.base.there b o e hx
   exact free b o' (neC b o e hx) e1 (I.base.free b o e n hx)
 · obtain⟨o',e1⟩:=I.base.there b o e hx
   exact there b o' (neC b o e hx) e1
 · obtain⟨m1,e1⟩:=I.base.tbls b ps e
   obtain⟨m2,e2⟩:=tbls b _ e1
   exact⟨m1++m2,by rw [e2,Array.append_assoc]⟩
 · obtain⟨m,hn,hl⟩:=I.loc
   refine⟨m,ns m hn,fun i x v e1 e2 e3=>?_⟩
   obtain⟨u,r,l⟩:=hl i x v e1 e2 e3
   refine⟨u,r,?_⟩
   rcases l with l | ⟨k,c,e,z⟩
   · exact .inl l
   · exact .inr ⟨k,c,e,cellK x c e _ z⟩
 · obtain⟨v,z⟩:=I.cell x c e
   exact⟨v,cellK x c e v z⟩
 · obtain⟨m,⟨o,_,_,ho,_⟩,_⟩:=I.loc
   exact free _ o (fun z=>(hch _ z).2.1 rfl) ho I.free
 · obtain⟨v,o,ho,hd⟩:=I.cell x c e
   exact free c o (fun z=>(hch c z).2.2.1 x c e rfl) ho (I.freeC x c e)
 · obtain⟨e,n,ne,nf,d⟩:=I.pin p hp
   have nch:p.1 ∉ ch:=fun z=>(hch p.1 z).2.2.2 p hp rfl
   exact⟨keep p.1 p.2 ne nf nch e n,free p.1 p.2 nch e n,ne,nf,d⟩
theorem Inv.un {t':Nat}(I:Inv X pins σ H s)(u:Un X.fs [] H H' s.heap h')(hok:HOk X.prog X.w H' h'):Inv X pins σ H' {s with heap:=h',toks:=t'}:=by
 obtain⟨m,⟨o,es,ep,ho,r⟩,_⟩:=id I.loc
 obtain⟨sl,hL⟩:=u.any ho I.free (by simp)
 exact I.step (g':=s.gens) (d':=s.drawn) (ch:=[]) (fun _ z=>nomatch z) (fun b o _ hb _ e n=>u.keep b o e n hb (by simp)) (fun b o _ hb _ e n=>u.slot b o e n hb (by simp)) (fun b o _ e n=>u.free b o e n (by simp)) (fun b o _ e=>u.there b o e (by simp)) u.tups u.frzs u.tbls (fun m' hm=>by
  obtain⟨o',es',ep',ho',r'⟩:=hm
  rw [ho] at ho';cases ho'
  exact⟨_,es',ep',hL,r'⟩) hok I.bare
theorem Inv.call {g':Array GenState}{t':Nat}{d':Drawn}{ch:List Addr}(I:Inv X pins σ H s)(u:Un (frs X.stack) ch H H' s.heap h')(hok:HOk X.prog X.w H' h')(hg:AllBare g')
 (hch:∀ b∈ch,(b∈X.ex∨X.s₀.heap.objs.size≤b)∧b≠X.env.locals∧(∀ x c,X.env.cells.lookup x=some c→c≠b)∧∀ p∈X.pn++pins,p.1≠b):
 Inv X pins σ H' {s with heap:=h',gens:=g',drawn:=d',toks:=t'}:=by
 obtain⟨m,⟨o,es,ep,ho,r⟩,_⟩:=id I.loc
 obtain⟨sl,hL⟩:=u.any ho I.free fun z=>(hch _ z).2.1 rfl
 exact I.step (ch:=ch) hch (fun b o hL hb hc e n=>u.keep b o e n (fun z=>(List.mem_cons.mp (I.stkSub b z)).elim hL hb) hc) (fun b o _ _ hc e n=>u.any e n hc) (fun b o hc e n=>u.free b o e n hc) (fun b o hc e=>u.there b o e hc) u.tups u.frzs u.tbls (fun m' hm=>by
  obtain⟨o',es',ep',ho',r'⟩:=hm
  rw [ho] at ho';cases ho'
  exact⟨_,es',ep',hL,r'⟩) hok hg
theorem Inv.turned {t':Nat}{it:Addr}(I:Inv X pins σ H s)(k:∀ b o,b≠it→s.heap.get? b=some o→h'.get? b=some o)(hn:H it=none)(hL:it≠X.env.locals)
 (h1:it∈X.ex∨X.s₀.heap.objs.size≤it) (h2:∀ x c,X.env.cells.lookup x=some c→c≠it) (h3:∀ p∈X.pn++pins,p.1≠it):Inv X pins σ H {s with heap:=h',toks:=t'}:=by
 have nit:∀ b u,H b=some u→b≠it:=fun b u e z=>by rw [z,hn] at e;cases e
 refine I.step (g':=s.gens) (d':=s.drawn) (ch:=[it]) (fun b hb=>?_) (fun b o _ _ hc e _=>k b o (fun z=>hc (by simp [z])) e) (fun b o _ _ hc e _=>⟨o.slots,k b o (fun z=>hc (by simp [z])) e⟩) (fun _ _ _ _ n=>n)
  (fun b o hc e=>⟨o,k b o (fun z=>hc (by simp [z])) e⟩) (fun _ _ e=>e) (fun _ _ _ e=>e) (fun b ps e=>⟨#[],by rw [e];simp⟩) (fun m hm=>?_) (fun b u e=>?_) I.bare
 · have e:b=it:=by simpa using hb
   subst e
   exact⟨h1,hL,h2,h3⟩
 · obtain⟨o,es,ep,ho,r⟩:=hm
   exact⟨o,es,ep,k _ o (Ne.symm hL) ho,r⟩
 · refine(I.hok b u e).stay (fun c v hc q=>k c v ?_ q) (fun _ q=>q) fun _ _ q=>q
   rcases hc with z | z
   · rw [z];exact nit b u e
   · exact nit c _ z
theorem Inv.tok (I:Inv X pins σ H s)(t:Nat):Inv X pins σ H {s with toks:=t}:=I.un (h':=s.heap) (t':=t) Un.refl I.hok
theorem Inv.kept {t':Nat}(I:Inv X pins σ H s)(k:∀ b u,s.heap.get? b=some u→h'.get? b=some u):Inv X pins σ H {s with heap:=h',toks:=t'}:=I.un (Un.kept k) (I.hok.kept k)
theorem Inv.laid {a:Addr}{o:HO}{t':Nat}(I:Inv X pins σ H s)(k:∀ b u,s.heap.get? b=some u→h'.get? b=some u)(hp:s.heap.objs.size≤a)(new:ObjOk X.prog X.w (upd H a o) h' a o):
 Inv X pins σ (upd H a o) {s with heap:=h',toks:=t'}:=I.un (Un.laid k hp (I.hok.fresh hp)) (I.hok.laid k hp new)
theorem Inv.write {x e:Addr}{o:HO}{t':Nat}(I:Inv X pins σ H s)(mu:Mut (H x))(he:e=x∨H e=some (.own x))(k:∀ b u,b≠e→s.heap.get? b=some u→h'.get? b=some u)(heo:∃ u,h'.get? e=some u)
 (new:ObjOk X.prog X.w (upd H x o) h' x o):Inv X pins σ (upd H x o) {s with heap:=h',toks:=t'}:=I.un (Un.write mu he k heo) (I.hok.write mu he k heo new)
theorem Inv.weak {σ':List (Option V)}(I:Inv X pins σ H s)(hl:σ'.length=σ.length)(w:∀ (i:Nat) v,σ'[i]? =some (some v)→σ[i]? =some (some v)):Inv X pins σ' H s:=
 ⟨I.ok,I.os,I.bare,I.base,let ⟨m,hn,hl'⟩:=I.loc;⟨m,hn,fun i x v e1 e2 e3=>hl' i x v e1 (w i v e2) e3⟩,I.cell,I.free,I.freeC,I.pin,I.hok,hl.trans I.len⟩
theorem Inv.pins_of {pins':List (Addr × Obj)}(I:Inv X pins σ H s)(h:∀ p∈pins',s.heap.get? p.1=some p.2∧H p.1=none∧p.1≠X.env.locals∧p.1 ∉ X.fs∧∀ v,p.2.data≠ .cell v):Inv X pins' σ H s:=
 ⟨I.ok,I.os,I.bare,I.base,I.loc,I.cell,I.free,I.freeC,fun p hp=>(List.mem_append.mp hp).elim (fun z=>I.pin p (List.mem_append_left _ z)) (h p),I.hok,I.len⟩
theorem qAm {N:List Str}(hN:N.Nodup){i j:Nat}{x:Str}(a:N[i]? =some x)(b:N[j]? =some x):i=j:=by
 obtain⟨h1,e1⟩:=List.getElem?_eq_some_iff.mp a
 obtain⟨h2,e2⟩:=List.getElem?_eq_some_iff.mp b
 exact(List.getElem_inj hN).mp (e1.trans e2.symm)
theorem vp {M:Model}{A:Around}{E:Value→Shared→Prop}{i:Nat}{x:Str}{v:V}{u:Value}{Q:Unit→Shared→Prop}(I:Inv X pins σ H s)(hN:X.N.Nodup)(hi:X.N[i]? =some x)(hx:Loc X.env.scope x)(r:RelV v u)
 (h:∀ s',Inv X pins (σ.set i (some v)) H s'→(∃ a,Heap.SameBut a s.heap s'.heap∧(a=X.env.locals∨X.env.cells.lookup x=some a))→Q () s') (hf:X.fn x=true∨X.env.scope.names.lookup x=some .local:=by first | exact .inl rfl | exact .inr rfl | assumption):wpAny M A (storeName X.env x u) Q E s:=by
 obtain⟨m,hn,hl⟩:=id I.loc
 have hcls:(X.env.scope.kind == .class || (X.env.scope.kind == .module && X.env.locals != X.env.globals))=false:=by rw [I.ok.kind];rfl
 have hiσ:i < σ.length:=by rw [I.len];exact(List.getElem?_eq_some_iff.mp hi).1
 have cne:=I.cne
 have tracked:∀ {a:Addr} {h':Heap},(∃ o,s.heap.get? a=some o∧H a=none)→Heap.SameBut a s.heap h'→HOk X.prog X.w H h':=fun {a h'} ha hs b ob e=>by
  obtain⟨_,_,hfree⟩:=ha
  refine(I.hok b ob e).stay (fun c w' hc q=>(hs.2 c ?_).trans q) (fun _ q=>q) fun _ _ q=>q
  rintro rfl
  rcases hc with rfl | hc
  · rw [hfree] at e;cases e
  · rw [hfree] at hc;cases hc
 rcases hx with hk | hk
 · refine wpAny_storeName_local hk hn (fun h' hn' hs=>?_) hcls
   obtain⟨oL,_,_,hoL,_⟩:=id hn
   refine h _ ⟨I.ok,I.os,I.bare,⟨fun b o e n hb hx=>?_,fun b o e n hb hx=>?_,I.base.free,fun b o e hx=>?_,I.base.tups,I.base.frzs,I.base.tbls⟩,⟨_,hn',fun j y v' e1 e2 e3=>?_⟩,fun y c e=>?_,I.free,I.freeC,fun p hp=>?_,tracked ⟨oL,hoL,I.free⟩ hs,by simpa using I.len⟩ ⟨_,hs,.inl rfl⟩
   · exact(hs.2 b (Nat.ne_of_lt (Nat.lt_of_lt_of_le (Heap.lt_size e) I.ok.above))).trans (I.base.keep b o e n hb hx)
   · obtain⟨sl,e1⟩:=I.base.slot b o e n hb hx
     exact⟨sl,(hs.2 b (Nat.ne_of_lt (Nat.lt_of_lt_of_le (Heap.lt_size e) I.ok.above))).trans e1⟩
   · obtain⟨o',e1⟩:=I.base.there b o e hx
     exact⟨o',(hs.2 b (Nat.ne_of_lt (Nat.lt_of_lt_of_le (Heap.lt_size e) I.ok.above))).trans e1⟩
   · by_cases hj:j=i
     · subst hj
       rw [hi] at e1;cases e1
       rw [List.getElem?_set_self hiσ] at e2
       cases e2
       exact⟨u,r,.inl ⟨hk,by simp⟩⟩
     · rw [List.getElem?_set_ne (Ne.symm hj)] at e2
       obtain⟨u',r',q⟩:=hl j y v' e1 e2 e3
       refine⟨u',r',?_⟩
       rcases q with ⟨k,e⟩ | ⟨k,c,e,z⟩
       · refine .inl ⟨k,?_⟩
         have:y≠x:=fun e=>hj (qAm hN e1 (e ▸ hi))
         simp [this,e]
       · exact .inr ⟨k,c,e,z.sameBut hs (cne y c e)⟩
   · obtain⟨w',z⟩:=I.cell y c e
     exact⟨w',z.sameBut hs (cne y c e)⟩
   · obtain⟨e,n,ne,nf,d⟩:=I.pin p hp
     exact⟨(hs.2 p.1 ne).trans e,n,ne,nf,d⟩
 · have hfn:X.fn x=true:=by
    rcases hf with z | z
    · exact z
    · rw [z] at hk;cases hk
   obtain⟨c,hc⟩:=I.ok.has x (.inl hk)
   obtain⟨w',z⟩:=I.cell x c hc
   refine wpAny_storeName_cell I.ok.kind hk hc z (fun h' hc' hs=>?_)
   obtain⟨oc,hoc,hocd⟩:=id z
   refine h {s with heap:=h'} ⟨I.ok,I.os,I.bare,⟨fun b o e n hb hx=>?_,fun b o e n hb hx=>?_,I.base.free,fun b o e hx=>?_,I.base.tups,I.base.frzs,I.base.tbls⟩,⟨m,hn.sameBut hs (Ne.symm (cne x c hc)),fun j y v' e1 e2 e3=>?_⟩,fun y c' e=>?_,I.free,I.freeC,fun p hp=>?_,tracked ⟨oc,hoc,I.freeC x c hc⟩ hs,by simpa using I.len⟩ ⟨c,hs,.inr hc⟩
   · exact(hs.2 b (Nat.ne_of_lt (Nat.lt_of_lt_of_le (Heap.lt_size e) (I.ok.cab x c hfn hc)))).trans (I.base.keep b o e n hb hx)
   · obtain⟨sl,e1⟩:=I.base.slot b o e n hb hx
     exact⟨sl,(hs.2 b (Nat.ne_of_lt (Nat.lt_of_lt_of_le (Heap.lt_size e) (I.ok.cab x c hfn hc)))).trans e1⟩
   · obtain⟨o',e1⟩:=I.base.there b o e hx
     exact⟨o',(hs.2 b (Nat.ne_of_lt (Nat.lt_of_lt_of_le (Heap.lt_size e) (I.ok.cab x c hfn hc)))).trans e1⟩
   · by_cases hj:j=i
     · subst hj
       rw [hi] at e1;cases e1
       rw [List.getElem?_set_self hiσ] at e2
       cases e2
       exact⟨u,r,.inr ⟨.inl hk,c,hc,hc'⟩⟩
     · rw [List.getElem?_set_ne (Ne.symm hj)] at e2
       obtain⟨u',r',q⟩:=hl j y v' e1 e2 e3
       refine⟨u',r',?_⟩
       rcases q with q | ⟨k,c',e,z'⟩
       · exact .inl q
       · refine .inr ⟨k,c',e,z'.sameBut hs ?_⟩
         rintro rfl
         exact hj (qAm hN e1 (I.ok.inj _ _ _ e hc ▸ hi))
   · by_cases hcc:c'=c
     · subst hcc;exact⟨_,hc'⟩
     · obtain⟨w2,z2⟩:=I.cell y c' e
       exact⟨w2,z2.sameBut hs hcc⟩
   · obtain⟨e,n,ne,nf,d⟩:=I.pin p hp
     refine⟨(hs.2 p.1 ?_).trans e,n,ne,nf,d⟩
     intro q
     rw [q,hoc] at e
     have q':oc=p.2:=Option.some.inj e
     exact d w' (by rw [← q'];exact hocd)
theorem zH {M:Model}{A:Around}{E:Value→Shared→Prop}{i:Nat}{x:Str}{v:V}{u:Value}{Q:Unit→Shared→Prop}(I:Inv X pins σ H s)(hN:X.N.Nodup)(hi:X.N[i]? =some x)(hx:Loc X.env.scope x)(r:RelV v u)
 (h:∀ s',Inv X pins (σ.set i (some v)) H s'→Q () s') (hf:X.fn x=true∨X.env.scope.names.lookup x=some .local:=by first | exact .inl rfl | exact .inr rfl | assumption):wpAny M A (storeName X.env x u) Q E s:=
 vp I hN hi hx r (fun s' I' _=>h s' I') hf
theorem Inv.call' {s':Shared}{ch:List Addr}(I:Inv X pins σ H s)(ho:s'.os=s.os)(u:Un (frs X.stack) ch H H' s.heap s'.heap)(hok:HOk X.prog X.w H' s'.heap)(hg:AllBare s'.gens)
 (hch:∀ b∈ch,(b∈X.ex∨X.s₀.heap.objs.size≤b)∧b≠X.env.locals∧(∀ x c,X.env.cells.lookup x=some c→c≠b)∧∀ p∈X.pn++pins,p.1≠b):Inv X pins σ H' s':=by
 obtain⟨h',g',d',t',o'⟩:=s'
 have e:o'=s.os:=ho
 subst e
 exact I.call (g':=g') (t':=t') (d':=d') u hok hg hch
end
abbrev XK:=Value→Option Addr→Hp→Prop
abbrev St:=List (Option V)
abbrev VK:=V→Hp→Prop
abbrev TE:=St→Hp→VK→Prop
abbrev TT:=St→Hp→(Bool→Hp→Prop)→Prop
abbrev TA:=St→Hp→(List V→Hp→Prop)→Prop
structure qEe where
 nx:St→Hp→Prop
 rt:VK
 bk:St→Hp→Prop:=fun _ _=>False
 ct:St→Hp→Prop:=fun _ _=>False
abbrev TS:=qEe→St→Hp→Prop
def EP (X:Cx)(pins:List (Addr × Obj))(σ:St)(Q:VK)(u:Value)(s':Shared):Prop:=∃ v H',Inv X pins σ H' s'∧RelV v u∧Q v H'
def TP (X:Cx)(pins:List (Addr × Obj))(σ:St)(Q:Bool→Hp→Prop)(b:Bool)(s':Shared):Prop:=∃ H',Inv X pins σ H' s'∧Q b H'
def AP (X:Cx)(pins:List (Addr × Obj))(σ:St)(Q:List V→Hp→Prop)(us:List Value)(s':Shared):Prop:=∃ vs H',Inv X pins σ H' s'∧Vals vs us∧Q vs H'
def SP (X:Cx)(pins:List (Addr × Obj))(D:qEe)(f:Flow)(s':Shared):Prop:=
 match f with
 | .next=>∃ σ' H',Inv X pins σ' H' s'∧D.nx σ' H'
 | .brk=>∃ σ' H',Inv X pins σ' H' s'∧D.bk σ' H'
 | .cont=>∃ σ' H',Inv X pins σ' H' s'∧D.ct σ' H'
 | .ret u=>∃ v σ' H',Inv X pins σ' H' s'∧RelV v u∧D.rt v H'
def PE (X:Cx)(e:Expr)(t:TE):Prop:=
 ∀ (pins:List (Addr × Obj)) (s:Shared) (σ:St) (H:Hp) (Q:VK),Inv X pins σ H s→t σ H Q→wpAny (model X.prog X.w) X.A (eval e X.env) (EP X pins σ Q) X.xe s
def PT (X:Cx)(e:Expr)(t:TT):Prop:=
 ∀ (pins:List (Addr × Obj)) (s:Shared) (σ:St) (H:Hp) (Q:Bool→Hp→Prop),Inv X pins σ H s→t σ H Q→wpAny (model X.prog X.w) X.A (isTrue e X.env (eval e X.env)) (TP X pins σ Q) X.xe s
def PW (X:Cx)(e:Expr)(t:TT):Prop:=
 ∀ (whole:Sem Value) (pins:List (Addr × Obj)) (s:Shared) (σ:St) (H:Hp) (Q:Bool→Hp→Prop),Inv X pins σ H s→t σ H Q→wpAny (model X.prog X.w) X.A (isTrue e X.env whole) (TP X pins σ Q) X.xe s
theorem PW.pt {X:Cx}{e:Expr}{t:TT}(h:PW X e t):PT X e t:=h _
def PA (X:Cx)(es:List Expr)(t:TA):Prop:=
 ∀ (pos:Pos) (pins:List (Addr × Obj)) (s:Shared) (σ:St) (H:Hp) (Q:List V→Hp→Prop),Inv X pins σ H s→t σ H Q→wpAny (model X.prog X.w) X.A (spliced (backTo pos (starEach es X.env))) (AP X pins σ Q) X.xe s
def PS (X:Cx)(st:Stmt)(t:TS):Prop:=
 ∀ (pins:List (Addr × Obj)) (s:Shared) (σ:St) (H:Hp) (D:qEe),Inv X pins σ H s→t D σ H→wpAny (model X.prog X.w) X.A (exec st X.env) (SP X pins D) X.xe s
def PSs (X:Cx)(st:List Stmt)(t:TS):Prop:=
 ∀ (pins:List (Addr × Obj)) (s:Shared) (σ:St) (H:Hp) (D:qEe),Inv X pins σ H s→t D σ H→wpAny (model X.prog X.w) X.A (execs st X.env) (SP X pins D) X.xe s
theorem thn {α:Type}{t:Sem α}{Q Q':α→Shared→Prop}{M:Model}{A:Around}{E:Value→Shared→Prop}{s:Shared}(h:wpAny M A t Q E s)(hQ:∀ a s,Q a s→Q' a s):wpAny M A t Q' E s:=wpAny_mono h hQ fun _ _ x=>x
end L2
namespace L2
open PySem PySem.Spec PyProof.Rows
section
variable {X : Cx}
theorem bin {a b:Expr}{ta tb:TE}(ha:PE X a ta)(hb:PE X b tb){pins:List (Addr × Obj)}{s:Shared}{σ:St}{H:Hp}{R:V→V→Hp→Prop}(I:Inv X pins σ H s)(h:ta σ H fun x H1=>tb σ H1 fun y H2=>R x y H2)
 {α:Type} {Q:α→Shared→Prop} {f:Value→Value→Sem α}
 (hf:∀ v u s2 x y H2,Inv X pins σ H2 s2→RelV x v→RelV y u→R x y H2→wpAny (model X.prog X.w) X.A (f v u) Q X.xe s2):
 wpAny (model X.prog X.w) X.A (eval a X.env) (fun v s₁=>wpAny (model X.prog X.w) X.A (eval b X.env) (fun u s₂=>wpAny (model X.prog X.w) X.A (f v u) Q X.xe s₂) X.xe s₁) X.xe s:=by
 refine thn (ha pins s σ H _ I h) fun v s1 ⟨x,H1,I1,r1,q1⟩=>?_
 refine thn (hb pins s1 σ H1 _ I1 q1) fun u s2 ⟨y,H2,I2,r2,q2⟩=>?_
 exact hf v u s2 x y H2 I2 r1 r2 q2
inductive qI9 (i:Nat)(σ:L2.St)(H:Hp)(Q:VK):Prop
| mk v (_:σ[i]? =some (some v)) (_:Q v H)
def tC (v:V):TE:=fun _ H Q=>Q v H
theorem qJe {i:Nat}{x:Str}{pos:Pos}(hN:X.N[i]? =some x)(hv:Vis X.env.scope x)(hd:(x == ("__debug__":Str))=false:=by decide)(hcd:(x == ("__classdict__":Str))=false:=by decide):PE X (.Name x pos) (qI9 i):=by
 intro pins s σ H Q I h
 obtain⟨v,e,h⟩:=h
 obtain⟨m,hn,hl⟩:=I.loc
 obtain⟨u,r,l⟩:=hl i x v hN e hv
 have fin:EP X pins σ Q u s:=⟨v,H,I,r,h⟩
 rcases l with ⟨hk,hm⟩ | ⟨hk,c,hc,hcell⟩
 · exact wpAny_Name (wpAny_loadName_local I.ok.kind hk hn hm fin) hd
 · rcases hk with hk | hk
   · exact wpAny_Name (wpAny_loadName_cell I.ok.kind hk hc hcell fin) hd
   · exact wpAny_Name (wpAny_loadName_free I.ok.kind hk hc hcell fin hcd) hd
theorem qF {i j pos}:PE X (.Constant (.int i) j pos) (tC (.int i)):=fun _ _ _ H _ I h=>wpAny_Constant_int ⟨.int i,H,I.tok _,⟨_,rfl⟩,h⟩
theorem zQ {b j pos}:PE X (.Constant (.bool b) j pos) (tC (.bl b)):=fun _ _ _ H _ I h=>Constant_bool ⟨.bl b,H,I,rfl,h⟩
theorem xl {j pos}:PE X (.Constant .none j pos) (tC .non):=fun _ _ _ H _ I h=>Constant_none ⟨.non,H,I,rfl,h⟩
theorem qJ {x j pos}:PE X (.Constant (.str x) j pos) (tC (.str x)):=fun _ _ _ H _ I h=>Calls.Constant_str ⟨.str x,H,I.tok _,⟨_,rfl⟩,h⟩
def Gl (X:Cx)(x:Str):Prop:=X.env.kindOf x=some .globalImplicit
theorem qAa {E:Value→Shared→Prop}{pins:List (Addr × Obj)}{s:Shared}{σ:St}{H:Hp}{x:Str}{u:Value}{pos:Pos}{Q:Value→Shared→Prop}(I:Inv X pins σ H s)(hg:Gl X x)(hm:X.mg x=some u)(h:Q u s)
 (hd:(x == ("__debug__":Str))=false:=by decide):wpAny (model X.prog X.w) X.A (eval (.Name x pos) X.env) Q E s:=
 Calls.Name_function_global I.ok.kind hg (Calls.loadGlobal_global (by rw [I.ok.glob];exact I.mod.glob.keeps I.bk) hm h) hd
theorem vV {E:Value→Shared→Prop}{pins:List (Addr × Obj)}{s:Shared}{σ:St}{H:Hp}{x:Str}{u:Value}{pos:Pos}{Q:Value→Shared→Prop}(I:Inv X pins σ H s)(hg:Gl X x)(hm:X.mg x=none)(hv:bootBuiltins x=some u)(h:Q u s)
 (hn:x≠"__name__":=by decide) (hd:(x == ("__debug__":Str))=false:=by decide):wpAny (model X.prog X.w) X.A (eval (.Name x pos) X.env) Q E s:=by
 obtain⟨mb,h1,h2⟩:=I.mod.blt
 exact Calls.Name_function_global I.ok.kind hg (Calls.loadGlobal_builtin (by rw [I.ok.glob];exact I.mod.glob.keeps I.bk) hm (by rw [I.ok.blt];exact h1.keeps I.bk) ((h2 x hn).trans hv) h) hd
theorem zf {x:Str}{v:V}{u:Value}{pos:Pos}(hg:Gl X x)(hm:X.mg x=some u)(r:RelV v u)(hd:(x == ("__debug__":Str))=false:=by decide):PE X (.Name x pos) (tC v):=
 fun _ _ _ H _ I h=>qAa I hg hm ⟨v,H,I,r,h⟩ hd
theorem qIl {x:Str}{v:V}{u:Value}{pos:Pos}(hg:Gl X x)(hm:X.mg x=none)(hv:bootBuiltins x=some u)(r:RelV v u)(hn:x≠"__name__":=by decide)(hd:(x == ("__debug__":Str))=false:=by decide):PE X (.Name x pos) (tC v):=
 fun _ _ _ H _ I h=>vV I hg hm hv ⟨v,H,I,r,h⟩ hn hd
variable {a b : Expr} {ta tb : TE} {pos : Pos}
def PC (X:Cx)(op:CmpOp)(a b:Expr)(t:TE):Prop:=
 ∀ (pins:List (Addr × Obj)) (s:Shared) (σ:St) (H:Hp) (Q:VK),Inv X pins σ H s→t σ H Q→
  wpAny (model X.prog X.w) X.A (eval a X.env) (fun v s₁=>wpAny (model X.prog X.w) X.A (eval b X.env) (fun u s₂=>wpAny (model X.prog X.w) X.A (compareOp op v u) (EP X pins σ Q) X.xe s₂) X.xe s₁) X.xe s
theorem qC1 (b:Expr){op:CmpOp}(h:op≠ .In)(h2:op≠ .NotIn):behindInMarks op b=false:=by
 have e1:(op == CmpOp.In)=false:=by cases op <;> first | rfl | exact absurd rfl h
 have e2:(op == CmpOp.NotIn)=false:=by cases op <;> first | rfl | exact absurd rfl h2
 cases b <;> simp [behindInMarks,e1,e2]
def qMf (ta:TE):TE:=fun σ H Q=>ta σ H fun x H1=>Q (.bl (decide (x= .non))) H1
def qK2 (ta:TE):TE:=fun σ H Q=>ta σ H fun x H1=>Q (.bl (!decide (x= .non))) H1
theorem RelV.none_iff {x:V}{v:Value}(r:RelV x v):(v == Value.none)=decide (x= .non):=by
 cases x with
 | non=>cases r;rfl
 | bl _=>cases r;rfl
 | int _=>obtain⟨t,rfl⟩:=r;rfl
 | str _=>obtain⟨t,rfl⟩:=r;rfl
 | byt _=>obtain⟨t,rfl⟩:=r;rfl
 | flt _=>obtain⟨t,rfl⟩:=r;rfl
 | ref _=>cases r;rfl
 | ty _=>cases r;rfl
theorem wS {j pos'}(ha:PE X a ta):PC X .Is a (.Constant .none j pos') (qMf ta):=by
 intro pins s σ H Q I h
 refine thn (ha pins s σ H _ I h) fun v s1 ⟨x,H1,I1,r1,q1⟩=>?_
 exact Constant_none (is_none_gen ⟨.bl _,H1,I1,by rw [r1.none_iff];rfl,q1⟩)
theorem qEp {j pos'}(ha:PE X a ta):PC X .IsNot a (.Constant .none j pos') (qK2 ta):=by
 intro pins s σ H Q I h
 refine thn (ha pins s σ H _ I h) fun v s1 ⟨x,H1,I1,r1,q1⟩=>?_
 exact Constant_none (isnot_none_gen ⟨.bl _,H1,I1,by rw [r1.none_iff];rfl,q1⟩)
inductive tBI (Q:Bool→Hp→Prop)(x:V)(H1:Hp):Prop
| mk c (_:x= .bl c) (_:Q c H1)
def tB (t:TE):TT:=fun σ H Q=>t σ H fun x H1=>tBI Q x H1
theorem qHa {op:CmpOp}{t:TE}(h:PC X op a b t)(h1:behindInMarks op b=false:=by first | exact qC1 _ (by decide) (by decide) | rfl):PE X (.Compare a [op] [b] pos) t:=fun pins s σ H Q I hw=>wpAny_Compare1 (h pins s σ H Q I hw) h1
theorem vm {op:CmpOp}{t:TE}(h:PC X op a b t)(h1:behindInMarks op b=false:=by first | exact qC1 _ (by decide) (by decide) | rfl):PT X (.Compare a [op] [b] pos) (tB t):=by
 intro pins s σ H Q I hw
 refine wpAny_isTrue_Compare1 (thn (h pins s σ H _ I hw) fun v s1 h1=>thn h1 fun u s2 h2=>thn h2 fun c s3 ⟨x,H1,I1,r1,q1⟩=>?_) h1
 obtain⟨d,rfl,q⟩:=q1
 cases r1
 exact wpAny_truthy_bool ⟨H1,I1,q⟩
theorem jf {e:Expr}{t:TE}(h:PE X e t)(he:∀ whole,isTrue e X.env whole=(do let v ← whole;standAt e.pos;holding [v] (truthy v)):=by intro _;rfl):PT X e (tB t):=by
 intro pins s σ H Q I hw
 refine isTrue_plain (thn (h pins s σ H _ I hw) fun v s1 ⟨x,H1,I1,r1,q1⟩=>?_) (he _)
 obtain⟨d,rfl,q⟩:=q1
 cases r1
 exact wpAny_truthy_bool ⟨H1,I1,q⟩
variable {tA tB' : TT} {vv : List Expr}
def qMb (t u:TT):TT:=fun σ H Q=>t σ H fun c H1=>if c=true then u σ H1 Q else Q false H1
def tOr (t u:TT):TT:=fun σ H Q=>t σ H fun c H1=>if c=true then Q true H1 else u σ H1 Q
def qMs (t:TT):TT:=fun σ H Q=>t σ H fun c H1=>Q (!c) H1
theorem j2 (ha:PT X a tA):PW X (.BoolOp .And [a] pos) tA:=by
 intro wh pins s σ H Q I h
 refine isTrue_and (thn (ha pins s σ H Q I h) fun c s1 e=>?_)
 cases c with
 | true=>exact isTrue_and_nil e
 | false=>exact e
theorem je (ha:PT X a tA):PW X (.BoolOp .Or [a] pos) tA:=by
 intro wh pins s σ H Q I h
 refine isTrue_or (thn (ha pins s σ H Q I h) fun c s1 e=>?_)
 cases c with
 | false=>exact isTrue_or_nil e
 | true=>exact e
theorem j1 (ha:PT X a tA)(hb:PW X (.BoolOp .And (b::vv) pos) tB'):PW X (.BoolOp .And (a::b::vv) pos) (qMb tA tB'):=by
 intro wh pins s σ H Q I h
 refine isTrue_and (thn (ha pins s σ H _ I h) fun c s1 ⟨H1,I1,q1⟩=>?_)
 cases c with
 | true=>exact hb wh pins s1 σ H1 Q I1 q1
 | false=>exact⟨H1,I1,q1⟩
theorem xM (ha:PT X a tA)(hb:PW X (.BoolOp .Or (b::vv) pos) tB'):PW X (.BoolOp .Or (a::b::vv) pos) (tOr tA tB'):=by
 intro wh pins s σ H Q I h
 refine isTrue_or (thn (ha pins s σ H _ I h) fun c s1 ⟨H1,I1,q1⟩=>?_)
 cases c with
 | true=>exact⟨H1,I1,q1⟩
 | false=>exact hb wh pins s1 σ H1 Q I1 q1
theorem zR (ha:PT X a tA):PT X (.UnaryOp .Not a pos) (qMs tA):=by
 intro pins s σ H Q I h
 exact isTrue_not (ha pins s σ H (fun c H1=>Q (!c) H1) I h)
inductive qIy (tb:TE)(σ:L2.St)(Q:VK)(x:V)(H1:Hp):Prop
| mk c (_:x= .bl c) (_:if c=true then tb σ H1 Q else Q (.bl false) H1)
def qKs (ta tb:TE):TE:=fun σ H Q=>ta σ H fun x H1=>qIy tb σ Q x H1
inductive qJ3 (Q:VK)(x:V)(H1:Hp):Prop
| mk c (_:x= .bl c) (_:Q (.bl (!c)) H1)
def qKz (ta:TE):TE:=fun σ H Q=>ta σ H fun x H1=>qJ3 Q x H1
theorem qCm {op}{t:TE}(h:PE X a t):PE X (.BoolOp op [a] pos) t:=fun pins s σ H Q I hw=>BoolOp_one (h pins s σ H Q I hw)
theorem qDc (ha:PE X a ta)(hb:PE X (.BoolOp .And (b::vv) pos) tb):PE X (.BoolOp .And (a::b::vv) pos) (qKs ta tb):=by
 intro pins s σ H Q I h
 refine BoolOp_and (thn (ha pins s σ H _ I h) fun v s1 ⟨x,H1,I1,r1,q1⟩=>?_)
 obtain⟨c,rfl,q1⟩:=q1
 cases r1
 refine wpAny_truthy_bool ?_
 cases c with
 | true=>exact hb pins s1 σ H1 Q I1 q1
 | false=>exact⟨.bl false,H1,I1,rfl,q1⟩
theorem qJf (ha:PE X a ta):PE X (.UnaryOp .Not a pos) (qKz ta):=by
 intro pins s σ H Q I h
 refine UnaryOp_ (thn (ha pins s σ H _ I h) fun v s1 ⟨x,H1,I1,r1,q1⟩=>?_)
 obtain⟨c,rfl,q1⟩:=q1
 cases r1
 exact not_of (wpAny_truthy_bool ⟨.bl (!c),H1,I1,rfl,q1⟩)
def tIf (t:TT)(ta tb:TE):TE:=fun σ H Q=>t σ H fun c H1=>if c=true then ta σ H1 Q else tb σ H1 Q
theorem qDe {c:Expr}(hc:PT X c tA)(ha:PE X a ta)(hb:PE X b tb):PE X (.IfExp c a b pos) (tIf tA ta tb):=by
 intro pins s σ H Q I h
 refine wpAny_IfExp (thn (hc pins s σ H _ I h) fun d s1 ⟨H1,I1,q1⟩=>?_)
 cases d with
 | true=>exact ha pins s1 σ H1 Q I1 q1
 | false=>exact hb pins s1 σ H1 Q I1 q1
end
end L2
namespace L2
open PySem PySem.Spec PyProof.Rows
def SqL (K:PySem.W.Frag)(H:Hp)(a:Addr)(xs:List V):Prop:=
 Rd H a (.lst xs)∨
  ∃ (o:Obj) (its:Array Value) (n:Nat),K.lookup a=some o∧o.cls= .type "list"∧o.dict=none∧o.data= .seq its n∧its.size≤sizeLine∧Vals xs its.toList
def SqT (K:PySem.W.Frag)(H:Hp)(a:Addr)(xs:List V):Prop:=
 Rd H a (.tup xs)∨
  ∃ (o:Obj) (its:Array Value) (n:Nat),K.lookup a=some o∧o.cls= .type "tuple"∧o.data= .seq its n∧its.size≤sizeLine∧Vals xs its.toList
def qMu:Value→Option V
 | .none=>some .non
 | .bool b=>some (.bl b)
 | .int i _=>some (.int i)
 | .str x _=>some (.str x)
 | .bytes b _=>some (.byt b)
 | .float b _=>some (.flt b)
 | .ref a=>some (.ref a)
 | .type n=>some (.ty n)
 | _=>none
theorem RelV.abs {x:V}{u:Value}(r:RelV x u):qMu u=some x:=by
 cases x with
 | non=>cases r;rfl
 | bl _=>cases r;rfl
 | int _=>obtain⟨t,rfl⟩:=r;rfl
 | str _=>obtain⟨t,rfl⟩:=r;rfl
 | byt _=>obtain⟨t,rfl⟩:=r;rfl
 | flt _=>obtain⟨t,rfl⟩:=r;rfl
 | ref _=>cases r;rfl
 | ty _=>cases r;rfl
theorem RelV.inj {x y:V}{u:Value}(r:RelV x u)(q:RelV y u):x=y:=Option.some.inj (r.abs.symm.trans q.abs)
theorem Vals.inj:∀ {xs ys:List V} {us:List Value},Vals xs us→Vals ys us→xs=ys
 | _,_,_,.nil,.nil=>rfl
 | _,_,_,.cons r t,.cons r' t'=>by rw [r.inj r',Vals.inj t t']
section
variable {X : Cx} {pins : List (Addr × Obj)} {σ : St} {H : Hp} {s : Shared} {a : Addr} {xs ys : List V}
theorem SqL.of {K:PySem.W.Frag}(h:H a=some (.lst xs)):SqL K H a xs:=.inl (.inl h)
theorem SqT.of {K:PySem.W.Frag}(h:H a=some (.tup xs)):SqT K H a xs:=.inl (.inl h)
theorem Inv.list (I:Inv X pins σ H s)(h:SqL X.K H a xs):∃ its:List Value,Vals xs its∧PlainL s.heap a its.toArray∧xs.length≤sizeLine:=by
 rcases h with h | ⟨o,its,n,hk,hc,hd,hs,hz,r⟩
 · obtain⟨z,its,n,r,e⟩:=h.ok I.hok
   exact⟨its,r,⟨_,n,e,rfl,rfl,rfl⟩,z⟩
 · refine⟨its.toList,r,⟨o,n,I.kIn a o hk,hc,hd,by simpa using hs⟩,?_⟩
   have e:=r.length
   simp only [Array.length_toList] at e
   omega
theorem Inv.tuple (I:Inv X pins σ H s)(h:SqT X.K H a xs):∃ its:List Value,Vals xs its∧IsTup s.heap a its.toArray∧xs.length≤sizeLine:=by
 rcases h with h | ⟨o,its,n,hk,hc,hs,hz,r⟩
 · obtain⟨z,its,r,p⟩:=h.ok I.hok
   exact⟨its,r,p,z⟩
 · refine⟨its.toList,r,⟨o,I.kIn a o hk,hc,n,by simpa using hs⟩,?_⟩
   have e:=r.length
   simp only [Array.length_toList] at e
   omega
theorem Inv.list_inj (I:Inv X pins σ H s)(h:SqL X.K H a xs)(h':SqL X.K H a ys):xs=ys:=by
 obtain⟨its,r,⟨o,n,e,_,_,d⟩,_⟩:=I.list h
 obtain⟨its',r',⟨o',n',e',_,_,d'⟩,_⟩:=I.list h'
 rw [e] at e';cases e'
 rw [d] at d'
 injection d' with d1 _
 have:its=its':=by simpa using congrArg Array.toList d1
 subst this
 exact r.inj r'
theorem Inv.tuple_inj (I:Inv X pins σ H s)(h:SqT X.K H a xs)(h':SqT X.K H a ys):xs=ys:=by
 obtain⟨its,r,⟨o,e,_,n,d⟩,_⟩:=I.tuple h
 obtain⟨its',r',⟨o',e',_,n',d'⟩,_⟩:=I.tuple h'
 rw [e] at e';cases e'
 rw [d] at d'
 injection d' with d1 _
 have:its=its':=by simpa using congrArg Array.toList d1
 subst this
 exact r.inj r'
end
abbrev Cx.wish (X:Cx)(E:Value→Shared→Prop):Cx:={X with xe:=E}
abbrev Cx.nox (X:Cx):Cx:=X.wish fun _ _=>False
theorem Cx.Ok.wish {X:Cx}(ok:X.Ok)(E:Value→Shared→Prop):(X.wish E).Ok:=
 ⟨ok.mod,ok.kind,ok.glob,ok.blt,ok.above,ok.inj,ok.has,ok.cab,ok.hd,ok.frames,ok.stk,ok.exf,ok.bs,ok.bsz,ok.noex,ok.exfs,ok.funs,ok.frf⟩
theorem Cx.Ok.unwish {X:Cx}{E:Value→Shared→Prop}(ok:(X.wish E).Ok):X.Ok:=
 ⟨ok.mod,ok.kind,ok.glob,ok.blt,ok.above,ok.inj,ok.has,ok.cab,ok.hd,ok.frames,ok.stk,ok.exf,ok.bs,ok.bsz,ok.noex,ok.exfs,ok.funs,ok.frf⟩
section
variable {X : Cx} {pins : List (Addr × Obj)} {σ : St} {H : Hp} {s : Shared} {E : Value → Shared → Prop}
theorem Inv.wish (I:Inv X pins σ H s)(E:Value→Shared→Prop):Inv (X.wish E) pins σ H s:=⟨I.ok.wish E,I.os,I.bare,I.base,I.loc,I.cell,I.free,I.freeC,I.pin,I.hok,I.len⟩
theorem Inv.unwish (I:Inv (X.wish E) pins σ H s):Inv X pins σ H s:=⟨I.ok.unwish,I.os,I.bare,I.base,I.loc,I.cell,I.free,I.freeC,I.pin,I.hok,I.len⟩
theorem SP.unwish {D:qEe}{f:Flow}{s':Shared}(h:SP (X.wish E) pins D f s'):SP X pins D f s':=by
 cases f with
 | next=>obtain⟨σ',H',I,q⟩:=h;exact⟨σ',H',I.unwish,q⟩
 | brk=>obtain⟨σ',H',I,q⟩:=h;exact⟨σ',H',I.unwish,q⟩
 | cont=>obtain⟨σ',H',I,q⟩:=h;exact⟨σ',H',I.unwish,q⟩
 | ret u=>obtain⟨v,σ',H',I,r,q⟩:=h;exact⟨v,σ',H',I.unwish,r,q⟩
theorem PSs.nox {st:List Stmt}{t:TS}(h:PSs X.nox st t):PSs X st t:=fun pins s σ H D I hw=>
 wpAny_mono (h pins s σ H D (I.wish _) hw) (fun _ _ q=>q.unwish) fun _ _ z=>False.elim z
end
section
variable {X : Cx} {st : Stmt} {vv : List Stmt} {t u : TS} {e : Expr} {te : TE} {pos : Pos}
def qLk:TS:=fun D σ H=>D.nx σ H
def qMe (t u:TS):TS:=fun D σ H=>t {D with nx:=u D} σ H
theorem qL:PSs X [] qLk:=fun _ _ σ H _ I h=>wpAny_execs_nil ⟨σ,H,I,h⟩
theorem qD (h1:PS X st t)(h2:PSs X vv u):PSs X (st::vv) (qMe t u):=by
 intro pins s σ H D I h
 refine wpAny_execs_cons (thn (h1 pins s σ H {D with nx:=u D} I h) fun f s1 q=>?_)
 cases f with
 | next=>
  obtain⟨σ',H',I',q⟩:=q
  exact h2 pins s1 σ' H' D I' q
 | ret v=>exact q
 | brk=>exact q
 | cont=>exact q
theorem qG (h1:PS X st t):PSs X [st] t:=by
 intro pins s σ H D I h
 refine wpAny_execs_cons (thn (h1 pins s σ H D I h) fun f s1 q=>?_)
 cases f with
 | next=>exact wpAny_execs_nil q
 | ret v=>exact q
 | brk=>exact q
 | cont=>exact q
theorem Inv.quiet {pins:List (Addr × Obj)}{σ:St}{H:Hp}{s:Shared}(I:Inv X pins σ H s):interactive X.env=false:=by simp [interactive,I.ok.kind]
def qLf (te:TE):TS:=fun D σ H=>te σ H fun _ H1=>D.nx σ H1
theorem xD (he:PE X e te)(hs:swapsWith e none pos.line X.env=pure false:=by rfl):PS X (.Expr e pos) (qLf te):=by
 intro pins s σ H D I h
 exact wpAny_Expr_any (thn (he pins s σ H _ I h) fun v s1 ⟨x,H1,I1,r1,q1⟩=>⟨σ,H1,I1,q1⟩) I.quiet hs
def qMp (te:TE):TS:=fun D σ H=>te σ H D.rt
theorem qK (he:PE X e te):PS X (.Return (some e) pos) (qMp te):=by
 intro pins s σ H D I h
 exact wpAny_Return_some (thn (he pins s σ H _ I h) fun v s1 ⟨x,H1,I1,r1,q1⟩=>⟨x,σ,H1,I1,r1,q1⟩)
def qMx (c:TT)(t u:TS):TS:=fun D σ H=>c σ H fun b H1=>if b=true then t D σ H1 else u D σ H1
theorem qd {c:Expr}{a b:List Stmt}{tc:TT}(hc:PT X c tc)(ha:PSs X a t)(hb:PSs X b u):PS X (.If c a b pos) (qMx tc t u):=by
 intro pins s σ H D I h
 refine wpAny_If (thn (hc pins s σ H _ I h) fun d s1 ⟨H1,I1,q1⟩=>?_)
 cases d with
 | true=>exact ha pins s1 σ H1 D I1 q1
 | false=>exact hb pins s1 σ H1 D I1 q1
def qKf:TS:=fun _ _ _=>False
theorem qEj {sts:List Stmt}:PSs X sts qKf:=fun _ _ _ _ _ _ h=>h.elim
end
abbrev TG:=V→St→Hp→(St→Hp→Prop)→Prop
abbrev TGs:=List V→St→Hp→(St→Hp→Prop)→Prop
def PG (X:Cx)(target:Expr)(t:TG):Prop:=
 ∀ (pins:List (Addr × Obj)) (s:Shared) (σ:St) (H:Hp) (v:V) (u:Value) (Q:St→Hp→Prop),Inv X pins σ H s→RelV v u→t v σ H Q→
  wpAny (model X.prog X.w) X.A (assign target X.env u) (fun _ s'=>∃ σ' H',Inv X pins σ' H' s'∧Q σ' H') X.xe s
def PGs (X:Cx)(ts:List Expr)(t:TGs):Prop:=
 ∀ (pins:List (Addr × Obj)) (s:Shared) (σ:St) (H:Hp) (vs:List V) (us:List Value) (Q:St→Hp→Prop),Inv X pins σ H s→Vals vs us→t vs σ H Q→
  wpAny (model X.prog X.w) X.A (assignInOrder ((assignEach ts X.env).map (·.2)) us) (fun _ s'=>∃ σ' H',Inv X pins σ' H' s'∧Q σ' H') X.xe s
abbrev qLm:=V→V→V→Hp→(Hp→Prop)→Prop
def qL8 (X:Cx)(t:qLm):Prop:=
 ∀ (pins:List (Addr × Obj)) (s:Shared) (σ:St) (H:Hp) (o i v:V) (ov iv u:Value) (Q:Hp→Prop),Inv X pins σ H s→RelV o ov→RelV i iv→RelV v u→t o i v H Q→
  wpAny (model X.prog X.w) X.A (setItem ov iv u) (fun _ s'=>∃ H',Inv X pins σ H' s'∧Q H') X.xe s
section
variable {X : Cx} {pos : Pos}
def xJ (i:Nat):TG:=fun v σ H Q=>Q (σ.set i (some v)) H
theorem jo {i:Nat}{x:Str}(hN:X.N.Nodup)(hi:X.N[i]? =some x)(hx:Loc X.env.scope x)(hf:X.fn x=true∨X.env.scope.names.lookup x=some .local:=by first | exact .inl rfl | exact .inr rfl | assumption):PG X (.Name x pos) (xJ i):=by
 intro pins s σ H v u Q I r h
 exact wpAny_assign_Name (zH I hN hi hx r (fun s' I'=>⟨_,H,I',h⟩) hf)
def qKd:TGs:=fun vs σ H Q=>vs=[]∧Q σ H
inductive kr (t:TG)(u:TGs)(vs:List V)(σ:L2.St)(H:Hp)(Q:L2.St→Hp→Prop):Prop
| mk v r (_:vs=v::r) (_:t v σ H fun σ' H'=>u r σ' H' Q)
theorem qH5:PGs X [] qKd:=by
 intro pins s σ H vs us Q I r h
 obtain⟨e,h⟩:=h
 subst e
 cases r
 exact assignInOrder_nil ⟨σ,H,I,h⟩
theorem qDi {e:Expr}{es:List Expr}{t:TG}{u:TGs}(h1:PG X e t)(h2:PGs X es u)
 (hs:(assignEach (e::es) X.env).map (·.2)=assign e X.env::(assignEach es X.env).map (·.2):=by rfl):PGs X (e::es) (kr t u):=by
 intro pins s σ H vs us Q I r h
 obtain⟨v,vr,e1,h⟩:=h
 subst e1
 cases r with
 | cons r rr=>
  rw [hs]
  refine assignInOrder_cons (thn (h1 pins s σ H _ _ _ I r h) fun _ s1 ⟨σ1,H1,I1,q1⟩=>?_)
  exact h2 pins s1 σ1 H1 _ _ Q I1 rr q1
inductive qI6 (K:PySem.W.Frag)(n:Nat)(t:TGs)(v:V)(σ:L2.St)(H:Hp)(Q:L2.St→Hp→Prop):Prop
| mk a xs (_:v= .ref a) (_:SqT K H a xs) (_:xs.length=n) (_:t xs σ H Q)
theorem qJ5 {es:List Expr}{k:Nat}{t:TGs}{n:Nat}(hc:X.calm=true)(h:PGs X es t)
 (hn:(assignEach es X.env).length=n:=by rfl) (hst:(assignEach es X.env).findIdx? (·.1)=none:=by rfl):PG X (.Tuple es k pos) (qI6 X.K n t):=by
 intro pins s σ H v u Q I r hw
 obtain⟨a,xs,e1,hq,hl,hw⟩:=hw
 subst e1
 cases r
 obtain⟨its,rv,ht,hz⟩:=I.tuple hq
 refine assign_Tuple_tuple (I.ok.hd hc) ht (by simp [hn,← hl,rv.length]) hst fun h' hx=>?_
 have I1:Inv X pins σ H {s with heap:=h'}:=I.kept (t':=s.toks) fun b o e=>hx b o (Nat.ne_of_lt (Heap.lt_size e)) e
 exact h pins _ σ H xs _ Q I1 (by simpa using rv) hw
def qMl (to ti:TE)(t:qLm):TG:=fun v σ H Q=>to σ H fun o H1=>ti σ H1 fun i H2=>t o i v H2 fun H3=>Q σ H3
theorem qIz {o i:Expr}{to ti:TE}{t:qLm}(ho:PE X o to)(hi:PE X i ti)(hs:qL8 X t)
 (ha:∀ v,assign (.Subscript o i pos) X.env v=(do
   let ov ← holding [v] (eval o X.env)
   let iv ← holding [v,ov] (eval i X.env)
   standAt pos
   holding [v,ov,iv] (setItem ov iv v)
   release [v,ov,iv] []):=by intro _;rfl):PG X (.Subscript o i pos) (qMl to ti t):=by
 intro pins s σ H v u Q I r h
 rw [ha]
 refine wpAny_bind (wpAny_holding (thn (ho pins s σ H _ I h) fun ov s1 ⟨x,H1,I1,r1,q1⟩=>?_))
 refine wpAny_bind (wpAny_holding (thn (hi pins s1 σ H1 _ I1 q1) fun iv s2 ⟨y,H2,I2,r2,q2⟩=>?_))
 refine wpAny_bind (wpAny_standAt (wpAny_bind (wpAny_holding (thn (hs pins s2 σ H2 x y v ov iv u _ I2 r1 r2 r q2) fun _ s3 ⟨H3,I3,q3⟩=>?_))))
 exact wpAny_release ⟨σ,H3,I3,q3⟩
def qG4 (te:TE)(g:TG):TS:=fun D σ H=>te σ H fun x H1=>g x σ H1 D.nx
theorem qJu {tg e:Expr}{te:TE}{g:TG}(he:PE X e te)(hg:PG X tg g)(hs:swapsWithSole [tg] e pos.line X.env=pure false:=by rfl)(hw:swappedStores [tg] e X.env=pure none:=by rfl)
 (h1:(assignEach [tg] X.env).map (·.2)=[assign tg X.env]:=by rfl):PS X (.Assign [tg] e pos) (qG4 te g):=by
 intro pins s σ H D I h
 refine wpAny_Assign_stores (thn (he pins s σ H _ I h) fun v s1 ⟨x,H1,I1,r1,q1⟩=>?_) hs hw
 rw [h1]
 exact thn (hg pins s1 σ H1 x v _ I1 r1 q1) fun _ s2 q=>q
theorem qI4 {i:Nat}{x:Str}{e:Expr}{te:TE}{pos':Pos}(hN:X.N.Nodup)(hi:X.N[i]? =some x)(hx:Loc X.env.scope x)(he:PE X e te)(hs:swapsWith e (some (.Name x pos')) pos.line X.env=pure false:=by rfl)(hf:X.fn x=true∨X.env.scope.names.lookup x=some .local:=by first | exact .inl rfl | exact .inr rfl | assumption):
 PS X (.Assign [.Name x pos'] e pos) (qG4 te (xJ i)):=by
 intro pins s σ H D I h
 refine wpAny_Assign_Name (thn (he pins s σ H _ I h) fun v s1 ⟨y,H1,I1,r1,q1⟩=>?_) hs
 exact zH I1 hN hi hx r1 (fun s2 I2=>⟨_,H1,I2,q1⟩) hf
inductive qLo (i:Nat)(j:Nat)(D:qEe)(σ:L2.St)(vs:List V)(H1:Hp):Prop
| mk v w (_:vs=[v,w]) (_:D.nx ((σ.set i (some v)).set j (some w)) H1)
def qMd (i j:Nat)(ta:TA):TS:=fun D σ H=>ta σ H fun vs H1=>qLo i j D σ vs H1
theorem qJw {i j:Nat}{x y:Str}{a b:Expr}{ta:TA}{px py pt:Pos}{kt k2 pt2}(hc:X.calm=true)(hN:X.N.Nodup)(hi:X.N[i]? =some x)(hj:X.N[j]? =some y)(hij:i≠j)
 (hx:X.env.scope.names.lookup x=some .local) (hy:X.env.scope.names.lookup y=some .local) (ha:PA X [a,b] ta)
 (hw:swappedStores [.Tuple [.Name x px,.Name y py] kt pt] (.Tuple [a,b] k2 pt2) X.env=pure (some [x,y]))
 (hs:swapsWithSole [.Tuple [.Name x px,.Name y py] kt pt] (.Tuple [a,b] k2 pt2) pos.line X.env=pure false:=by rfl):
 PS X (.Assign [.Tuple [.Name x px,.Name y py] kt pt] (.Tuple [a,b] k2 pt2) pos) (qMd i j ta):=by
 intro pins s σ H D I h
 rw [exec_Assign_arm]
 refine wpAny_bind (wpAny_standAt ?_)
 rw [hs]
 refine wpAny_bind (wpAny_pure ?_)
 rw [if_neg (by decide)]
 refine wpAny_bind (Tuple_ (thn (ha _ pins s σ H _ I h) fun us s1 ⟨vs,H1,I1,r1,q1⟩=>?_))
 obtain⟨v,w,e1,q1⟩:=q1
 subst e1
 obtain⟨u1,u2,rfl,rv,rw'⟩:∃ u1 u2,us=[u1,u2]∧RelV v u1∧RelV w u2:=by
  cases r1 with
  | cons p q=>
   cases q with
   | cons p' q'=>
    cases q'
    exact⟨_,_,rfl,p,p'⟩
 refine wpAny_newObj_type ?_ (by show 2≤sizeLine;decide)
 have I2:Inv X pins σ H1 {s1 with heap:=s1.heap.push {cls:=.type "tuple",data:=.seq [u1,u2].toArray}}:=I1.kept (t':=s1.toks) fun b o e=>Heap.get?_push_of_some _ e
 rw [hw]
 refine wpAny_bind (wpAny_pure ?_)
 show wpAny (model X.prog X.w) X.A (do rule "assign.swapped-stores";let items ← unpackItems (.ref s1.heap.objs.size) 2 none;assignInOrder [fun v=>bindName X.env y v,fun v=>bindName X.env x v] items.reverse;pure Flow.next) _ _ _
 refine wpAny_bind (wpAny_rule (wpAny_bind (unpackItems_tuple (items:=#[u1,u2]) (I.ok.hd hc) (IsTup.new s1.heap _) fun h' hx'=>?_)))
 have I3:=I2.kept (h':=h') (t':=s1.toks) fun b o e=>hx' b o (Nat.ne_of_lt (Heap.lt_size e)) e
 show wpAny _ _ (assignInOrder [fun v=>bindName X.env y v,fun v=>bindName X.env x v] [u2,u1] >>=fun _=>pure Flow.next) _ _ _
 refine wpAny_bind (assignInOrder_cons (wpAny_bindName (zH I3 hN hj (.inl hy) rw' (fun s2 I4=>?_) (.inr hy))))
 refine assignInOrder_cons (wpAny_bindName (zH I4 hN hi (.inl hx) rv (fun s3 I5=>assignInOrder_nil (wpAny_pure ?_)) (.inr hx)))
 rw [List.set_comm _ _ (Ne.symm hij)] at I5
 exact⟨_,H1,I5,q1⟩
end
section
variable {X : Cx} {pos : Pos}
def qG3 (c:TT)(tb:TS):TS:=fun D σ H=>∃ W:Nat→St→Hp→Prop,(∃ m,W m σ H)∧∀ m σ H,W m σ H→
 c σ H fun b H1=>if b=true then ∃ N:St→Hp→Prop,(∀ σ' H',N σ' H'→∃ m',m' < m∧W m' σ' H')∧tb {D with nx:=N,ct:=N,bk:=D.nx} σ H1 else D.nx σ H1
theorem qC3 {c:Expr}{body:List Stmt}{tc:TT}{tb:TS}(hp:PassesOwn (model X.prog X.w) X.A X.env X.xe)(hc:PT X c tc)(hb:PSs X body tb):PS X (.While c body [] pos) (qG3 tc tb):=by
 intro pins s σ H D I h
 obtain⟨W,⟨m0,w0⟩,turn⟩:=h
 refine wpAny_While (codeAny_whileLoop (fun n s'=>∃ σ' H',Inv X pins σ' H' s'∧W n σ' H') ?_ m0 ⟨σ,H,I,w0⟩)
 rintro n s1 ⟨σ1,H1,I1,w1⟩
 refine wpAny_passesOwn hp (thn (hc pins s1 σ1 H1 _ I1 (turn n σ1 H1 w1)) fun b s2 ⟨H2,I2,q2⟩=>?_)
 cases b with
 | true=>
  obtain⟨N,hN,q2⟩:=q2
  rw [if_pos rfl]
  refine wpAny_passesOwn hp (thn (hb pins s2 σ1 H2 _ I2 q2) fun f s3 q3=>?_)
  cases f with
  | next=>
   obtain⟨σ3,H3,I3,n3⟩:=q3
   obtain⟨m',hm,w3⟩:=hN σ3 H3 n3
   exact⟨m',hm,σ3,H3,I3,w3⟩
  | cont=>
   obtain⟨σ3,H3,I3,n3⟩:=q3
   obtain⟨m',hm,w3⟩:=hN σ3 H3 n3
   exact⟨m',hm,σ3,H3,I3,w3⟩
  | brk=>exact q3
  | ret v=>exact q3
 | false=>
  rw [if_neg Bool.false_ne_true]
  exact wpAny_execs_nil ⟨σ1,H2,I2,q2⟩
end
structure It where
 go:Nat→Hp→Prop
 yld:Nat→Hp→V→Hp→Prop
 stop:Nat→Hp→Prop
def qF2 (X:Cx)(pins:List (Addr × Obj))(H:Hp)(b:Addr):Prop:=
 H b=none∧b≠X.env.locals∧b ∉ X.fs∧(b∈X.ex∨X.s₀.heap.objs.size≤b)∧(∀ x c,X.env.cells.lookup x=some c→c≠b)∧∀ p∈X.pn++pins,p.1≠b
theorem Inv.fpOk {X:Cx}{pins:List (Addr × Obj)}{σ:St}{H H':Hp}{s:Shared}{b:Addr}(I:Inv X pins σ H s)(hb:s.heap.objs.size≤b)(hn:H' b=none):qF2 X pins H' b:=by
 refine⟨hn,Nat.ne_of_gt (Nat.lt_of_lt_of_le I.lt hb),I.nofs hb,.inr (Nat.le_trans I.sz hb),fun x c e z=>?_,fun p hp z=>?_⟩
 · obtain⟨v,q⟩:=I.cell x c e
   exact absurd (Nat.lt_of_lt_of_le q.lt (by rw [z];exact hb)) (Nat.lt_irrefl _)
 · exact absurd (Nat.lt_of_lt_of_le (Heap.lt_size (I.pin p hp).1) (by rw [z];exact hb)) (Nat.lt_irrefl _)
structure qIk (P:Program)(w:World)(K:PySem.W.Frag)(tg:Expr)(J:It)(fp:List Addr)(it:Addr)(tn:Nat→Heap→Prop):Prop where
 mem:it∈fp
 obj:∀ i h,tn i h→∀ b∈fp,∃ o,h.get? b=some o∧∀ v,o.data≠ .cell v
 keep:∀ i h h',tn i h→(∀ b∈fp,∀ o,h.get? b=some o→h'.get? b=some o)→tn i h'
 item:∀ (X:Cx),X.prog=P→X.w=w→X.K=K→X.calm=true→∀ (i:Nat) (pins:List (Addr × Obj)) (s:Shared) (σ:St) (H:Hp) (E:Value→Shared→Prop),Inv X pins σ H s→(∀ b∈fp,qF2 X pins H b)→tn i s.heap→J.go i H→
  wpAny (model P w) X.A (pyNext (.ref it)) (fun r s1=>∃ u,r=some u∧
   wpAny (model P w) X.A (letOwnedTupleGo tg (.ref it) u) (fun _ s2=>∃ x H',Inv X pins σ H' s2∧RelV x u∧J.yld i H x H'∧tn (i+1) s2.heap∧∀ b∈fp,H' b=none) E s1) E s
 done:∀ (X:Cx),X.prog=P→X.w=w→X.K=K→X.calm=true→∀ (i:Nat) (pins:List (Addr × Obj)) (s:Shared) (σ:St) (H:Hp) (E:Value→Shared→Prop),Inv X pins σ H s→(∀ b∈fp,qF2 X pins H b)→tn i s.heap→J.stop i H→
  wpAny (model P w) X.A (pyNext (.ref it)) (fun r s1=>r=none∧Inv X pins σ H s1) E s
 self:∀ (A:Around) (i:Nat) (s:Shared) (Q:Value→Shared→Prop) (E:Value→Shared→Prop),tn i s.heap→Q (.ref it) s→wpAny (model P w) A (pyIter (.ref it)) Q E s
abbrev TI:=St→Hp→(It→Hp→Prop)→Prop
def PIE (X:Cx)(pins:List (Addr × Obj))(σ:St)(tg:Expr)(R:It→Hp→Prop)(itv:Value)(s2:Shared):Prop:=
 ∃ (it:Addr) (fp:List Addr) (tn:Nat→Heap→Prop) (J:It) (H':Hp),itv= .ref it∧Inv X pins σ H' s2∧qIk X.prog X.w X.K tg J fp it tn∧tn 0 s2.heap∧(∀ b∈fp,qF2 X pins H' b)∧R J H'
def PI (X:Cx)(tg iter:Expr)(wi:TI):Prop:=
 ∀ (pins:List (Addr × Obj)) (s:Shared) (σ:St) (H:Hp) (R:It→Hp→Prop),Inv X pins σ H s→wi σ H R→
  wpAny (model X.prog X.w) X.A (eval iter X.env) (fun v s1=>wpAny (model X.prog X.w) X.A (pyIter v) (PIE X pins σ tg R) X.xe s1) X.xe s
theorem qGw {M:Model}{A:Around}{E:Value→Shared→Prop}{s:Shared}{tg:Expr}{it:Addr}{u:Value}{o:Obj}{n:String}{vs:Array Value}{Q:Unit→Shared→Prop}(ho:s.heap.get? it=some o)(hc:o.cls= .type n)(hd:o.data= .fields vs)
 (hn:["enumerate","zip","dict_itemiterator","dict_reverseitemiterator","odict_iterator","itertools.zip_longest","itertools.pairwise"].contains n=false) (hQ:Q () s):wpAny M A (letOwnedTupleGo tg (.ref it) u) Q E s:=by
 unfold letOwnedTupleGo
 cases tg <;> first
  | exact wpAny_pure hQ
  | (cases u <;> first
      | exact wpAny_pure hQ
      | (refine wpAny_bind (wpAny_load ho ?_)
         rw [hc,hd]
         show wpAny M A (if (["enumerate","zip","dict_itemiterator","dict_reverseitemiterator","odict_iterator","itertools.zip_longest","itertools.pairwise"].contains n && vs[0]? == some (rawInt _))=true then _ else _) Q E s
         rw [if_neg (by intro h;rw [hn,Bool.false_and] at h;cases h)]
         exact wpAny_pure hQ))
def Itl (K:PySem.W.Frag)(a:Addr):It:=
 ⟨fun i H=>∃ xs x,SqL K H a xs∧xs[i]? =some x,fun i H x H'=>H'=H∧∀ xs,SqL K H a xs→xs[i]? =some x,fun i H=>∃ xs,SqL K H a xs∧xs.length≤i⟩
def Itt (K:PySem.W.Frag)(a:Addr):It:=
 ⟨fun i H=>∃ xs x,SqT K H a xs∧xs[i]? =some x,fun i H x H'=>H'=H∧∀ xs,SqT K H a xs→xs[i]? =some x,fun i H=>∃ xs,SqT K H a xs∧xs.length≤i⟩
def Itr (lo:Int)(n:Nat):It:=⟨fun i _=>i < n,fun i H x H'=>H'=H∧x= .int (lo+i),fun i _=>n≤i⟩
theorem qFe {P:Program}{w:World}{K:PySem.W.Frag}{tg:Expr}(a it:Addr):qIk P w K tg (Itl K a) [it] it (fun i h=>h.IsListIter it a i) where
 mem:=by simp
 obj:=fun i h st b hb=>by
  have e:b=it:=by simpa using hb
  subst e
  obtain⟨o,e,c,d⟩:=st
  exact⟨o,e,fun v z=>by rw [d] at z;cases z⟩
 keep:=fun i h h' st k=>st.at fun o e=>k it (by simp) o e
 item:=by
  intro X hP hw hK hc i pins s σ H E I hf st hg
  subst hP hw hK
  obtain⟨xs,x,hq,hx⟩:=hg
  obtain⟨its,rv,p,hz⟩:=I.list hq
  obtain⟨u,hu,ru⟩:=rv.get hx
  obtain⟨f0,f1,f2,f3,f4,f5⟩:=hf it (by simp)
  refine wpAny_pyNext_list_item st p.isList (x:=u) (by simpa using hu) fun h' st' sb=>?_
  have I1:Inv X pins σ H {s with heap:=h'}:=I.turned (t':=s.toks) (fun b o hb e=>(sb.2 b hb).trans e) f0 f1 f3 f4 f5
  obtain⟨o,e,c,d⟩:=id st'
  exact⟨u,rfl,qGw (s:={s with heap:=h'}) e c d (by decide) ⟨x,H,I1,ru,⟨rfl,fun ys hy=>by rw [I.list_inj hy hq];exact hx⟩,st',fun b hb=>(hf b hb).1⟩⟩
 done:=by
  intro X hP hw hK hc i pins s σ H E I hf st hg
  subst hP hw hK
  obtain⟨xs,hq,hx⟩:=hg
  obtain⟨its,rv,p,hz⟩:=I.list hq
  obtain⟨f0,f1,f2,f3,f4,f5⟩:=hf it (by simp)
  have hl:=rv.length
  exact wpAny_pyNext_list_end (I.ok.hd hc) st p.isList (by simp;omega) fun h' eb=>⟨rfl,I.turned (t':=s.toks) (fun b o hb e=>eb b o hb e) f0 f1 f3 f4 f5⟩
 self:=fun _ _ _ _ _ st h=>wpAny_pyIter_listiter st h
theorem qDv {P:Program}{w:World}{K:PySem.W.Frag}{tg:Expr}(a it:Addr):qIk P w K tg (Itt K a) [it] it (fun i h=>h.IsTupleIter it a i) where
 mem:=by simp
 obj:=fun i h st b hb=>by
  have e:b=it:=by simpa using hb
  subst e
  obtain⟨o,e,c,d⟩:=st
  exact⟨o,e,fun v z=>by rw [d] at z;cases z⟩
 keep:=fun i h h' st k=>st.at fun o e=>k it (by simp) o e
 item:=by
  intro X hP hw hK hc i pins s σ H E I hf st hg
  subst hP hw hK
  obtain⟨xs,x,hq,hx⟩:=hg
  obtain⟨its,rv,p,hz⟩:=I.tuple hq
  obtain⟨u,hu,ru⟩:=rv.get hx
  obtain⟨f0,f1,f2,f3,f4,f5⟩:=hf it (by simp)
  refine wpAny_pyNext_tuple_item st (show s.heap.IsTuple a its.toArray from p) (x:=u) (by simpa using hu) fun h' st' sb=>?_
  have I1:Inv X pins σ H {s with heap:=h'}:=I.turned (t':=s.toks) (fun b o hb e=>(sb.2 b hb).trans e) f0 f1 f3 f4 f5
  obtain⟨o,e,c,d⟩:=id st'
  exact⟨u,rfl,qGw (s:={s with heap:=h'}) e c d (by decide) ⟨x,H,I1,ru,⟨rfl,fun ys hy=>by rw [I.tuple_inj hy hq];exact hx⟩,st',fun b hb=>(hf b hb).1⟩⟩
 done:=by
  intro X hP hw hK hc i pins s σ H E I hf st hg
  subst hP hw hK
  obtain⟨xs,hq,hx⟩:=hg
  obtain⟨its,rv,p,hz⟩:=I.tuple hq
  obtain⟨f0,f1,f2,f3,f4,f5⟩:=hf it (by simp)
  have hl:=rv.length
  exact wpAny_pyNext_tuple_end (I.ok.hd hc) st (show s.heap.IsTuple a its.toArray from p) (by simp;omega) fun h' eb=>⟨rfl,I.turned (t':=s.toks) (fun b o hb e=>eb b o hb e) f0 f1 f3 f4 f5⟩
 self:=fun _ _ _ _ _ st h=>wpAny_pyIter_tupleiter st h
theorem qD1 {P:Program}{w:World}{K:PySem.W.Frag}{tg:Expr}(it:Addr)(lo:Int)(n:Nat):qIk P w K tg (Itr lo n) [it] it (fun i h=>IsRangeIter h it (lo+(i:Nat)*1) ((n:Int) - (i:Nat)) 1) where
 mem:=by simp
 obj:=fun i h st b hb=>by
  have e:b=it:=by simpa using hb
  subst e
  exact⟨_,st,fun v z=>by
   have z':Data.fields _=Data.cell v:=z
   cases z'⟩
 keep:=fun i h h' st k=>k it (by simp) _ st
 item:=by
  intro X hP hw hK hc i pins s σ H E I hf st hg
  subst hP hw hK
  obtain⟨f0,f1,f2,f3,f4,f5⟩:=hf it (by simp)
  have W:=Walks.range (prog:=X.prog) (w:=X.w) (I.ok.hd hc) it lo 1 n
  refine W.item i s _ _ hg st fun v h' tk hv st' kk=>?_
  obtain⟨t,rfl⟩:=hv
  have I1:Inv X pins σ H {s with heap:=h',toks:=tk}:=I.turned (fun b o hb e=>kk b o (by simpa using hb) e) f0 f1 f3 f4 f5
  refine⟨_,rfl,qGw (s:={s with heap:=h',toks:=tk}) (n:="range_iterator") st' rfl rfl (by decide) ⟨.int (lo+i),H,I1,⟨t,?_⟩,⟨rfl,rfl⟩,st',fun b hb=>(hf b hb).1⟩⟩
  rw [Int.mul_one]
 done:=by
  intro X hP hw hK hc i pins s σ H E I hf st hg
  subst hP hw hK
  obtain⟨f0,f1,f2,f3,f4,f5⟩:=hf it (by simp)
  exact wpAny_pyNext_range_end (I.ok.hd hc) st (by have:n≤i:=hg;omega) fun h' eb=>⟨rfl,I.turned (t':=s.toks) (fun b o hb e=>eb b o hb e) f0 f1 f3 f4 f5⟩
 self:=fun _ _ _ _ _ st h=>wpAny_pyIter_rangeiter st h
end L2
namespace L2
open PySem PySem.Spec PyProof.Rows
section
variable {X : Cx} {tg : Expr}
inductive qJk (K:PySem.W.Frag)(R:It→Hp→Prop)(x:V)(H1:Hp):Prop
| mk a (_:x= .ref a) (_:(∃ xs,SqL K H1 a xs)) (_:R (Itl K a) H1)
def qLs (K:PySem.W.Frag)(tl:TE):TI:=fun σ H R=>tl σ H fun x H1=>qJk K R x H1
inductive qKu (K:PySem.W.Frag)(R:It→Hp→Prop)(x:V)(H1:Hp):Prop
| mk a (_:x= .ref a) (_:(∃ xs,SqT K H1 a xs)) (_:R (Itt K a) H1)
def qMo (K:PySem.W.Frag)(tl:TE):TI:=fun σ H R=>tl σ H fun x H1=>qKu K R x H1
theorem xC {l:Expr}{tl:TE}(hl:PE X l tl):PI X tg l (qLs X.K tl):=by
 intro pins s σ H R I h
 refine thn (hl pins s σ H _ I h) fun v s1 ⟨x,H1,I1,r1,q1⟩=>?_
 obtain⟨a,e,⟨xs,hq⟩,q⟩:=q1
 subst e
 cases r1
 obtain⟨its,rv,p,hz⟩:=I1.list hq
 refine wpAny_pyIter_list p.isList ?_
 refine⟨s1.heap.objs.size,[s1.heap.objs.size],_,_,H1,rfl,I1.kept (t':=s1.toks) fun b o e=>Heap.get?_push_of_some _ e,qFe a _,⟨_,Heap.get?_push_size _ rfl,rfl,rfl⟩,fun b hb=>?_,q⟩
 have e:b=s1.heap.objs.size:=by simpa using hb
 subst e
 exact I1.fpOk (Nat.le_refl _) (I1.hok.fresh (Nat.le_refl _))
theorem qEa {l:Expr}{tl:TE}(hl:PE X l tl):PI X tg l (qMo X.K tl):=by
 intro pins s σ H R I h
 refine thn (hl pins s σ H _ I h) fun v s1 ⟨x,H1,I1,r1,q1⟩=>?_
 obtain⟨a,e,⟨xs,hq⟩,q⟩:=q1
 subst e
 cases r1
 obtain⟨its,rv,p,hz⟩:=I1.tuple hq
 refine wpAny_pyIter_tuple (show s1.heap.IsTuple a its.toArray from p) ?_
 refine⟨s1.heap.objs.size,[s1.heap.objs.size],_,_,H1,rfl,I1.kept (t':=s1.toks) fun b o e=>Heap.get?_push_of_some _ e,qDv a _,⟨_,Heap.get?_push_size _ rfl,rfl,rfl⟩,fun b hb=>?_,q⟩
 have e:b=s1.heap.objs.size:=by simpa using hb
 subst e
 exact I1.fpOk (Nat.le_refl _) (I1.hok.fresh (Nat.le_refl _))
theorem qCy {pins:List (Addr × Obj)}{σ:St}{H:Hp}{s:Shared}{R:It→Hp→Prop}{E:Value→Shared→Prop}{lo hi:Int}{t u v:Tok}{tk:Nat}(I:Inv X pins σ H s)(h1:-(2 ^ 62)≤lo)(h2:lo < 2 ^ 62)(h3:-(2 ^ 62)≤hi)(h4:hi < 2 ^ 62)
 (q:R (Itr lo (hi - lo).toNat) H):wpAny (model X.prog X.w) X.A (pyIter (.ref s.heap.objs.size)) (PIE X pins σ tg R) E {s with heap:=s.heap.push {cls:=.type "range",data:=.fields #[.int lo t,.int hi u,.int 1 v]},toks:=tk}:=by
 refine wpAny_pyIter_range (IsRange.new ..) (small_one h1 h2 h3 h4) ?_
 have I1:Inv X pins σ H {s with heap:=s.heap.push {cls:=.type "range",data:=.fields #[.int lo t,.int hi u,.int 1 v]},toks:=tk}:=I.kept fun b o e=>Heap.get?_push_of_some _ e
 refine⟨(s.heap.push {cls:=.type "range",data:=.fields #[.int lo t,.int hi u,.int 1 v]}).objs.size,[(s.heap.push {cls:=.type "range",data:=.fields #[.int lo t,.int hi u,.int 1 v]}).objs.size],_,_,H,rfl,
  I1.kept (t':=tk) fun b o e=>Heap.get?_push_of_some _ e,qD1 _ lo (hi - lo).toNat,?_,fun b hb=>?_,q⟩
 · have e1:lo+((0:Nat):Int)*1=lo:=by simp
   have e2:(((hi - lo).toNat:Nat):Int) - ((0:Nat):Int)=Builtin.Range.rangeSize lo hi 1:=by rw [rangeSize_one];split <;> omega
   show IsRangeIter _ _ (lo+((0:Nat):Int)*1) ((((hi - lo).toNat:Nat):Int) - ((0:Nat):Int)) 1
   rw [e1,e2]
   exact Heap.get?_push_size _ rfl
 · have e:b=(s.heap.push {cls:=.type "range",data:=.fields #[.int lo t,.int hi u,.int 1 v]}).objs.size:=by simpa using hb
   subst e
   exact I1.fpOk (Nat.le_refl _) (I1.hok.fresh (Nat.le_refl _))
def qL0 (ta:TA):TI:=fun σ H R=>ta σ H fun vs H1=>∃ j:Int,vs=[.int j]∧-(2 ^ 62)≤j∧j < 2 ^ 62∧R (Itr 0 j.toNat) H1
def qK0 (ta:TA):TI:=fun σ H R=>ta σ H fun vs H1=>∃ i j:Int,vs=[.int i,.int j]∧(-(2 ^ 62)≤i∧i < 2 ^ 62∧-(2 ^ 62)≤j∧j < 2 ^ 62)∧R (Itr i (j - i).toNat) H1
theorem vi {a:Expr}{ta:TA}{p pos:Pos}(hg:Gl X "range")(hm:X.mg "range"=none)(ha:PA X [a] ta)(hs:starEach [a] X.env=[(false,eval a X.env)]:=by rfl):PI X tg (.Call (.Name "range" p) [a] [] pos) (qL0 ta):=by
 intro pins s σ H R I h
 refine Call_ (vV I hg hm boot_range (PyProof.Rows.callWith_type1 (thn (ha pos pins s σ H _ I h) fun us s1 ⟨vs,H1,I1,r1,q1⟩=>?_) hs rfl))
 obtain⟨j,e,q1,q2,q⟩:=q1
 subst e
 cases r1 with
 | cons r rr=>
  cases rr
  obtain⟨t,rfl⟩:=r
  exact call_range_1 (qCy I1 (by omega) (by omega) q1 q2 (by simpa using q))
theorem qEl {a b:Expr}{ta:TA}{p pos:Pos}(hg:Gl X "range")(hm:X.mg "range"=none)(ha:PA X [a,b] ta)(hs:starEach [a,b] X.env=[(false,eval a X.env),(false,eval b X.env)]:=by rfl)(hs2:starEach [b] X.env=[(false,eval b X.env)]:=by rfl):
 PI X tg (.Call (.Name "range" p) [a,b] [] pos) (qK0 ta):=by
 intro pins s σ H R I h
 refine Call_ (vV I hg hm boot_range (PyProof.Rows.callWith_type1 (thn (ha pos pins s σ H _ I h) fun us s1 ⟨vs,H1,I1,r1,q1⟩=>?_) (by rw [hs,hs2]) (by rw [hs2];rfl)))
 obtain⟨i,j,e,⟨q1,q2,q3,q4⟩,q⟩:=q1
 subst e
 cases r1 with
 | cons r rr=>
  cases rr with
  | cons r' rr=>
   cases rr
   obtain⟨t,rfl⟩:=r
   obtain⟨t',rfl⟩:=r'
   exact call_range_2 (qCy I1 q1 q2 q3 q4 q)
def qMh (wi:TI)(g:TG)(tb:TS):TS:=fun D σ H=>wi σ H fun J H1=>∃ W:Nat→Nat→St→Hp→Prop,(∃ m,W 0 m σ H1)∧∀ i m σ H,W i m σ H→
 (J.stop i H∧D.nx σ H)∨(J.go i H∧∃ N:St→Hp→Prop,(∀ σ' H',N σ' H'→∃ m',m' < m∧W (i+1) m' σ' H')∧∀ x H',J.yld i H x H'→g x σ H' fun σ2 H2=>tb {D with nx:=N,ct:=N,bk:=D.nx} σ2 H2)
def wV (fp:List Addr)(h:Heap):List (Addr × Obj):=fp.filterMap fun b=>(h.get? b).map fun o=>(b,o)
theorem zM {fp:List Addr}{h:Heap}{b:Addr}{o:Obj}(hb:b∈fp)(e:h.get? b=some o):(b,o)∈wV fp h:=List.mem_filterMap.mpr ⟨b,hb,by rw [e];rfl⟩
theorem qFw {fp:List Addr}{h:Heap}{p:Addr × Obj}(hp:p∈wV fp h):p.1∈fp∧h.get? p.1=some p.2:=by
 obtain⟨b,hb,e⟩:=List.mem_filterMap.mp hp
 cases q:h.get? b with
 | none=>rw [q] at e;cases e
 | some o=>
  rw [q] at e
  have e':(b,o)=p:=Option.some.inj e
  subst e'
  exact⟨hb,q⟩
theorem Inv.pinned {pins:List (Addr × Obj)}{σ:St}{H:Hp}{s:Shared}{fp:List Addr}(I:Inv X pins σ H s)(hf:∀ b∈fp,qF2 X pins H b)(ho:∀ b∈fp,∃ o,s.heap.get? b=some o∧∀ v,o.data≠ .cell v):Inv X (pins++wV fp s.heap) σ H s:=
 I.pins_of fun p hp=>(List.mem_append.mp hp).elim (fun z=>I.pin p (List.mem_append_right _ z)) fun z=>by
  obtain⟨hb,e⟩:=qFw z
  obtain⟨f0,f1,f2,_⟩:=hf p.1 hb
  obtain⟨o,e',d⟩:=ho p.1 hb
  rw [e] at e';cases e'
  exact⟨e,f0,f1,f2,d⟩
theorem Inv.unpinned {pins pl:List (Addr × Obj)}{σ:St}{H:Hp}{s:Shared}(I:Inv X (pins++pl) σ H s):Inv X pins σ H s:=I.pins_of fun p hp=>I.pin p (List.mem_append_right _ (List.mem_append_left _ hp))
theorem vn {iter:Expr}{body:List Stmt}{wi:TI}{g:TG}{tb:TS}{pos:Pos}(hp:PassesOwn (model X.prog X.w) X.A X.env X.xe)(hc:X.calm=true)(hi:PI X tg iter wi)(hg:PG X tg g)(hb:PSs X body tb)
 (hs:∀ x,foldedSetIterable iter X.env x=pure x:=by intro _;rfl):PS X (.For tg iter body [] pos) (qMh wi g tb):=by
 intro pins s σ H D I h
 refine wpAny_For (thn (hi pins s σ H _ I h) fun v s1 h1=>thn h1 fun itv s2 h2=>?_) hs
 obtain⟨it,fp,tn,J,H2,e,I2,T,st2,f2,W,⟨m0,w0⟩,turn⟩:=h2
 subst e
 have stat:∀ {H':Hp},(∀ b∈fp,H' b=none)→∀ b∈fp,qF2 X pins H' b:=fun hn b hb=>⟨hn b hb,(f2 b hb).2⟩
 refine codeAny_forLoop_any (fun n s'=>∃ i σ' H',Inv X pins σ' H' s'∧tn i s'.heap∧(∀ b∈fp,H' b=none)∧W i n σ' H') ?_ m0 ⟨0,σ,H2,I2,st2,fun b hb=>(f2 b hb).1,w0⟩
 rintro n s3 ⟨i,σ3,H3,I3,st3,fr3,w3⟩
 rcases turn i n σ3 H3 w3 with ⟨stop,qn⟩ | ⟨go,N,hN,step⟩
 · refine wpAny_passesOwn hp (thn (T.done X rfl rfl rfl hc i pins s3 σ3 H3 X.xe I3 (stat fr3) st3 stop) fun r s4 ⟨hr,I4⟩=>?_)
   subst hr
   exact wpAny_execs_nil ⟨σ3,H3,I4,qn⟩
 · refine wpAny_passesOwn hp (thn (T.item X rfl rfl rfl hc i pins s3 σ3 H3 X.xe I3 (stat fr3) st3 go) fun r s4 ⟨u,hr,h4⟩=>?_)
   subst hr
   refine wpAny_passesOwn hp (thn h4 fun _ s5 ⟨x,H5,I5,r5,y5,st5,fr5⟩=>?_)
   have I5':=I5.pinned (stat fr5) (T.obj _ _ st5)
   refine wpAny_passesOwn hp (thn (hg _ s5 σ3 H5 x u _ I5' r5 (step x H5 y5)) fun _ s6 ⟨σ6,H6,I6,q6⟩=>?_)
   refine wpAny_passesOwn hp (thn (hb _ s6 σ6 H6 _ I6 q6) fun f s7 q7=>?_)
   have again:∀ {σ7:St} {H7:Hp},Inv X (pins++wV fp s5.heap) σ7 H7 s7→N σ7 H7→∃ m,m < n∧∃ i σ' H',Inv X pins σ' H' s7∧tn i s7.heap∧(∀ b∈fp,H' b=none)∧W i m σ' H':=fun {σ7 H7} I7 n7=>by
    obtain⟨m',hm,w7⟩:=hN σ7 H7 n7
    refine⟨m',hm,i+1,σ7,H7,I7.unpinned,T.keep _ _ _ st5 fun b hb o e=>(I7.pin (b,o) (List.mem_append_right _ (List.mem_append_right _ (zM hb e)))).1,fun b hb=>?_,w7⟩
    obtain⟨o,e,d⟩:=T.obj _ _ st5 b hb
    exact(I7.pin (b,o) (List.mem_append_right _ (List.mem_append_right _ (zM hb e)))).2.1
   cases f with
   | next=>obtain⟨σ7,H7,I7,n7⟩:=q7;exact again I7 n7
   | cont=>obtain⟨σ7,H7,I7,n7⟩:=q7;exact again I7 n7
   | brk=>obtain⟨σ7,H7,I7,q7⟩:=q7;exact⟨σ7,H7,I7.unpinned,q7⟩
   | ret v=>obtain⟨x7,σ7,H7,I7,r7,q7⟩:=q7;exact⟨x7,σ7,H7,I7.unpinned,r7,q7⟩
end
theorem qAv {K:PySem.W.Frag}{a:Addr}{xs:List V}{g:TG}{tb:TS}{D:qEe}{σ:St}{H:Hp}(Pv:Nat→St→Hp→Prop)(h0:Pv 0 σ H)(hl:∀ i σ H,i≤xs.length→Pv i σ H→SqL K H a xs)
 (hs:∀ i x σ H,xs[i]? =some x→Pv i σ H→g x σ H fun σ2 H2=>tb {D with nx:=Pv (i+1),ct:=Pv (i+1),bk:=D.nx} σ2 H2) (hd:∀ σ H,Pv xs.length σ H→D.nx σ H):
 ∃ W:Nat→Nat→St→Hp→Prop,(∃ m,W 0 m σ H)∧∀ i m σ H,W i m σ H→
  ((Itl K a).stop i H∧D.nx σ H)∨((Itl K a).go i H∧∃ N:St→Hp→Prop,(∀ σ' H',N σ' H'→∃ m',m' < m∧W (i+1) m' σ' H')∧∀ x H',(Itl K a).yld i H x H'→g x σ H' fun σ2 H2=>tb {D with nx:=N,ct:=N,bk:=D.nx} σ2 H2):=by
 refine⟨fun i m σ H=>m=xs.length - i∧i≤xs.length∧Pv i σ H,⟨xs.length,by simp,Nat.zero_le _,h0⟩,?_⟩
 rintro i m σ H ⟨rfl,hi,p⟩
 have q:=hl i σ H hi p
 by_cases hlt:i < xs.length
 · refine .inr ⟨⟨xs,xs[i],q,by simp [hlt]⟩,Pv (i+1),fun σ' H' p'=>⟨xs.length - (i+1),by omega,rfl,hlt,p'⟩,fun x H' y=>?_⟩
   obtain⟨e,y⟩:=y
   subst e
   exact hs i x σ _ (y xs q) p
 · have e:i=xs.length:=by omega
   subst e
   exact .inl ⟨⟨xs,q,Nat.le_refl _⟩,hd σ H p⟩
theorem kF {lo:Int}{n:Nat}{g:TG}{tb:TS}{D:qEe}{σ:St}{H:Hp}(Pv:Nat→St→Hp→Prop)(h0:Pv 0 σ H)
 (hs:∀ i σ H,i < n→Pv i σ H→g (.int (lo+i)) σ H fun σ2 H2=>tb {D with nx:=Pv (i+1),ct:=Pv (i+1),bk:=D.nx} σ2 H2) (hd:∀ σ H,Pv n σ H→D.nx σ H):
 ∃ W:Nat→Nat→St→Hp→Prop,(∃ m,W 0 m σ H)∧∀ i m σ H,W i m σ H→
  ((Itr lo n).stop i H∧D.nx σ H)∨((Itr lo n).go i H∧∃ N:St→Hp→Prop,(∀ σ' H',N σ' H'→∃ m',m' < m∧W (i+1) m' σ' H')∧∀ x H',(Itr lo n).yld i H x H'→g x σ H' fun σ2 H2=>tb {D with nx:=N,ct:=N,bk:=D.nx} σ2 H2):=by
 refine⟨fun i m σ H=>m=n - i∧i≤n∧Pv i σ H,⟨n,by simp,Nat.zero_le _,h0⟩,?_⟩
 rintro i m σ H ⟨rfl,hi,p⟩
 by_cases hlt:i < n
 · refine .inr ⟨hlt,Pv (i+1),fun σ' H' p'=>⟨n - (i+1),by omega,rfl,hlt,p'⟩,fun x H' y=>?_⟩
   obtain⟨e,y⟩:=y
   subst e y
   exact hs i σ _ hlt p
 · have e:i=n:=by omega
   subst e
   exact .inl ⟨Nat.le_refl _,hd σ H p⟩
theorem qCs {c:TT}{tb:TS}{D:qEe}{σ:St}{H:Hp}(Pv:St→Hp→Prop)(μ:St→Hp→Nat)(h0:Pv σ H)
 (hs:∀ σ H,Pv σ H→c σ H fun b H1=>if b=true then tb {D with nx:=fun σ' H'=>Pv σ' H'∧μ σ' H' < μ σ H,ct:=fun σ' H'=>Pv σ' H'∧μ σ' H' < μ σ H,bk:=D.nx} σ H1 else D.nx σ H1)
 (mono:∀ σ H Q Q',(∀ b H1,Q b H1→Q' b H1)→c σ H Q→c σ H Q'):qG3 c tb D σ H:=by
 refine⟨fun m σ H=>m=μ σ H∧Pv σ H,⟨_,rfl,h0⟩,?_⟩
 rintro m σ H ⟨rfl,p⟩
 refine mono σ H _ _ (fun b H1 q=>?_) (hs σ H p)
 cases b with
 | true=>exact⟨_,fun σ' H' ⟨p',l⟩=>⟨_,l,rfl,p'⟩,q⟩
 | false=>exact q
end L2
namespace L2
open PySem PySem.Spec PyProof.Rows
abbrev R2:=V→V→Hp→VK→Prop
def OpR (X:Cx)(f:Value→Value→Sem Value)(r:R2):Prop:=
 ∀ (pins:List (Addr × Obj)) (s:Shared) (σ:St) (H:Hp) (x y:V) (v u:Value) (Q:VK),Inv X pins σ H s→RelV x v→RelV y u→r x y H Q→
  wpAny (model X.prog X.w) X.A (f v u) (EP X pins σ Q) X.xe s
def UnR (X:Cx)(f:Value→Sem Value)(r:V→Hp→VK→Prop):Prop:=
 ∀ (pins:List (Addr × Obj)) (s:Shared) (σ:St) (H:Hp) (x:V) (v:Value) (Q:VK),Inv X pins σ H s→RelV x v→r x H Q→
  wpAny (model X.prog X.w) X.A (f v) (EP X pins σ Q) X.xe s
def zX (X:Cx)(f:Value)(r:List V→Hp→VK→Prop):Prop:=
 ∀ (pins:List (Addr × Obj)) (s:Shared) (σ:St) (H:Hp) (xs:List V) (us:List Value) (Q:VK),Inv X pins σ H s→Vals xs us→r xs H Q→
  wpAny (model X.prog X.w) X.A (call f us) (EP X pins σ Q) X.xe s
def tOp (r:R2)(ta tb:TE):TE:=fun σ H Q=>ta σ H fun x H1=>tb σ H1 fun y H2=>r x y H2 Q
def tUn (r:V→Hp→VK→Prop)(ta:TE):TE:=fun σ H Q=>ta σ H fun x H1=>r x H1 Q
inductive rI (C:Int→Int→Prop)(g:Int→Int→V)(x:V)(y:V)(H:Hp)(Q:VK):Prop
| mk i j (_:x= .int i) (_:y= .int j) (_:C i j) (_:Q (g i j) H)
inductive rI0 (g:Int→Int→V)(x:V)(y:V)(H:Hp)(Q:VK):Prop
| mk i j (_:x= .int i) (_:y= .int j) (_:Q (g i j) H)
inductive rU (g:Int→V)(x:V)(H:Hp)(Q:VK):Prop
| mk i (_:x= .int i) (_:Q (g i) H)
section
variable {X : Cx} {a b c : Expr} {ta tb tc : TE} {pos : Pos}
theorem qK1 (ha:PE X a ta)(hb:PE X b tb){pins:List (Addr × Obj)}{s:Shared}{σ:St}{H:Hp}{R:V→V→Hp→Prop}(I:Inv X pins σ H s)
 (h:ta σ H fun x H1=>tb σ H1 fun y H2=>R x y H2) {Q:Value→Shared→Prop} {f:Value→Value→Sem Value}
 (hf:∀ v u s2 x y H2,Inv X pins σ H2 s2→RelV x v→RelV y u→R x y H2→wpAny (model X.prog X.w) X.A (f v u) Q X.xe s2):
 wpAny (model X.prog X.w) X.A (eval a X.env) (fun v s₁=>wpAny (model X.prog X.w) X.A (eval b X.env) (fun u s₂=>wpAny (model X.prog X.w) X.A (f v u) Q X.xe s₂) X.xe s₁) X.xe s:=by
 refine thn (ha pins s σ H _ I h) fun v s1 ⟨x,H1,I1,r1,q1⟩=>?_
 refine thn (hb pins s1 σ H1 _ I1 q1) fun u s2 ⟨y,H2,I2,r2,q2⟩=>?_
 exact hf v u s2 x y H2 I2 r1 r2 q2
theorem qP {op:Operator}{r:R2}(ho:OpR X (binaryOp op) r)(ha:PE X a ta)(hb:PE X b tb):PE X (.BinOp a op b pos) (tOp r ta tb):=by
 intro pins s σ H Q I h
 exact wpAny_BinOp (qK1 ha hb I h fun v u s2 x y H2 I2 rx ry q=>ho pins s2 σ H2 x y v u Q I2 rx ry q)
theorem qDq {op:UnaryOp}{r:V→Hp→VK→Prop}(ho:UnR X (unaryOp op) r)(ha:PE X a ta):PE X (.UnaryOp op a pos) (tUn r ta):=by
 intro pins s σ H Q I h
 exact UnaryOp_ (thn (ha pins s σ H _ I h) fun v s1 ⟨x,H1,I1,r1,q1⟩=>ho pins s1 σ H1 x v Q I1 r1 q1)
theorem opI {f:Value→Value→Sem Value}{C:Int→Int→Prop}{g:Int→Int→Int}
 (rule:∀ (i j:Int) (t u:Tok) (s:Shared) (Q:Value→Shared→Prop) (E:Value→Shared→Prop),C i j→Q (.int (g i j) s.toks) {s with toks:=s.toks+1}→wpAny (model X.prog X.w) X.A (f (.int i t) (.int j u)) Q E s):
 OpR X f (rI C fun i j=>.int (g i j)):=by
 intro pins s σ H x y v u Q I rx ry h
 obtain⟨i,j,rfl,rfl,hc,q⟩:=h
 obtain⟨t,rfl⟩:=rx
 obtain⟨t',rfl⟩:=ry
 exact rule i j t t' s _ _ hc ⟨.int (g i j),H,I.tok _,⟨_,rfl⟩,q⟩
theorem qL4 {f:Value→Value→Sem Value}{g:Int→Int→Int}
 (rule:∀ (i j:Int) (t u:Tok) (s:Shared) (Q:Value→Shared→Prop) (E:Value→Shared→Prop),Q (.int (g i j) s.toks) {s with toks:=s.toks+1}→wpAny (model X.prog X.w) X.A (f (.int i t) (.int j u)) Q E s):
 OpR X f (rI0 fun i j=>.int (g i j)):=by
 intro pins s σ H x y v u Q I rx ry h
 obtain⟨i,j,rfl,rfl,q⟩:=h
 obtain⟨t,rfl⟩:=rx
 obtain⟨t',rfl⟩:=ry
 exact rule i j t t' s _ _ ⟨.int (g i j),H,I.tok _,⟨_,rfl⟩,q⟩
theorem qKn {f:Value→Value→Sem Value}{g:Int→Int→Bool}
 (rule:∀ (i j:Int) (t u:Tok) (s:Shared) (Q:Value→Shared→Prop) (E:Value→Shared→Prop),Q (.bool (g i j)) s→wpAny (model X.prog X.w) X.A (f (.int i t) (.int j u)) Q E s):
 OpR X f (rI0 fun i j=>.bl (g i j)):=by
 intro pins s σ H x y v u Q I rx ry h
 obtain⟨i,j,rfl,rfl,q⟩:=h
 obtain⟨t,rfl⟩:=rx
 obtain⟨t',rfl⟩:=ry
 exact rule i j t t' s _ _ ⟨.bl (g i j),H,I,rfl,q⟩
def qL1 (i j:Int):Prop:=0≤j∧j≤1000000∧i.natAbs < 2 ^ 64
def CMul (i j:Int):Prop:=(-(2 ^ 64) < i∧i < 2 ^ 64)∨(-(2 ^ 64) < j∧j < 2 ^ 64)
theorem CMul.ok {i j:Int}(h:CMul i j):IntMulOk i j:=by
 rcases h with ⟨h1,h2⟩ | ⟨h1,h2⟩
 · exact .of_left (intBits_le_64 h1 h2)
 · exact .of_right (intBits_le_64 h1 h2)
theorem jJ:OpR X (binaryOp .Add) (rI0 fun i j=>.int (i+j)):=qL4 fun _ _ _ _ _ _ _ q=>add_int q
theorem qFq:OpR X (binaryOp .Sub) (rI0 fun i j=>.int (i - j)):=qL4 fun _ _ _ _ _ _ _ q=>sub_int q
theorem qc:OpR X (binaryOp .Mod) (rI (fun _ j=>j≠0) fun i j=>.int (i.fmod j)):=opI fun _ _ _ _ _ _ _ hc q=>mod_int' hc q
theorem qJx:OpR X (binaryOp .Pow) (rI qL1 fun i j=>.int (i ^ j.toNat)):=opI fun _ _ _ _ _ _ _ hc q=>pow_int_small hc.1 hc.2.1 hc.2.2 q
theorem unI {f:Value→Sem Value}{g:Int→Int}
 (rule:∀ (i:Int) (t:Tok) (s:Shared) (Q:Value→Shared→Prop) (E:Value→Shared→Prop),Q (.int (g i) s.toks) {s with toks:=s.toks+1}→wpAny (model X.prog X.w) X.A (f (.int i t)) Q E s):
 UnR X f (rU fun i=>.int (g i)):=by
 intro pins s σ H x v Q I rx h
 obtain⟨i,rfl,q⟩:=h
 obtain⟨t,rfl⟩:=rx
 exact rule i t s _ _ ⟨.int (g i),H,I.tok _,⟨_,rfl⟩,q⟩
theorem wJ:UnR X (unaryOp .USub) (rU fun i=>.int (-i)):=unI fun _ _ _ _ _ q=>neg_int q
end
def qL9:V→V→Bool
 | .non,.non=>true | .non,.int _=>true | .int _,.non=>true | .non,.bl _=>true | .bl _,.non=>true | .non,.str _=>true | .str _,.non=>true
 | .int _,.int _=>true | .bl _,.bl _=>true | .str _,.str _=>true | .byt _,.byt _=>true
 | .int _,.str _=>true | .str _,.int _=>true | .bl _,.str _=>true | .str _,.bl _=>true
 | _,_=>false
inductive rEq (x:V)(y:V)(H:Hp)(Q:VK):Prop
| mk (_:qL9 x y=true) (_:Q (.bl (decide (x=y))) H)
inductive rNe (x:V)(y:V)(H:Hp)(Q:VK):Prop
| mk (_:qL9 x y=true) (_:Q (.bl (!decide (x=y))) H)
theorem qE4 {i j:Int}:decide (V.int i=V.int j)=(i == j):=by
 rw [Bool.eq_iff_iff]
 simp
theorem qG2 {i j:Bool}:decide (V.bl i=V.bl j)=(i == j):=by
 rw [Bool.eq_iff_iff]
 simp
theorem qFf {i j:Str}:decide (V.str i=V.str j)=(i == j):=by
 rw [Bool.eq_iff_iff]
 simp
theorem qFi {i j:Array UInt8}:decide (V.byt i=V.byt j)=(i.toList == j.toList):=by
 rw [Bool.eq_iff_iff]
 cases i
 cases j
 simp
section
variable {X : Cx} {a b c : Expr} {ta tb tc : TE} {pos : Pos}
theorem qo {pins:List (Addr × Obj)}{σ:St}{H:Hp}{s:Shared}{Q:VK}{k k':Bool}(I:Inv X pins σ H s)(q:Q (.bl k) H)(e:k=k'):EP X pins σ Q (.bool k') s:=by
 subst e
 exact⟨.bl k,H,I,rfl,q⟩
theorem jC:OpR X (compareOp .Eq) rEq:=by
 intro pins s σ H x y v u Q I rx ry h
 obtain⟨hs,q⟩:=h
 cases x with
 | non=>
  cases rx
  cases y with
  | non=>cases ry;exact PySem.EqNone.eq_none_none (qo I q (by simp))
  | bl j=>cases ry;exact PySem.EqNone.eq_none_bool (qo I q (by simp))
  | int j=>obtain⟨t',rfl⟩:=ry;exact PySem.EqNone.eq_none_int (qo I q (by simp))
  | str j=>obtain⟨t',rfl⟩:=ry;exact PySem.EqNone.eq_none_str (qo I q (by simp))
  | _=>exact absurd (show false=true from hs) Bool.false_ne_true
 | bl i=>
  cases rx
  cases y with
  | non=>cases ry;exact PySem.EqNone.eq_bool_none (qo I q (by simp))
  | bl j=>cases ry;exact eq_bool (qo I q qG2)
  | str j=>obtain⟨t',rfl⟩:=ry;exact PySem.EqMixed.eq_bool_str (qo I q (by simp))
  | _=>exact absurd (show false=true from hs) Bool.false_ne_true
 | int i=>
  obtain⟨t,rfl⟩:=rx
  cases y with
  | non=>cases ry;exact PySem.EqNone.eq_int_none (qo I q (by simp))
  | int j=>obtain⟨t',rfl⟩:=ry;exact eq_int (qo I q qE4)
  | str j=>obtain⟨t',rfl⟩:=ry;exact PySem.EqMixed.eq_int_str (qo I q (by simp))
  | _=>exact absurd (show false=true from hs) Bool.false_ne_true
 | str i=>
  obtain⟨t,rfl⟩:=rx
  cases y with
  | non=>cases ry;exact PySem.EqNone.eq_str_none (qo I q (by simp))
  | bl j=>cases ry;exact PySem.EqMixed.eq_str_bool (qo I q (by simp))
  | int j=>obtain⟨t',rfl⟩:=ry;exact PySem.EqMixed.eq_str_int (qo I q (by simp))
  | str j=>obtain⟨t',rfl⟩:=ry;exact eq_str (qo I q qFf)
  | _=>exact absurd (show false=true from hs) Bool.false_ne_true
 | byt i=>
  obtain⟨t,rfl⟩:=rx
  cases y with
  | byt j=>obtain⟨t',rfl⟩:=ry;exact PySem.W.eq_bytes (qo I q qFi)
  | _=>exact absurd (show false=true from hs) Bool.false_ne_true
 | _=>cases y <;> exact absurd (show false=true from hs) Bool.false_ne_true
theorem kD:OpR X (compareOp .NotEq) rNe:=by
 intro pins s σ H x y v u Q I rx ry h
 obtain⟨hs,q⟩:=h
 cases x with
 | non=>
  cases rx
  cases y with
  | non=>cases ry;exact PySem.EqNone.ne_none_none (qo I q (by simp))
  | bl j=>cases ry;exact PySem.EqNone.ne_none_bool (qo I q (by simp))
  | int j=>obtain⟨t',rfl⟩:=ry;exact PySem.EqNone.ne_none_int (qo I q (by simp))
  | str j=>obtain⟨t',rfl⟩:=ry;exact PySem.EqNone.ne_none_str (qo I q (by simp))
  | _=>exact absurd (show false=true from hs) Bool.false_ne_true
 | bl i=>
  cases rx
  cases y with
  | non=>cases ry;exact PySem.EqNone.ne_bool_none (qo I q (by simp))
  | bl j=>cases ry;exact ne_bool (qo I q (congrArg not qG2))
  | str j=>obtain⟨t',rfl⟩:=ry;exact PySem.EqMixed.ne_bool_str (qo I q (by simp))
  | _=>exact absurd (show false=true from hs) Bool.false_ne_true
 | int i=>
  obtain⟨t,rfl⟩:=rx
  cases y with
  | non=>cases ry;exact PySem.EqNone.ne_int_none (qo I q (by simp))
  | int j=>obtain⟨t',rfl⟩:=ry;exact ne_int (qo I q (congrArg not qE4))
  | str j=>obtain⟨t',rfl⟩:=ry;exact PySem.EqMixed.ne_int_str (qo I q (by simp))
  | _=>exact absurd (show false=true from hs) Bool.false_ne_true
 | str i=>
  obtain⟨t,rfl⟩:=rx
  cases y with
  | non=>cases ry;exact PySem.EqNone.ne_str_none (qo I q (by simp))
  | bl j=>cases ry;exact PySem.EqMixed.ne_str_bool (qo I q (by simp))
  | int j=>obtain⟨t',rfl⟩:=ry;exact PySem.EqMixed.ne_str_int (qo I q (by simp))
  | str j=>obtain⟨t',rfl⟩:=ry;exact ne_str (qo I q (congrArg not qFf))
  | _=>exact absurd (show false=true from hs) Bool.false_ne_true
 | byt i=>
  obtain⟨t,rfl⟩:=rx
  cases y with
  | byt j=>obtain⟨t',rfl⟩:=ry;exact PySem.W.ne_bytes (qo I q (congrArg not qFi))
  | _=>exact absurd (show false=true from hs) Bool.false_ne_true
 | _=>cases y <;> exact absurd (show false=true from hs) Bool.false_ne_true
theorem qB1:OpR X (compareOp .Lt) (rI0 fun i j=>.bl (decide (i < j))):=qKn fun _ _ _ _ _ _ _ q=>lt_int q
theorem qJn:OpR X (compareOp .LtE) (rI0 fun i j=>.bl (decide (i≤j))):=qKn fun _ _ _ _ _ _ _ q=>le_int q
theorem qEk:OpR X (compareOp .Gt) (rI0 fun i j=>.bl (decide (j < i))):=qKn fun _ _ _ _ _ _ _ q=>gt_int q
theorem qJr:OpR X (compareOp .GtE) (rI0 fun i j=>.bl (decide (j≤i))):=qKn fun _ _ _ _ _ _ _ q=>ge_int q
theorem OpR.or {f:Value→Value→Sem Value}{r r':R2}(h:OpR X f r)(h':OpR X f r'):OpR X f (fun x y H Q=>r x y H Q∨r' x y H Q):=by
 intro pins s σ H x y v u Q I rx ry q
 rcases q with q | q
 · exact h pins s σ H x y v u Q I rx ry q
 · exact h' pins s σ H x y v u Q I rx ry q
theorem qM (b:Expr){op:CmpOp}(h:op≠ .In:=by decide)(h2:op≠ .NotIn:=by decide):behindInMarks op b=false:=by
 have e1:(op == CmpOp.In)=false:=by cases op <;> first | rfl | exact absurd rfl h
 have e2:(op == CmpOp.NotIn)=false:=by cases op <;> first | rfl | exact absurd rfl h2
 cases b <;> simp [behindInMarks,e1,e2]
theorem xR {op:CmpOp}{r:R2}(ho:OpR X (compareOp op) r)(ha:PE X a ta)(hb:PE X b tb)(hm:behindInMarks op b=false):PE X (.Compare a [op] [b] pos) (tOp r ta tb):=by
 intro pins s σ H Q I h
 exact wpAny_Compare1 (qK1 ha hb I h fun v u s2 x y H2 I2 rx ry q=>ho pins s2 σ H2 x y v u Q I2 rx ry q) hm
inductive qI7 (Q:Bool→Hp→Prop)(x:V)(H':Hp):Prop
| mk k (_:x= .bl k) (_:Q k H')
def qK3 (t:TE):TT:=fun σ H Q=>t σ H fun x H'=>qI7 Q x H'
theorem qH {op:CmpOp}{r:R2}(ho:OpR X (compareOp op) r)(ha:PE X a ta)(hb:PE X b tb)(hm:behindInMarks op b=false):PT X (.Compare a [op] [b] pos) (qK3 (tOp r ta tb)):=by
 intro pins s σ H Q I h
 refine wpAny_isTrue_Compare1 (thn (ha pins s σ H _ I h) fun v s1 ⟨x,H1,I1,r1,q1⟩=>thn (hb pins s1 σ H1 _ I1 q1) fun u s2 ⟨y,H2,I2,r2,q2⟩=>
  thn (ho pins s2 σ H2 x y v u _ I2 r1 r2 q2) fun c s3 ⟨z,H3,I3,r3,k,e,q3⟩=>?_) hm
 subst e
 cases r3
 exact wpAny_truthy_bool ⟨H3,I3,q3⟩
def qJ9 (r r':R2)(ta tb tc:TE):TE:=fun σ H Q=>ta σ H fun x H1=>tb σ H1 fun y H2=>r x y H2 fun z H3=>∃ k,z= .bl k∧
 (if k=true then tc σ H3 fun w' H4=>r' y w' H4 Q else Q (.bl false) H3)
theorem qF7 {op op':CmpOp}{r r':R2}(ho:OpR X (compareOp op) r)(ho':OpR X (compareOp op') r')(ha:PE X a ta)(hb:PE X b tb)(hc:PE X c tc)
 (hm:lastMarks [op,op'] [b,c]=false:=by with_unfolding_all rfl):PE X (.Compare a [op,op'] [b,c] pos) (qJ9 r r' ta tb tc):=by
 intro pins s σ H Q I h
 refine Compare_chain (thn (ha pins s σ H _ I h) fun v s1 ⟨x,H1,I1,r1,q1⟩=>chain_link (thn (hb pins s1 σ H1 _ I1 q1) fun u s2 ⟨y,H2,I2,r2,q2⟩=>
  thn (ho pins s2 σ H2 x y v u _ I2 r1 r2 q2) fun d s3 ⟨z,H3,I3,r3,k,e,q3⟩=>?_)) hm
 subst e
 cases r3
 refine wpAny_truthy_bool ?_
 cases k with
 | false=>exact ite_ff ⟨.bl false,H3,I3,rfl,q3⟩
 | true=>exact ite_tt (chain_last (thn (hc pins s3 σ H3 _ I3 q3) fun w' s4 ⟨z',H4,I4,r4,q4⟩=>ho' pins s4 σ H4 y z' u w' Q I4 r2 r4 q4))
theorem wT:(sizeLine:Nat) < 2 ^ 63:=by rw [sizeLine_eq];decide
theorem jX:OpR X (binaryOp .Add) (fun x y H Q=>∃ i j,x= .str i∧y= .str j∧i.length+j.length≤sizeLine∧Q (.str (i++j)) H):=by
 intro pins s σ H x y v u Q I rx ry h
 obtain⟨i,j,rfl,rfl,hz,q⟩:=h
 obtain⟨t,rfl⟩:=rx
 obtain⟨t',rfl⟩:=ry
 exact add_str (fun t' tk=>⟨.str (i++j),H,I.tok _,⟨_,rfl⟩,q⟩) hz
theorem vU {x:V}{us:List Value}(r:Vals [x] us):∃ u,us=[u]∧RelV x u:=by
 cases r with
 | cons r1 r2=>cases r2;exact⟨_,rfl,r1⟩
theorem qI0 {x y:V}{us:List Value}(r:Vals [x,y] us):∃ u w',us=[u,w']∧RelV x u∧RelV y w':=by
 cases r with
 | cons r1 r2=>
  cases r2 with
  | cons r3 r4=>cases r4;exact⟨_,_,rfl,r1,r3⟩
theorem qC8:zX X (.builtin "abs") (fun xs H Q=>∃ i,xs=[.int i]∧Q (.int (if i < 0 then -i else i)) H):=by
 intro pins s σ H xs us Q I r h
 obtain⟨i,rfl,q⟩:=h
 obtain⟨u,rfl,t,rfl⟩:=vU r
 exact call_abs_int fun u tk=>⟨.int (if i < 0 then -i else i),H,I.tok _,⟨_,rfl⟩,q⟩
theorem jg:zX X (.type "str") (fun xs H Q=>∃ i,xs=[.int i]∧i.natAbs.log2 < 1920∧Q (.str (toString i)) H):=by
 intro pins s σ H xs us Q I r h
 obtain⟨i,rfl,hz,q⟩:=h
 obtain⟨u,rfl,t,rfl⟩:=vU r
 exact PySem.P.str_of_int hz ⟨.str _,H,I.tok _,⟨_,rfl⟩,q⟩
end
end L2
namespace L2
open PySem PySem.Spec PyProof.Rows
structure ObjM (h:Heap)(x dx C:Addr)(mA:Str→Option Value):Prop where
 obj:h.get? x=some (PySem.W.instObj C dx)
 ns:h.Ns1 dx mA
 ne:dx≠x
theorem qE8 {h:Heap}{dx:Addr}{mA:Str→Option Value}(n:h.Ns1 dx mA):∃ od,h.get? dx=some od∧∀ name,PySem.W.lookIn name od=some (mA name):=by
 obtain⟨o,es,ep,ho,hd,hk,_,hm⟩:=n
 refine⟨o,ho,fun name=>?_⟩
 have e:=hm name
 unfold nsFind findBy at e
 rw [← Array.find?_toList] at e
 unfold PySem.W.lookIn
 rw [hd]
 dsimp only
 split
 · rename_i y q
   rw [q] at e
   exact congrArg some e
 · rename_i q
   rw [q] at e
   have a:es.toList.any (·.refKey)=false:=by
    rw [List.any_eq_false]
    intro y hy
    obtain⟨z,t,hkey⟩:=hk y (Array.mem_toList_iff.mp hy)
    simp [DictEntry.refKey,hkey]
   have a':¬ es.toList.any (·.refKey)=true:=by rw [a];exact Bool.false_ne_true
   rw [if_neg a']
   exact congrArg some e
theorem ObjM.look {h:Heap}{x dx C:Addr}{mA:Str→Option Value}(I:ObjM h x dx C mA):∃ od,PySem.W.InstAt h x (PySem.W.instObj C dx) C (some od)∧∀ name,PySem.W.lookIn name od=some (mA name):=
 let ⟨od,ho,hl⟩:=qE8 I.ns
 ⟨od,⟨I.obj,rfl,rfl,ho⟩,hl⟩
section
variable {prog : Program} {w : World} {A : Around} {E : Value → Shared → Prop} {s : Shared} {K : PySem.W.Frag} {x dx C f : Addr} {mA : Str → Option Value} {name : Str} {v : Value}
end
theorem RelO.some_of {v:V}{o:Option Value}(r:RelO (some v) o):∃ u,o=some u∧RelV v u:=by
 cases o with
 | none=>exact(show False from r).elim
 | some u=>exact⟨u,rfl,r⟩
section
variable {P : Program} {w : World} {H H' : Hp} {h h' : Heap} {a C dx : Addr} {fs fs' : List (Str × V)}
theorem qIa (hok:HOk P w H h)(e:H a=some (.ins C dx fs)):∃ mA,ObjM h a dx C mA∧(∀ f,RelO (fs.lookup f) (mA f))∧PySem.Within mA (fs.map (·.1))∧fs.length≤1000∧H dx=some (.own a):=by
 obtain⟨d,z,ne,ob,mA,n,r,q⟩:=(show ObjOk P w H h a (.ins C dx fs) from hok a _ e)
 exact⟨mA,⟨ob,n,ne⟩,r,q,z,d⟩
end
structure Cls (K:PySem.W.Frag)(C:Addr):Prop where
 pg:PySem.W.plainGet K C Str.empty=true
 hd:PySem.W.hasDictIn K C=true
 po:PySem.W.plainOver K C=true
 sa:PySem.W.findIn K (.ref C) "__setattr__"=some (some (.builtin "object.__setattr__"))
theorem Cls.get {K:PySem.W.Frag}{C:Addr}(c:Cls K C)(f:Str):PySem.W.plainGet K C f=true:=c.pg
section
variable {X : Cx} {pins : List (Addr × Obj)} {σ : St} {H : Hp} {s : Shared} {a C dx : Addr} {fs : List (Str × V)} {f : Str} {v : V} {A : Around} {E : Value → Shared → Prop}
theorem Inv.made (I:Inv X pins σ H s):Inv X pins σ (upd (upd H s.heap.objs.size (.own (s.heap.objs.size+1))) (s.heap.objs.size+1) (.ins C s.heap.objs.size []))
 {s with heap:=(s.heap.push PySem.W.emptyDict).push (PySem.W.instObj C s.heap.objs.size)}:=by
 have e1:(s.heap.push PySem.W.emptyDict).get? s.heap.objs.size=some PySem.W.emptyDict:=Heap.get?_push_size s.heap rfl
 have e2:((s.heap.push PySem.W.emptyDict).push (PySem.W.instObj C s.heap.objs.size)).get? (s.heap.objs.size+1)=some (PySem.W.instObj C s.heap.objs.size):=by
  have:=Heap.get?_push_size (s.heap.push PySem.W.emptyDict) (o:=PySem.W.instObj C s.heap.objs.size) rfl
  rwa [Heap.size_push] at this
 have e3:(s.heap.push PySem.W.emptyDict).Ns s.heap.objs.size (fun _=>none):=⟨PySem.W.emptyDict,#[],_,e1,rfl,(fun e he=>absurd he (by simp)),fun _=>rfl⟩
 have I1:=I.laid (a:=s.heap.objs.size) (o:=.own (s.heap.objs.size+1)) (h':=s.heap.push PySem.W.emptyDict) (t':=s.toks) (fun b u q=>Heap.get?_push_of_some _ q) (Nat.le_refl _) ⟨_,e1⟩
 refine I1.laid (a:=s.heap.objs.size+1) (o:=.ins C s.heap.objs.size []) (t':=s.toks) (fun b u q=>Heap.get?_push_of_some _ q) (Nat.le_of_eq (Heap.size_push _ _)) ?_
 have ne:s.heap.objs.size≠s.heap.objs.size+1:=Nat.ne_of_lt (Nat.lt_succ_self _)
 refine⟨by rw [qY ne,qC],Nat.zero_le _,ne,e2,fun _=>none,(Heap.Ns1.of_empty e3).at fun o q=>Heap.get?_push_of_some _ q,fun _=>True.intro,fun y hy=>absurd rfl hy⟩
end
section
variable {X : Cx} {o e value : Expr} {f : Str} {pos pos' tpos : Pos} {ta tv : TE}
end
section
variable {X : Cx} {pins : List (Addr × Obj)} {σ : St} {H : Hp} {s : Shared} {A : Around} {E : Value → Shared → Prop} {Q : Value → Shared → Prop} {c : Value} {b : Bool}
inductive vq (K:PySem.W.Frag)(H:Hp):V→Value→Prop where
 | non:vq K H .non (.type "NoneType")
 | bl (x:Bool):vq K H (.bl x) (.type "bool")
 | int (i:Int):vq K H (.int i) (.type "int")
 | str (x:Str):vq K H (.str x) (.type "str")
 | flt (x:UInt64):vq K H (.flt x) (.type "float")
 | lst {a:Addr} {xs:List V} (e:H a=some (.lst xs)):vq K H (.ref a) (.type "list")
 | frz {a:Addr} {o:Obj} {xs:List V} (e:H a=some (.frz o (.lst xs))):vq K H (.ref a) (.type "list")
 | tup {a:Addr} {xs:List V} (e:H a=some (.tup xs)):vq K H (.ref a) (.type "tuple")
 | dK {a:Addr} {kvs:List (Key × V)} (e:H a=some (.dK kvs)):vq K H (.ref a) (.type "dict")
 | dT {a:Addr} {kvs:List (List Key × V)} (e:H a=some (.dT kvs)):vq K H (.ref a) (.type "dict")
 | ins {a C dx:Addr} {fs:List (Str × V)} (e:H a=some (.ins C dx fs)) (cl:Cls K C) (ha:PySem.W.findIn K (.ref C) "__class__"=some (some (.builtin "object.__class__")))
  (hn:PySem.W.specialIn K (.builtin "object.__class__") "__get__"=some (some (.builtin "getset_descriptor.__get__"))) (htk:PySem.W.takesIn K (.builtin "object.__class__")=some true)
  (hm:PySem.W.mroIn K C (.type "object")=some true):vq K H (.ref a) (.ref C)
theorem qBr {x:V}{u t:Value}(I:Inv X pins σ H s)(rx:RelV x u)(ty:vq X.K H x t)(e:PySem.W.kitOne X.K t c=some b)(h:∀ tk,Q (.bool b) {s with toks:=tk}):
 wpAny (model X.prog X.w) A (call (.builtin "isinstance") [u,c]) Q E s:=by
 cases ty with
 | non=>cases (show u=Value.none from rx);exact PySem.W.kia_one PySem.W.kitx_none I.kIn True.intro e (fun z=>nomatch z) h
 | bl y=>cases (show u=Value.bool y from rx);exact PySem.W.kia_one PySem.W.kitx_bool I.kIn True.intro e (fun z=>nomatch z) h
 | int i=>obtain⟨t,q⟩:=(show ∃ t,u=Value.int i t from rx);cases q;exact PySem.W.kia_one PySem.W.kitx_int I.kIn True.intro e (fun z=>nomatch z) h
 | str y=>obtain⟨t,q⟩:=(show ∃ t,u=Value.str y t from rx);cases q;exact PySem.W.kia_one PySem.W.kitx_str I.kIn True.intro e (fun z=>nomatch z) h
 | flt y=>obtain⟨t,q⟩:=(show ∃ t,u=Value.float y t from rx);cases q;exact PySem.W.kia_one PySem.W.kitx_float I.kIn True.intro e (fun z=>nomatch z) h
 | @lst a xs ea=>
  cases (show u=Value.ref a from rx)
  obtain⟨_,_,n,_,h1⟩:=(show ObjOk X.prog X.w H s.heap a (.lst xs) from I.hok a _ ea)
  exact PySem.W.kia_one PySem.W.kitx_list I.kIn ⟨_,h1,rfl⟩ e (fun z=>nomatch z) h
 | @frz a ob xs ea=>
  cases (show u=Value.ref a from rx)
  obtain⟨_,_,_,n,_,h1⟩:=(show ObjOk X.prog X.w H s.heap a (.frz ob (.lst xs)) from I.hok a _ ea)
  exact PySem.W.kia_one PySem.W.kitx_list I.kIn ⟨_,h1,rfl⟩ e (fun z=>nomatch z) h
 | @tup a xs ea=>
  cases (show u=Value.ref a from rx)
  obtain⟨_,_,_,p⟩:=(show ObjOk X.prog X.w H s.heap a (.tup xs) from I.hok a _ ea)
  obtain⟨o,h1,h2,_⟩:=p
  exact PySem.W.kia_one PySem.W.kitx_tuple I.kIn ⟨o,h1,h2⟩ e (fun z=>nomatch z) h
 | @dK a kvs ea=>
  cases (show u=Value.ref a from rx)
  obtain⟨_,_,vs,_,p⟩:=(show ObjOk X.prog X.w H s.heap a (.dK kvs) from I.hok a _ ea)
  obtain⟨o,es,ep,h1,h2,_⟩:=p
  exact PySem.W.kia_one PySem.W.kitx_dict I.kIn ⟨o,h1,h2.1⟩ e (fun z=>nomatch z) h
 | @dT a kvs ea=>
  cases (show u=Value.ref a from rx)
  obtain⟨_,_,xs,_,o,es,ep,h1,h2,_⟩:=(show ObjOk X.prog X.w H s.heap a (.dT kvs) from I.hok a _ ea)
  exact PySem.W.kia_one PySem.W.kitx_dict I.kIn ⟨o,h1,h2.1⟩ e (fun z=>nomatch z) h
 | @ins a C dx fs ea cl ha hn htk hm=>
  cases (show u=Value.ref a from rx)
  obtain⟨mA,O,_⟩:=qIa I.hok ea
  obtain⟨od,J,_⟩:=O.look
  exact PySem.W.kia_one (PySem.W.kitx_own (cl.get _) cl.hd ha hn htk hm) I.kIn J e (fun z=>nomatch z) h
end
end L2
namespace L2
open PySem PySem.Spec PyProof.Rows
structure Room (k:Nat)(A:Around):Prop where
 hd:A.handled=none
 dp:A.depth+3*k+5 < recursionLimit
 un:A.units+16*k+200 < cLine
theorem Room.mono {j k:Nat}{A:Around}(r:Room k A)(h:j≤k):Room j A:=⟨r.hd,by have:=r.dp;omega,by have:=r.un;omega⟩
theorem Room.deeper {k:Nat}{A:Around}(r:Room (k+1) A)(env:Env):Room k (A.deeper env):=
 ⟨r.hd,by have:=r.dp;show A.depth+1+3*k+5 < _;omega,by have:=r.un;show A.units+3+16*k+200 < _;omega⟩
theorem Room.in1 {k:Nat}{A:Around}(r:Room (k+1) A):Room k A.in1:=
 ⟨r.hd,by have:=r.dp;show A.depth+3*k+5 < _;omega,by have:=r.un;show A.units+1+16*k+200 < _;omega⟩
theorem Room.depth {k:Nat}{A:Around}(r:Room k A):A.depth < recursionLimit:=by have:=r.dp;omega
theorem Room.units {k:Nat}{A:Around}(r:Room k A):A.units+64 < cLine:=by have:=r.un;omega
def qMt:TA:=fun _ H Q=>Q [] H
def qLt (ta:TE)(tr:TA):TA:=fun σ H Q=>ta σ H fun x H1=>tr σ H1 fun xs H2=>Q (x::xs) H2
section
variable {X : Cx} {e : Expr} {es : List Expr} {te : TE} {t : TA} {pos : Pos}
theorem qB:PA X [] qMt:=fun _ _ _ _ H Q I h=>Calls.spliced_nil ⟨[],H,I,.nil,h⟩
theorem qA (ha:PE X e te)(hr:PA X es t)(hs:starEach (e::es) X.env=(false,eval e X.env)::starEach es X.env:=by rfl):PA X (e::es) (qLt te t):=by
 intro pos pins s σ H Q I h
 rw [hs]
 show wpAny _ _ (spliced ((false,eval e X.env)::backTo pos (starEach es X.env))) _ _ s
 refine Calls.spliced_cons (thn (ha pins s σ H _ I h) fun u s1 ⟨x,H1,I1,r1,q1⟩=>?_)
 exact thn (hr pos pins s1 σ H1 _ I1 q1) fun us s2 ⟨xs,H2,I2,r2,q2⟩=>⟨x::xs,H2,I2,.cons r1 r2,q2⟩
inductive qKt (Q:VK)(xs:List V)(H1:Hp):Prop
| mk (_:xs.length≤sizeLine) (_:∀ p,H1 p=none→Q (.ref p) (upd H1 p (.tup xs)))
def qMq (t:TA):TE:=fun σ H Q=>t σ H fun xs H1=>qKt Q xs H1
inductive qK4 (Q:VK)(xs:List V)(H1:Hp):Prop
| mk (_:xs.length≤sizeLine) (_:∀ p,H1 p=none→Q (.ref p) (upd H1 p (.lst xs)))
def qMi (t:TA):TE:=fun σ H Q=>t σ H fun xs H1=>qK4 Q xs H1
theorem jE {x1}(h:PA X es t):PE X (.Tuple es x1 pos) (qMq t):=by
 intro pins s σ H Q I hq
 refine wpAny_Tuple_spliced (thn (h pos pins s σ H _ I hq) fun us s1 ⟨xs,H1,I1,r,z,q⟩=>⟨by rw [← r.length];exact z,?_⟩)
 have hf:H1 s1.heap.objs.size=none:=I1.hok.fresh (Nat.le_refl _)
 refine⟨.ref s1.heap.objs.size,upd H1 s1.heap.objs.size (.tup xs),I1.laid (t':=s1.toks) (fun b u e=>Heap.get?_push_of_some _ e) (Nat.le_refl _) ?_,rfl,q _ hf⟩
 exact⟨z,us,r,⟨_,Heap.get?_push_size _ rfl,rfl,_,rfl⟩⟩
theorem jH (h:PA X es t):PE X (.List es pos) (qMi t):=by
 intro pins s σ H Q I hq
 refine wpAny_List_spliced (thn (h pos pins s σ H _ I hq) fun us s1 ⟨xs,H1,I1,r,z,q⟩=>⟨by rw [← r.length];exact z,?_⟩)
 have hf:H1 s1.heap.objs.size=none:=I1.hok.fresh (Nat.le_refl _)
 refine⟨.ref s1.heap.objs.size,upd H1 s1.heap.objs.size (.lst xs),I1.laid (t':=s1.toks) (fun b u e=>Heap.get?_push_of_some _ e) (Nat.le_refl _) ?_,rfl,q _ hf⟩
 exact⟨z,us,0,r,Heap.get?_push_size _ rfl⟩
end
abbrev Sp:=List V→Hp→VK→XK→Prop
abbrev CXT:=List Env→Hp→Shared→XK→Value→Shared→Prop
structure qKq (P:Program)(w:World)(K:PySem.W.Frag)(mg:Str→Option Value)(base:Heap)(A:Around)(outer:List Env)(s:Shared)(H:Hp):Prop where
 frames:A.frames=some outer
 mod:Mod K mg base
 bs:∀ b o,base.get? b=some o→s.heap.get? b=some o∧H b=none
 bsz:base.objs.size≤s.heap.objs.size
 funs:s.heap.FunFrames base outer
 frf:∀ b∈frs outer,H b=none
 hok:HOk P w H s.heap
 bare:AllBare s.gens
def CE (outer:List Env)(P:Program)(w:World)(H:Hp)(s:Shared)(Q:VK)(u:Value)(s':Shared):Prop:=
 ∃ v H',s'.os=s.os∧AllBare s'.gens∧Un (frs outer) [] H H' s.heap s'.heap∧HOk P w H' s'.heap∧RelV v u∧Q v H'
def CR (CX:CXT)(outer:List Env)(P:Program)(w:World)(H:Hp)(s:Shared)(Q:VK)(E:XK)(r:Result)(s':Shared):Prop:=
 match r with
 | .ok (.ret u)=>CE outer P w H s Q u s'
 | .ok _=>False
 | .error e=>CX outer H s E e s'
structure FnOk (P:Program)(w:World)(K:PySem.W.Frag)(mg:Str→Option Value)(base:Heap)(CX:CXT)(k:Nat)(f:Addr)(fd:FuncData)(ps:List Str)(sp:Sp):Prop where
 len:∀ vs H Q E,sp vs H Q E→vs.length=ps.length
 run:∀ (A:Around) (outer:List Env) (s:Shared) (H:Hp) (args:Args) (us:List Value) (vs:List V) (Q:VK) (E:XK),Room k A→qKq P w K mg base A outer s H→BindsTo s fd args (ps.zip us)→Vals vs us→sp vs H Q E→
  codeAny (model P w) A (.call (.ref f) args) (CR CX outer P w H s Q E) s
theorem FnOk.imp {P:Program}{w:World}{K:PySem.W.Frag}{mg:Str→Option Value}{base:Heap}{CX:CXT}{k:Nat}{f:Addr}{fd:FuncData}{ps:List Str}{sp sp':Sp}(F:FnOk P w K mg base CX k f fd ps sp)
 (h:∀ vs H Q E,sp' vs H Q E→sp vs H Q E):FnOk P w K mg base CX k f fd ps sp':=
 ⟨fun vs H Q E q=>F.len vs H Q E (h _ _ _ _ q),fun A outer s H args us vs Q E hr he hb hv hs=>F.run A outer s H args us vs Q E hr he hb hv (h _ _ _ _ hs)⟩
section
variable {X : Cx} {pins : List (Addr × Obj)} {σ : St} {H : Hp} {s s' : Shared}
theorem Inv.env0 (I:Inv X pins σ H s):qKq X.prog X.w X.K X.mg X.base X.A X.stack s H:=
 ⟨I.ok.frames,I.ok.mod,I.bs,Nat.le_trans I.ok.bsz I.sz,I.stack,I.stkFree,I.hok,I.bare⟩
theorem Inv.after {Q:VK}{u:Value}(I:Inv X pins σ H s)(h:CE X.stack X.prog X.w H s Q u s'):EP X pins σ Q u s':=by
 obtain⟨v,H',os,bare,un,hok,r,q⟩:=h
 obtain⟨hh,g,d,t,os'⟩:=s'
 obtain rfl:os'=s.os:=os
 exact⟨v,H',I.call (h':=hh) (g':=g) (d':=d) (t':=t) (ch:=[]) un hok bare (fun b z=>absurd z (by simp)),r,q⟩
end
def qGs (sp:Sp)(dvs:List V)(E:XK)(t:TA):TE:=fun σ H Q=>t σ H fun vs H1=>sp (vs++dvs) H1 Q E
def Binds (K:PySem.W.Frag)(fd:FuncData)(ps:List Str)(ds:List Value):Prop:=
 ∀ (s:Shared) (us:List Value),K.In s.heap→(us++ds).length=ps.length→BindsTo s fd ⟨us,[]⟩ (ps.zip (us++ds))
theorem Binds.all {K:PySem.W.Frag}{fd:FuncData}{ps:List Str}(h:∀ us:List Value,us.length=ps.length→bindArgs fd ⟨us,[]⟩=pure (ps.zip us)):Binds K fd ps []:=fun s us _ hl=>by
 rw [List.append_nil] at hl ⊢
 exact .of_eq (h us hl)
def qBz (CX:CXT)(X:Cx)(E:XK):Prop:=∀ (pins:List (Addr × Obj)) (σ:St) (H:Hp) (s:Shared) (e:Value) (s':Shared),Inv X pins σ H s→CX X.stack H s E e s'→X.xe e s'
section
variable {X : Cx} {CX : CXT} {k : Nat} {f C : Addr} {fd : FuncData} {ps : List Str} {sp : Sp} {dvs : List V} {ds : List Value} {E : XK} {x m : Str} {p pos apos : Pos} {e o : Expr} {es : List Expr} {ta : TE} {t : TA}
theorem qKc {pins:List (Addr × Obj)}{σ:St}{H:Hp}{s:Shared}{Q:VK}{us:List Value}{vs:List V}(F:FnOk X.prog X.w X.K X.mg X.base CX k f fd ps sp)(hr:Room k X.A)(hb:Binds X.K fd ps ds)(hd:Vals dvs ds)(hx:qBz CX X E)
 (I:Inv X pins σ H s) (r:Vals vs us) (h:sp (vs++dvs) H Q E):wpAny (model X.prog X.w) X.A (call (.ref f) us) (EP X pins σ Q) X.xe s:=by
 have r2:Vals (vs++dvs) (us++ds):=r.append hd
 have hl:(us++ds).length=ps.length:=by rw [← r2.length];exact F.len _ _ _ _ h
 refine wpAny_call (codeAny_mono (F.run X.A X.stack s H ⟨us,[]⟩ (us++ds) (vs++dvs) Q E hr I.env0 (hb s us I.kIn hl) r2 h) fun r s' hq=>?_)
 cases r with
 | error e=>exact hx pins σ H s e s' I hq
 | ok fl=>
  cases fl with
  | ret u=>exact I.after hq
  | next=>exact False.elim hq
  | brk=>exact False.elim hq
  | cont=>exact False.elim hq
theorem qB9 (F:FnOk X.prog X.w X.K X.mg X.base CX k f fd ps sp)(hr:Room k X.A)(hg:Gl X x)(hm:X.mg x=some (.ref f))(hk:PySem.W.keepIn X.K (.ref f)=true)(hb:Binds X.K fd ps ds)(hd:Vals dvs ds)(hx:qBz CX X E)
 (ha:PA X (e::es) t) (hdb:(x == ("__debug__":Str))=false:=by decide) (he:starEach (e::es) X.env=(false,eval e X.env)::starEach es X.env:=by rfl) (hpl:(backTo pos (starEach es X.env)).any (·.1)=false:=by rfl):
 PE X (.Call (.Name x p) (e::es) [] pos) (qGs sp dvs E t):=by
 intro pins s σ H Q I h
 refine wpAny_Call_Name_kw (qAa I hg hm ?_ hdb)
 refine PySem.W.callWith_K (h₀:=X.base) I.ok.mod.kin hk (thn (ha pos pins s σ H _ I h) fun us s1 ⟨vs,H1,I1,r,q⟩=>⟨I1.kIn,?_⟩) he hpl
 exact qKc F hr hb hd hx I1 r q
end
section
variable {X : Cx} {CX : CXT} {k : Nat} {f C : Addr} {fd : FuncData} {ps ks : List Str} {sp : Sp} {E : XK} {x m : Str} {p pos apos kpos : Pos} {e o : Expr} {es : List Expr} {kws : List Keyword} {te ta : TE} {t tk : TA} {nm : Option Str}
variable {g : List Value → List Value → List Value} {gV : List V → List V → List V}
end
structure qQ (N P:List Str)(sc:Scope):Prop where
 kind:sc.kind= .function
 co:sc.isCoroutine=false
 gen:sc.isGenerator=false
 nd:N.Nodup
 pre:N.take P.length=P
 par:∀ x∈P,sc.names.lookup x=some .local∨sc.names.lookup x=some .cell
 nofree:∀ y∈sc.names,y.2≠ .free
theorem qBa {kindOf:Str→Option NameKind}{x:Str}:∀ {binds:List (Str × Value)} {m:Str→Option Value},(∀ v,(x,v) ∉ binds)→bindL kindOf binds m x=m x
 | [],_,_=>rfl
 | (n,v)::r,m,h=>by
  unfold bindL
  rw [qBa fun w hw=>h w (List.mem_cons_of_mem _ hw)]
  split
  · have:x≠n:=by rintro rfl;exact h v List.mem_cons_self
    simp [this]
  · rfl
theorem qA1 {kindOf:Str→Option NameKind}{x:Str}:∀ {binds:List (Str × Value)} {m:Str→Option Value},(∀ v,(x,v) ∉ binds)→bindC kindOf binds m x=m x
 | [],_,_=>rfl
 | (n,v)::r,m,h=>by
  unfold bindC
  rw [qA1 fun w hw=>h w (List.mem_cons_of_mem _ hw)]
  split
  · rfl
  · have:x≠n:=by rintro rfl;exact h v List.mem_cons_self
    simp [this]
theorem qBx {kindOf:Str→Option NameKind}{x:Str}{v:Value}:∀ {P:List Str} {vs:List Value} {i:Nat} {m:Str→Option Value},P.Nodup→P[i]? =some x→vs[i]? =some v→kindOf x=some .local→
 bindL kindOf (P.zip vs) m x=some v
 | [],_,_,_,_,h,_,_=>by simp at h
 | _::_,[],_,_,_,_,h,_=>by simp at h
 | p::P,w::vs,0,m,nd,h1,h2,hk=>by
  simp at h1 h2;subst h1;subst h2
  show bindL kindOf ((p,w)::P.zip vs) m p=_
  unfold bindL
  rw [qBa fun v hv=>(List.nodup_cons.mp nd).1 (List.of_mem_zip hv).1,if_pos hk]
  simp
 | p::P,w::vs,i+1,m,nd,h1,h2,hk=>by
  show bindL kindOf ((p,w)::P.zip vs) m x=_
  unfold bindL
  exact qBx (i:=i) (List.nodup_cons.mp nd).2 (by simpa using h1) (by simpa using h2) hk
theorem qA4 {kindOf:Str→Option NameKind}{x:Str}{v:Value}:∀ {P:List Str} {vs:List Value} {i:Nat} {m:Str→Option Value},P.Nodup→P[i]? =some x→vs[i]? =some v→kindOf x≠some .local→
 bindC kindOf (P.zip vs) m x=some v
 | [],_,_,_,_,h,_,_=>by simp at h
 | _::_,[],_,_,_,_,h,_=>by simp at h
 | p::P,w::vs,0,m,nd,h1,h2,hk=>by
  simp at h1 h2;subst h1;subst h2
  show bindC kindOf ((p,w)::P.zip vs) m p=_
  unfold bindC
  rw [qA1 fun v hv=>(List.nodup_cons.mp nd).1 (List.of_mem_zip hv).1,if_neg hk]
  simp
 | p::P,w::vs,i+1,m,nd,h1,h2,hk=>by
  show bindC kindOf ((p,w)::P.zip vs) m x=_
  unfold bindC
  exact qA4 (i:=i) (List.nodup_cons.mp nd).2 (by simpa using h1) (by simpa using h2) hk
def qAn (N:List Str)(vs:List V):St:=vs.map some++List.replicate (N.length - vs.length) none
def qF0 (CX:CXT)(P:Program)(w:World)(K:PySem.W.Frag)(mg:Str→Option Value)(base:Heap)(N:List Str)(qual:Str)(scope:Scope)(f:Addr)(cd:Value)(A:Around)(outer:List Env)(s:Shared)(H:Hp)(E:XK):Cx where
 prog:=P
 w:=w
 K:=K
 mg:=mg
 base:=base
 A:=A.deeper (envOfC qual scope s.heap.objs.size f cd)
 N:=N
 s₀:=s
 H₀:=H
 env:=envOfC qual scope s.heap.objs.size f cd
 outer:=outer
 stack:=envOfC qual scope s.heap.objs.size f cd::outer
 ex:=[]
 calm:=true
 fn:=fun _=>true
 pn:=[]
 xe:=fun e s'=>wpAny (model P w) (A.deeper (envOfC qual scope s.heap.objs.size f cd)) (leaving (envOfC qual scope s.heap.objs.size f cd) e) (fun _ s''=>CX outer H s E e s'') (fun e' s''=>CX outer H s E e' s'') s'
theorem qC5 {sc:Scope}{n:Nat}{x:Str}(h:sc.names.lookup x=some .cell):∃ c,(cellsFrom n sc.names []).lookup x=some c:=by
 have q:=PySem.W.cellsFrom_some sc.names n [] (.inl h)
 exact Option.isSome_iff_exists.mp q
theorem qFx {CX:CXT}{P:Program}{w:World}{K:PySem.W.Frag}{mg:Str→Option Value}{base:Heap}{N ps:List Str}{qual:Str}{scope:Scope}{f:Addr}{cd:Value}{A:Around}{outer:List Env}{s s1:Shared}{H:Hp}{E:XK}{us:List Value}{vs:List V}
 (S:qQ N ps scope) (hd:A.handled=none) (e0:qKq P w K mg base A outer s H) (hl:vs.length=ps.length) (r:Vals vs us)
 (x:InCallC s s.heap.objs.size (bindL (envOfC qual scope s.heap.objs.size f cd).kindOf (ps.zip us) fun _=>none) (cellsFrom (s.heap.objs.size+1) scope.names []) (bindC (envOfC qual scope s.heap.objs.size f cd).kindOf (ps.zip us) fun _=>none) s1):
 Inv (qF0 CX P w K mg base N qual scope f cd A outer s H E) [] (qAn N vs) H s1:=by
 have hpl:ps.length≤N.length:=by have:=congrArg List.length S.pre;rw [List.length_take] at this;omega
 obtain⟨h1,tk,rfl,hk⟩:=x.done
 have noA:∀ b:Addr,b ∉ (qF0 CX P w K mg base N qual scope f cd A outer s H E).ex:=fun b z=>absurd (show b∈([]:List Addr) from z) (by simp)
 refine⟨⟨e0.mod,S.kind,rfl,rfl,Nat.le_refl _,fun y z c h1 h2=>?_,fun y hy=>?_,fun y c _ h=>?_,fun _=>hd,Around.frames_deeper e0.frames,.inr ⟨rfl,rfl⟩,fun b z=>absurd z (noA b),e0.bs,e0.bsz,fun b _ _=>noA b,fun b z=>absurd z (noA b),e0.funs,e0.frf⟩,
  rfl,e0.bare,Un.kept hk,⟨_,x.toInCall.ns,fun i y v h1 h2 h3=>?_⟩,fun y c h=>⟨_,x.cell y c h⟩,e0.hok.fresh (Nat.le_refl _),fun y c h=>?_,fun p hp=>absurd (show p∈([]:List (Addr × Obj)) from hp) (by simp),e0.hok.kept hk,?_⟩
 · exact name_of_addr x.apart (PySem.mem_of_lookup h1) (PySem.mem_of_lookup h2)
 · have hy:scope.names.lookup y=some .cell∨scope.names.lookup y=some .free:=hy
   rcases hy with hy | hy
   · exact qC5 hy
   · exact absurd rfl (S.nofree _ (PySem.mem_of_lookup hy))
 · exact Nat.le_of_lt (x.above y c (PySem.mem_of_lookup h))
 · have hi:i < vs.length:=by
    unfold qAn at h2
    by_cases hi:i < vs.length
    · exact hi
    · rw [List.getElem?_append_right (by simpa using hi)] at h2
      rw [List.getElem?_replicate] at h2
      split at h2 <;> cases h2
   have ha:vs[i]? =some v:=by
    unfold qAn at h2
    rw [List.getElem?_append_left (by simpa using hi),List.getElem?_map] at h2
    cases e:vs[i]? with
    | none=>rw [e] at h2;cases h2
    | some a=>rw [e] at h2;cases h2;rfl
   obtain⟨u,hu,rv⟩:=r.get ha
   have hp:ps[i]? =some y:=by
    rw [← S.pre,List.getElem?_take_of_lt (by omega)];exact h1
   have ndP:ps.Nodup:=by rw [← S.pre];exact S.nd.sublist (List.take_sublist _ _)
   refine⟨u,rv,?_⟩
   rcases S.par y (List.mem_of_getElem? hp) with k | k
   · exact .inl ⟨k,qBx ndP hp hu k⟩
   · obtain⟨c,e⟩:=qC5 (n:=s.heap.objs.size+1) k
     refine .inr ⟨.inl k,c,e,?_⟩
     have q:=x.cell y c e
     rw [qA4 ndP hp hu (by show scope.names.lookup y≠_;rw [k];decide)] at q
     exact q
 · exact e0.hok.fresh (Nat.le_of_lt (x.above y c (PySem.mem_of_lookup h)))
 · unfold qAn
   show _=N.length
   rw [List.length_append,List.length_map,List.length_replicate]
   omega
theorem qI3 {CX:CXT}{P:Program}{w:World}{K:PySem.W.Frag}{mg:Str→Option Value}{base:Heap}{k:Nat}{f:Addr}{name qual:Str}{params:Arguments}{body:List Stmt}{scope:Scope}{dV kV doc pm cdv ct oc:Value}{an od:Option Addr}
 {osl:Array (Option Value)} {N ps:List Str} {sp:Sp} (lk:K.lookup f=some ⟨oc,od,.func (PySem.W.fnOf name qual params body scope dV kV doc pm an cdv ct),osl⟩) (hcd:PySem.W.codeIn K cdv qual=true) (S:qQ N ps scope)
 (len:∀ vs H Q E,sp vs H Q E→vs.length=ps.length)
 (hbody:∀ (A:Around) (outer:List Env) (s:Shared) (H:Hp) (vs:List V) (Q:VK) (E:XK),Room k (A.deeper (envOfC qual scope s.heap.objs.size f cdv))→sp vs H Q E→
   ∃ t,PSs (qF0 CX P w K mg base N qual scope f cdv A outer s H E) body t∧t {nx:=fun _ H'=>Q .non H',rt:=Q} (qAn N vs) H):
 FnOk P w K mg base CX (k+1) f (PySem.W.fnOf name qual params body scope dV kV doc pm an cdv ct) ps sp:=by
 refine⟨len,fun A outer s H args us vs Q E hr e0 hb r hsp=>?_⟩
 have hl:=len _ _ _ _ hsp
 have KX:K.In s.heap:=e0.mod.kin.keeps fun b o e=>(e0.bs b o e).1
 have lim:s.heap.NoLimit:=e0.mod.nolimit.keeps fun b o e=>(e0.bs b o e).1
 have hkind:∀ y∈ps.zip us,scope.names.lookup y.1=some .local∨(scope.names.lookup y.1=some .cell∧((cellsFrom (s.heap.objs.size+1) scope.names []).lookup y.1).isSome=true):=fun⟨n,v⟩ hy=>by
  rcases S.par n (List.of_mem_zip hy).1 with q | q
  · exact .inl q
  · exact .inr ⟨q,PySem.W.cellsFrom_some _ _ _ (.inl q)⟩
 refine codeAny_call_function hr.depth (KX _ _ lk) rfl S.co S.gen rfl (PySem.W.codeRec_of KX hcd) (hb _ _ _ _ ?_)
 refine wpAny_newFunctionEnv_cells S.kind hkind fun env he s1 x=>?_
 subst he
 refine⟨lim.keeps x.toInCall.keep,codeAny_func ?_⟩
 obtain⟨t,ht,hq⟩:=hbody A outer s H vs Q E (hr.deeper _) hsp
 have I:Inv (qF0 CX P w K mg base N qual scope f cdv A outer s H E) [] (qAn N vs) H s1:=qFx S hr.hd e0 hl r x
 refine wpAny_mono (ht [] s1 (qAn N vs) H _ I hq) (fun fl s' hs=>?_) fun e s' hs=>hs
 have fin:∀ {σ':St} {H':Hp} {v:V} {u:Value},Inv (qF0 CX P w K mg base N qual scope f cdv A outer s H E) [] σ' H' s'→RelV v u→Q v H'→CE outer P w H s Q u s':=
  fun {σ' H' v u} J rv q=>⟨v,H',J.os,J.bare,J.base,J.hok,rv,q⟩
 cases fl with
 | ret u=>
  obtain⟨v,σ',H',J,rv,q⟩:=hs
  exact fin J rv q
 | next=>
  obtain⟨σ',H',J,q⟩:=hs
  exact fin (v:=V.non) (u:=Value.none) J rfl q
 | brk=>
  obtain⟨_,_,_,q⟩:=hs
  exact False.elim q
 | cont=>
  obtain⟨_,_,_,q⟩:=hs
  exact False.elim q
end L2
namespace L2
open PySem PySem.Spec PyProof.Rows
section
variable {X : Cx} {x : Str} {p pos : Pos} {e : Expr} {es : List Expr} {t : TA} {id T : String} {r : List V → Hp → VK → Prop}
def tCB (r:List V→Hp→VK→Prop)(t:TA):TE:=fun σ H Q=>t σ H fun vs H1=>r vs H1 Q
theorem qN (hc:zX X (.builtin id) r)(hg:Gl X x)(hm:X.mg x=none)(hv:bootBuiltins x=some (.builtin id))(ha:PA X (e::es) t)(hn:x≠"__name__":=by decide)(hdb:(x == ("__debug__":Str))=false:=by decide)
 (he:starEach (e::es) X.env=(false,eval e X.env)::starEach es X.env:=by rfl) (hpl:(backTo pos (starEach es X.env)).any (·.1)=false:=by rfl):PE X (.Call (.Name x p) (e::es) [] pos) (tCB r t):=by
 intro pins s σ H Q I h
 refine wpAny_Call_Name_kw (vV I hg hm hv ?_ hn hdb)
 exact PyProof.Rows.callWith_builtin1 (thn (ha pos pins s σ H _ I h) fun us s1 ⟨vs,H1,I1,r1,q1⟩=>hc pins s1 σ H1 vs us Q I1 r1 q1) he hpl
theorem qf (hc:zX X (.type T) r)(hg:Gl X x)(hm:X.mg x=none)(hv:bootBuiltins x=some (.type T))(ha:PA X (e::es) t)(hn:x≠"__name__":=by decide)(hdb:(x == ("__debug__":Str))=false:=by decide)
 (he:starEach (e::es) X.env=(false,eval e X.env)::starEach es X.env:=by rfl) (hpl:(backTo pos (starEach es X.env)).any (·.1)=false:=by rfl):PE X (.Call (.Name x p) (e::es) [] pos) (tCB r t):=by
 intro pins s σ H Q I h
 refine wpAny_Call_Name_kw (vV I hg hm hv ?_ hn hdb)
 exact PyProof.Rows.callWith_type1 (thn (ha pos pins s σ H _ I h) fun us s1 ⟨vs,H1,I1,r1,q1⟩=>hc pins s1 σ H1 vs us Q I1 r1 q1) he hpl
end
end L2
namespace HT
open PySem PyProof.Rows
section
open PySem.SeqAt
open PySem.AutoSeq1 (wpAny_loadPart')
open PySem.MeetsSeq PySem.MeetsSeq2 PySem.MeetsSeq3
end
section
variable {prog : Program} {w : World} {A : Around} {E : Value → Shared → Prop} {s : Shared}
theorem cat_tup {t b:Addr}{vs ws:List Value}{Q:Value→Shared→Prop}(ht:IsTup s.heap t vs.toArray)(hb:IsTup s.heap b ws.toArray)(hv:vs≠[])
 (h1:ws=[]→Q (.ref t) s) (h2:ws≠[]→Q (.ref s.heap.objs.size) {s with heap:=s.heap.push {cls:=.type "tuple",data:=.seq (vs++ws).toArray}})
 (hsz:vs.length+ws.length≤sizeLine):wpAny (model prog w) A (binaryOp .Add (.ref t) (.ref b)) Q E s:=by
 obtain⟨⟨cls,dd,data,sl⟩,ho,hc,n,hd⟩:=id ht
 obtain⟨⟨cls2,dd2,data2,sl2⟩,ho2,hc2,n2,hd2⟩:=id hb
 simp only at hc hd hc2 hd2
 subst hc hd hc2 hd2
 have e:vs.toArray++ws.toArray=(vs++ws).toArray:=by simp
 by_cases hw:ws=[]
 · exact concat_meets ⟨_,ho,rfl⟩ ⟨_,ho2,rfl⟩ noFill_tuple_add seq_tuple_add PySem.F.slot_tuple_add PySem.F.entry_tuple_add (PySem.F.args_tuple_add_2 _ _)
    (tuple_addW1 t b vs.toArray ws.toArray n n2 dd dd2 sl sl2 (by simpa using hv) (by simp [hw])) ⟨ho,ho2,h1 hw⟩
 · refine concat_meets ⟨_,ho,rfl⟩ ⟨_,ho2,rfl⟩ noFill_tuple_add seq_tuple_add PySem.F.slot_tuple_add PySem.F.entry_tuple_add (PySem.F.args_tuple_add_2 _ _)
    (tuple_addW2 t b vs.toArray ws.toArray n n2 dd dd2 sl sl2 (by simpa using hv) (by simpa using hw) (by rw [List.size_toArray,List.size_toArray];exact hsz)) ⟨ho,ho2,?_⟩
   rw [e]
   exact h2 hw
def sIx (n d:Nat):Option Int→Nat
 | none=>d
 | some v=>if v < 0 then (v+(n:Int)).toNat else min v.toNat n
theorem sIx_none (n d:Nat):sIx n d none=d:=rfl
theorem sIx_nat (n d k:Nat):sIx n d (some (k:Int))=min k n:=by
 show (if (k:Int) < 0 then ((k:Int)+(n:Int)).toNat else min (k:Int).toNat n)=min k n
 rw [if_neg (by omega),Int.toNat_natCast]
end
end HT
namespace L2
open PySem PySem.Spec PyProof.Rows
abbrev TO:=St→Hp→(Option Int→Hp→Prop)→Prop
def PO (X:Cx)(e:Option Expr)(t:TO):Prop:=
 ∀ (pins:List (Addr × Obj)) (s:Shared) (σ:St) (H:Hp) (Q:Option Int→Hp→Prop),Inv X pins σ H s→t σ H Q→
  wpAny (model X.prog X.w) X.A (evalPart e X.env) (fun u s'=>∃ o H',Inv X pins σ H' s'∧IsPart u o∧Q o H') X.xe s
def qHq:TO:=fun _ H Q=>Q none H
inductive qJy (Q:Option Int→Hp→Prop)(x:V)(H1:Hp):Prop
| mk i (_:x= .int i) (_:Q (some i) H1)
def qKw (t:TE):TO:=fun σ H Q=>t σ H fun x H1=>qJy Q x H1
section
variable {X : Cx} {e : Expr} {te : TE} {lo hi : Option Expr} {tl th : TO} {pos p2 : Pos}
theorem jK:PO X none qHq:=by
 intro pins s σ H Q I h
 rw [evalPart_none]
 exact wpAny_pure ⟨none,H,I,.none,h⟩
theorem jD (h:PE X e te):PO X (some e) (qKw te):=by
 intro pins s σ H Q I hw
 rw [evalPart_some]
 refine thn (h pins s σ H _ I hw) fun u s1 ⟨x,H1,I1,r1,q1⟩=>?_
 obtain⟨i,rfl,q⟩:=q1
 obtain⟨t,rfl⟩:=r1
 exact⟨some i,H1,I1,.int i t,q⟩
def SlR (X:Cx)(r:V→Option Int→Option Int→Hp→VK→Prop):Prop:=
 ∀ (pins:List (Addr × Obj)) (s:Shared) (σ:St) (H:Hp) (x:V) (v vl vu:Value) (lo hi:Option Int) (sl:Addr) (Q:VK),Inv X pins σ H s→RelV x v→s.heap.IsSliceOf sl vl vu .none→IsPart vl lo→IsPart vu hi→r x lo hi H Q→
  ∃ T id,typeLookup (.type T) "__getitem__"=pure (some (.builtin id))∧s.TypeIs v T∧wpAny (model X.prog X.w) X.A (getItem v (.ref sl)) (EP X pins σ Q) X.xe s
def tSl (r:V→Option Int→Option Int→Hp→VK→Prop)(te:TE)(tl th:TO):TE:=fun σ H Q=>te σ H fun x H1=>tl σ H1 fun l H2=>th σ H2 fun u H3=>r x l u H3 Q
theorem qr {r:V→Option Int→Option Int→Hp→VK→Prop}(hr:SlR X r)(he:PE X e te)(hl:PO X lo tl)(hu:PO X hi th):PE X (.Subscript e (.Slice lo hi none p2) pos) (tSl r te tl th):=by
 intro pins s σ H Q I h
 refine Subscript_ (thn (he pins s σ H _ I h) fun v s1 ⟨x,H1,I1,r1,q1⟩=>?_)
 refine wpAny_Slice (thn (hl pins s1 σ H1 _ I1 q1) fun vl s2 ⟨l,H2,I2,pl,q2⟩=>thn (hu pins s2 σ H2 _ I2 q2) fun vu s3 ⟨u,H3,I3,pu,q3⟩=>?_)
 rw [evalPart_none]
 refine wpAny_pure ?_
 have I4:Inv X pins σ H3 {s3 with heap:=s3.heap.push {cls:=.type "slice",data:=.fields #[vl,vu,.none]}}:=I3.kept (t':=s3.toks) fun b ob q=>Heap.get?_push_of_some _ q
 obtain⟨T,id,hT,ht,hg⟩:=hr pins {s3 with heap:=s3.heap.push {cls:=.type "slice",data:=.fields #[vl,vu,.none]}} σ H3 x v vl vu l u s3.heap.objs.size Q I4 r1 (Heap.IsSliceOf.new ..) pl pu q3
 show wpAny (model X.prog X.w) X.A (subscriptTail e (.Slice lo hi none p2) v (.ref s3.heap.objs.size)) (EP X pins σ Q) X.xe {s3 with heap:=s3.heap.push {cls:=.type "slice",data:=.fields #[vl,vu,.none]}}
 exact tail_any (ops:=[.ref s3.heap.objs.size,v]) ht hT hg (by with_unfolding_all rfl)
def qDl (xs:List V)(lo hi:Option Int):List V:=(xs.drop (HT.sIx xs.length 0 lo)).take (HT.sIx xs.length xs.length hi - HT.sIx xs.length 0 lo)
theorem qB4 (xs:List V)(lo hi:Option Int):(qDl xs lo hi).length≤xs.length:=by
 unfold qDl
 rw [List.length_take,List.length_drop]
 omega
def qK9 (K:PySem.W.Frag):R2:=fun x y H Q=>∃ a b xs ys,x= .ref a∧y= .ref b∧SqT K H a xs∧SqT K H b ys∧xs≠[]∧xs.length+ys.length≤sizeLine∧
 (ys=[]→Q (.ref a) H)∧(ys≠[]→∀ p,H p=none→Q (.ref p) (upd H p (.tup (xs++ys))))
theorem Vals.nil_iff {xs:List V}{us:List Value}(r:Vals xs us):us=[]↔xs=[]:=by
 cases r with
 | nil=>simp
 | cons _ _=>simp
theorem qFa:OpR X (binaryOp .Add) (qK9 X.K):=by
 intro pins s σ H x y v u Q I rx ry h
 obtain⟨a,b,xs,ys,rfl,rfl,ha,hb,hx,hz,q1,q2⟩:=h
 cases rx
 cases ry
 obtain⟨its,r1,p1,_⟩:=I.tuple ha
 obtain⟨its2,r2,p2,_⟩:=I.tuple hb
 refine HT.cat_tup p1 p2 (fun z=>hx (r1.nil_iff.mp z)) (fun z=>⟨.ref a,H,I,rfl,q1 (r2.nil_iff.mp z)⟩) (fun z=>?_) (by rw [← r1.length,← r2.length];exact hz)
 refine⟨.ref s.heap.objs.size,_,I.laid (t':=s.toks) (o:=.tup (xs++ys)) (fun b ob q=>Heap.get?_push_of_some _ q) (Nat.le_refl _) ?_,rfl,q2 (fun w=>z (r2.nil_iff.mpr w)) _ (I.hok.fresh (Nat.le_refl _))⟩
 exact⟨by rw [List.length_append];exact hz,_,r1.append r2,IsTup.new _ _⟩
end
end L2
namespace L2
open PySem PySem.Spec PyProof.Rows
def ixN (n:Nat)(i:Int):Option Nat:=if 0≤i then (if i < n then some i.toNat else none) else if -(n:Int)≤i then some (i+n).toNat else none
def atI {α:Type}(xs:List α)(i:Int):Option α:=(ixN xs.length i).bind fun j=>xs[j]?
theorem qE2 {n:Nat}{i:Int}{j:Nat}(h:ixN n i=some j):seqIndex? i n=some j∧j < n∧-(n:Int)≤i∧i < n:=by
 unfold ixN at h
 by_cases h0:0≤i
 · rw [if_pos h0] at h
   by_cases h1:i < n
   · rw [if_pos h1] at h
     have e:i.toNat=j:=Option.some.inj h
     exact⟨by rw [seqIndex_of h0 h1,e],by omega,by omega,h1⟩
   · rw [if_neg h1] at h;cases h
 · rw [if_neg h0] at h
   by_cases h1:-(n:Int)≤i
   · rw [if_pos h1] at h
     have e:(i+n).toNat=j:=Option.some.inj h
     exact⟨by rw [seqIndex_neg (by omega) h1,e],by omega,h1,by omega⟩
   · rw [if_neg h1] at h;cases h
theorem qB8 {α:Type}{xs:List α}{i:Int}{v:α}(h:atI xs i=some v):∃ j,seqIndex? i xs.length=some j∧xs[j]? =some v∧j < xs.length∧-(xs.length:Int)≤i∧i < xs.length:=by
 unfold atI at h
 cases e:ixN xs.length i with
 | none=>rw [e] at h;cases h
 | some j=>
  rw [e] at h
  obtain⟨h1,h2,h3,h4⟩:=qE2 e
  exact⟨j,h1,h,h2,h3,h4⟩
theorem j3 {α:Type}{xs:List α}{j:Nat}{v:α}(h:xs[j]? =some v):atI xs (j:Int)=some v:=by
 have hj:j < xs.length:=(List.getElem?_eq_some_iff.mp h).1
 have e:ixN xs.length (j:Int)=some j:=by
  unfold ixN
  rw [if_pos (by omega),if_pos (by omega)];simp
 unfold atI;rw [e];exact h
def qHn (b:Expr):Prop:=∀ o i,subscripted b false o i=operate [o,i] (getItem o i)
def IxR (X:Cx)(r:R2):Prop:=
 ∀ (value slice:Expr) (pins:List (Addr × Obj)) (s:Shared) (σ:St) (H:Hp) (x y:V) (v u:Value) (Q:VK),Inv X pins σ H s→RelV x v→RelV y u→r x y H Q→
  subscripted slice false v u=operate [v,u] (getItem v u)→wpAny (model X.prog X.w) X.A (subscriptTail value slice v u) (EP X pins σ Q) X.xe s
def MtR (X:Cx)(id:String)(r:V→List V→Hp→VK→Prop):Prop:=
 ∀ (pins:List (Addr × Obj)) (s:Shared) (σ:St) (H:Hp) (x:V) (xs:List V) (v:Value) (us:List Value) (Q:VK),Inv X pins σ H s→RelV x v→Vals xs us→r x xs H Q→
  wpAny (model X.prog X.w) X.A (call (.builtin id) (v::us)) (EP X pins σ Q) X.xe s
section
variable {X : Cx} {a b : Expr} {ta tb : TE} {pos : Pos}
theorem qj {r:R2}(hr:IxR X r)(ha:PE X a ta)(hb:PE X b tb)(hs:qHn b):PE X (.Subscript a b pos) (tOp r ta tb):=by
 intro pins s σ H Q I h
 exact Subscript_ (qK1 ha hb I h fun v u s2 x y H2 I2 rx ry q=>hr a b pins s2 σ H2 x y v u Q I2 rx ry q (hs _ _))
inductive qLz (K:PySem.W.Frag)(x:V)(y:V)(H:Hp)(Q:VK):Prop
| mk p xs i v (_:x= .ref p) (_:y= .int i) (_:SqL K H p xs) (_:atI xs i=some v) (_:Q v H)
inductive qKk (K:PySem.W.Frag)(x:V)(y:V)(H:Hp)(Q:VK):Prop
| mk p xs i v (_:x= .ref p) (_:y= .int i) (_:SqT K H p xs) (_:atI xs i=some v) (_:Q v H)
def qMc:R2:=fun x y H Q=>∃ z i c,x= .str z∧y= .int i∧z.length≤sizeLine∧atI z.cps.toList i=some c∧Q (.str ⟨#[c]⟩) H
theorem qR:IxR X (qLz X.K):=by
 intro value slice pins s σ H x y v u Q I rx ry h hs
 obtain⟨p,xs,i,z,rfl,rfl,hq,he,q⟩:=h
 cases rx
 obtain⟨t,rfl⟩:=ry
 obtain⟨its,r,pl,hz⟩:=I.list hq
 obtain⟨j,h1,h2,h3,h4,h5⟩:=qB8 he
 obtain⟨w,ew,rw'⟩:=r.get h2
 have hl:=r.length
 have hn:=wT
 have fin:EP X pins σ Q w s:=⟨z,H,I,rw',q⟩
 by_cases h0:0≤i
 · have hj:i.toNat=j:=by
    rw [seqIndex_of h0 h5] at h1
    exact Option.some.inj h1
   exact item_listR pl.isList h0 (by omega) (by rw [hj];simpa using ew) fin hs
 · have hj:(i+(its.toArray.size:Int)).toNat=j:=by
    rw [seqIndex_neg (by omega) h4] at h1
    rw [List.size_toArray,← hl]
    exact Option.some.inj h1
   exact subscriptTail_builtinR (x:=w) pl.isList.typeIs slot_list_getitem.lookup
    (wpAny_getItem_list_neg (Q:=fun r s'=>r=w∧EP X pins σ Q r s') pl.isList (by omega) (by rw [List.size_toArray] <;> omega) (by omega) (by rw [hj];simpa using ew) ⟨rfl,fin⟩) hs
theorem qHd:IxR X (qKk X.K):=by
 intro value slice pins s σ H x y v u Q I rx ry h hs
 obtain⟨p,xs,i,z,rfl,rfl,hq,he,q⟩:=h
 cases rx
 obtain⟨t,rfl⟩:=ry
 obtain⟨its,r,pl,hz⟩:=I.tuple hq
 obtain⟨j,h1,h2,h3,h4,h5⟩:=qB8 he
 obtain⟨w,ew,rw'⟩:=r.get h2
 have hl:=r.length
 have hn:=wT
 have fin:EP X pins σ Q w s:=⟨z,H,I,rw',q⟩
 exact subscriptTail_builtinR (x:=w) pl.typeIs slot_tuple_getitem.lookup
  (getItem_tuple (j:=j) (Q:=fun r s'=>r=w∧EP X pins σ Q r s') pl (by omega) (by omega) (by rw [List.size_toArray,← hl];exact h1) (by simpa using ew) ⟨rfl,fin⟩) hs
theorem qHb:IxR X qMc:=by
 intro value slice pins s σ H x y v u Q I rx ry h hs
 obtain⟨z,i,c,rfl,rfl,hz,he,q⟩:=h
 obtain⟨t,rfl⟩:=rx
 obtain⟨t',rfl⟩:=ry
 obtain⟨j,h1,h2,h3,h4,h5⟩:=qB8 he
 have hl:z.cps.toList.length=z.length:=by simp [Str.length]
 rw [hl] at h1 h4 h5
 have hn:=wT
 exact tail_any (typeIs_str s z t) slot_str_getitem.lookup (getItem_str (c:=c) (by
  have e1:decide (i < -(2 ^ 63:Int))=false:=decide_eq_false (by omega)
  have e2:decide (i ≥ 2 ^ 63)=false:=decide_eq_false (by omega)
  rw [e1,e2,Bool.or_false]) (by rw [h1];simpa using h2) ⟨.str ⟨#[c]⟩,H,I.tok _,⟨_,rfl⟩,q⟩) hs
theorem qDo (its:List Value)(n j:Nat)(u:Value):Obj.mapSeq (·.setIfInBounds j u) {cls:=.type "list",data:=.seq its.toArray n}={cls:=.type "list",data:=.seq (its.set j u).toArray n}:=by
 simp [Obj.mapSeq]
theorem Inv.lst {pins:List (Addr × Obj)}{σ:St}{H:Hp}{s:Shared}{p:Addr}{xs:List V}(I:Inv X pins σ H s)(h:H p=some (.lst xs)):
 ∃ (its:List Value) (n:Nat),Vals xs its∧s.heap.get? p=some {cls:=.type "list",data:=.seq its.toArray n}∧xs.length≤sizeLine:=by
 obtain⟨z,its,n,r,e⟩:=I.hok p _ h
 exact⟨its,n,r,e,z⟩
theorem Inv.lstUpd {pins:List (Addr × Obj)}{σ:St}{H:Hp}{s:Shared}{p:Addr}{xs ys:List V}{its its':List Value}{n n':Nat}{f:Obj→Obj}(I:Inv X pins σ H s)(h:H p=some (.lst xs))
 (ho:s.heap.get? p=some {cls:=.type "list",data:=.seq its.toArray n}) (hf:f {cls:=.type "list",data:=.seq its.toArray n}={cls:=.type "list",data:=.seq its'.toArray n'}) (r:Vals ys its') (hz:ys.length≤sizeLine) (t:Nat):
 Inv X pins σ (upd H p (.lst ys)) {s with heap:=s.heap.update p f,toks:=t}:=by
 have e:(s.heap.update p f).get? p=some {cls:=.type "list",data:=.seq its'.toArray n'}:=by
  rw [Heap.get?_update_self f ho (by rw [hf] <;> rfl),hf]
 refine I.write (x:=p) (e:=p) (by rw [h];trivial) (.inl rfl) (fun b u hb q=>(Heap.get?_update_other _ _ (Ne.symm hb)).trans q) ⟨_,e⟩ ?_
 exact⟨hz,its',n',r,e⟩
def qLv:V→V→V→Hp→(Hp→Prop)→Prop:=fun o i v H Q=>∃ p xs k j,o= .ref p∧i= .int k∧H p=some (.lst xs)∧ixN xs.length k=some j∧Q (upd H p (.lst (xs.set j v)))
theorem qGv:qL8 X qLv:=by
 intro pins s σ H o i v ov iv u Q I ro ri rv h
 obtain⟨p,xs,k,j,rfl,rfl,hp,hj,q⟩:=h
 cases ro
 obtain⟨t,rfl⟩:=ri
 obtain⟨its,n,r,ho,hz⟩:=I.lst hp
 obtain⟨h1,h2,h3,h4⟩:=qE2 hj
 have hl:=r.length
 have hn:=wT
 have I':Inv X pins σ (upd H p (.lst (xs.set j v))) {s with heap:=s.heap.update p (Obj.mapSeq (·.setIfInBounds j u))}:=
  I.lstUpd hp ho (qDo its n j u) (r.set rv j) (by rw [List.length_set];exact hz) s.toks
 by_cases h0:0≤k
 · have hk:k.toNat=j:=by
    rw [seqIndex_of h0 h4] at h1
    exact Option.some.inj h1
   exact PySem.W.ki_setAt ho h0 (by omega) (by rw [List.size_toArray,← hl];exact h4) (by rw [hk];exact⟨_,I',q⟩)
 · have hk:(k+(its.toArray.size:Int)).toNat=j:=by
    rw [seqIndex_neg (by omega) h3] at h1
    rw [List.size_toArray,← hl]
    exact Option.some.inj h1
   exact PySem.W.ki_setBack ho (by omega) (by rw [List.size_toArray,← hl];exact h3) (by omega) (by rw [hk];exact⟨_,I',q⟩)
theorem qBp (lo hi:Option Int)(n:Nat):(sliceBounds lo hi none n).1=((HT.sIx n 0 lo:Nat):Int)∧(sliceBounds lo hi none n).2.1=((HT.sIx n n hi:Nat):Int)∧(sliceBounds lo hi none n).2.2=1:=by
 refine⟨?_,?_,rfl⟩
 · cases lo with
   | none=>simp [sliceBounds,HT.sIx]
   | some i=>
    simp only [sliceBounds,HT.sIx,Option.getD_none,show (1:Int) > 0 by decide,if_true]
    by_cases h:i < 0
    · simp only [h,if_true] <;> omega
    · simp only [h,if_false] <;> omega
 · cases hi with
   | none=>simp [sliceBounds,HT.sIx]
   | some i=>
    simp only [sliceBounds,HT.sIx,Option.getD_none,show (1:Int) > 0 by decide,if_true]
    by_cases h:i < 0
    · simp only [h,if_true] <;> omega
    · simp only [h,if_false] <;> omega
theorem ww (its:List Value)(lo hi:Option Int):slicePick its.toArray lo hi none=((its.drop (HT.sIx its.length 0 lo)).take (HT.sIx its.length its.length hi - HT.sIx its.length 0 lo)).toArray:=by
 obtain⟨h1,h2,h3⟩:=qBp lo hi its.toArray.size
 unfold slicePick
 rw [h1,h2,h3]
 simp only [sliceRange_one,pick_run,List.size_toArray] <;> rfl
inductive qM0 (K:PySem.W.Frag)(x:V)(lo:Option Int)(hi:Option Int)(H:Hp)(Q:VK):Prop
| mk a xs (_:x= .ref a) (_:SqL K H a xs) (_:∀ p,H p=none→Q (.ref p) (upd H p (.lst (qDl xs lo hi))))
theorem xF:SlR X (qM0 X.K):=by
 intro pins s σ H x v vl vu lo hi sl Q I rx hs pl pu h
 obtain⟨a,xs,rfl,hx,q⟩:=h
 cases rx
 obtain⟨its,r,ht,hz⟩:=I.list hx
 have hlen:=r.length
 refine⟨"list",_,slot_list_getitem.lookup,ht.isList.typeIs,?_⟩
 refine wpAny_getItem_list_slice ht.isList hs pl pu .none (by simp) ?_ (by rw [List.size_toArray] <;> omega)
 rw [ww,← hlen]
 refine⟨.ref s.heap.objs.size,_,I.laid (t':=s.toks) (o:=.lst (qDl xs lo hi)) (fun b ob q=>Heap.get?_push_of_some _ q) (Nat.le_refl _) ?_,rfl,q _ (I.hok.fresh (Nat.le_refl _))⟩
 exact⟨Nat.le_trans (qB4 xs lo hi) hz,_,0,(r.drop (HT.sIx xs.length 0 lo)).take (HT.sIx xs.length xs.length hi - HT.sIx xs.length 0 lo),Heap.get?_push_size _ rfl⟩
def kE:V→Bool
 | .non=>true
 | .bl _=>true
 | .int _=>true
 | .str _=>true
 | _=>false
def eqV:V→V→Bool
 | .non,.non=>true
 | .bl a,.bl b=>a == b
 | .bl a,.int b=>(if a then 1 else 0) == b
 | .int a,.bl b=>a == (if b then 1 else 0)
 | .int a,.int b=>a == b
 | .str a,.str b=>a == b
 | _,_=>false
theorem qEz {A:Around}{s:Shared}{y x:V}{u v:Value}(ry:RelV y u)(rx:RelV x v)(fy:kE y=true)(fx:kE x=true):SeqAt.EqAt A s u v (eqV y x):=by
 cases y with
 | non=>
  cases ry
  cases x with
  | non=>cases rx;exact SeqAt.EqAt.same _
  | bl b=>cases rx;exact SeqAt.EqAt.none_bool b
  | int b=>obtain⟨t,rfl⟩:=rx;exact SeqAt.EqAt.none_int b t
  | str b=>obtain⟨t,rfl⟩:=rx;exact SeqAt.EqAt.none_str b t
  | _=>exact absurd (show false=true from fx) Bool.false_ne_true
 | bl a=>
  cases ry
  cases x with
  | non=>cases rx;exact SeqAt.EqAt.bool_none a
  | bl b=>cases rx;exact SeqAt.EqAt.bool_bool a b
  | int b=>obtain⟨t,rfl⟩:=rx;exact SeqAt.EqAt.bool_int a b t
  | str b=>obtain⟨t,rfl⟩:=rx;exact SeqAt.EqAt.bool_str a b t
  | _=>exact absurd (show false=true from fx) Bool.false_ne_true
 | int a=>
  obtain⟨t',rfl⟩:=ry
  cases x with
  | non=>cases rx;exact SeqAt.EqAt.int_none a t'
  | bl b=>cases rx;exact SeqAt.EqAt.int_bool a t' b
  | int b=>obtain⟨t,rfl⟩:=rx;exact SeqAt.EqAt.int_int a t' b t
  | str b=>obtain⟨t,rfl⟩:=rx;exact SeqAt.EqAt.int_str a t' b t
  | _=>exact absurd (show false=true from fx) Bool.false_ne_true
 | str a=>
  obtain⟨t',rfl⟩:=ry
  cases x with
  | non=>cases rx;exact SeqAt.EqAt.str_none a t'
  | bl b=>cases rx;exact SeqAt.EqAt.str_bool a t' b
  | int b=>obtain⟨t,rfl⟩:=rx;exact SeqAt.EqAt.str_int a t' b t
  | str b=>obtain⟨t,rfl⟩:=rx;exact SeqAt.EqAt.str_str a t' b t
  | _=>exact absurd (show false=true from fx) Bool.false_ne_true
 | _=>exact absurd (show false=true from fy) Bool.false_ne_true
def eqU (x:V)(u:Value):Bool:=match u with
 | .none=>eqV .non x
 | .bool b=>eqV (.bl b) x
 | .int i _=>eqV (.int i) x
 | .str z _=>eqV (.str z) x
 | _=>false
theorem qG1 {x y:V}{u:Value}(r:RelV y u)(f:kE y=true):eqU x u=eqV y x:=by
 cases y with
 | non=>cases r;rfl
 | bl b=>cases r;rfl
 | int i=>obtain⟨t,rfl⟩:=r;rfl
 | str z=>obtain⟨t,rfl⟩:=r;rfl
 | _=>exact absurd (show false=true from f) Bool.false_ne_true
theorem qB5 {x:V}:∀ {xs:List V} {us:List Value},Vals xs us→xs.all kE=true→us.any (eqU x)=xs.any fun y=>eqV y x
 | _,_,.nil,_=>rfl
 | y::xs,u::us,.cons r t,f=>by
  rw [List.all_cons,Bool.and_eq_true] at f
  rw [List.any_cons,List.any_cons,qG1 r f.1,qB5 t f.2]
theorem wz {A:Around}{s:Shared}{x:V}{v:Value}(rx:RelV x v)(fx:kE x=true):∀ {xs:List V} {us:List Value},Vals xs us→xs.all kE=true→∀ u∈us,SeqAt.EqAt A s u v (eqU x u)
 | _,_,.nil,_=>fun u hu=>by cases hu
 | y::xs,u::us,.cons r t,f=>fun u' hu=>by
  rw [List.all_cons,Bool.and_eq_true] at f
  rcases List.mem_cons.mp hu with rfl | hu
  · rw [qG1 r f.1];exact qEz r rx f.1 fx
  · exact wz rx fx t f.2 u' hu
def inV (x:V)(xs:List V):Bool:=xs.any fun y=>eqV y x
inductive rIn (K:PySem.W.Frag)(neg:Bool)(x:V)(y:V)(H:Hp)(Q:VK):Prop
| mk p xs (_:y= .ref p) (_:(SqL K H p xs∨SqT K H p xs)) (_:kE x=true) (_:xs.all kE=true) (_:Q (.bl (if neg then !inV x xs else inV x xs)) H)
theorem qBm:OpR X (compareOp .In) (rIn X.K false):=by
 intro pins s σ H x y v u Q I rx ry h
 obtain⟨p,xs,rfl,hq,fx,fs,q⟩:=h
 cases ry
 rcases hq with hq | hq
 · obtain⟨its,r,pl,hz⟩:=I.list hq
   refine SeqAt.in_listAt (eqU x) pl.isList (fun w hw=>wz rx fx r fs w (by simpa using hw)) ⟨.bl _,H,I,rfl,?_⟩
   rw [show its.toArray.any (eqU x)=its.any (eqU x) by simp,qB5 r fs]
   exact q
 · obtain⟨its,r,pl,hz⟩:=I.tuple hq
   refine SeqAt.in_tupleAt (eqU x) pl (fun w hw=>wz rx fx r fs w (by simpa using hw)) ⟨.bl _,H,I,rfl,?_⟩
   rw [show its.toArray.any (eqU x)=its.any (eqU x) by simp,qB5 r fs]
   exact q
theorem qX:zX X (.builtin "len") (fun xs H Q=>∃ p ys,xs=[.ref p]∧(SqL X.K H p ys∨SqT X.K H p ys)∧Q (.int ys.length) H):=by
 intro pins s σ H xs us Q I r h
 obtain⟨p,ys,rfl,hq,q⟩:=h
 obtain⟨u,rfl,rx⟩:=vU r
 cases rx
 have hn:=wT
 rcases hq with hq | hq
 · obtain⟨its,r',pl,hz⟩:=I.list hq
   have hlen:=r'.length
   exact Calls.call_len_list pl.isList (by simp only [List.size_toArray] <;> omega) ⟨.int ys.length,H,I.tok _,⟨s.toks+1,by rw [List.size_toArray,hlen]⟩,q⟩
 · obtain⟨its,r',pl,hz⟩:=I.tuple hq
   have hlen:=r'.length
   exact len_tuple pl (by simp only [List.size_toArray] <;> omega) ⟨.int ys.length,H,I.tok _,⟨s.toks+1,by rw [List.size_toArray,hlen]⟩,q⟩
theorem jF:zX X (.builtin "len") (fun xs H Q=>∃ z,xs=[.str z]∧z.length≤sizeLine∧Q (.int z.length) H):=by
 intro pins s σ H xs us Q I r h
 obtain⟨z,rfl,hz,q⟩:=h
 obtain⟨u,rfl,t,rfl⟩:=vU r
 have hn:=wT
 exact len_str (by omega) ⟨.int z.length,H,I.tok _,⟨_,rfl⟩,q⟩
theorem qBn:zX X (.type "list") (fun xs H Q=>∃ p ys,xs=[.ref p]∧(SqL X.K H p ys∨SqT X.K H p ys)∧∀ l,H l=none→Q (.ref l) (upd H l (.lst ys))):=by
 intro pins s σ H xs us Q I r h
 obtain⟨p,ys,rfl,hq,q⟩:=h
 obtain⟨u,rfl,rx⟩:=vU r
 cases rx
 have fin:∀ (its:List Value),Vals ys its→ys.length≤sizeLine→∀ (h':Heap) (c':Nat),(∀ b o',s.heap.get? b=some o'→h'.get? b=some o')→
  h'.get? s.heap.objs.size=some {cls:=.type "list",dict:=none,data:=.seq its.toArray c',slots:=#[]}→EP X pins σ Q (.ref s.heap.objs.size) {s with heap:=h'}:=fun its r' hz h' c' kp e=>
  ⟨.ref s.heap.objs.size,_,I.laid (t':=s.toks) kp (Nat.le_refl _) (show ObjOk X.prog X.w _ h' _ (.lst ys) from ⟨hz,its,c',r',e⟩),rfl,q _ (I.hok.fresh (Nat.le_refl _))⟩
 rcases hq with hq | hq
 · obtain⟨its,r',pl,hz⟩:=I.list hq
   have hlen:=r'.length
   obtain⟨o,ho,hc,n,hd⟩:=pl.isList
   exact call_list_seq p (.inl rfl) ho hc hd (fun h' c' kp e=>fin its r' hz h' c' kp e) (by simp only [List.size_toArray] <;> omega)
 · obtain⟨its,r',pl,hz⟩:=I.tuple hq
   have hlen:=r'.length
   obtain⟨o,ho,hc,n,hd⟩:=pl
   exact call_list_seq p (.inr rfl) ho hc hd (fun h' c' kp e=>fin its r' hz h' c' kp e) (by simp only [List.size_toArray] <;> omega)
theorem wn:zX X (.type "tuple") (fun xs H Q=>∃ p ys,xs=[.ref p]∧((SqL X.K H p ys∧∀ l,H l=none→Q (.ref l) (upd H l (.tup ys)))∨(SqT X.K H p ys∧Q (.ref p) H))):=by
 intro pins s σ H xs us Q I r h
 obtain⟨p,ys,rfl,h⟩:=h
 obtain⟨u,rfl,rx⟩:=vU r
 cases rx
 rcases h with ⟨hq,q⟩ | ⟨hq,q⟩
 · obtain⟨its,r',pl,hz⟩:=I.list hq
   have hlen:=r'.length
   refine call_tuple_list pl.isList (fun h' kp=>?_) (by simp only [List.size_toArray] <;> omega)
   have I1:Inv X pins σ H {s with heap:=h'}:=I.kept (t':=s.toks) kp
   have I2:Inv X pins σ (upd H h'.objs.size (.tup ys)) {s with heap:=h'.push {cls:=.type "tuple",data:=.seq its.toArray}}:=
    I1.laid (t':=s.toks) (fun b o e=>Heap.get?_push_of_some _ e) (Nat.le_refl _) (show ObjOk X.prog X.w _ _ _ (.tup ys) from ⟨hz,its,r',IsTup.new _ _⟩)
   exact⟨.ref h'.objs.size,_,I2,rfl,q _ (I1.hok.fresh (Nat.le_refl _))⟩
 · obtain⟨its,r',pl,hz⟩:=I.tuple hq
   exact call_tuple_same pl ⟨.ref p,H,I,rfl,q⟩
def tyV (K:PySem.W.Frag)(T:String)(x:V)(H:Hp):Prop:=match x with
 | .str _=>T="str"
 | .int _=>T="int"
 | .ref p=>(T="list"∧∃ xs,SqL K H p xs)∨(T="tuple"∧∃ o,K.lookup p=some o∧o.cls= .type "tuple"∧o.dict=none)∨
  (T="dict"∧((∃ kvs,H p=some (.dK kvs))∨∃ kvs,H p=some (.dT kvs)))∨(T="set"∧∃ S n,H p=some (.set S n))
 | _=>False
theorem qG7 {pins:List (Addr × Obj)}{σ:St}{H:Hp}{s:Shared}{T:String}{x:V}{v:Value}(I:Inv X pins σ H s)(r:RelV x v)(ty:tyV X.K T x H):
 s.TypeIs v T∧∀ a,v= .ref a→∃ ob,s.heap.get? a=some ob∧ob.dict=none:=by
 cases x with
 | str z=>
  obtain⟨t,rfl⟩:=r
  cases (show T="str" from ty)
  exact⟨typeIs_str s z t,fun _ e=>nomatch e⟩
 | int i=>
  obtain⟨t,rfl⟩:=r
  cases (show T="int" from ty)
  exact⟨typeIs_int s i t,fun _ e=>nomatch e⟩
 | ref p=>
  cases r
  rcases ty with ⟨rfl,xs,hq⟩ | ⟨rfl,o,hk,hc,hd⟩ | ⟨rfl,hk⟩ | ⟨rfl,S,n,hk⟩
  · obtain⟨its,_,pl,_⟩:=I.list hq
    refine⟨pl.isList.typeIs,fun a e=>?_⟩
    cases e
    obtain⟨o,n,e,c,hd,_⟩:=pl
    exact⟨o,e,hd⟩
  · refine⟨⟨o,I.kIn p o hk,hc⟩,fun a e=>?_⟩
    cases e
    exact⟨o,I.kIn _ o hk,hd⟩
  · have z:∃ o,s.heap.get? p=some o∧o.ExactDict:=by
     rcases hk with ⟨kvs,hk⟩ | ⟨kvs,hk⟩
     · obtain⟨_,_,_,_,o,_,_,e,ex,_⟩:=I.hok p _ hk
       exact⟨o,e,ex⟩
     · obtain⟨_,_,_,_,o,_,_,e,ex,_⟩:=I.hok p _ hk
       exact⟨o,e,ex⟩
    obtain⟨o,e,ex⟩:=z
    refine⟨⟨o,e,ex.1⟩,fun a e2=>?_⟩
    cases e2
    exact⟨o,e,ex.2.1⟩
  · obtain⟨o,_,_,_,e,ex,_⟩:=I.hok p _ hk
    refine⟨⟨o,e,ex.1⟩,fun a e2=>?_⟩
    cases e2
    exact⟨o,e,ex.2.1⟩
 | _=>exact False.elim ty
def qMj (K:PySem.W.Frag)(T:String)(r:V→List V→Hp→VK→Prop)(to:TE):TE:=fun σ H Q=>to σ H fun x H1=>tyV K T x H1∧r x [] H1 Q
def tBM (K:PySem.W.Frag)(T:String)(r:V→List V→Hp→VK→Prop)(to:TE)(t:TA):TE:=fun σ H Q=>to σ H fun x H1=>tyV K T x H1∧t σ H1 fun xs H2=>r x xs H2 Q
variable {o e : Expr} {es : List Expr} {to : TE} {t : TA} {name : Str} {apos cpos : Pos} {T id : String} {r : V → List V → Hp → VK → Prop}
theorem qJ8 (pa:PlainAttrs T)(slot:Slot T name id)(hty:typeOf (.builtin id)=pure (.type "method_descriptor"))(hm:MtR X id r)(ho:PE X o to)
 (hbase:attributeBase o name X.env (eval o X.env)=eval o X.env:=by rfl) (hline:(apos.endLine == cpos.line)=true:=by rfl):PE X (.Call (.Attribute o name apos) [] [] cpos) (qMj X.K T r to):=by
 intro pins s σ H Q I h
 refine wpAny_Call_method0_late hbase hline (thn (ho pins s σ H _ I h) fun v s1 ⟨x,H1,I1,r1,ty,q1⟩=>?_)
 obtain⟨h1,h2⟩:=qG7 I1 r1 ty
 exact⟨T,id,pa,slot,hty,h1,h2,Calls.callWith_builtin rfl (PySem.evalArgs_none (hm pins s1 σ H1 x [] v [] Q I1 r1 .nil q1))⟩
theorem jt (pa:PlainAttrs T)(slot:Slot T name id)(hty:typeOf (.builtin id)=pure (.type "method_descriptor"))(hm:MtR X id r)(ho:PE X o to)(ha:PA X (e::es) t)
 (hbase:attributeBase o name X.env (eval o X.env)=eval o X.env:=by rfl)
 (hfew:((backTo cpos (starEach (e::es) X.env)).all (fun x=>!x.1) && (backToKw cpos (keywordEach [] X.env)).all (fun x=>x.1.isSome)
   && decide ((e::es).length+([]:List Keyword).length+(if ([]:List Keyword).isEmpty then 0 else 1) < 30))=true:=by rfl)
 (hline:(apos.endLine == cpos.line)=true:=by rfl) (hs:starEach (e::es) X.env=(false,eval e X.env)::starEach es X.env:=by rfl) (hplain:(backTo cpos (starEach es X.env)).any (·.1)=false:=by rfl):
 PE X (.Call (.Attribute o name apos) (e::es) [] cpos) (tBM X.K T r to t):=by
 intro pins s σ H Q I h
 refine wpAny_Call_method_late hbase hfew hline rfl (thn (ho pins s σ H _ I h) fun v s1 ⟨x,H1,I1,r1,ty,q1⟩=>?_)
 obtain⟨h1,h2⟩:=qG7 I1 r1 ty
 refine⟨T,id,pa,slot,hty,h1,h2,?_⟩
 have hA:=ha cpos pins s1 σ H1 _ I1 q1
 rw [hs] at hA ⊢
 refine Calls.callWith_builtin (by show (false || (backTo cpos (starEach es X.env)).any (·.1))=false;rw [hplain] <;> rfl) (Calls.evalArgs_plain ?_)
 exact thn hA fun us s2 ⟨vs,H2,I2,r2,q2⟩=>hm pins s2 σ H2 x vs v us Q I2 r1 r2 q2
end
end L2
namespace L2
open PySem PySem.Spec PyProof.Rows
def MtM (X:Cx)(id:String)(r:V→List V→Hp→VK→Prop):Prop:=
 ∀ (pins:List (Addr × Obj)) (s:Shared) (σ:St) (H:Hp) (x:V) (xs:List V) (v:Value) (us:List Value) (Q:VK),Inv X pins σ H s→RelV x v→Vals xs us→r x xs H Q→
  wpAny (model X.prog X.w) X.A (call (.builtin id) (v::us)) (EP X pins σ Q) X.xe s
theorem Vals.one:∀ {x:V} {us:List Value},Vals [x] us→∃ u,us=[u]∧RelV x u
 | _,_,.cons r .nil=>⟨_,rfl,r⟩
theorem Vals.zero:∀ {us:List Value},Vals [] us→us=[]
 | _,.nil=>rfl
theorem Vals.dropLast {xs:List V}{us:List Value}(h:Vals xs us):Vals xs.dropLast us.dropLast:=by
 induction h with
 | nil=>exact .nil
 | cons r t ih=>
  cases t with
  | nil=>exact .nil
  | cons q t'=>exact .cons r ih
theorem Vals.eraseIdx:∀ {xs:List V} {us:List Value} (i:Nat),Vals xs us→Vals (xs.eraseIdx i) (us.eraseIdx i)
 | _,_,_,.nil=>.nil
 | _,_,0,.cons _ t=>t
 | _,_,i+1,.cons r t=>.cons r (Vals.eraseIdx i t)
theorem Vals.reverse {xs:List V}{us:List Value}(h:Vals xs us):Vals xs.reverse us.reverse:=by
 induction h with
 | nil=>exact .nil
 | cons r t ih=>rw [List.reverse_cons,List.reverse_cons];exact Vals.append ih (.cons r .nil)
theorem qD2 {α:Type}(l:List α):l.eraseIdx (l.length - 1)=l.dropLast:=by
 induction l with
 | nil=>rfl
 | cons a r ih=>
  cases r with
  | nil=>rfl
  | cons b r=>
   have e:(a::b::r).length - 1=((b::r).length - 1)+1:=by
    have h1:(a::b::r).length=r.length+2:=rfl
    have h2:(b::r).length=r.length+1:=rfl
    omega
   rw [e,List.eraseIdx_cons_succ,ih]
   all_goals rfl
section
variable {X : Cx} {pins : List (Addr × Obj)} {σ : St} {H : Hp} {s : Shared} {l b : Addr} {xs ys zs : List V}
theorem Inv.lset {its its':List Value}{n:Nat}{f:Array Value→Array Value}{t':Nat}(I:Inv X pins σ H s)(hH:H l=some (.lst xs))
 (e:s.heap.get? l=some {cls:=.type "list",data:=.seq its.toArray n}) (hf:f its.toArray=its'.toArray) (hv:Vals ys its') (hz:ys.length≤sizeLine):
 Inv X pins σ (upd H l (.lst ys)) {s with heap:=s.heap.update l (Obj.mapSeq f),toks:=t'}:=by
 have q:=PySem.IsL.update e f
 rw [hf] at q
 refine I.write (x:=l) (e:=l) (by rw [hH];exact trivial) (.inl rfl) (fun b' u hb hu=>(Heap.get?_update_other s.heap (Obj.mapSeq f) (Ne.symm hb)).trans hu) ⟨_,q⟩ ?_
 exact⟨hz,its',_,hv,q⟩
theorem Inv.lnew {its:List Value}{t':Nat}(I:Inv X pins σ H s)(hv:Vals ys its)(hz:ys.length≤sizeLine):
 Inv X pins σ (upd H s.heap.objs.size (.lst ys)) {s with heap:=s.heap.push {cls:=.type "list",data:=.seq its.toArray},toks:=t'}:=
 I.laid (fun _ _ q=>Heap.get?_push_of_some _ q) (Nat.le_refl _) ⟨hz,its,0,hv,Heap.get?_push_size _ rfl⟩
theorem Inv.fresh (I:Inv X pins σ H s):H s.heap.objs.size=none:=I.hok.fresh (Nat.le_refl _)
theorem Inv.lstM (I:Inv X pins σ H s)(hH:H l=some (.lst xs)):xs.length≤sizeLine∧∃ (its:List Value) (n:Nat),Vals xs its∧xs.length=its.length∧s.heap.get? l=some {cls:=.type "list",data:=.seq its.toArray n}:=by
 obtain⟨z,its,n,r,e⟩:=I.hok l _ hH
 exact⟨z,its,n,r,r.length,e⟩
theorem qF5 {n:Nat}(h:n≤sizeLine):Builtin.List.listTooLong n=false:=by
 unfold Builtin.List.listTooLong
 exact decide_eq_false (by omega)
end
section
variable {X : Cx}
inductive qIe (x:V)(vs:List V)(H:Hp)(Q:VK):Prop
| mk l xs y (_:x= .ref l) (_:vs=[y]) (_:H l=some (.lst xs)) (_:xs.length < sizeLine) (_:Q .non (upd H l (.lst (xs++[y]))))
theorem xx:MtM X "list.append" qIe:=by
 intro pins s σ H x vs v us Q I rx rv h
 obtain⟨l,xs,y,rfl,rfl,hH,hz,q⟩:=h
 cases rx
 obtain⟨u,rfl,ru⟩:=rv.one
 obtain⟨z,its,n,r,hl,e⟩:=I.lstM hH
 refine call_meets F.slot_list_append ⟨_,e,rfl⟩ F.entry_list_append (F.args_list_append_2 _ _) (PySem.list_append l its.toArray n u (by rw [List.size_toArray];omega)) ⟨e,?_⟩
 refine⟨.non,_,I.lset (its':=its++[u]) hH e (by simp) (r.append (.cons ru .nil)) ?_,rfl,q⟩
 rw [List.length_append,List.length_singleton]
 omega
inductive qH6 (x:V)(vs:List V)(H:Hp)(Q:VK):Prop
| mk l b xs zs (_:x= .ref l) (_:vs=[.ref b]) (_:H l=some (.lst xs)) (_:H b=some (.lst zs)) (_:xs.length+zs.length≤sizeLine) (_:Q .non (upd H l (.lst (xs++zs))))
theorem mt_extend:MtM X "list.extend" qH6:=by
 intro pins s σ H x vs v us Q I rx rv h
 obtain⟨l,b,xs,zs,rfl,rfl,hH,hB,hz,q⟩:=h
 cases rx
 obtain⟨u,rfl,ru⟩:=rv.one
 cases ru
 obtain⟨z,its,n,r,hl,e⟩:=I.lstM hH
 obtain⟨z2,its2,n2,r2,hl2,e2⟩:=I.lstM hB
 have hsz:its.toArray.size+its2.toArray.size≤sizeLine:=by rw [List.size_toArray,List.size_toArray];omega
 have hlong:¬ (!its.toArray.isEmpty && Builtin.List.listTooLong (its.toArray.size+its2.toArray.size))=true:=by
  rw [qF5 hsz,Bool.and_false]
  exact Bool.false_ne_true
 refine call_meets F.slot_list_extend ⟨_,e,rfl⟩ F.entry_list_extend (F.args_list_extend_2 _ _)
  (AutoSeq1.list_extend_list_list_0 l its.toArray n b its2.toArray n2 hlong (by rw [List.size_toArray];omega) (by omega)) ⟨e,e2,?_⟩
 refine⟨.non,_,I.lset (its':=its++its2) hH e (by simp) (r.append r2) ?_,rfl,q⟩
 rw [List.length_append]
 omega
def qMk:V→List V→Hp→VK→Prop:=fun x vs H Q=>∃ l xs y,x= .ref l∧vs=[]∧H l=some (.lst xs)∧xs[xs.length - 1]? =some y∧Q y (upd H l (.lst xs.dropLast))
theorem qJv:MtM X "list.pop" qMk:=by
 intro pins s σ H x vs v us Q I rx rv h
 obtain⟨l,xs,y,rfl,rfl,hH,hy,q⟩:=h
 cases rx
 have hus:=rv.zero
 subst hus
 obtain⟨z,its,n,r,hl,e⟩:=I.lstM hH
 obtain⟨u,hu,ru⟩:=r.get hy
 have hy':its.toArray[its.toArray.size - 1]? =some u:=by
  show its.toArray[its.length - 1]? =some u
  rw [← Array.getElem?_toList,← hl]
  exact hu
 refine call_meets F.slot_list_pop ⟨_,e,rfl⟩ F.entry_list_pop (F.args_list_pop_1 _) (MeetsSeq.list_pop_last l its.toArray n u hy' (by rw [List.size_toArray];omega)) ⟨e,?_⟩
 refine⟨y,_,I.lset (its':=its.dropLast) hH e ?_ r.dropLast ?_,ru,q⟩
 · show its.toArray.eraseIdxIfInBounds (its.toArray.size - 1)=its.dropLast.toArray
   rw [List.size_toArray,List.eraseIdxIfInBounds_toArray,qD2]
 · rw [List.length_dropLast]
   omega
inductive qMa (x:V)(y:V)(H:Hp)(Q:VK):Prop
| mk l b xs zs (_:x= .ref l) (_:y= .ref b) (_:H l=some (.lst xs)) (_:H b=some (.lst zs)) (_:xs.length+zs.length≤sizeLine) (_:∀ p,H p=none→Q (.ref p) (upd H p (.lst (xs++zs))))
theorem kj:OpR X (binaryOp .Add) qMa:=by
 intro pins s σ H x y v u Q I rx ry h
 obtain⟨l,b,xs,zs,rfl,rfl,hH,hB,hz,q⟩:=h
 cases rx
 cases ry
 obtain⟨z,its,n,r,hl,e⟩:=I.lstM hH
 obtain⟨z2,its2,n2,r2,hl2,e2⟩:=I.lstM hB
 refine PySem.P.add_list e e2 ?_ (by rw [List.size_toArray,List.size_toArray];omega)
 have ea:its.toArray++its2.toArray=(its++its2).toArray:=by simp
 rw [ea]
 exact⟨.ref _,_,I.lnew (t':=s.toks) (r.append r2) (by rw [List.length_append];omega),rfl,q _ I.fresh⟩
end
section
variable {prog : Program} {w : World} {A : Around} {E : Value → Shared → Prop} {s : Shared}
end
section
variable {X : Cx}
end
end L2
namespace Att
open PySem PySem.W PySem.Calls PyProof.Rows
theorem vS {P:Params}{h:Heap}:∀ (ns:List Int) (vs:List Value),WellAll P h vs (ns.map WData.int)→IntsAre vs ns:=by
 intro ns
 induction ns with
 | nil=>
  intro vs w
  rw [List.map_nil] at w
  cases w
  exact .nil
 | cons n ns ih=>
  intro vs w
  rw [List.map_cons] at w
  cases w with
  | cons a b=>
   cases a
   exact .cons _ _ (ih _ b)
theorem qEx {l:OpenLaw}{n:Nat}(hn:l.most=some n){P:Params}{h:Heap}{args:List WData}{vals:List Value}
 (hpre:l.row.toRowW.claim.pre args=true) (hwl:WellAll P h vals args):
 ∃ a vs ns,vals=[Value.ref a]∧args=[WData.list (ns.map WData.int)]∧h.get? a=some {cls:=.type "list",data:=.seq vs.toArray}∧IntsAre vs ns∧ns.length≤n:=by
 have hsh:WShape.hasAll [] args [.list .int]=true:=(pre_splitW hpre).1
 have hc:l.pre.holds [] {args:=args}=true:=(pre_splitW hpre).2
 obtain⟨d,r,rfl,h1,h2⟩:=hasAllW_cons hsh
 obtain rfl:=hasAllW_nil h2
 obtain⟨xs,rfl,h3⟩:=hasW_list h1
 obtain⟨ns,rfl⟩:=items_int h3
 have hlen:ns.length≤n:=by
  unfold OpenLaw.pre at hc
  have h4:(WTm.not (.lt (.lit (.int (n:Int))) (.len (.arg 0)))).holds [] {args:=[.list (ns.map .int)]}=true:=by
   have h4:=(holds_andW hc).1
   rw [hn] at h4
   exact h4
  have h5:=condW_of h4 (w_not (w_lt w_lit (w_len_list (w_arg rfl))))
  rw [List.length_map] at h5
  refine Nat.le_of_not_lt fun q=>?_
  have q':(n:Int) < ((ns.length:Nat):Int):=by omega
  first
   | (rw [decide_eq_true q'] at h5;exact absurd h5 (by decide))
   | (simp at h5;omega)
 cases hwl with
 | cons w1 w2=>
  cases w2
  cases w1 with
  | list ho hall=>exact⟨_,_,ns,rfl,rfl,ho,vS ns _ hall,hlen⟩
theorem qFy (l:OpenLaw)(args:List WData):l.row.toRowW.claim.post args (.bool true) args=true:=
 postW_of (r:=l.row.toRowW) (X:=(true == true))
  (show WShape.has [] (.bool true) .bool=true by first | rfl | decide | simp [WShape.has,WShape.arms,WShape.armsAll])
  (show (WTm.eq .res (.lit (.bool true))).value [] {args:=args,res:=some (.bool true),after:=args}=some (.bool (true == true)) from w_eq_bool (w_res rfl) w_lit) rfl
theorem attach_call {l:OpenLaw}{n:Nat}{q:Program}{loose:List Str}{XP:(Str→Option Value)→Heap→Prop}{YP:World→Heap→Prop}{d:DefRec}
 (hn:l.most=some n) (hdf:d.params.defaults=[])
 (call:∀ (w:World) (s₀ s₁:Shared) (mg mb:Str→Option Value) (fa:Addr) (o:Obj) (pm cd doc:Value) (a:Addr) (vs:List Value) (ns:List Int),
   Ground q loose [] XP w s₀ mg mb s₁.heap→YP w s₁.heap→
   s₁.heap.get? fa=some o→o.data= .func (docDef d.name d.params d.body d.scope pm cd doc)→s₁.heap.CodeRec cd d.name→mg d.name=some (.ref fa)→
   s₁.heap.get? a=some {cls:=.type "list",data:=.seq vs.toArray}→IntsAre vs ns→ns.length≤n→s₁.gens=#[]→
   codeAny (model l.prog w) callerA (.call (.ref fa) ⟨[.ref a],[]⟩) (fun r s'=>r= .ok (.ret (.bool true))∧OldK s₁.heap s'.heap∧s'.os=s₁.os∧AllBare s'.gens) s₁):
 WalkO q loose XP YP l.row.toRowW d [] (fun f vs=>PySem.call f vs):=by
 intro w s₀ s₁ mg mb G Y fa o pm cd doc dV kV ho hd hcd hD hmg hg args vals as hpre hlay hrd hwl hlo
 obtain rfl:dV= .none:=Dflts.none hD hdf
 obtain rfl:kV= .none:=Dflts.noKw hD
 obtain⟨a,vs,ns,rfl,rfl,hobj,hints,hlen⟩:=qEx hn hpre hwl
 refine enter_call (codeAny_mono (call w s₀ s₁ mg mb fa o pm cd doc a vs ns G Y ho (fd_plain hd) hcd hmg hobj hints hlen hg) fun r s' hq=>?_)
 obtain⟨rfl,h2,h3,h4⟩:=hq
 exact⟨.inl ⟨.bool true,.bool true,[],rfl,fun _=>rfl,.bool true,qFy l _,fun _=>⟨List.Pairwise.nil,fun _ hm=>(nomatch hm)⟩⟩,h2,h3,h4⟩
section
variable {prog : Program} {w : World} {A : Around} {E : Value → Shared → Prop} {s : Shared} {K : Frag}
def ledger (h:Heap)(L d:Addr):List (Addr × Obj):=(List.range h.objs.size).filterMap fun a=>if a=L∨a=d then none else (h.get? a).map fun o=>(a,o)
end
end Att
namespace L2
open PySem PySem.Spec PyProof.Rows
theorem qA8:∀ {vs:List Value} {ns:List Int},IntsAre vs ns→Vals (ns.map V.int) vs
 | _,_,.nil=>.nil
 | _,_,.cons n t h=>.cons ⟨t,rfl⟩ (qA8 h)
def qLd (H:Hp):Prop:=∀ b,H b=none∨∃ o xs,H b=some (.frz o (.lst xs))
theorem qGj {P:Program}{w:World}{K:PySem.W.Frag}{mg mb:Str→Option Value}{CX:CXT}{k:Nat}{fa a:Addr}{fd:FuncData}{x:Str}{sp:Sp}{s₁:Shared}{vs:List Value}{ns:List Int}
 (KX:K.In s₁.heap) (hns:s₁.heap.Ns mainGlobals mg) (hb:s₁.heap.Ns builtinsNs mb) (hbb:∀ x:Str,x≠"__name__"→mb x=bootBuiltins x) (hlim:s₁.heap.NoLimit) (hg:s₁.gens=#[])
 (ha:s₁.heap.get? a=some {cls:=.type "list",data:=.seq vs.toArray}) (hi:IntsAre vs ns) (hl:ns.length≤sizeLine) (hr:Room k callerA)
 (F:∀ base:Heap,K.In base→base.Ns mainGlobals mg→FnOk P w K mg base CX k fa fd [x] sp) (hbind:∀ (s:Shared) (u:Value),BindsTo s fd ⟨[u],[]⟩ [(x,u)])
 (hsp:∀ H:Hp,qLd H→SqL K H a (ns.map V.int)→sp [.ref a] H (fun v _=>v= .bl true) fun _ _ _=>False)
 (hCX:∀ H e s',CX [] H s₁ (fun _ _ _=>False) e s'→False):
 codeAny (model P w) callerA (.call (.ref fa) ⟨[.ref a],[]⟩) (fun r s'=>r= .ok (.ret (.bool true))∧OldK s₁.heap s'.heap∧s'.os=s₁.os∧AllBare s'.gens) s₁:=by
 have rv:=qA8 hi
 have lenV:=hi.length
 have core:∀ H:Hp,qLd H→SqL K H a (ns.map V.int)→HOk P w H s₁.heap→(∀ b,H b≠none→b=a)→(H a≠none→K.lookup a=none)→
  codeAny (model P w) callerA (.call (.ref fa) ⟨[.ref a],[]⟩) (fun r s'=>r= .ok (.ret (.bool true))∧OldK s₁.heap s'.heap∧s'.os=s₁.os∧AllBare s'.gens) s₁:=by
  intro H hO hS hok hA hK
  have base_of:∀ {b:Addr} {o:Obj},s₁.heap.get? b=some o→H b=none→(qGu s₁.heap H).get? b=some o:=fun e n=>qGg e n
  have noA:∀ {b:Addr} {o:Obj} {es:Array DictEntry} {ep:Nat},s₁.heap.get? b=some o→o.data= .dict es ep→H b=none:=fun {b o es ep} e d=>by
   cases q:H b with
   | none=>rfl
   | some u=>
    have e':b=a:=hA b (by rw [q];simp)
    subst e'
    rw [ha] at e;cases e
    have d':Data.seq vs.toArray _=Data.dict es ep:=d
    cases d'
  have nsK:∀ {b:Addr} {m:Str→Option Value},s₁.heap.Ns b m→(qGu s₁.heap H).Ns b m:=fun {b m} ⟨o,es,ep,e,d,r⟩=>⟨o,es,ep,base_of e (noA e d),d,r⟩
  have hKb:K.In (qGu s₁.heap H):=fun b o e=>base_of (KX b o e) (by
   cases q:H b with
   | none=>rfl
   | some u=>
    have e':b=a:=hA b (by rw [q];simp)
    subst e'
    rw [hK (by rw [q];simp)] at e;cases e)
  have hM:Mod K mg (qGu s₁.heap H):=⟨hKb,nsK hns,⟨mb,nsK hb,hbb⟩,let ⟨mc,h1,h2⟩:=hlim;⟨mc,nsK h1,h2⟩⟩
  have e0:qKq P w K mg (qGu s₁.heap H) callerA [] s₁ H:=⟨rfl,hM,fun b o e=>qHv e,Nat.le_of_eq (qEs _ _),trivial,fun b hb=>absurd (show b∈([]:List Addr) from hb) (by simp),hok,.of_eq hg⟩
  refine codeAny_mono ((F _ hKb (nsK hns)).run callerA [] s₁ H ⟨[.ref a],[]⟩ [.ref a] [.ref a] _ _ hr e0 (hbind s₁ (.ref a)) (.cons rfl .nil) (hsp H hO hS)) fun r s' h=>?_
  cases r with
  | error e=>exact(hCX H e s' h).elim
  | ok fl=>
   cases fl with
   | next=>exact False.elim h
   | brk=>exact False.elim h
   | cont=>exact False.elim h
   | ret u=>
    obtain⟨v,H',os,bare,un,hok',r',q⟩:=h
    have q':v= .bl true:=q
    subst q'
    obtain rfl:u=Value.bool true:=r'
    refine⟨rfl,OldK.of_keep fun b o e=>?_,os,bare⟩
    cases q:H b with
    | none=>exact un.keep b o e q (by intro z;exact absurd (show b∈([]:List Addr) from z) (by simp)) (by simp)
    | some u=>
     rcases hO b with z | ⟨ob,xs,z⟩
     · rw [q] at z;cases z
     · have z2:=un.frzs b ob _ z
       obtain⟨e1,_⟩:=hok b _ z
       obtain⟨e2,_⟩:=hok' b _ z2
       rw [e] at e1;cases e1
       exact e2
 cases hk:K.lookup a with
 | some o=>
  have e:=KX a o hk
  rw [ha] at e
  cases e
  refine core (fun _=>none) (fun _=>.inl rfl) (.inr ⟨_,vs.toArray,_,hk,rfl,rfl,rfl,by rw [List.size_toArray,lenV];exact hl,by simpa using rv⟩) (fun b u z=>by have z':(none:Option HO)=some u:=z;cases z') (fun b z=>absurd rfl z) fun z=>absurd rfl z
 | none=>
  refine core (fun b=>if b=a then some (.frz {cls:=.type "list",data:=.seq vs.toArray} (.lst (ns.map V.int))) else none) (fun b=>?_) (.inl (.inr ⟨{cls:=.type "list",data:=.seq vs.toArray},if_pos rfl⟩)) (fun b u z=>?_) (fun b z=>?_) fun _=>hk
  · by_cases hb:b=a
    · exact .inr ⟨_,_,if_pos hb⟩
    · exact .inl (if_neg hb)
  · by_cases hb:b=a
    · have z':=(if_pos hb).symm.trans z
      cases z'
      subst hb
      exact⟨ha,by rw [List.length_map];exact hl,vs,_,rv,ha⟩
    · have z':=(if_neg hb).symm.trans z
      cases z'
  · by_cases hb:b=a
    · exact hb
    · exact absurd (if_neg hb) z
end L2
namespace L2
open PySem PySem.Spec PyProof.Rows
theorem walk_of {l:PySem.W.OpenLaw}{n k:Nat}{q:Program}{loose:List Str}{XP:(Str→Option Value)→Heap→Prop}{YP:World→Heap→Prop}{d:DefRec}{K:Params→PySem.W.Frag}{CX:World→CXT}{sp:World→Sp}{x:Str}
 (hn:l.most=some n) (hn2:n≤sizeLine) (hdf:d.params.defaults=[]) (hr:Room k callerA)
 (hY:∀ (w:World) (h:Heap),YP w h→(K w.params).In h)
 (F:∀ (w:World) (mg:Str→Option Value) (fa:Addr) (h:Heap),(K w.params).In h→h.Ns mainGlobals mg→mg d.name=some (.ref fa)→
   ∃ fd:FuncData,(∀ (s:Shared) (u:Value),BindsTo s fd ⟨[u],[]⟩ [(x,u)])∧
    ∀ base:Heap,(K w.params).In base→base.Ns mainGlobals mg→FnOk l.prog w (K w.params) mg base (CX w) k fa fd [x] (sp w))
 (hsp:∀ (w:World) (H:Hp) (a:Addr) (ns:List Int),ns.length≤n→qLd H→SqL (K w.params) H a (ns.map V.int)→sp w [.ref a] H (fun v _=>v= .bl true) fun _ _ _=>False)
 (hCX:∀ (w:World) (H:Hp) (s:Shared) (e:Value) (s':Shared),CX w [] H s (fun _ _ _=>False) e s'→False):
 PySem.W.WalkO q loose XP YP l.row.toRowW d [] (fun f vs=>PySem.call f vs):=by
 refine Att.attach_call hn hdf fun w s₀ s₁ mg mb fa o pm cd doc a vs ns G Y ho hd hcd hmg hobj hints hlen hg=>?_
 have KX:=hY w _ Y
 obtain⟨fd,hb,hF⟩:=F w mg fa _ KX G.T.g hmg
 exact qGj KX G.T.g G.T.b G.T.builtins G.T.nolimit hg hobj hints (Nat.le_trans hlen hn2) hr hF hb (fun H hO hS=>hsp w H a ns hlen hO hS) fun H e s'=>hCX w H s₁ e s'
end L2
namespace L2
open PySem PySem.Spec PyProof.Rows
def zc (s:Stmt):Arguments:=match s with
 | .FunctionDef _ a _ _ _ _ _ _ _ _=>a
 | _=>{posonlyargs:=[],args:=[],vararg:=none,kwonlyargs:=[],kw_defaults:=[],kwarg:=none,defaults:=[]}
def xY (s:Stmt):List Stmt:=match s with
 | .FunctionDef _ _ b _ _ _ _ _ _ _=>b
 | _=>[]
def qI (s:Stmt):Scope:=match s with
 | .FunctionDef _ _ _ _ _ _ sc _ _ _=>sc
 | _=>{kind:=.function,names:=[],isGenerator:=false,isCoroutine:=false}
abbrev CX0:CXT:=fun _ _ _ _ _ _=>False
abbrev E0:XK:=fun _ _ _=>False
theorem qLc {X:Cx}:qBz CX0 X E0:=fun _ _ _ _ _ _ _ h=>h.elim
structure Fun (K:PySem.W.Frag)(x qual:Str)(st:Stmt)(f:Addr)(fd:FuncData):Prop where
 ex:∃ (oc:Value) (od:Option Addr) (kV doc pm:Value) (an:Option Addr) (cdv ct:Value) (osl:Array (Option Value)),
  fd=PySem.W.fnOf x qual (zc st) (xY st) (qI st) .none kV doc pm an cdv ct∧K.lookup f=some ⟨oc,od,.func fd,osl⟩∧PySem.W.codeIn K cdv qual=true
 kp:PySem.W.keepIn K (.ref f)=true
section
variable {P : Program} {w : World} {K : PySem.W.Frag} {mg : Str → Option Value} {base : Heap}
theorem Fun.ok {x qual:Str}{st:Stmt}{f:Addr}{fd:FuncData}{N ps:List Str}{k:Nat}{sp:Sp}(F:Fun K x qual st f fd)(S:qQ N ps (qI st))(len:∀ vs H Q E,sp vs H Q E→vs.length=ps.length)
 (hbody:∀ (cdv:Value) (A:Around) (outer:List Env) (s:Shared) (H:Hp) (vs:List V) (Q:VK) (E:XK),Room k (A.deeper (envOfC qual (qI st) s.heap.objs.size f cdv))→sp vs H Q E→
   ∃ t,PSs (qF0 CX0 P w K mg base N qual (qI st) f cdv A outer s H E).nox (xY st) t∧t {nx:=fun _ H'=>Q .non H',rt:=Q} (qAn N vs) H):FnOk P w K mg base CX0 (k+1) f fd ps sp:=by
 obtain⟨oc,od,kV,doc,pm,an,cdv,ct,osl,rfl,lk,hcd⟩:=F.ex
 refine qI3 lk hcd S len fun A outer s H vs Q E hr hsp=>?_
 obtain⟨t,h,q⟩:=hbody cdv A outer s H vs Q E hr hsp
 exact⟨t,h.nox,q⟩
theorem Fun.binds {x qual:Str}{st:Stmt}{f:Addr}{fd:FuncData}{ps:List Str}(F:Fun K x qual st f fd)
 (h:∀ (kV doc pm:Value) (an:Option Addr) (cdv ct:Value) (us:List Value),us.length=ps.length→bindArgs (PySem.W.fnOf x qual (zc st) (xY st) (qI st) .none kV doc pm an cdv ct) ⟨us,[]⟩=pure (ps.zip us)):Binds K fd ps []:=by
 obtain⟨oc,od,kV,doc,pm,an,cdv,ct,osl,rfl,lk,hcd⟩:=F.ex
 exact .all (h kV doc pm an cdv ct)
theorem qJg {x qual:Str}{st:Stmt}{f:Addr}{oc:Value}{od an:Option Addr}{osl:Array (Option Value)}{kV doc pm cdv ct:Value}(l:K.lookup f=some ⟨oc,od,.func (PySem.W.fnOf x qual (zc st) (xY st) (qI st) .none kV doc pm an cdv ct),osl⟩)
 (c:PySem.W.codeIn K cdv qual=true) (k:PySem.W.keepIn K (.ref f)=true):Fun K x qual st f (PySem.W.fnOf x qual (zc st) (xY st) (qI st) .none kV doc pm an cdv ct):=⟨⟨oc,od,kV,doc,pm,an,cdv,ct,osl,rfl,l,c⟩,k⟩
end
theorem qEf {n:Nat}(h:n≤1000):n < sizeLine:=Nat.lt_of_le_of_lt h (by decide)
section
variable {X : Cx}
theorem pv (i:Nat){x:Str}{pos:Pos}(hN:X.N[i]? =some x:=by rfl)(hv:Vis X.env.scope x:=by first | exact Or.inl rfl | exact Or.inr (Or.inl rfl) | exact Or.inr (Or.inr rfl))(hd:(x == ("__debug__":Str))=false:=by decide)
 (hcd:(x == ("__classdict__":Str))=false:=by decide):PE X (.Name x pos) (qI9 i):=qJe hN hv hd hcd
end
theorem ql {A B:Prop}(h:B):if false=true then A else B:=by
 rw [if_neg Bool.false_ne_true]
 exact h
theorem qt {A B:Prop}(h:A):if true=true then A else B:=by
 rw [if_pos rfl]
 exact h
theorem qAy {c A B:Prop} [Decidable c] (h1:c→A)(h2:¬ c→B):if c then A else B:=by
 by_cases h:c
 · rw [if_pos h]
   exact h1 h
 · rw [if_neg h]
   exact h2 h
def Same (H H':Hp):Prop:=∀ b o,H b=some o→H' b=some o
theorem Same.refl (H:Hp):Same H H:=fun _ _ h=>h
theorem Same.trans {H H1 H2:Hp}(a:Same H H1)(b:Same H1 H2):Same H H2:=fun c o h=>b c o (a c o h)
theorem Same.free {H H':Hp}(e:Same H H'){l:Addr}(h:H' l=Option.none):H l=Option.none:=by
 cases q:H l with
 | none=>rfl
 | some o=>
  rw [e l o q] at h
  cases h
theorem Same.seq {K:PySem.W.Frag}{H H':Hp}{a:Addr}{xs:List V}(e:Same H H')(h:SqL K H a xs):SqL K H' a xs:=by
 rcases h with (h | ⟨o,h⟩) | h
 · exact .inl (.inl (e _ _ h))
 · exact .inl (.inr ⟨o,e _ _ h⟩)
 · exact .inr h
end L2
namespace L2
open PySem PySem.Spec PyProof.Rows
section
variable {κ : Type} [DecidableEq κ]
def qFz (kvs:List (κ × V))(k:κ):Option V:=(kvs.find? fun kv=>decide (kv.1=k)).map (·.2)
def qLj (kvs:List (κ × V))(k:κ)(v:V):List (κ × V):=
 if (kvs.any fun kv=>decide (kv.1=k))=true then kvs.map (fun kv=>if kv.1=k then (kv.1,v) else kv) else kvs++[(k,v)]
theorem qGi {p:κ × V}{r:List (κ × V)}{k:κ}(e:p.1=k):qFz (p::r) k=some p.2:=by simp [qFz,List.find?_cons,e]
theorem qGr {p:κ × V}{r:List (κ × V)}{k:κ}(e:¬ p.1=k):qFz (p::r) k=qFz r k:=by simp [qFz,List.find?_cons,e]
theorem RelO.isSome_eq {o:Option V}{u:Option Value}(r:RelO o u):o.isSome=u.isSome:=by
 cases o with
 | none=>cases u with
  | none=>rfl
  | some _=>exact(show False from r).elim
 | some _=>cases u with
  | none=>exact(show False from r).elim
  | some _=>rfl
theorem RelO.getD {o:Option V}{u:Option Value}{d:V}{d':Value}(r:RelO o u)(rd:RelV d d'):RelV (o.getD d) (u.getD d'):=by
 cases o with
 | none=>cases u with
  | none=>exact rd
  | some _=>exact(show False from r).elim
 | some _=>cases u with
  | none=>exact(show False from r).elim
  | some _=>exact r
theorem KV.val {kvs:List (κ × V)}{vs:List (κ × Value)}(r:KV kvs vs)(k:κ):RelO (qFz kvs k) (valueAt vs k):=by
 unfold KV at r
 induction r with
 | nil=>exact True.intro
 | @cons p q ps qs h t ih=>
  obtain⟨h1,h2⟩:=h
  by_cases e:p.1=k
  · have e':q.1=k:=h1.symm.trans e
    have b:valueAt (q::qs) k=some q.2:=by simp [valueAt,List.find?_cons,e']
    rw [qGi e,b];exact h2
  · have e':¬ q.1=k:=fun z=>e (h1.trans z)
    have b:valueAt (q::qs) k=valueAt qs k:=by simp [valueAt,List.find?_cons,e']
    rw [qGr e,b];exact ih
theorem KV.any {kvs:List (κ × V)}{vs:List (κ × Value)}(r:KV kvs vs)(k:κ):(kvs.any fun kv=>decide (kv.1=k))=vs.any fun kv=>decide (kv.1=k):=by
 unfold KV at r
 induction r with
 | nil=>rfl
 | cons h t ih=>rw [List.any_cons,List.any_cons,ih,h.1]
theorem KV.keys {kvs:List (κ × V)}{vs:List (κ × Value)}(r:KV kvs vs):kvs.map (·.1)=vs.map (·.1):=by
 unfold KV at r
 induction r with
 | nil=>rfl
 | cons h t ih=>rw [List.map_cons,List.map_cons,ih,h.1]
theorem KV.length {kvs:List (κ × V)}{vs:List (κ × Value)}(r:KV kvs vs):kvs.length=vs.length:=Paired.length r
end
abbrev KT (H:Hp):List (List Key × V)→List (List Key × Addr × Value)→Prop:=Paired fun p q=>p.1=q.1∧H q.2.1=some (.tup (p.1.map kV))∧RelV p.2 q.2.2
theorem KT.keeps {H H':Hp}{kvs:List (List Key × V)}{xs:List (List Key × Addr × Value)}(r:KT H kvs xs)(ht:∀ b ys,H b=some (.tup ys)→H' b=some (.tup ys)):KT H' kvs xs:=
 Paired.mapP r fun _ _ z=>⟨z.1,ht _ _ z.2.1,z.2.2⟩
section
variable {P : Program} {w : World} {H : Hp} {h : Heap} {a : Addr}
end
def DGet (H:Hp)(a:Addr)(y:V)(r:Option V):Prop:=
 (∃ kvs k,Rd H a (.dK kvs)∧y=kV k∧r=qFz kvs k)∨∃ kvs k b,Rd H a (.dT kvs)∧y= .ref b∧H b=some (.tup (k.map kV))∧r=qFz kvs k
def DPut (H:Hp)(a:Addr)(y v:V)(H':Hp):Prop:=
 (∃ kvs k,H a=some (.dK kvs)∧y=kV k∧kvs.length < sizeLine∧H'=upd H a (.dK (qLj kvs k v)))∨
 ∃ kvs k b,H a=some (.dT kvs)∧y= .ref b∧H b=some (.tup (k.map kV))∧kvs.length < sizeLine∧H'=upd H a (.dT (qLj kvs k v))
theorem DGet.k {H:Hp}{a:Addr}{kvs:List (Key × V)}{k:Key}(e:H a=some (.dK kvs)):DGet H a (kV k) (qFz kvs k):=.inl ⟨kvs,k,.inl e,rfl,rfl⟩
theorem DGet.t {H:Hp}{a b:Addr}{kvs:List (List Key × V)}{k:List Key}(e:H a=some (.dT kvs))(eb:H b=some (.tup (k.map kV))):DGet H a (.ref b) (qFz kvs k):=.inr ⟨kvs,k,b,.inl e,rfl,eb,rfl⟩
theorem DPut.k {H:Hp}{a:Addr}{kvs:List (Key × V)}{k:Key}{v:V}(e:H a=some (.dK kvs))(hl:kvs.length < sizeLine):DPut H a (kV k) v (upd H a (.dK (qLj kvs k v))):=.inl ⟨kvs,k,e,rfl,hl,rfl⟩
section
variable {X : Cx} {pins : List (Addr × Obj)} {σ : St} {H : Hp} {s : Shared} {a : Addr} {y v : V} {u r : Value} {o : Option V} {A : Around} {E : Value → Shared → Prop}
end
section
variable {X : Cx} {pins : List (Addr × Obj)} {σ : St} {H : Hp} {s : Shared} {a : Addr} {kvs : List (Key × V)} {k : Key} {u : Value} {A : Around} {E : Value → Shared → Prop}
end
def qL6 (i:Expr):Prop:=∀ ov iv,subscripted i false ov iv=operate [ov,iv] (getItem ov iv)
theorem qIs {prog:Program}{w:World}{A:Around}{E:Value→Shared→Prop}{s:Shared}{env:Env}{value slice:Expr}{pos:Pos}{T id:String}{Q:Value→Shared→Prop}
 (hl:typeLookup (.type T) "__getitem__"=pure (some (.builtin id))) (hs:qL6 slice)
 (h:wpAny (model prog w) A (eval value env) (fun o s₁=>wpAny (model prog w) A (eval slice env) (fun i s₂=>s₂.TypeIs o T∧wpAny (model prog w) A (getItem o i) Q E s₂) E s₁) E s):
 wpAny (model prog w) A (eval (.Subscript value slice pos) env) Q E s:=by
 refine Subscript_ (wpAny_mono h (fun o s₁ h₁=>wpAny_mono h₁ (fun i s₂ h₂=>?_) fun _ _ x=>x) fun _ _ x=>x)
 obtain⟨hT,h₂⟩:=h₂
 unfold subscriptTail
 refine wpAny_bind ?_
 rw [getitemInPython_of_ne hT.not_modules]
 refine wpAny_bind (wpAny_specialOf hT hl ?_)
 have fin:wpAny (model prog w) A (subscripted slice false o i) (fun r s₃=>wpAny (model prog w) A (letTemporaryGo value o r >>=fun _=>pure r) Q E s₃) E s₂:=by
  rw [hs o i]
  exact wpAny_operating (wpAny_mono h₂ (fun r s₃ h₃=>wpAny_bind (wpAny_letTemporaryGo (wpAny_pure h₃))) fun _ _ x=>x)
 first
  | exact wpAny_pure (wpAny_bind fin)
  | exact wpAny_bind (wpAny_pure (wpAny_bind fin))
  | exact wpAny_bind fin
section
variable {X : Cx} {o i e value : Expr} {pos pos' tpos : Pos} {td ty tv : TE}
end
section
variable {X : Cx} {pos : Pos}
end
structure M1 (X:Cx)(o:Expr)(m:Str)(apos:Pos)(e:Expr)(cpos:Pos):Prop where
 base:attributeBase o m X.env (eval o X.env)=eval o X.env
 few:((backTo cpos (starEach [e] X.env)).all (fun x=>!x.1) && (backToKw cpos (keywordEach [] X.env)).all (fun x=>x.1.isSome)
  && decide (([e]:List Expr).length+([]:List Keyword).length+(if ([]:List Keyword).isEmpty then 0 else 1) < 30))=true
 line:(apos.endLine == cpos.line)=true
 trees:backTo cpos (starEach [e] X.env)=[(false,eval e X.env)]
structure M2 (X:Cx)(o:Expr)(m:Str)(apos:Pos)(e f:Expr)(cpos:Pos):Prop where
 base:attributeBase o m X.env (eval o X.env)=eval o X.env
 few:((backTo cpos (starEach [e,f] X.env)).all (fun x=>!x.1) && (backToKw cpos (keywordEach [] X.env)).all (fun x=>x.1.isSome)
  && decide (([e,f]:List Expr).length+([]:List Keyword).length+(if ([]:List Keyword).isEmpty then 0 else 1) < 30))=true
 line:(apos.endLine == cpos.line)=true
 trees:backTo cpos (starEach [e,f] X.env)=[(false,eval e X.env),(false,eval f X.env)]
section
variable {X : Cx} {pins : List (Addr × Obj)} {σ : St} {H : Hp} {s : Shared} {a : Addr} {y d : V} {u r : Value} {o : Option V} {A : Around} {E : Value → Shared → Prop}
end
section
variable {X : Cx} {o e f : Expr} {apos cpos : Pos} {td ty tx : TE}
end
section
variable {X : Cx} {pins : List (Addr × Obj)} {σ : St} {H : Hp} {s : Shared} {a : Addr} {kvs : List (Key × V)} {A : Around} {E : Value → Shared → Prop}
end
section
variable {X : Cx} {pins : List (Addr × Obj)} {σ : St} {H : Hp} {s : Shared} {a : Addr} {y : V} {u : Value} {A : Around} {E : Value → Shared → Prop}
end
end L2
namespace Att
open PySem PySem.W PySem.Calls PyProof.Rows
section
variable {prog : Program} {w : World} {A : Around} {E : Value → Shared → Prop} {s : Shared} {K : Frag}
end
end Att
namespace L2
open PySem PySem.Spec PyProof.Rows
end L2
namespace L2
open PySem PySem.Spec PyProof.Rows
end L2
namespace L2
open PySem PySem.Spec PyProof.Rows
section
variable {P : Program} {w : World} {K : PySem.W.Frag} {mg : Str → Option Value} {base : Heap}
end
section
variable {X : Cx}
end
section
variable {κ : Type} [DecidableEq κ]
end
end L2
namespace Mt
theorem qHo (a b:Int):a.fmod b=a - b*a.fdiv b:=by
 have:=Int.fmod_add_mul_fdiv a b
 omega
theorem qCl (a b:Int):Int.gcd b (a.fmod b)=Int.gcd a b:=by
 apply Nat.dvd_antisymm
 · refine Int.dvd_gcd ?_ (Int.gcd_dvd_left b (a.fmod b))
   have h1:((Int.gcd b (a.fmod b):Nat):Int) ∣ b:=Int.gcd_dvd_left ..
   have h2:((Int.gcd b (a.fmod b):Nat):Int) ∣ a.fmod b:=Int.gcd_dvd_right ..
   have h3:=Int.dvd_add h2 (Int.dvd_trans h1 (Int.dvd_mul_right b (a.fdiv b)))
   have e:a.fmod b+b*a.fdiv b=a:=Int.fmod_add_mul_fdiv a b
   rwa [e] at h3
 · refine Int.dvd_gcd (Int.gcd_dvd_right ..) ?_
   rw [qHo]
   exact Int.dvd_sub (Int.gcd_dvd_left ..) (Int.dvd_trans (Int.gcd_dvd_right ..) (Int.dvd_mul_right ..))
theorem qE3 (a b:Int)(h:b≠0):(a.fmod b).natAbs < b.natAbs:=by
 rcases Int.lt_or_gt_of_ne h with h | h
 · have h1:=Int.fmod_lt_of_pos (-a) (show 0 < -b by omega)
   have h2:=Int.fmod_nonneg_of_pos (-a) (show 0 < -b by omega)
   rw [Int.neg_fmod_neg] at h1 h2
   omega
 · have h1:=Int.fmod_lt_of_pos a h
   have h2:=Int.fmod_nonneg_of_pos a h
   omega
def sg (t b:Int):Int:=if b < 0 then -((Int.gcd t b:Nat):Int) else ((Int.gcd t b:Nat):Int)
def qLy (t b:Int):Int:=t.fdiv (sg t b)
def qIq (t b:Int):Int:=b.fdiv (sg t b)
theorem qCe {t b:Int}(h:b≠0):0 < Int.gcd t b:=by
 rcases Nat.eq_zero_or_pos (Int.gcd t b) with z | z
 · rw [Int.gcd_eq_zero_iff] at z
   exact absurd z.2 h
 · exact z
theorem qGc (t b:Int):sg t b ∣ t:=by
 unfold sg;split
 · exact Int.neg_dvd.mpr (Int.gcd_dvd_left ..)
 · exact Int.gcd_dvd_left ..
theorem qGd (t b:Int):sg t b ∣ b:=by
 unfold sg;split
 · exact Int.neg_dvd.mpr (Int.gcd_dvd_right ..)
 · exact Int.gcd_dvd_right ..
theorem qG6 (t b:Int):(sg t b).natAbs=Int.gcd t b:=by
 unfold sg;split <;> omega
theorem qK8 (t b:Int):qLy t b*sg t b=t:=Int.fdiv_mul_cancel (qGc t b)
theorem qJ2 (t b:Int):qIq t b*sg t b=b:=Int.fdiv_mul_cancel (qGd t b)
theorem qHs {t b:Int}(h:b≠0):0 < qIq t b:=by
 have e:=qJ2 t b
 have g:=qCe (t:=t) h
 by_cases hb:b < 0
 · have s:sg t b= -((Int.gcd t b:Nat):Int):=by unfold sg;rw [if_pos hb]
   rw [s] at e
   rcases Int.lt_trichotomy (qIq t b) 0 with z | z | z
   · have:=Int.mul_pos_of_neg_of_neg z (show -((Int.gcd t b:Nat):Int) < 0 by omega)
     omega
   · rw [z] at e;omega
   · exact z
 · have s:sg t b=((Int.gcd t b:Nat):Int):=by unfold sg;rw [if_neg hb]
   rw [s] at e
   rcases Int.lt_trichotomy (qIq t b) 0 with z | z | z
   · have:=Int.mul_neg_of_neg_of_pos z (show 0 < ((Int.gcd t b:Nat):Int) by omega)
     omega
   · rw [z] at e;omega
   · exact z
theorem qGe {t b:Int}(h:b≠0):(qLy t b).natAbs≤t.natAbs:=by
 have e:=congrArg Int.natAbs (qK8 t b)
 rw [Int.natAbs_mul,qG6] at e
 have g:=qCe (t:=t) h
 rw [← e]
 exact Nat.le_mul_of_pos_right _ g
theorem qGf {t b:Int}(h:b≠0):(qIq t b).natAbs≤b.natAbs:=by
 have e:=congrArg Int.natAbs (qJ2 t b)
 rw [Int.natAbs_mul,qG6] at e
 have g:=qCe (t:=t) h
 have:=Nat.le_mul_of_pos_right (qIq t b).natAbs g
 omega
end Mt
namespace Mt
end Mt
namespace Mt
def plP (p q r s k:Int):Int:=qLy (p*s+k*r*q) (q*s)
def plQ (p q r s k:Int):Int:=qIq (p*s+k*r*q) (q*s)
theorem qI5 {p q r s k:Int}(hq:0 < q)(hs:0 < s):0 < plQ p q r s k:=qHs (Int.ne_of_gt (Int.mul_pos hq hs))
theorem qHm {p q r s k:Int}(hq:0 < q)(hs:0 < s):(plP p q r s k).natAbs≤(p*s+k*r*q).natAbs:=qGe (Int.ne_of_gt (Int.mul_pos hq hs))
theorem qH7 {p q r s k:Int}(hq:0 < q)(hs:0 < s):(plQ p q r s k).natAbs≤(q*s).natAbs:=qGf (Int.ne_of_gt (Int.mul_pos hq hs))
end Mt
namespace Mt
end Mt
namespace L3
open PySem PySem.Spec PyProof.Rows L2
def CMulB (i j:Int):Prop:=CMul i j∨(i.natAbs < 2 ^ 60000∧j.natAbs < 2 ^ 60000)
theorem zr {i:Int}(h:i.natAbs < 2 ^ 60000):Builtin.Int.intBits i≤2 ^ 20:=by
 unfold Builtin.Int.intBits
 split
 · exact Nat.zero_le _
 · rename_i h0
   have hz:i.natAbs≠0:=by
    intro z
    apply h0
    have:i=0:=by omega
    rw [this];rfl
   have:=(Nat.log2_lt hz).mpr h
   have e:(2:Nat) ^ 20=1048576:=by decide
   omega
theorem CMulB.ok {i j:Int}(h:CMulB i j):IntMulOk i j:=by
 rcases h with h | ⟨h1,h2⟩
 · exact h.ok
 · exact IntMulOk.of_bits (zr h1) (zr h2)
def CDivB (_ j:Int):Prop:=j≠0∧j.natAbs < 2 ^ 8000
theorem CDivB.ok {i j:Int}(h:CDivB i j):Builtin.divisionGoesByPylong i j=false:=by
 refine PyProof.noPylong_of_log2 ?_
 have hz:j.natAbs≠0:=by have:=h.1;omega
 have:=(Nat.log2_lt hz).mpr h.2
 omega
section
variable {X : Cx}
theorem kW:OpR X (binaryOp .Mult) (rI CMulB fun i j=>.int (i*j)):=opI fun _ _ _ _ _ _ _ hc q=>mul_int q hc.ok
theorem qv:OpR X (binaryOp .FloorDiv) (rI CDivB fun i j=>.int (i.fdiv j)):=opI fun _ _ _ _ _ _ _ hc q=>floordiv_int hc.1 q (.inl hc.ok)
theorem jV:zX X (.builtin "isinstance") (fun xs H Q=>∃ x c t b,xs=[x,c]∧vq X.K H x t∧
 (∃ n,c= .ty n∧PySem.W.kitOne X.K t (.type n)=some b∨∃ a,c= .ref a∧PySem.W.kitOne X.K t (.ref a)=some b)∧Q (.bl b) H):=by
 intro pins s σ H xs us Q I r h
 obtain⟨x,c,t,b,rfl,ty,hk,q⟩:=h
 obtain⟨u,u',rfl,rx,rc⟩:=qI0 r
 obtain⟨n,⟨rfl,e⟩ | ⟨a,rfl,e⟩⟩:=hk
 · cases rc
   exact qBr I rx ty e fun tk=>⟨.bl b,H,I.tok _,rfl,q⟩
 · cases rc
   exact qBr I rx ty e fun tk=>⟨.bl b,H,I.tok _,rfl,q⟩
end
def qS (X:Cx)(scope:Scope)(cl:List (Str × Addr))(C:Addr)(N:List Str)(s:Shared)(H:Hp)(fp:List Addr):Cx:=
 {X with N:=N,s₀:=s,H₀:=H,env:=compEnvC scope cl C X.env,outer:=X.stack,stack:=X.stack,ex:=fp,fn:=fun _=>false,pn:=[]}
def xZ (js:List Nat)(σ:L2.St):L2.St:=js.map fun j=>(σ[j]?).join
theorem wP {prog:Program}{w:World}{A:Around}{R:Result→Shared→Prop}{s0:Shared}{el tg src:Expr}{cs:List Expr}{sco:Scope}{po:Pos}{itv lst:Value}{en:Env}(J:Nat→Shared→Prop)
 (step:∀ k st,J k st→wpAny (model prog w) A (pyNext itv) (fun got s1=>match got with
   | none=>R (.ok .next) s1
   | some u=>wpAny (model prog w) A (letOwnedTupleGo tg itv u) (fun _ s1'=>wpAny (model prog w) A (assign tg en u) (fun _ s2=>
    wpAny (model prog w) A (forIn cs true fun c r=>if r=true then do let ok ← isTrue c en (eval c en);pure (ForInStep.yield ok) else pure (ForInStep.yield r)) (fun good s3=>
     if good=true then wpAny (model prog w) A (eval el en) (fun y s4=>
      wpAny (model prog w) A (call (.builtin "list.append") [lst,y]) (fun _ s5=>∃ j,j < k∧J j s5) (notedBy (model prog w) A en fun x z=>R (.error x) z) s4) (notedBy (model prog w) A en fun x z=>R (.error x) z) s3
     else ∃ j,j < k∧J j s3) (notedBy (model prog w) A en fun x z=>R (.error x) z) s2) (notedBy (model prog w) A en fun x z=>R (.error x) z) s1') (notedBy (model prog w) A en fun x z=>R (.error x) z) s1) (notedBy (model prog w) A en fun x z=>R (.error x) z) st)
 (k:Nat) (hJ:J k s0):codeAny (model prog w) A (.compLoop (.ListComp el [⟨tg,src,cs,0⟩] sco po) 0 itv lst en) R s0:=by
 refine codeAny_loop rfl J (fun k st hk=>?_) k hJ
 show wpAny _ A ((compTurn (.ListComp el [⟨tg,src,cs,0⟩] sco po) 0 itv lst en).onRaise (fun x=>do noteFrame x en;theTreesLotGoes x)) _ _ st
 refine wpAny_noted ?_
 rw [compTurn_list]
 refine wpAny_bind (wpAny_standAt (wpAny_bind (wpAny_mono (step k st hk) (fun got s1 g1=>?_) fun _ _ q=>q)))
 match got with
 | none=>exact wpAny_pure g1
 | some u=>
  refine wpAny_bind (wpAny_mono g1 (fun _ s1' g2=>?_) fun _ _ q=>q)
  refine wpAny_bind (wpAny_mono g2 (fun _ s2 g3=>wpAny_bind (wpAny_mono g3 (fun good s3 g4=>?_) fun _ _ q=>q)) fun _ _ q=>q)
  match good with
  | false=>exact wpAny_pure ⟨rfl,g4⟩
  | true=>
   refine wpAny_bind (wpAny_bind (wpAny_mono g4 (fun y s4 g5=>?_) fun _ _ q=>q))
   exact wpAny_bind (wpAny_mono g5 (fun _ s5 g6=>wpAny_pure (wpAny_pure ⟨rfl,g6⟩)) fun _ _ q=>q)
structure COk (X:Cx)(scope:Scope)(cl:List (Str × Addr))(iter:Expr)(xs ys:List Str)(js:List Nat):Prop where
 clos:closureFor scope X.env=pure cl
 cls:cl.map (fun p=>X.env.cells.lookup p.1)=cl.map (fun p=>some p.2)
 cell:(scope.names.all fun p=>p.2 != .cell)=true
 kind:scope.kind= .function
 names:(scope.names.all fun p=>p.2 != .local || scope.names.lookup p.1 == some .local)=true
 has:((relabel scope X.env).names.all fun p=>(p.2 != .cell && p.2 != .free) || (cl.lookup p.1).isSome)=true
 hjs:js.map (fun j=>X.N[j]?)=ys.map some
 hys:(ys.all fun y=>((relabel scope X.env).names.lookup y == some .cell || (relabel scope X.env).names.lookup y == some .free) && (X.env.scope.names.lookup y == some .cell || X.env.scope.names.lookup y == some .free))=true
 set:∀ x,foldedSetIterable iter X.env x=pure x
 nd:(xs++ys).Nodup
def PTs (X:Cx)(cs:List Expr)(t:TT):Prop:=
 ∀ (pins:List (Addr × Obj)) (s:Shared) (σ:L2.St) (H:Hp) (Q:Bool→Hp→Prop),Inv X pins σ H s→t σ H Q→wpAny (model X.prog X.w) X.A (forIn cs true fun c r=>if r=true then do let ok ← isTrue c X.env (eval c X.env);pure (ForInStep.yield ok) else pure (ForInStep.yield r)) (TP X pins σ Q) X.xe s
theorem wk {X:Cx}:PTs X [] fun _ H Q=>Q true H:=fun _ _ _ H _ I h=>wpAny_pure ⟨H,I,h⟩
theorem qIh {X:Cx}{c:Expr}{t:TT}(hc:PT X c t):PTs X [c] t:=fun pins s σ H Q I h=>by
 simp only [List.forIn_cons,List.forIn_nil,if_true]
 exact wpAny_bind (wpAny_bind (thn (hc pins s σ H Q I h) fun _ _ q=>wpAny_pure (wpAny_pure q)))
def jr (n:Nat)(js:List Nat)(g:TG)(tc:TT)(te:TE)(σ:L2.St)(Q:VK)(J:It)(H1:Hp):Prop:=∃ W:Nat→Nat→List V→Hp→Prop,(∃ m,W 0 m [] H1)∧∀ i m acc H2,W i m acc H2→
 acc.length < sizeLine∧((J.stop i H2∧∀ D,H2 D=none→Q (.ref D) (upd H2 D (.lst acc)))∨
  (J.go i H2∧∀ x H3,J.yld i H2 x H3→g x (List.replicate n none++xZ js σ) H3 fun σ' H4=>∃ vs:L2.St,σ'=vs++xZ js σ∧vs.length=n∧tc σ' H4 fun ok H5=>if ok=true then te σ' H5 fun v H6=>∃ m',m' < m∧W (i+1) m' (acc++[v]) H6 else ∃ m',m' < m∧W (i+1) m' acc H5))
theorem wR {X:Cx}{elt iter tg:Expr}{cs:List Expr}{scope:Scope}{cl:List (Str × Addr)}{pos:Pos}{wi:TI}{g:TG}{tc:TT}{te:TE}{xs ys:List Str}{js:List Nat}{E:It→Hp→Prop}
 (hcm:X.calm=true) (hi:PI X tg iter wi) (hg:∀ C s H fp,PG (qS X scope cl C (xs++ys) s H fp).nox tg g) (hc:∀ C s H fp,PTs (qS X scope cl C (xs++ys) s H fp).nox cs tc) (he:∀ C s H fp,PE (qS X scope cl C (xs++ys) s H fp).nox elt te)
 (hC:COk X scope cl iter xs ys js)
 {pins:List (Addr × Obj)} {s:Shared} {σ:L2.St} {H:Hp} (R:V→Hp→Prop) (use:Option (Value→Sem Unit)) (Q:Value→Shared→Prop) (I:Inv X pins σ H s) (h:wi σ H E) (hE:∀ J H1,E J H1→jr xs.length js g tc te σ R J H1)
 (fin:∀ (v:V) (u:Value) (H':Hp) (s':Shared) (C:Addr),Inv X pins σ H' s'→RelV v u→R v H'→(∃ m,s'.heap.Ns C m)→H' C=none→C≠X.env.locals→X.s₀.heap.objs.size≤C→(∀ y c,X.env.cells.lookup y=some c→c≠C)→(∀ p∈X.pn++pins,p.1≠C)→
   compPost (model X.prog X.w) X.A X.xe use Q u C (.ok .next) s'):
 wpAny (model X.prog X.w) X.A (comprehension (.ListComp elt [⟨tg,iter,cs,0⟩] scope pos) scope X.env (firstIterPos [⟨tg,iter,cs,0⟩] pos) (newList []) false (eval iter X.env) use) Q X.xe s:=by
 obtain⟨hclos,hcl,hcell,hkind,hnames,hhas,hjs,hys,hs,hnd⟩:=hC
 have hcell':∀ y∈scope.names,y.2≠ .cell:=fun y hy=>by
  have:=List.all_eq_true.mp hcell y hy
  simpa using this
 have hnm:∀ y∈scope.names,y.2= .local→scope.names.lookup y.1=some .local:=fun y hy e=>by
  have:=List.all_eq_true.mp hnames y hy
  rw [e] at this
  simpa using this
 have clX:∀ y c,cl.lookup y=some c→X.env.cells.lookup y=some c:=fun y c e=>by
  have hm:=PySem.mem_of_lookup e
  obtain⟨k,hk,e2⟩:=List.mem_iff_getElem.mp hm
  have:=congrArg (fun l=>l[k]?) hcl
  simp only [List.getElem?_map,List.getElem?_eq_getElem hk,Option.map_some,e2] at this
  exact Option.some.inj this
 have has:∀ y,((relabel scope X.env).names.lookup y=some .cell∨(relabel scope X.env).names.lookup y=some .free)→∃ c,cl.lookup y=some c:=fun y hy=>by
  have key:∀ k:NameKind,(k= .cell∨k= .free)→(relabel scope X.env).names.lookup y=some k→∃ c,cl.lookup y=some c:=fun k hk e=>by
   have:=List.all_eq_true.mp hhas _ (PySem.mem_of_lookup e)
   rcases hk with rfl | rfl <;> exact Option.isSome_iff_exists.mp (by simpa using this)
  rcases hy with e | e
  · exact key _ (.inl rfl) e
  · exact key _ (.inr rfl) e
 refine wpAny_comprehension_free (use:=use) rfl hs hclos hkind hnm (thn (hi pins s σ H _ I h) fun v s1 h1=>thn h1 fun itv s2 h2=>?_)
 obtain⟨it,fp,tn,J,H2,e,I2,T,st2,f2,hw⟩:=h2
 obtain⟨W,⟨m0,w0⟩,turn⟩:=hE J H2 hw
 subst e
 refine wpAny_newObj_type (wpAny_newFunctionEnv hcell' (by intro y hy;simp at hy) (fun h₁ hns hsb=>?_) hkind)
 dsimp only at hns hsb ⊢
 generalize hG:s2.heap.push {cls:=.type "list",dict:=none,data:=.seq ([]:List Value).toArray}=G at hns hsb ⊢
 have szG:G.objs.size=s2.heap.objs.size+1:=by rw [← hG,Heap.size_push]
 have inG:∀ b o,s2.heap.get? b=some o→G.get? b=some o:=fun b o e=>hG ▸ Heap.get?_push_of_some _ e
 have ltC:∀ b o,s2.heap.get? b=some o→b≠G.objs.size:=fun b o e=>by rw [szG];exact Nat.ne_of_lt (Nat.lt_succ_of_lt (Heap.lt_size e))
 have ltD:∀ b o,s2.heap.get? b=some o→b≠s2.heap.objs.size:=fun b o e=>Nat.ne_of_lt (Heap.lt_size e)
 have DC:s2.heap.objs.size≠G.objs.size:=by rw [szG];omega
 have old:∀ b o,s2.heap.get? b=some o→h₁.get? b=some o:=fun b o e=>hsb.extBut b o (ltC b o e) (Heap.get?_push_of_some _ (inG b o e))
 have hacc:h₁.PlainList s2.heap.objs.size #[]:=⟨_,hsb.extBut _ _ DC (Heap.get?_push_of_some _ (hG ▸ Heap.get?_push_size _ rfl))⟩
 have fpO:∀ b∈fp,∃ o,s2.heap.get? b=some o:=fun b hb=>let ⟨o,e,_⟩:=T.obj 0 _ st2 b hb;⟨o,e⟩
 have stkO:∀ b∈frs X.stack,∃ o,s2.heap.get? b=some o:=fun b hb=>by
  obtain⟨_,o,ho,_⟩:=I2.stack.mem hb
  exact⟨o,ho⟩
 have freshH:∀ a,s2.heap.objs.size≤a→H2 a=none:=fun a ha=>I2.hok.fresh ha
 have stkFp:∀ b∈fp,b ∉ frs X.stack:=fun b hb z=>by
  rcases List.mem_cons.mp (I2.stkSub b z) with q | q
  · exact(f2 b hb).2.1 q
  · exact(f2 b hb).2.2.1 q
 have okX:(qS X scope cl G.objs.size (xs++ys) s2 H2 fp).Ok:={
  mod:=I2.ok.mod
  kind:=hkind
  glob:=I2.ok.glob
  blt:=I2.ok.blt
  above:=by show s2.heap.objs.size≤G.objs.size;rw [szG];omega
  inj:=fun y z c e1 e2=>I2.ok.inj y z c (clX y c e1) (clX z c e2)
  has:=fun y hy=>has y hy
  cab:=fun y c e _=>absurd (show false=true from e) Bool.false_ne_true
  hd:=I2.ok.hd
  frames:=I2.ok.frames
  stk:=.inl rfl
  exf:=fun b hb=>by
   obtain⟨o,e⟩:=fpO b hb
   exact⟨ltC b o e,fun y c e1=>(f2 b hb).2.2.2.2.1 y c (clX y c e1)⟩
  bs:=I2.bs
  bsz:=Nat.le_trans I2.ok.bsz I2.sz
  noex:=fun b o e hb=>by
   rcases (f2 b hb).2.2.2.1 with q | q
   · exact I2.ok.noex b o e q
   · exact Nat.lt_irrefl _ (Nat.lt_of_lt_of_le (Nat.lt_of_lt_of_le (Heap.lt_size e) I2.ok.bsz) q)
  exfs:=stkFp
  funs:=I2.stack
  frf:=I2.stkFree}
 have lenY:js.length=ys.length:=by have:=congrArg List.length hjs;simpa using this
 have I0:Inv (qS X scope cl G.objs.size (xs++ys) s2 H2 fp) [] (List.replicate xs.length none++xZ js σ) H2 {s2 with heap:=h₁,toks:=s2.toks+([]:List (Str × Value)).length}:=by
  refine⟨okX,rfl,I2.bare,Un.kept old,⟨_,hns,fun k y v e1 e2 e3=>?_⟩,fun y c e=>?_,freshH _ (by show s2.heap.objs.size≤G.objs.size;rw [szG];omega),fun y c e=>I2.freeC y c (clX y c e),fun p hp=>absurd (show p∈([]:List (Addr × Obj)) from hp) (by simp),I2.hok.kept old,?_⟩
  · obtain⟨k,e1',e2'⟩:∃ k,ys[k]? =some y∧(xZ js σ)[k]? =some (some v):=by
     have e1:(xs++ys)[k]? =some y:=e1
     by_cases hk:k < xs.length
     · rw [List.getElem?_append_left (by simpa using hk),List.getElem?_replicate,if_pos hk] at e2
       cases e2
     · rw [List.getElem?_append_right (by simpa using hk),List.length_replicate] at e2
       rw [List.getElem?_append_right (Nat.le_of_not_lt hk)] at e1
       exact⟨_,e1,e2⟩
    unfold xZ at e2'
    rw [List.getElem?_map] at e2'
    cases ej:js[k]? with
    | none=>rw [ej] at e2';cases e2'
    | some j=>
     rw [ej] at e2'
     have e4:(σ[j]?).join=some v:=Option.some.inj e2'
     have e5:σ[j]? =some (some v):=by
      cases q:σ[j]? with
      | none=>rw [q] at e4;cases e4
      | some o=>rw [q] at e4;exact congrArg some e4
     have e6:X.N[j]? =some y:=by
      have:=congrArg (fun l=>l[k]?) hjs
      simp only [List.getElem?_map,ej,e1',Option.map_some] at this
      exact Option.some.inj this
     have hy:=List.all_eq_true.mp hys y (List.mem_of_getElem? e1')
     simp only [Bool.and_eq_true,Bool.or_eq_true,beq_iff_eq] at hy
     obtain⟨ky,ko⟩:=hy
     obtain⟨m,hn,hl⟩:=I2.loc
     obtain⟨u,r,lk⟩:=hl j y v e6 e5 (.inr ko)
     refine⟨u,r,.inr ⟨ky,?_⟩⟩
     rcases lk with ⟨kl,_⟩ | ⟨_,c,ec,hc⟩
     · have kl':X.env.scope.names.lookup y=some .local:=kl
       rw [kl'] at ko
       rcases ko with z | z <;> cases z
     · obtain⟨c',ec'⟩:=has y ky
       have:=clX y c' ec'
       rw [ec] at this
       cases this
       obtain⟨o,ho,hd⟩:=hc
       exact⟨c,ec',o,old c o ho,hd⟩
  · obtain⟨v,o,ho,hd⟩:=I2.cell y c (clX y c e)
    exact⟨v,o,old c o ho,hd⟩
  · show (List.replicate xs.length none++xZ js σ).length=(xs++ys).length
    simp [xZ,lenY]
 have loop:∀ s3:Shared,s3={s2 with heap:=h₁,toks:=s2.toks+([]:List (Str × Value)).length}→
  codeAny (model X.prog X.w) X.A (.compLoop (.ListComp elt [⟨tg,iter,cs,0⟩] scope pos) 0 (.ref it) (.ref s2.heap.objs.size) (compEnvC scope cl G.objs.size X.env))
   (compPost (model X.prog X.w) X.A X.xe use Q (.ref s2.heap.objs.size) G.objs.size) s3:=by
  rintro s3 rfl
  have stat:∀ {H':Hp} (o:Obj),(∀ b∈fp,H' b=none)→∀ b∈fp,qF2 (qS X scope cl G.objs.size (xs++ys) s2 H2 fp) [(s2.heap.objs.size,o)] H' b:=fun {H'} o hn b hb=>by
   obtain⟨ob,eb⟩:=fpO b hb
   refine⟨hn b hb,ltC b ob eb,stkFp b hb,.inl hb,fun y c e1=>(f2 b hb).2.2.2.2.1 y c (clX y c e1),fun p hp=>?_⟩
   have hp':p=(s2.heap.objs.size,o):=by
    have:p∈[(s2.heap.objs.size,o)]:=hp
    simpa using this
   rw [hp']
   exact Ne.symm (ltD b ob eb)
  refine wP (fun n s'=>∃ i acc its H3,Inv (qS X scope cl G.objs.size (xs++ys) s2 H2 fp) [] (List.replicate xs.length none++xZ js σ) H3 s'∧tn i s'.heap∧(∀ b∈fp,H3 b=none)∧s'.heap.PlainList s2.heap.objs.size its.toArray∧Vals acc its∧H3 s2.heap.objs.size=none∧W i n acc H3)
   ?_ m0 ⟨0,[],[],H2,I0,T.keep _ _ _ st2 fun b _ o e=>old b o e,fun b hb=>(f2 b hb).1,hacc,.nil,freshH _ (Nat.le_refl _),w0⟩
  rintro n s3 ⟨i,acc,its,H3,I3,st3,fr3,⟨nn,pl3⟩,va3,hD3,w3⟩
  obtain⟨hlen,cs⟩:=turn i n acc H3 w3
  have hal:acc.length=its.length:=va3.length
  have nD:s2.heap.objs.size ∉ frs X.stack:=fun z=>by
   obtain⟨o,e⟩:=stkO _ z
   exact ltD _ o e rfl
  have I3p:Inv (qS X scope cl G.objs.size (xs++ys) s2 H2 fp) [(s2.heap.objs.size,{cls:=.type "list",data:=.seq its.toArray nn})] (List.replicate xs.length none++xZ js σ) H3 s3:=I3.pins_of fun p hp=>by
   have e:p=(s2.heap.objs.size,{cls:=.type "list",data:=.seq its.toArray nn}):=by simpa using hp
   subst e
   exact⟨pl3,hD3,DC,nD,fun v z=>nomatch z⟩
  rcases cs with ⟨stop,q⟩ | ⟨go,step⟩
  · refine thn (T.done (qS X scope cl G.objs.size (xs++ys) s2 H2 fp) rfl rfl rfl hcm i _ s3 _ H3 _ I3p (stat _ fr3) st3 stop) fun r s4 hr=>?_
    obtain⟨hr,I4⟩:=hr
    subst hr
    have pl4:=(I4.pin (s2.heap.objs.size,{cls:=.type "list",data:=.seq its.toArray nn}) (by simp)).1
    obtain⟨m,hn,_⟩:=I4.loc
    have B:=I4.base
    have un':Un (frs X.stack) fp H2 (upd H3 s2.heap.objs.size (.lst acc)) s2.heap s4.heap:=by
     refine⟨fun b o e n hb hx=>B.keep b o e n hb hx,fun b o e n hb hx=>B.slot b o e n hb hx,fun b o e n hx=>?_,fun b o e hx=>B.there b o e hx,fun b xs e=>?_,fun b o u e=>?_,fun b ps e=>?_⟩
     · rw [qY (ltD b o e)]
       exact B.free b o e n hx
     · have z:=B.tups b xs e
       rw [qY (qU z hD3)]
       exact z
     · have z:=B.frzs b o u e
       rw [qY (qU z hD3)]
       exact z
     · obtain⟨more,z⟩:=B.tbls b ps e
       exact⟨more,by rw [qY (qU z hD3)];exact z⟩
    have freeC4:H3 G.objs.size=none:=I4.free
    have hok':HOk X.prog X.w (upd H3 s2.heap.objs.size (.lst acc)) s4.heap:=fun b u e=>by
     by_cases hb:b=s2.heap.objs.size
     · subst hb
       rw [qC] at e
       cases e
       exact⟨Nat.le_of_lt hlen,its,nn,va3,pl4⟩
     · rw [qY hb] at e
       exact(I4.hok b u e).stay (fun c v hc z=>z) (fun c z=>by rw [qY (qU z hD3)];exact z) fun c xs z=>by rw [qY (qU z hD3)];exact z
    have hch:∀ b∈fp,(b∈X.ex∨X.s₀.heap.objs.size≤b)∧b≠X.env.locals∧(∀ y c,X.env.cells.lookup y=some c→c≠b)∧∀ p∈X.pn++pins,p.1≠b:=fun b hb=>by
     obtain⟨_,z1,_,z3,z4,z5⟩:=f2 b hb
     exact⟨z3,z1,z4,z5⟩
    have I5:=I2.call' (s':=s4) (ch:=fp) I4.os un' hok' I4.bare hch
    refine fin (.ref s2.heap.objs.size) _ _ s4 G.objs.size I5 rfl (q _ hD3) ⟨m,hn⟩ ?_ ?_ ?_ (fun y c e=>?_) fun p hp=>?_
    · rw [qY (Ne.symm DC)];exact freeC4
    · rw [szG];exact Nat.ne_of_gt (Nat.lt_succ_of_lt I2.lt)
    · rw [szG];exact Nat.le_succ_of_le I2.sz
    · obtain⟨v,o,ho,_⟩:=I2.cell y c e
      exact ltC c o ho
    · exact ltC p.1 p.2 (I2.pin p hp).1
  · refine thn (T.item (qS X scope cl G.objs.size (xs++ys) s2 H2 fp) rfl rfl rfl hcm i _ s3 _ H3 _ I3p (stat _ fr3) st3 go) fun r s4 hr=>?_
    obtain⟨u,hr,h4⟩:=hr
    subst hr
    refine thn h4 fun _ s5 h5=>?_
    obtain⟨v,H5,I5,r5,y5,st5,fr5⟩:=h5
    have I5':=I5.pinned (stat _ fr5) (T.obj _ _ st5)
    refine wpAny_mono (hg G.objs.size s2 H2 fp _ s5 _ H5 v u _ (I5'.wish _) r5 (step v H5 y5)) (fun _ s6 h6=>?_) fun _ _ z=>z.elim
    obtain⟨σ6,H6',I6',vs,eσ,hv,q5⟩:=h6
    subst eσ
    have back:∀ (H7:Hp) (s7:Shared) (σ7:L2.St) (h':Heap) (acc':List V) (its':List Value) (m':Nat),Inv (qS X scope cl G.objs.size (xs++ys) s2 H2 fp) ([(s2.heap.objs.size,{cls:=.type "list",data:=.seq its.toArray nn})]++wV fp s5.heap) (vs++xZ js σ) H7 s7→
     Heap.SameBut s2.heap.objs.size s7.heap h'→h'.PlainList s2.heap.objs.size its'.toArray→Vals acc' its'→m' < n→W (i+1) m' acc' H7→
     ∃ m,m < n∧∃ i acc its H3,Inv (qS X scope cl G.objs.size (xs++ys) s2 H2 fp) [] (List.replicate xs.length none++xZ js σ) H3 {s7 with heap:=h'}∧tn i h'∧(∀ b∈fp,H3 b=none)∧h'.PlainList s2.heap.objs.size its.toArray∧Vals acc its∧H3 s2.heap.objs.size=none∧W i m acc H3:=by
     intro H7 s7 _ h' acc' its' m' I7 hsb' hp' va' hm' w7
     have pinD:=I7.pin (s2.heap.objs.size,{cls:=.type "list",data:=.seq its.toArray nn}) (by simp)
     have pf:∀ b∈fp,∀ o,s5.heap.get? b=some o→s7.heap.get? b=some o∧H7 b=none:=fun b hb o e=>by
      have z:=I7.pin (b,o) (List.mem_append_right _ (List.mem_append_right _ (zM hb e)))
      exact⟨z.1,z.2.1⟩
     have I8:Inv (qS X scope cl G.objs.size (xs++ys) s2 H2 fp) [] (List.replicate xs.length none++xZ js σ) H7 {s7 with heap:=h'}:=by
      have I7u:Inv (qS X scope cl G.objs.size (xs++ys) s2 H2 fp) [] (List.replicate xs.length none++xZ js σ) H7 s7:=(I7.pins_of (pins':=[]) fun p hp=>absurd hp (by simp)).weak (by simp [hv]) fun k v e=>by
       by_cases hk:k < xs.length
       · rw [List.getElem?_append_left (by simpa using hk),List.getElem?_replicate,if_pos hk] at e
         cases e
       · rw [List.getElem?_append_right (by simpa using hk),List.length_replicate] at e
         rw [List.getElem?_append_right (by rw [hv];exact Nat.le_of_not_lt hk),hv]
         exact e
      refine I7u.turned (t':=s7.toks) (it:=s2.heap.objs.size) (fun b o hb e=>hsb'.extBut b o hb e) pinD.2.1 DC (.inr (Nat.le_refl _)) (fun y c e=>?_) fun p hp=>absurd (show p∈([]:List (Addr × Obj)) from hp) (by simp)
      obtain⟨v,o,ho,_⟩:=I2.cell y c (clX y c e)
      exact ltD c o ho
     refine⟨m',hm',i+1,acc',its',H7,I8,?_,fun b hb=>?_,hp',va',pinD.2.1,w7⟩
     · refine T.keep _ _ _ st5 fun b hb o e=>hsb'.extBut b o ?_ (pf b hb o e).1
       obtain⟨ob,eb⟩:=fpO b hb
       exact ltD b ob eb
     · obtain⟨o,e,_⟩:=T.obj _ _ st5 b hb
       exact(pf b hb o e).2
    refine wpAny_mono (hc G.objs.size s2 H2 fp _ s6 _ _ _ I6' q5) (fun ok s6a h6=>?_) fun _ _ z=>z.elim
    obtain⟨H6,I6a,q6⟩:=h6
    cases ok with
    | false=>
     rw [if_neg (by decide)] at q6 ⊢
     obtain⟨m',hm',w7⟩:=q6
     have I7:=I6a.unwish
     have pinD:=I7.pin (s2.heap.objs.size,{cls:=.type "list",data:=.seq its.toArray nn}) (by simp)
     exact back H6 s6a (List.replicate xs.length none++xZ js σ) s6a.heap acc its m' I7 (Heap.SameBut.refl _ _) ⟨nn,pinD.1⟩ va3 hm' w7
    | true=>
     rw [if_pos rfl] at q6 ⊢
     refine wpAny_mono (he G.objs.size s2 H2 fp _ s6a _ H6 _ I6a q6) (fun y s7 h7=>?_) fun _ _ z=>z.elim
     obtain⟨v7,H7,I7,r7,m',hm',w7⟩:=h7
     have I7:=I7.unwish
     have pinD:=I7.pin (s2.heap.objs.size,{cls:=.type "list",data:=.seq its.toArray nn}) (by simp)
     refine wpAny_list_append_plain (items:=its.toArray) ⟨nn,pinD.1⟩ (fun h' hp' hsb'=>?_) (by rw [List.size_toArray,← hal];exact Nat.le_of_lt hlen)
     have e8:its.toArray.push y=(its++[y]).toArray:=by simp
     rw [e8] at hp'
     exact back H7 s7 (List.replicate xs.length none++xZ js σ) h' (acc++[v7]) (its++[y]) m' I7 hsb' hp' (va3.append (.cons r7 .nil)) hm' w7
 exact codeAny_compStart_list (loop _ rfl) (T.self _ 0 _ _ _ (T.keep _ _ _ st2 fun b _ o e=>old b o e) (loop _ rfl))
theorem zm {X:Cx}{pins:List (Addr × Obj)}{σ:L2.St}{H:Hp}{s:Shared}{C:Addr}{h':Heap}(I:Inv X pins σ H s)(hsb:Heap.SameBut C s.heap h')(h0:H C=none)(h1:C≠X.env.locals)(h2:X.s₀.heap.objs.size≤C)
 (h3:∀ y c,X.env.cells.lookup y=some c→c≠C) (h4:∀ p∈X.pn++pins,p.1≠C):Inv X pins σ H {s with heap:=h'}:=
 I.turned (t':=s.toks) (it:=C) (fun b o hb e=>hsb.extBut b o hb e) h0 h1 (.inr h2) h3 h4
theorem qF4 {X:Cx}{elt iter tg:Expr}{cs:List Expr}{scope:Scope}{cl:List (Str × Addr)}{pos:Pos}{wi:TI}{g:TG}{tc:TT}{te:TE}{xs ys:List Str}{js:List Nat}{T:L2.St→VK→It→Hp→Prop}
 (hcm:X.calm=true) (hi:PI X tg iter wi) (hg:∀ C s H fp,PG (qS X scope cl C (xs++ys) s H fp).nox tg g) (hc:∀ C s H fp,PTs (qS X scope cl C (xs++ys) s H fp).nox cs tc) (he:∀ C s H fp,PE (qS X scope cl C (xs++ys) s H fp).nox elt te) (hC:COk X scope cl iter xs ys js) (hE:∀ σ Q J H1,T σ Q J H1→jr xs.length js g tc te σ Q J H1):PE X (.ListComp elt [⟨tg,iter,cs,0⟩] scope pos) (fun σ H Q=>wi σ H (T σ Q)):=by
 intro pins s σ H Q I h
 rw [eval_ListComp]
 refine wR hcm hi hg hc he hC Q none (EP X pins σ Q) I h (hE σ Q) fun v u H' s' C I' r q hm h0 h1 h2 h3 h4=>?_
 obtain⟨m,hm⟩:=hm
 exact⟨m,hm,fun h' hsb=>⟨v,H',zm I' hsb h0 h1 h2 h3 h4,r,q⟩⟩
theorem qC0 {X:Cx}{elt iter tg:Expr}{cs:List Expr}{scope:Scope}{cl:List (Str × Addr)}{pos:Pos}{wi:TI}{g:TG}{tc:TT}{te:TE}{xs ys:List Str}{js:List Nat}{T:L2.St→VK→It→Hp→Prop}{i:Nat}{y:Str}{py spos:Pos}(hN:X.N.Nodup)(hi':X.N[i]? =some y)(hy:X.env.kindOf y=some .local)
 (hcm:X.calm=true) (hi:PI X tg iter wi) (hg:∀ C s H fp,PG (qS X scope cl C (xs++ys) s H fp).nox tg g) (hc:∀ C s H fp,PTs (qS X scope cl C (xs++ys) s H fp).nox cs tc) (he:∀ C s H fp,PE (qS X scope cl C (xs++ys) s H fp).nox elt te) (hC:COk X scope cl iter xs ys js) (hE:∀ σ Q J H1,T σ Q J H1→jr xs.length js g tc te σ Q J H1) (hsw:swapsWith (.ListComp elt [⟨tg,iter,cs,0⟩] scope pos) (some (.Name y py)) spos.line X.env=pure true):PS X (.Assign [.Name y py] (.ListComp elt [⟨tg,iter,cs,0⟩] scope pos) spos) (qG4 (fun σ H Q=>wi σ H (T σ Q)) (xJ i)):=by
 intro pins s σ H D I h
 rw [exec_Assign_Name_used _ _ _ _ hsw]
 refine wpAny_bind (wpAny_standAt (wpAny_bind ?_))
 have key:=wR (pos:=pos) hcm hi hg hc he hC (fun v H'=>D.nx (σ.set i (some v)) H') (some (assign (.Name y py) X.env)) (fun _ s'=>SP X pins D .next s') I h (hE σ _) fun v u H' s' C I' r q hm h0 h1 h2 h3 h4=>?_
 · exact wpAny_bind (thn key fun _ s' hq=>wpAny_pure (wpAny_pure hq))
 · refine wpAny_assign_Name (vp I' hN hi' (.inl hy) r (fun s2 I2 ch=>?_) (.inr hy))
   obtain⟨b,sb,hb⟩:=ch
   obtain⟨m,hm⟩:=hm
   have nb:C≠b:=by
    rcases hb with rfl | hb
    · exact h1
    · exact Ne.symm (h3 y b hb)
   exact⟨m,hm.sameBut sb nb,fun h' hsb=>⟨_,H',zm I2 hsb h0 h1 h2 h3 h4,q⟩⟩
def CompEnd (js:List Nat)(te:TE)(σ:L2.St)(Q:VK)(J:It)(H1:Hp):Prop:=∃ W:Nat→Nat→List V→Hp→Prop,(∃ m,W 0 m [] H1)∧∀ i m acc H2,W i m acc H2→
 acc.length < sizeLine∧((J.stop i H2∧∀ D,H2 D=none→Q (.ref D) (upd H2 D (.lst acc)))∨
  (J.go i H2∧∀ x H3,J.yld i H2 x H3→te (some x::xZ js σ) H3 fun v H4=>∃ m',m' < m∧W (i+1) m' (acc++[v]) H4))
def qHg (js:List Nat)(wi:TI)(te:TE):TE:=fun σ H Q=>wi σ H (CompEnd js te σ Q)
theorem CompEnd.g {js:List Nat}{te:TE}(σ:L2.St)(Q:VK)(J:It)(H1:Hp):CompEnd js te σ Q J H1→jr 1 js (xJ 0) (fun _ H Q=>Q true H) te σ Q J H1:=fun⟨W,w0,st⟩=>
 ⟨W,w0,fun i m acc H2 w=>⟨(st i m acc H2 w).1,(st i m acc H2 w).2.imp id fun⟨go,y⟩=>⟨go,fun x H3 z=>⟨[some x],rfl,rfl,(if_pos rfl).mpr (y x H3 z)⟩⟩⟩⟩
theorem jp {X:Cx}{elt iter:Expr}{x:Str}{px:Pos}{scope:Scope}{cl:List (Str × Addr)}{pos:Pos}{wi:TI}{te:TE}(ys:List Str)(js:List Nat)
 (hcm:X.calm=true) (hi:PI X (.Name x px) iter wi) (he:∀ C s H fp,PE (qS X scope cl C (x::ys) s H fp).nox elt te) (hx:scope.names.lookup x=some .local:=by rfl) (hC:COk X scope cl iter [x] ys js:=by exact⟨rfl,rfl,rfl,rfl,rfl,rfl,rfl,rfl,fun _=>rfl,by decide⟩):PE X (.ListComp elt [⟨.Name x px,iter,[],0⟩] scope pos) (qHg js wi te):=
 qF4 (xs:=[x]) (T:=CompEnd js te) hcm hi (fun _ _ _ _=>jo (i:=0) hC.nd rfl (.inl (lookup_relabel_local hx)) (.inr (lookup_relabel_local hx))) (fun _ _ _ _=>wk) he hC CompEnd.g
theorem qHh {X:Cx}{elt iter:Expr}{x:Str}{px:Pos}{scope:Scope}{cl:List (Str × Addr)}{pos:Pos}{wi:TI}{te:TE}(ys:List Str)(js:List Nat){i:Nat}{y:Str}{py spos:Pos}(hN:X.N.Nodup)(hi':X.N[i]? =some y)(hy:X.env.kindOf y=some .local)
 (hcm:X.calm=true) (hi:PI X (.Name x px) iter wi) (he:∀ C s H fp,PE (qS X scope cl C (x::ys) s H fp).nox elt te) (hx:scope.names.lookup x=some .local:=by rfl) (hC:COk X scope cl iter [x] ys js:=by exact⟨rfl,rfl,rfl,rfl,rfl,rfl,rfl,rfl,fun _=>rfl,by decide⟩) (hsw:swapsWith (.ListComp elt [⟨.Name x px,iter,[],0⟩] scope pos) (some (.Name y py)) spos.line X.env=pure true:=by rfl):PS X (.Assign [.Name y py] (.ListComp elt [⟨.Name x px,iter,[],0⟩] scope pos) spos) (qG4 (qHg js wi te) (xJ i)):=
 qC0 (xs:=[x]) (T:=CompEnd js te) hN hi' hy hcm hi (fun _ _ _ _=>jo (i:=0) hC.nd rfl (.inl (lookup_relabel_local hx)) (.inr (lookup_relabel_local hx))) (fun _ _ _ _=>wk) he hC CompEnd.g hsw
def Nxt (n i:Nat)(P:Prop):Prop:=∃ m',m' < n - i∧m'=n - (i+1)∧i+1≤n∧P
theorem Nxt.mk {n i:Nat}{P:Prop}(h:i < n)(p:P):Nxt n i P:=⟨n - (i+1),by omega,rfl,h,p⟩
theorem jy {K:PySem.W.Frag}{a:Addr}{xs:List V}{js:List Nat}{te:TE}{σ:L2.St}{H:Hp}{Q:VK}(Pv:Nat→List V→Hp→Prop)(h0:Pv 0 [] H)(hl:∀ i acc H,i≤xs.length→Pv i acc H→SqL K H a xs∧acc.length < sizeLine)
 (hs:∀ i x acc H,i < xs.length→xs[i]? =some x→Pv i acc H→te (some x::xZ js σ) H fun v H'=>Nxt xs.length i (Pv (i+1) (acc++[v]) H')) (hd:∀ acc H,Pv xs.length acc H→∀ D,H D=none→Q (.ref D) (upd H D (.lst acc))):CompEnd js te σ Q (Itl K a) H:=by
 refine⟨fun i m acc H=>m=xs.length - i∧i≤xs.length∧Pv i acc H,⟨xs.length,by simp,Nat.zero_le _,h0⟩,?_⟩
 rintro i m acc H2 ⟨rfl,hi,p⟩
 obtain⟨q,hz⟩:=hl i acc H2 hi p
 refine⟨hz,?_⟩
 by_cases hlt:i < xs.length
 · refine .inr ⟨⟨xs,xs[i],q,by simp [hlt]⟩,fun x H3 y=>?_⟩
   obtain⟨e,y⟩:=y
   subst e
   exact hs i x acc _ hlt (y xs q) p
 · have e:i=xs.length:=by omega
   subst e
   exact .inl ⟨⟨xs,q,Nat.le_refl _⟩,hd acc H2 p⟩
structure Def (K:PySem.W.Frag)(mg:Str→Option Value)(x:Str)(st:Stmt)(ps:List Str)(f:Addr)(fd:FuncData):Prop where
 F:Fun K x x st f fd
 b:Binds K fd ps []
 m:mg x=some (.ref f)
section
variable {X : Cx}
theorem qW {k j:Nat}{x:Str}{st:Stmt}{ps:List Str}{f:Addr}{fd:FuncData}{sp:Sp}{e:Expr}{es:List Expr}{t:TA}{p pos:Pos}(D:Def X.K X.mg x st ps f fd)(F:FnOk X.prog X.w X.K X.mg X.base CX0 j f fd ps sp)(hr:Room k X.A)(hg:Gl X x)(ha:PA X (e::es) t)(hj:j≤k:=by decide)
 (hdb:(x == ("__debug__":Str))=false:=by decide) (he:starEach (e::es) X.env=(false,eval e X.env)::starEach es X.env:=by rfl) (hpl:(backTo pos (starEach es X.env)).any (·.1)=false:=by rfl):
 PE X (.Call (.Name x p) (e::es) [] pos) (qGs sp [] E0 t):=qB9 F (hr.mono hj) hg D.m D.F.kp D.b .nil qLc ha hdb he hpl
theorem qD0 {x:Str}{n:String}{pos:Pos}(hg:Gl X x)(hm:X.mg x=none)(hv:bootBuiltins x=some (.type n))(hn:x≠"__name__":=by decide)(hd:(x == ("__debug__":Str))=false:=by decide):PE X (.Name x pos) (tC (.ty n)):=
 qIl hg hm hv rfl hn hd
end
theorem qFj {X:Cx}{K:PySem.W.Frag}(h:X.K=K):IxR X (qKk K):=h ▸ qHd
def qLu (t:TS):TS:=fun D σ H=>∃ R:L2.St→Hp→Prop,t {D with nx:=R} σ H∧∀ σ' H',R σ' H'→D.nx σ' H'
theorem jP {X:Cx}{st:Stmt}{t:TS}(h:PS X st t):PS X st (qLu t):=by
 rintro pins s σ H D I ⟨R,ht,hR⟩
 refine thn (h pins s σ H {D with nx:=R} I ht) fun f s' q=>?_
 cases f with
 | next=>obtain⟨σ',H',I',r⟩:=q;exact⟨σ',H',I',hR _ _ r⟩
 | brk=>exact q
 | cont=>exact q
 | ret u=>exact q
theorem qE {H:Hp}{p:Addr}(h:H p=none)(o:HO):Same H (upd H p o):=fun b u q=>by rw [qY (qU q h)];exact q
theorem Same.tup {K:PySem.W.Frag}{H H':Hp}{a:Addr}{xs:List V}(e:Same H H')(h:SqT K H a xs):SqT K H' a xs:=by
 rcases h with (h | ⟨o,h⟩) | h
 · exact .inl (.inl (e _ _ h))
 · exact .inl (.inr ⟨o,e _ _ h⟩)
 · exact .inr h
section
variable {X : Cx}
def qMv:V→Option Int→Option Int→Hp→VK→Prop:=fun x lo hi H Q=>∃ z,x= .str z∧z.length≤sizeLine∧Q (.str (Txt.slice z lo hi)) H
theorem vY:SlR X qMv:=by
 intro pins s σ H x v vl vu lo hi sl Q I rx hs pl pu h
 obtain⟨z,rfl,hz,q⟩:=h
 obtain⟨t,rfl⟩:=rx
 refine⟨"str",_,F.slot_str_getitem.lookup,typeIs_str _ _ _,?_⟩
 obtain⟨o,ho,hc,hd⟩:=hs
 have fin:∀ t' k,EP X pins σ Q (.str (Txt.slice z lo hi) t') {s with toks:=k}:=fun t' k=>⟨.str _,H,I.tok _,⟨_,rfl⟩,q⟩
 cases pl with
 | none=>
  cases pu with
  | none=>exact wpAny_getItem_str_slice (l:=none) (u:=none) (st:=none) ⟨_,ho,hc,hd⟩ rfl (post_val_or_str ⟨Nat.le_trans (Txt.slice_le z _ _) hz,fun t' k=>fin t' _⟩)
  | int j u=>exact wpAny_getItem_str_slice (l:=none) (u:=some (j,u)) (st:=none) ⟨_,ho,hc,hd⟩ rfl (post_val_or_str ⟨Nat.le_trans (Txt.slice_le z _ _) hz,fun t' k=>fin t' _⟩)
 | int i u=>
  cases pu with
  | none=>exact wpAny_getItem_str_slice (l:=some (i,u)) (u:=none) (st:=none) ⟨_,ho,hc,hd⟩ rfl (post_val_or_str ⟨Nat.le_trans (Txt.slice_le z _ _) hz,fun t' k=>fin t' _⟩)
  | int j u'=>exact wpAny_getItem_str_slice (l:=some (i,u)) (u:=some (j,u')) (st:=none) ⟨_,ho,hc,hd⟩ rfl (post_val_or_str ⟨Nat.le_trans (Txt.slice_le z _ _) hz,fun t' k=>fin t' _⟩)
end
abbrev EC:=Value × Option Addr
def xf (h:Heap)(e:Addr)(C:EC)(hd:Option Addr):Prop:=
 ∃ (vs:Array Value) (sl:Array (Option Value)),h.get? e=some {cls:=C.1,dict:=C.2,data:=.fields vs,slots:=sl}∧
  match hd with
  | none=>vs[1]? =some .none
  | some T=>vs[1]? =some (.ref T)∧T≠e∧∃ oT ts m,h.get? T=some oT∧oT.data= .fields ts∧ts[3]? =some m
structure Noted (fs:List Addr)(e:Addr)(hd:Option Addr)(C:EC)(h h':Heap):Prop where
 keep:∀ b o,h.get? b=some o→b ∉ fs→b≠e→some b≠hd→h'.get? b=some o
 slot:∀ b o,h.get? b=some o→b∈fs→b≠e→some b≠hd→∃ sl,h'.get? b=some {o with slots:=sl}
 ent:∃ T,(h.get? T=none∨hd=some T)∧xf h' e C (some T)
theorem Noted.before {fs:List Addr}{e T:Addr}{C:EC}{h h1 h':Heap}(x:Noted fs e none C h1 h')(k:∀ b,b≠T→h1.get? b=h.get? b)(t:∃ o,h1.get? T=some o):Noted fs e (some T) C h h':=by
 refine⟨fun b o q hf he ht=>x.keep b o ?_ hf he (by simp),fun b o q hf he ht=>x.slot b o ?_ hf he (by simp),?_⟩
 · rw [k b (fun z=>ht (by rw [z]))];exact q
 · rw [k b (fun z=>ht (by rw [z]))];exact q
 · obtain⟨T',n | n,r⟩:=x.ent
   · refine⟨T',.inl ?_,r⟩
     rw [← k T' (fun z=>?_)];exact n
     obtain⟨o,q⟩:=t
     rw [z,q] at n;cases n
   · cases n
section
variable {M : Model} {A : Around} {E : Value → Shared → Prop} {s : Shared}
theorem Noted.then {fs:List Addr}{e T:Addr}{hd:Option Addr}{C:EC}{h h1 h2:Heap}(x:Noted fs e hd C h h1)(hT:h.get? T=none∨hd=some T)(y:Noted fs e (some T) C h1 h2):Noted fs e hd C h h2:=by
 have nt:∀ b o,h.get? b=some o→some b≠hd→(some b:Option Addr)≠some T:=fun b o q hb z=>by
  cases z
  rcases hT with n | n
  · rw [q] at n;cases n
  · exact hb n.symm
 have n1:∀ T',h1.get? T'=none→T'≠e→some T'≠hd→h.get? T'=none:=fun T' n he ht=>by
  cases q:h.get? T' with
  | none=>rfl
  | some o=>
   by_cases hs:T'∈fs
   · obtain⟨sl,z⟩:=x.slot T' o q hs he ht
     rw [n] at z;cases z
   · have z:=x.keep T' o q hs he ht
     rw [n] at z;cases z
 refine⟨fun b o q hf he ht=>y.keep b o (x.keep b o q hf he ht) hf he (nt b o q ht),fun b o q hf he ht=>?_,?_⟩
 · obtain⟨sl,z⟩:=x.slot b o q hf he ht
   obtain⟨sl',z'⟩:=y.slot b _ z hf he (nt b o q ht)
   exact⟨sl',z'⟩
 · obtain⟨T',n,r⟩:=y.ent
   refine⟨T',?_,r⟩
   rcases n with n | n
   · by_cases hh:hd=some T'
     · exact .inr hh
     · refine .inl (n1 T' n (fun z=>?_) (Ne.symm hh))
       obtain⟨vs,sl,q,r1,nT,_⟩:=r
       exact nT z
   · cases n
     exact hT
theorem qB0 {base:Heap}{env:Env}{outer:List Env}{L e:Addr}{C:EC}{head:Value}{vs:Array Value}{sl:Array (Option Value)}{had:Bool}{Q:Unit→Shared→Prop}
 (fr:A.frames=some (env::outer)) (ff:s.heap.FunFrames base (env::outer)) (ef:env.frame=some L) (re:s.heap.get? e=some {cls:=C.1,dict:=C.2,data:=.fields vs,slots:=sl}) (v1:1 < vs.size)
 (k:∀ h',Noted (frs (env::outer)) e none C s.heap h'→Q () {s with heap:=h'}):
 wpAny M A (do let a ← frameOf env;let pl ← entryPlaceOf L had;let b ← EntryCells.newEntry head a .none (rawInt L) .none pl;setField (.ref e) 1 b) Q E s:=by
 have efs:e ∉ frs (env::outer):=fun z=>by
  obtain⟨_,o,q,nf⟩:=ff.mem z
  rw [re] at q;cases q
  exact nf vs rfl
 refine wpAny_bind (wpAny_frameOf_fun fr ff ef fun g so=>?_)
 refine wpAny_bind (wpAny_entryPlaceOf fun pl ip=>?_)
 unfold EntryCells.newEntry newFields
 refine wpAny_bind (wpAny_newObj_type ?_ (ip.sizeOk5 _ _ _ _ _))
 generalize hN:({cls:=.type "traceback",dict:=none,data:=.fields ([head,.ref L,.none,rawInt L,.none]++(if pl.isEmpty then List.replicate 6 Value.none else pl)).toArray}:Obj)=N
 have Nd:N.data= .fields ([head,.ref L,.none,rawInt L,.none]++(if pl.isEmpty then List.replicate 6 Value.none else pl)).toArray:=by rw [← hN]
 have q1:g.get? e=some {cls:=C.1,dict:=C.2,data:=.fields vs,slots:=sl}:=(so.2.1 e efs).trans re
 have q2:=Heap.get?_push_of_some (h:=g) N q1
 have ne:g.objs.size≠e:=Nat.ne_of_gt (Heap.lt_size q1)
 refine wpAny_setField q2 rfl v1 (k _ ?_)
 have q3:=Heap.get?_update_self (Obj.mapFields (·.setIfInBounds 1 (Value.ref g.objs.size))) q2 rfl
 have nf:N.isFreed=false:=Obj.isFreed_of_fields Nd
 have t3:((g.push N).update e (Obj.mapFields (·.setIfInBounds 1 (Value.ref g.objs.size)))).get? g.objs.size=some N:=
  (Heap.get?_update_other (g.push N) _ (Ne.symm ne)).trans (Heap.get?_push_size g nf)
 have oth:∀ b o,b≠e→g.get? b=some o→((g.push N).update e (Obj.mapFields (·.setIfInBounds 1 (Value.ref g.objs.size)))).get? b=some o:=fun b o hb q=>by
  rw [Heap.get?_update_other _ _ (Ne.symm hb)]
  exact Heap.get?_push_of_some _ q
 refine⟨fun b o q hf he _=>oth b o he ((so.2.1 b hf).trans q),fun b o q hf he _=>?_,g.objs.size,.inl ?_,vs.setIfInBounds 1 (.ref g.objs.size),sl,q3,by simp [v1],ne,N,_,rawInt L,t3,Nd,?_⟩
 · obtain⟨sl',q'⟩:=so.2.2 b o q
   exact⟨sl',oth b _ he q'⟩
 · rw [so.1]
   exact Heap.get?_none_of_le (Nat.le_refl _)
 · simp
theorem qDd {base:Heap}{env:Env}{outer:List Env}{L e:Addr}{C:EC}{hd:Option Addr}{Q:Unit→Shared→Prop}
 (fr:A.frames=some (env::outer)) (ff:s.heap.FunFrames base (env::outer)) (ef:env.frame=some L) (re:xf s.heap e C hd)
 (k:∀ h',Noted (frs (env::outer)) e hd C s.heap h'→Q () {s with heap:=h'}):wpAny M A (noteFrame (.ref e) env) Q E s:=by
 have re0:=re
 obtain⟨vs,sl,q,r⟩:=re
 unfold noteFrame
 simp only [ef]
 cases hd with
 | none=>
  refine wpAny_bind (wpAny_field q rfl r ?_)
  rw [if_neg (by decide)]
  exact qB0 fr ff ef q (Array.getElem?_eq_some_iff.mp r).1 k
 | some T=>
  obtain⟨r1,nT,oT,ts,m,qT,dT,r3⟩:=r
  refine wpAny_bind (wpAny_field q rfl r1 ?_)
  rw [if_pos (by simp)]
  refine wpAny_bind (wpAny_field qT dT r3 ?_)
  by_cases hm:(m == rawInt L)=true
  · rw [if_pos hm]
    exact wpAny_pure (k s.heap ⟨fun b o q _ _ _=>q,fun b o q _ _ _=>⟨o.slots,q⟩,T,.inr rfl,re0⟩)
  rw [if_neg hm]
  refine wpAny_bind (wpAny_setField qT dT (Array.getElem?_eq_some_iff.mp r3).1 ?_)
  have oth:∀ b,b≠T→(s.heap.update T (Obj.mapFields (·.setIfInBounds 3 Value.none))).get? b=s.heap.get? b:=fun b z=>Heap.get?_update_other _ _ (Ne.symm z)
  have qT':=Heap.get?_update_self (Obj.mapFields (·.setIfInBounds 3 Value.none)) qT (Obj.isFreed_of_fields (Obj.data_mapFields dT _))
  have nf:∀ b o,s.heap.get? b=some o→(∀ vs,o.data≠ .fields vs)→b≠T:=fun b o z n w=>by
   rw [w,qT] at z;cases z
   exact n ts dT
  refine qB0 (s:={s with heap:=s.heap.update T (Obj.mapFields (·.setIfInBounds 3 Value.none))}) fr (ff.of_keeps fun b o z n=>⟨o,(oth b (nf b o z n)).trans z,rfl⟩) ef ((oth e (Ne.symm nT)).trans q) (Array.getElem?_eq_some_iff.mp r1).1 fun h' x=>?_
  exact k h' (x.before oth ⟨_,qT'⟩)
theorem wL {e T:Addr}{C:EC}{fo:Option Addr}{Q:Unit→Shared→Prop}(re:xf s.heap e C (some T))
 (k:∀ h',(∀ fs,Noted fs e (some T) C s.heap h')→Q () {s with heap:=h'}):wpAny M A (setFlight (.ref e) fo) Q E s:=by
 obtain⟨vs,sl,q,r1,nT,oT,ts,m,qT,dT,r3⟩:=re
 unfold setFlight
 refine wpAny_bind (wpAny_field q rfl r1 ?_)
 rw [if_pos (by simp)]
 have oth:∀ b,b≠T→(s.heap.update T (Obj.mapFields (·.setIfInBounds 3 (fo.elim Value.none fun f=>rawInt f)))).get? b=s.heap.get? b:=fun b z=>Heap.get?_update_other _ _ (Ne.symm z)
 refine wpAny_setField qT dT (Array.getElem?_eq_some_iff.mp r3).1 (k _ fun fs=>⟨fun b o q _ _ z=>?_,fun b o q _ _ z=>⟨o.slots,?_⟩,T,.inr rfl,?_⟩)
 · rw [oth b fun w=>z (by rw [w])];exact q
 · rw [oth b fun w=>z (by rw [w])];exact q
 · refine⟨vs,sl,(Heap.get?_update_other _ _ nT).trans q,r1,nT,_,_,fo.elim Value.none fun f=>rawInt f,Heap.get?_update_self _ qT (Obj.isFreed_of_fields (Obj.data_mapFields dT _)),Obj.data_mapFields dT _,?_⟩
   have h3:=(Array.getElem?_eq_some_iff.mp r3).1
   simp [h3]
theorem vd {e T:Addr}{C:EC}{Q:Unit→Shared→Prop}(re:xf s.heap e C (some T))
 (k:∀ h',(∀ fs,Noted fs e (some T) C s.heap h')→Q () {s with heap:=h'}):wpAny M A (setFlight (.ref e) none) Q E s:=wL re k
theorem qFn {base:Heap}{env:Env}{outer:List Env}{L e:Addr}{C:EC}{hd:Option Addr}{Q:Unit→Shared→Prop}
 (fr:A.frames=some (env::outer)) (ff:s.heap.FunFrames base (env::outer)) (ef:env.frame=some L) (re:xf s.heap e C hd)
 (k:∀ h',Noted (frs (env::outer)) e hd C s.heap h'→Q () {s with heap:=h'}):wpAny M A (noteFrame (.ref e) env) (fun _ s'=>wpAny M A (setFlight (.ref e) none) Q E s') E s:=by
 refine qDd fr ff ef re fun h1 N1=>?_
 obtain⟨T,hT,rT⟩:=N1.ent
 exact vd (s:={s with heap:=h1}) rT fun h2 N2=>k h2 (N1.then hT (N2 _))
end
theorem qG8 {P:Program}{w:World}{H:Hp}{h:Heap}{a:Addr}{o:HO}(x:ObjOk P w H h a o):∃ ob,h.get? a=some ob:=by
 cases o with
 | lst xs=>obtain⟨_,_,_,_,e⟩:=x;exact⟨_,e⟩
 | tup xs=>obtain⟨_,_,_,ob,e,_⟩:=x;exact⟨ob,e⟩
 | dK kvs=>obtain⟨_,_,_,_,o,_,_,e,_⟩:=x;exact⟨_,e⟩
 | dT kvs=>obtain⟨_,_,_,_,o,_,_,e,_⟩:=x;exact⟨_,e⟩
 | set S n=>obtain⟨o,_,_,_,e,_⟩:=x;exact⟨_,e⟩
 | ins C dx fs=>obtain⟨_,_,_,e,_⟩:=x;exact⟨_,e⟩
 | own y=>exact x
 | xd fs=>obtain⟨_,⟨_,_,_,e,_⟩,_⟩:=x;exact⟨_,e⟩
 | rng lo hi=>obtain⟨_,_,_,e⟩:=x;exact⟨_,e⟩
 | frz ob u=>obtain⟨e,_⟩:=x;exact⟨_,e⟩
 | tbl ps=>exact⟨_,x⟩
 | met f y=>exact⟨_,x⟩
 | ext φ=>exact x.2.1
def qCh (h₀:Heap)(H:Hp)(ps:List (Addr × Obj))(e:Addr):Prop:=h₀.get? e=none∧H e=none∧∀ p∈ps,p.1≠e
def qHj (h₀:Heap)(H:Hp)(ps:List (Addr × Obj))(h:Heap)(e:Addr)(C:EC):Prop:=
 qCh h₀ H ps e∧∃ hd,xf h e C hd∧∀ T,hd=some T→qCh h₀ H ps T
def CXR (P:Program)(w:World):CXT:=fun outer H s E e s'=>∃ ea C H',e= .ref ea∧s'.os=s.os∧AllBare s'.gens∧Un (frs outer) [] H H' s.heap s'.heap∧HOk P w H' s'.heap∧qHj s.heap H' [] s'.heap ea C∧E C.1 C.2 H'
def XE (X:Cx)(Ex:Value→Option Addr→Hp→Prop):Value→Shared→Prop:=fun e s'=>∃ ea C σ H',e= .ref ea∧Inv X [] σ H' s'∧qHj X.s₀.heap H' X.pn s'.heap ea C∧Ex C.1 C.2 H'
section
variable {X : Cx} {σ : L2.St} {H : Hp} {s : Shared}
theorem xN {e:Addr}{hd:Option Addr}{C:EC}{h':Heap}(I:Inv X [] σ H s)(hex:X.ex=[])(re:xf s.heap e C hd)(n1:qCh X.s₀.heap H X.pn e)(n3:∀ T,hd=some T→qCh X.s₀.heap H X.pn T)
 (N:Noted (frs X.stack) e hd C s.heap h'):Inv X [] σ H {s with heap:=h'}∧qHj X.s₀.heap H X.pn h' e C:=by
 have B:=I.base
 rw [hex] at B
 have ne:∀ b o,X.s₀.heap.get? b=some o→b≠e∧some b≠hd∧b≠X.env.locals:=fun b o q=>by
  refine⟨fun z=>?_,fun z=>?_,Nat.ne_of_lt (Nat.lt_of_lt_of_le (Heap.lt_size q) I.ok.above)⟩
  · rw [z,n1.1] at q;cases q
  · rw [(n3 b z.symm).1] at q;cases q
 have nin:∀ b,b ∉ ([]:List Addr):=fun b z=>nomatch z
 have nfl:∀ b o,s.heap.get? b=some o→(∀ vs,o.data≠ .fields vs)→b≠e∧some b≠hd:=fun b o q nf=>by
  obtain⟨vs,sl,qe,r⟩:=re
  refine⟨fun z=>?_,fun z=>?_⟩
  · rw [z,qe] at q;cases q
    exact nf vs rfl
  · subst z
    obtain⟨_,_,oT,ts,_,qT,dT,_⟩:=r
    rw [qT] at q;cases q
    exact nf ts dT
 have up:∀ b o,s.heap.get? b=some o→b≠e→some b≠hd→∃ sl,h'.get? b=some {o with slots:=sl}:=fun b o q z1 z2=>by
  by_cases hs:b∈frs X.stack
  · exact N.slot b o q hs z1 z2
  · exact⟨o.slots,N.keep b o q hs z1 z2⟩
 have un:Un X.fs [] X.H₀ H X.s₀.heap h':=by
  refine⟨fun b o q n hb hx=>?_,fun b o q n hb hx=>?_,fun b o q n hx=>B.free b o q n hx,fun b o q hx=>?_,B.tups,B.frzs,B.tbls⟩
  · obtain⟨z1,z2,z3⟩:=ne b o q
    refine N.keep b o (B.keep b o q n hb hx) (fun z=>?_) z1 z2
    rcases List.mem_cons.mp (I.stkSub b z) with w | w
    · exact z3 w
    · exact hb w
  · obtain⟨z1,z2,z3⟩:=ne b o q
    obtain⟨sl,q1⟩:=B.slot b o q n hb hx
    obtain⟨sl',q2⟩:=up b _ q1 z1 z2
    exact⟨sl',q2⟩
  · obtain⟨z1,z2,z3⟩:=ne b o q
    obtain⟨o',q1⟩:=B.there b o q hx
    obtain⟨sl',q2⟩:=up b _ q1 z1 z2
    exact⟨_,q2⟩
 have hok:HOk X.prog X.w H h':=fun a u q=>by
  have key:∀ c,H c=none→¬ (c=a∨H c=some (.own a)):=fun c z w=>by
   rcases w with w | w
   · rw [w,q] at z;cases z
   · rw [z] at w;cases w
  exact(I.hok a u q).stay (fun c v hc z=>N.keep c v z (fun w=>key c (I.stkFree c w) hc) (fun w=>key c (by rw [w];exact n1.2.1) hc) fun w=>key c (n3 c w.symm).2.1 hc) (fun _ z=>z) fun _ _ z=>z
 have cellK:∀ c v,s.heap.IsCell c v→h'.IsCell c v:=fun c v ⟨o,q,d⟩=>by
  obtain⟨z1,z2⟩:=nfl c o q fun vs w=>by rw [d] at w;cases w
  obtain⟨sl,q'⟩:=up c o q z1 z2
  exact⟨_,q',d⟩
 have I':Inv X [] σ H {s with heap:=h'}:=by
  refine⟨I.ok,I.os,I.bare,by rw [hex];exact un,?_,fun y c e=>?_,I.free,I.freeC,fun p hp=>?_,hok,I.len⟩
  · obtain⟨m,⟨o,es,ep,ho,hd',r⟩,hl⟩:=I.loc
    obtain⟨z1,z2⟩:=nfl _ o ho fun vs w=>by rw [hd'] at w;cases w
    obtain⟨sl,q'⟩:=up _ o ho z1 z2
    refine⟨m,⟨_,es,ep,q',hd',r⟩,fun i x v e1 e2 e3=>?_⟩
    obtain⟨u,r,l⟩:=hl i x v e1 e2 e3
    refine⟨u,r,?_⟩
    rcases l with l | ⟨k,c,ec,z⟩
    · exact .inl l
    · exact .inr ⟨k,c,ec,cellK c _ z⟩
  · obtain⟨v,z⟩:=I.cell y c e
    exact⟨v,cellK c v z⟩
  · obtain⟨q,n,nl,nf,d⟩:=I.pin p hp
    have hp':p∈X.pn:=by simpa using hp
    refine⟨N.keep p.1 p.2 q (fun z=>?_) (n1.2.2 p hp') fun z=>(n3 p.1 z.symm).2.2 p hp' rfl,n,nl,nf,d⟩
    rcases List.mem_cons.mp (I.stkSub p.1 z) with w | w
    · exact nl w
    · exact nf w
 refine⟨I',n1,?_⟩
 obtain⟨T,nT,r⟩:=N.ent
 refine⟨some T,r,fun T' e'=>?_⟩
 cases e'
 rcases nT with nT | nT
 rotate_left
 · exact n3 T nT
 refine⟨?_,?_,fun p hp z=>?_⟩
 · cases q:X.s₀.heap.get? T with
   | none=>rfl
   | some o=>
    obtain⟨o',z⟩:=B.there T o q (nin T)
    rw [nT] at z;cases z
 · cases q:H T with
   | none=>rfl
   | some u=>
    obtain⟨o',z⟩:=qG8 (I.hok T u q)
    rw [nT] at z;cases z
 · have q:=(I.pin p (List.mem_append_left _ hp)).1
   rw [z,nT] at q;cases q
end
theorem qHk {X:Cx}{E:Value→Shared→Prop}{st:List Stmt}{t:TS}(h:PSs (X.wish E) st t)(hE:∀ e s',E e s'→X.xe e s'):PSs X st t:=fun pins s σ H D I hw=>
 wpAny_mono (h pins s σ H D (I.wish E) hw) (fun _ _ q=>q.unwish) hE
section
variable {P : Program} {w : World} {K : PySem.W.Frag} {mg : Str → Option Value} {base : Heap}
theorem okX {x qual:Str}{st:Stmt}{f:Addr}{fd:FuncData}{N ps:List Str}{k:Nat}{sp:Sp}(F:Fun K x qual st f fd)(S:qQ N ps (qI st))(len:∀ vs H Q E,sp vs H Q E→vs.length=ps.length)
 (hbody:∀ (cdv:Value) (A:Around) (outer:List Env) (s:Shared) (H:Hp) (vs:List V) (Q:VK) (E:XK),Room k (A.deeper (envOfC qual (qI st) s.heap.objs.size f cdv))→sp vs H Q E→
   ∃ t,PSs ((qF0 (CXR P w) P w K mg base N qual (qI st) f cdv A outer s H E).wish (XE (qF0 (CXR P w) P w K mg base N qual (qI st) f cdv A outer s H E) E)) (xY st) t∧
    t {nx:=fun _ H'=>Q .non H',rt:=Q} (qAn N vs) H):FnOk P w K mg base (CXR P w) (k+1) f fd ps sp:=by
 obtain⟨oc,od,kV,doc,pm,an,cdv,ct,osl,rfl,lk,hcd⟩:=F.ex
 refine qI3 lk hcd S len fun A outer s H vs Q E hr hsp=>?_
 obtain⟨t,h,q⟩:=hbody cdv A outer s H vs Q E hr hsp
 refine⟨t,qHk h ?_,q⟩
 rintro e s' ⟨ea,C,σ,H',rfl,I,⟨n1,hd,r,n3⟩,z⟩
 show wpAny _ _ (leaving _ _) _ _ _
 unfold leaving
 refine wpAny_bind (qFn I.ok.frames I.stack rfl r fun h' N'=>?_)
 obtain⟨I',x'⟩:=xN I rfl r n1 n3 N'
 exact⟨ea,C,H',rfl,I.os,I.bare,I'.base,I'.hok,x',z⟩
end
theorem qLh {X:Cx}{Ex:Value→Option Addr→Hp→Prop}(hex:X.ex=[]):qBz (CXR X.prog X.w) (X.wish (XE X Ex)) Ex:=by
 rintro pins σ H s e s' I ⟨ea,C,H',rfl,os,bare,un,hok,⟨n1,hd,r,n3⟩,q⟩
 have I0:=I.unwish
 have I1:Inv X pins σ H' s':=I0.call' (ch:=[]) os un hok bare fun b z=>nomatch z
 have old:∀ b,s.heap.get? b=none→X.s₀.heap.get? b=none:=fun b z=>by
  cases w:X.s₀.heap.get? b with
  | none=>rfl
  | some o=>
   obtain⟨o',w'⟩:=I0.base.there b o w (by rw [hex];intro y;cases y)
   rw [z] at w';cases w'
 have pn:∀ b,s.heap.get? b=none→∀ p∈X.pn,p.1≠b:=fun b z p hp w=>by
  have q:=(I0.pin p (List.mem_append_left _ hp)).1
  rw [w,z] at q;cases q
 exact⟨ea,C,σ,H',rfl,I1.pins_of (pins':=[]) fun p hp=>(nomatch hp),⟨⟨old _ n1.1,n1.2.1,pn _ n1.1⟩,hd,r,fun T e=>⟨old _ (n3 T e).1,(n3 T e).2.1,pn _ (n3 T e).1⟩⟩,q⟩
theorem jN {X:Cx}{Ex:Value→Option Addr→Hp→Prop}{k j:Nat}{x:Str}{st:Stmt}{ps:List Str}{f:Addr}{fd:FuncData}{sp:Sp}{e:Expr}{es:List Expr}{t:TA}{p pos:Pos}(D:Def X.K X.mg x st ps f fd)(F:FnOk X.prog X.w X.K X.mg X.base (CXR X.prog X.w) j f fd ps sp)(hr:Room k X.A)(hg:Gl X x)
 (ha:PA (X.wish (XE X Ex)) (e::es) t) (hj:j≤k:=by decide) (hex:X.ex=[]:=by rfl)
 (hdb:(x == ("__debug__":Str))=false:=by decide) (he:starEach (e::es) X.env=(false,eval e X.env)::starEach es X.env:=by rfl) (hpl:(backTo pos (starEach es X.env)).any (·.1)=false:=by rfl):
 PE (X.wish (XE X Ex)) (.Call (.Name x p) (e::es) [] pos) (qGs sp [] Ex t):=
 qB9 (X:=X.wish (XE X Ex)) (CX:=CXR X.prog X.w) F (hr.mono hj) hg D.m D.F.kp D.b .nil (qLh hex) ha hdb he hpl
def qKp:List Value:=[.type "ValueError",.type "Exception",.type "BaseException",.type "object"]
def OwnX (K:PySem.W.Frag)(C:Addr):Prop:=PySem.W.excIn K C qKp "ValueError.__new__"=true
theorem qIb {K:PySem.W.Frag}{h:Heap}{mg:Str→Option Value}{x:Str}{C:Addr}(X:K.In h)(b:mg x=some (.ref C))(q:OwnX K C):OwnCls x C qKp "ValueError.__new__" mg h:=by
 refine⟨b,?_⟩
 unfold OwnX PySem.W.excIn at q
 split at q
 · rename_i dd cd sl ho
   split at q
   · rename_i C' bm k0 k1 k2 k3 n k5 hm hs
     simp only [Bool.and_eq_true,beq_iff_eq,Bool.not_eq_true'] at q
     obtain⟨⟨⟨⟨⟨eC,en⟩,del⟩,ht⟩,ok⟩,ni⟩:=q
     subst eC en
     obtain⟨nm,bs,mro,ns,qn,hd,sn,sub,ab,col,dl⟩:=cd
     dsimp only at hm del ok ni
     subst hm del
     have hsl:sl=#[k0,k1,k2,k3,some (.builtin "ValueError.__new__"),k5]:=by
      obtain⟨l⟩:=sl
      simp only at hs
      rw [hs]
     subst hsl
     exact⟨bm,ns,nm,qn,bs,hd,sn,sub,ab,col,dd,k0,k1,k2,k3,k5,_,X _ _ ho,.of_isNs (PySem.W.isNs_of_in X ok),PySem.W.nsMap_none_of_in X ok ni,PySem.W.tail_of_in X ht⟩
   · cases q
 · cases q
def qKg (C:Addr)(Ex:Value→Option Addr→Hp→Prop)(t:TA):TS:=fun _ σ H=>t σ H fun vs H1=>vs.length≤sizeLine∧Ex (.ref C) none H1
theorem j8 {X:Cx}{Ex:Value→Option Addr→Hp→Prop}{x:Str}{C:Addr}{np cpos pos:Pos}{e₀:Expr}{vv:List Expr}{t:TA}(hcm:X.calm=true)(hg:Gl X x)(hm:X.mg x=some (.ref C))(hx:OwnX X.K C)(ha:PA (X.wish (XE X Ex)) (e₀::vv) t)
 (he:starEach (e₀::vv) X.env=(false,eval e₀ X.env)::starEach vv X.env:=by rfl) (hpl:(backTo cpos (starEach vv X.env)).any (·.1)=false:=by rfl) (hex:X.ex=[]:=by rfl) (hdb:(x == ("__debug__":Str))=false:=by decide):
 PS (X.wish (XE X Ex)) (.Raise (some (.Call (.Name x np) (e₀::vv) [] cpos)) none pos) (qKg C Ex t):=by
 intro pins s σ H D I h
 obtain⟨tl,N,nm,q,bs,hdct,sn,sub,ab,col,dd,k0,k1,k2,k3,k5,mN,hC,hN,hni,T⟩:=
  (qIb (X:=I.ok.mod.kin) hm hx).obj
 refine wpAny_Raise_call_subT (bm:=tl) (C:=C) (N:=N) (nm:=nm) (q:=q) (bs:=bs) (hdct:=hdct) (sn:=sn) (sub:=sub) (ab:=ab) (col:=col) (dd:=dd) (k5:=k5) (k0:=k0) (k1:=k1) (k2:=k2) (k3:=k3)
  PySem.F.excBase_ValueError (mN:=mN) (T.hasType PySem.F.excBase_ValueError.hasBase) (I.ok.hd hcm) (by rw [he];show (false || (backTo cpos (starEach vv X.env)).any (·.1))=false;rw [hpl];rfl) hni (qAa I hg hm ⟨rfl,?_⟩ hdb)
 have z:=ha cpos pins s σ H _ I h
 rw [show (X.wish (XE X Ex)).env=X.env from rfl] at z
 rw [he] at z ⊢
 refine Calls.evalArgs_plain (wpAny_mono z (fun us s2 w=>?_) fun _ _ y=>y)
 obtain⟨vs,H1,I1,r1,hl,ex⟩:=w
 have I1':=I1.unwish
 refine⟨rfl,by rw [← r1.length];exact hl,I1.bk _ _ hC,hN.keeps I1.bk,T.keeps I1.bk,fun h' e hmk=>?_⟩
 obtain⟨tt,q1,q2,q3⟩:=hmk.there
 have I2:Inv X pins σ H1 {s2 with heap:=h'}:=I1'.kept (t':=s2.toks) hmk.keeps
 refine⟨e,(.ref C,none),σ,H1,rfl,I2.pins_of (pins':=[]) fun p hp=>(nomatch hp),⟨⟨?_,?_,fun p hp z=>?_⟩,none,⟨_,_,q1,rfl⟩,fun T e'=>nomatch e'⟩,ex⟩
 · cases w:X.s₀.heap.get? e with
   | none=>rfl
   | some o=>
    obtain⟨o',w'⟩:=I1'.base.there e o w (by rw [hex];intro y;cases y)
    rw [hmk.new] at w';cases w'
 · cases w:H1 e with
   | none=>rfl
   | some u=>
    obtain⟨o',w'⟩:=qG8 (I1'.hok e u w)
    rw [hmk.new] at w';cases w'
 · have q':=(I1'.pin p (List.mem_append_left _ hp)).1
   rw [z,hmk.new] at q';cases q'
def pnX (X:Cx)(l:List (Addr × Obj)):Cx:={X with pn:=l}
def hdX (X:Cx)(ea:Addr):Cx:={X with A:=X.A.mark (some (.ref ea)),calm:=false}
section
variable {X : Cx} {pins : List (Addr × Obj)} {σ : L2.St} {H : Hp} {s : Shared}
theorem qI8 (I:Inv X pins σ H s):Inv (pnX X (X.pn++pins)) [] σ H s:=by
 obtain⟨a1,a2,a3,a4,a5,a6,a7,a8,a9,a10,a11,a12,a13,a14,a15,a16,a17,a18⟩:=I.ok
 exact⟨⟨a1,a2,a3,a4,a5,a6,a7,a8,a9,a10,a11,a12,a13,a14,a15,a16,a17,a18⟩,I.os,I.bare,I.base,I.loc,I.cell,I.free,I.freeC,fun p hp=>I.pin p (by have z:p∈(X.pn++pins)++[]:=hp;simpa using z),I.hok,I.len⟩
theorem ku (I:Inv (pnX X (X.pn++pins)) [] σ H s):Inv X pins σ H s:=by
 obtain⟨a1,a2,a3,a4,a5,a6,a7,a8,a9,a10,a11,a12,a13,a14,a15,a16,a17,a18⟩:=I.ok
 exact⟨⟨a1,a2,a3,a4,a5,a6,a7,a8,a9,a10,a11,a12,a13,a14,a15,a16,a17,a18⟩,I.os,I.bare,I.base,I.loc,I.cell,I.free,I.freeC,fun p hp=>I.pin p (by show p∈(X.pn++pins)++[];simpa using hp),I.hok,I.len⟩
theorem qD5 {ea:Addr}(I:Inv X pins σ H s):Inv (hdX X ea) pins σ H s:=by
 obtain⟨a1,a2,a3,a4,a5,a6,a7,a8,a9,a10,a11,a12,a13,a14,a15,a16,a17,a18⟩:=I.ok
 exact⟨⟨a1,a2,a3,a4,a5,a6,a7,a8,fun h=>absurd (show false=true from h) Bool.false_ne_true,a10,a11,a12,a13,a14,a15,a16,a17,a18⟩,I.os,I.bare,I.base,I.loc,I.cell,I.free,I.freeC,I.pin,I.hok,I.len⟩
theorem qBs {ea:Addr}(I:Inv (hdX X ea) pins σ H s)(hd:X.calm=true→X.A.handled=none):Inv X pins σ H s:=by
 obtain⟨a1,a2,a3,a4,a5,a6,a7,a8,a9,a10,a11,a12,a13,a14,a15,a16,a17,a18⟩:=I.ok
 exact⟨⟨a1,a2,a3,a4,a5,a6,a7,a8,hd,a10,a11,a12,a13,a14,a15,a16,a17,a18⟩,I.os,I.bare,I.base,I.loc,I.cell,I.free,I.freeC,I.pin,I.hok,I.len⟩
def qDx (e:Addr)(C:EC):HO:=.ext fun h=>∃ (vs:Array Value) (sl:Array (Option Value)),h.get? e=some {cls:=C.1,dict:=C.2,data:=.fields vs,slots:=sl}
theorem qBt {a:Addr}{C:EC}{hd:Option Addr}(I:Inv X [] σ H s)(_:X.ex=[])(n:qCh X.s₀.heap H X.pn a)(r:xf s.heap a C hd):Inv X [] σ (upd H a (qDx a C)) s:=by
 obtain⟨vs,sl,q,_⟩:=r
 have B:=I.base
 have ne:∀ b o,X.s₀.heap.get? b=some o→b≠a:=fun b o w z=>by rw [z,n.1] at w;cases w
 refine⟨I.ok,I.os,I.bare,⟨B.keep,B.slot,fun b o w z hx=>?_,B.there,fun b xs w=>?_,fun b o u w=>?_,fun b ps w=>?_⟩,I.loc,I.cell,?_,fun y c e=>?_,fun p hp=>?_,fun b u w=>?_,I.len⟩
 · rw [qY (ne b o w)];exact B.free b o w z hx
 · have z:=B.tups b xs w
   rw [qY (qU z n.2.1)];exact z
 · have z:=B.frzs b o u w
   rw [qY (qU z n.2.1)];exact z
 · obtain⟨more,z⟩:=B.tbls b ps w
   exact⟨more,by rw [qY (qU z n.2.1)];exact z⟩
 · obtain⟨m,⟨o,es,ep,ho,hd',_⟩,_⟩:=I.loc
   rw [qY (fun z=>by rw [z,q] at ho;cases ho;cases hd')]
   exact I.free
 · obtain⟨v,o,ho,hd'⟩:=I.cell y c e
   rw [qY (fun z=>by rw [z,q] at ho;cases ho;cases hd')]
   exact I.freeC y c e
 · obtain⟨w1,w2,w3⟩:=I.pin p hp
   have hp':p∈X.pn:=by simpa using hp
   rw [qY (n.2.2 p hp')]
   exact⟨w1,w2,w3⟩
 · by_cases hb:b=a
   · subst hb
     rw [qC] at w
     cases w
     refine⟨⟨vs,sl,q⟩,⟨_,q⟩,fun h1 h2 z k=>?_⟩
     obtain⟨vs',sl',z⟩:=z
     exact⟨vs',sl',k _ z⟩
   · rw [qY hb] at w
     exact(I.hok b u w).stay (fun _ _ _ z=>z) (fun c z=>by rw [qY (qU z n.2.1)];exact z) fun c xs z=>by rw [qY (qU z n.2.1)];exact z
theorem kA {M:Model}{A:Around}{E:Value→Shared→Prop}{i:Nat}{n:Str}{pos:Pos}{Q:Unit→Shared→Prop}(I:Inv X pins σ H s)(hN:X.N.Nodup)(hi:X.N[i]? =some n)(hl:X.env.scope.names.lookup n=some .local)
 (h:∀ s',Inv X pins (σ.set i none) H s'→Q () s'):wpAny M A (do bindName X.env n .none;unbindBehindTheSuite X.env n pos) Q E s:=by
 refine wpAny_bind (wpAny_bindName (zH (v:=.non) I hN hi (.inl hl) rfl (fun s1 I1=>?_) (.inr hl)))
 unfold unbindBehindTheSuite
 refine wpAny_onRaise ?_
 have hcls:(X.env.scope.kind == .class || (X.env.scope.kind == .module && X.env.locals != X.env.globals))=false:=by rw [I1.ok.kind];rfl
 have hiσ:i < σ.length:=by rw [I.len];exact(List.getElem?_eq_some_iff.mp hi).1
 obtain⟨m,hn,hlk⟩:=I1.loc
 obtain⟨u,r,lk⟩:=hlk i n .non hi (by rw [List.getElem?_set_self hiσ]) (.inl hl)
 have hm:m n=some u:=by
  rcases lk with ⟨_,z⟩ | ⟨z,_⟩
  · exact z
  · have hl':X.env.kindOf n=some .local:=hl
    rw [hl'] at z
    rcases z with z | z <;> cases z
 obtain⟨oL,es,ep,hoL,hdL,_⟩:=id hn
 refine wpAny_unbindName_local hl hn hm hcls fun h' u' hn' hs=>h _ ?_
 have B:=I1.base
 have neL:∀ b o,X.s₀.heap.get? b=some o→b≠X.env.locals:=fun b o e=>Nat.ne_of_lt (Nat.lt_of_lt_of_le (Heap.lt_size e) I1.ok.above)
 refine⟨I1.ok,I1.os,I1.bare,⟨fun b o e n hb hx=>(hs.2 b (neL b o e)).trans (B.keep b o e n hb hx),fun b o e n hb hx=>?_,B.free,fun b o e hx=>?_,B.tups,B.frzs,B.tbls⟩,⟨_,hn',fun j y v e1 e2 e3=>?_⟩,fun y c e=>?_,I1.free,I1.freeC,fun p hp=>?_,fun b ob e=>?_,?_⟩
 · obtain⟨sl,z⟩:=B.slot b o e n hb hx
   exact⟨sl,(hs.2 b (neL b o e)).trans z⟩
 · obtain⟨o',z⟩:=B.there b o e hx
   exact⟨o',(hs.2 b (neL b o e)).trans z⟩
 · have hj:j≠i:=fun z=>by
    subst z
    rw [List.getElem?_set_self hiσ] at e2
    cases e2
   rw [List.getElem?_set_ne (Ne.symm hj)] at e2
   obtain⟨u2,r2,l2⟩:=hlk j y v e1 (by rw [List.getElem?_set_ne (Ne.symm hj)];exact e2) e3
   refine⟨u2,r2,?_⟩
   rcases l2 with ⟨k,z⟩ | ⟨k,c,ec,z⟩
   · refine .inl ⟨k,?_⟩
     have:y≠n:=fun w=>hj (qAm hN e1 (w ▸ hi))
     simp [this,z]
   · exact .inr ⟨k,c,ec,z.sameBut hs (I1.cne y c ec)⟩
 · obtain⟨w',z⟩:=I1.cell y c e
   exact⟨w',z.sameBut hs (I1.cne y c e)⟩
 · obtain⟨e,n,ne,nf,d⟩:=I1.pin p hp
   exact⟨(hs.2 p.1 ne).trans e,n,ne,nf,d⟩
 · refine(I1.hok b ob e).stay (fun c w' hc q=>(hs.2 c fun z=>?_).trans q) (fun _ q=>q) fun _ _ q=>q
   have fr:=I1.free
   rcases hc with hc | hc
   · rw [← hc,z,fr] at e;cases e
   · rw [z,fr] at hc;cases hc
 · have:=I1.len
   simpa using this
end
def qHt (D:qEe)(i:Option Nat):qEe:=
 let f:(L2.St→Hp→Prop)→L2.St→Hp→Prop:=fun q σ H=>match i with | some i=>q (σ.set i none) H | none=>q σ H
 {nx:=f D.nx,rt:=D.rt,bk:=f D.bk,ct:=f D.ct}
def qK5 (i:Option Nat)(ea:Addr)(σ:L2.St):L2.St:=match i with | some i=>σ.set i (some (.ref ea)) | none=>σ
def qL2 (K:PySem.W.Frag)(Ex:Value→Option Addr→Hp→Prop)(C:Addr)(i:Option Nat)(tb ts:TS):TS:=fun D σ H=>tb D σ H∧∀ (ea:Addr) (B:EC) (σ':L2.St) (H':Hp),Ex B.1 B.2 H'→H' ea=none→σ'.length=σ.length→
 PySem.W.exmOne K B.1 (.ref C)=some true∧ts (qHt D i) (qK5 i ea σ') (upd H' ea (qDx ea B))
def qK7 (K:PySem.W.Frag)(Ex:Value→Option Addr→Hp→Prop)(C:Addr)(i:Option Nat)(tb ts te:TS):TS:=fun D σ H=>qL2 K Ex C i (fun _=>tb {D with nx:=te D}) ts D σ H
inductive qBl (X:Cx):Option Str→Option Nat→Prop where
 | none:qBl X none none
 | some {n:Str} {i:Nat} (hi:X.N[i]? =some n) (hl:X.env.scope.names.lookup n=some .local):qBl X (some n) (some i)
theorem qIv {X:Cx}{body:List Stmt}{b₀:Stmt}{suite:List Stmt}{x:Str}{C:Addr}{nm:Option Str}{i:Option Nat}{np hpos pos:Pos}{oe:List Stmt}{tb ts te:TS}(Ex:Value→Option Addr→Hp→Prop)
 (hcl:qBl X nm i) (hN:X.N.Nodup) (hg:Gl X x) (hm:X.mg x=some (.ref C))
 (hb:∀ l,PSs ((pnX X l).wish (XE (pnX X l) Ex)) body tb) (hs:∀ l ea,PSs (hdX (pnX X l) ea).nox (b₀::suite) ts) (ho:PSs X oe te)
 (hstk:X.stack=X.env::X.outer:=by rfl) (hfr:X.env.frame=some X.env.locals:=by rfl) (hex:X.ex=[]:=by rfl) (hdb:(x == ("__debug__":Str))=false:=by decide):
 PS X (.Try body [.ExceptHandler (some (.Name x np)) nm (b₀::suite) hpos] oe [] pos) (qK7 X.K Ex C i tb ts te):=by
 rintro pins s σ H D I ⟨h1,h2⟩
 have I0:=qI8 I
 refine wpAny_Try_except (wpAny_mono (hb (X.pn++pins) [] s σ H {D with nx:=te D} (I0.wish _) h1) (fun f s1 q=>?_) fun e s1 q=>?_)
 · have q:=q.unwish
   cases f with
   | next=>
    obtain⟨σ',H',J,z⟩:=q
    exact ho pins s1 σ' H' D (ku J) z
   | brk=>
    obtain⟨σ',H',J,z⟩:=q
    exact⟨σ',H',ku J,z⟩
   | cont=>
    obtain⟨σ',H',J,z⟩:=q
    exact⟨σ',H',ku J,z⟩
   | ret u=>
    obtain⟨v,σ',H',J,r,z⟩:=q
    exact⟨v,σ',H',ku J,r,z⟩
 · obtain⟨ea,B,σ',H',rfl,I1,⟨n1,hd,r,n3⟩,ex⟩:=q
   have hlen:σ'.length=σ.length:=I1.len.trans I.len.symm
   obtain⟨hx,ht⟩:=h2 ea B σ' H' ex n1.2.1 hlen
   have fr:X.A.frames=some (X.env::X.outer):=by rw [← hstk];exact I.ok.frames
   have ff:s1.heap.FunFrames X.base (X.env::X.outer):=by
    have z:=I1.stack
    rw [show (pnX X (X.pn++pins)).stack=X.env::X.outer from hstk] at z
    exact z
   refine qFn fr ff hfr r fun h' N'=>?_
   have N':Noted (frs X.stack) ea hd B s1.heap h':=by rw [hstk];exact N'
   obtain⟨I2,n1,hd2,r2,n3⟩:=xN I1 hex r n1 n3 N'
   refine wpAny_handleBy_cons (codeAny_handlers_test (qAa (X:=hdX (pnX X (X.pn++pins)) ea) (qD5 I2) hg hm ?_ hdb)) (by intro z;cases z)
   have LT:PySem.W.Looks (model X.prog X.w) h' (typeOf (.ref ea)) B.1:=by
    obtain⟨vs,sl,qe,_⟩:=r2
    exact(PySem.W.Looks.ld qe).andThen .now
   refine(PySem.W.exm_one (M:=model X.prog X.w) I2.kIn LT hx).here ?_
   show codeAny _ _ _ _ _
   obtain⟨T,rfl,r3⟩:∃ T,hd2=some T∧xf h' ea B (some T):=by
    obtain⟨T,_,_⟩:=N'.ent
    cases hd2 with
    | some T=>exact⟨T,rfl,r2⟩
    | none=>
     obtain⟨T,_,rT⟩:=N'.ent
     obtain⟨vs,sl,q1,q2⟩:=r2
     obtain⟨vs',sl',q1',q2',_⟩:=rT
     rw [q1] at q1'
     cases q1'
     rw [q2] at q2'
     cases q2'
   have run:∀ (s4:Shared) (σ4:L2.St) (Q:Flow→Shared→Prop) (E:Value→Shared→Prop),Inv (hdX (pnX X (X.pn++pins)) ea) [] σ4 (upd H' ea (qDx ea B)) s4→ts (qHt D i) σ4 (upd H' ea (qDx ea B))→
    (∀ f s5,SP (hdX (pnX X (X.pn++pins)) ea) [] (qHt D i) f s5→Q f s5)→wpAny (model X.prog X.w) (X.A.mark (some (.ref ea))) (execs (b₀::suite) X.env) Q E s4:=fun s4 σ4 Q E I4 z k=>
    wpAny_mono (hs (X.pn++pins) ea [] s4 σ4 _ _ (I4.wish _) z) (fun f s5 q=>k f s5 q.unwish) fun _ _ z=>z.elim
   have hdn:(pnX X (X.pn++pins)).calm=true→(pnX X (X.pn++pins)).A.handled=none:=I2.ok.hd
   cases hcl with
   | none=>
    refine codeAny_handlers_suite (vd r3 fun h3 N3=>?_)
    obtain⟨I3,n1,hd3,r4,n3⟩:=xN I2 hex r3 n1 n3 (N3 _)
    refine run _ _ _ _ (qD5 (qBt I3 hex n1 r4)) ht fun f s5 q=>?_
    cases f with
    | next=>obtain⟨σ5,H5,J,z⟩:=q;exact⟨σ5,H5,ku (qBs J hdn),z⟩
    | brk=>obtain⟨σ5,H5,J,z⟩:=q;exact⟨σ5,H5,ku (qBs J hdn),z⟩
    | cont=>obtain⟨σ5,H5,J,z⟩:=q;exact⟨σ5,H5,ku (qBs J hdn),z⟩
    | ret u=>obtain⟨v,σ5,H5,J,rv,z⟩:=q;exact⟨v,σ5,H5,ku (qBs J hdn),rv,z⟩
   | some hi hl=>
    refine codeAny_handlers_suite_as (vd r3 fun h3 N3=>?_)
    obtain⟨I3,n1,hd3,r4,n3⟩:=xN I2 hex r3 n1 n3 (N3 _)
    refine zH (X:=hdX (pnX X (X.pn++pins)) ea) (v:=.ref ea) (qD5 (qBt I3 hex n1 r4)) hN hi (.inl hl) rfl (fun s4 I4=>?_) (.inr hl)
    refine run _ _ _ _ I4 ht fun f s5 q=>?_
    cases f with
    | next=>obtain⟨σ5,H5,J,z⟩:=q;exact kA (X:=pnX X (X.pn++pins)) (qBs J hdn) hN hi hl fun s6 J6=>⟨_,H5,ku J6,z⟩
    | brk=>obtain⟨σ5,H5,J,z⟩:=q;exact kA (X:=pnX X (X.pn++pins)) (qBs J hdn) hN hi hl fun s6 J6=>⟨_,H5,ku J6,z⟩
    | cont=>obtain⟨σ5,H5,J,z⟩:=q;exact kA (X:=pnX X (X.pn++pins)) (qBs J hdn) hN hi hl fun s6 J6=>⟨_,H5,ku J6,z⟩
    | ret u=>obtain⟨v,σ5,H5,J,rv,z⟩:=q;exact kA (X:=pnX X (X.pn++pins)) (qBs J hdn) hN hi hl fun s6 J6=>⟨v,_,H5,ku J6,rv,z⟩
theorem qJp {X:Cx}{body:List Stmt}{b₀:Stmt}{suite:List Stmt}{x:Str}{C:Addr}{nm:Option Str}{i:Option Nat}{np hpos pos:Pos}{tb ts:TS}(Ex:Value→Option Addr→Hp→Prop)
 (hcl:qBl X nm i) (hN:X.N.Nodup) (hg:Gl X x) (hm:X.mg x=some (.ref C))
 (hb:∀ l,PSs ((pnX X l).wish (XE (pnX X l) Ex)) body tb) (hs:∀ l ea,PSs (hdX (pnX X l) ea).nox (b₀::suite) ts)
 (hstk:X.stack=X.env::X.outer:=by rfl) (hfr:X.env.frame=some X.env.locals:=by rfl) (hex:X.ex=[]:=by rfl) (hdb:(x == ("__debug__":Str))=false:=by decide):
 PS X (.Try body [.ExceptHandler (some (.Name x np)) nm (b₀::suite) hpos] [] [] pos) (qL2 X.K Ex C i tb ts):=
 qIv Ex hcl hN hg hm hb hs qL hstk hfr hex hdb
end L3
set_option maxRecDepth 100000
namespace L3
open PySem PySem.Spec PySem.Calls PyProof.Rows PySem.W
section
variable {prog : Program} {w : World} {A : Around} {E : Value → Shared → Prop} {K : Frag} {h : Heap} {g : Array GenState} {d : Drawn} {t : Nat} {os : OsState} {a D : Addr} {ox : Obj} {od : Option Obj}
structure ExcK (K:Frag)(D:Addr):Prop where
 ga:findIn K (.ref D) "__getattribute__"=some (some (.builtin "BaseException.__getattribute__"))
 gt:findIn K (.ref D) "__getattr__"=some none
 ca:findIn K (.ref D) "__class__"=some (some (.builtin "object.__class__"))
 sg:specialIn K (.builtin "object.__class__") "__get__"=some (some (.builtin "getset_descriptor.__get__"))
 tk:takesIn K (.builtin "object.__class__")=some true
 mo:mroIn K D (.type "object")=some true
 mb:mroIn K D (.type "BaseException")=some true
theorem qEy {tk:Tok}{Q:Fin→Shared→Prop}(c:ExcK K D)(X:K.In h)(I:InstAt h a ox D od)(hq:Q (.done (.ret (.ref D))) ⟨h,g,d,t,os⟩):
 wpAny (model prog w) A (Builtin.«object.__getattribute__» ⟨[.ref a,.str "__class__" tk],[]⟩) Q E ⟨h,g,d,t,os⟩:=by
 have L0:=I.type (M:=model prog w)
 have L1:=looks_findIn (M:=model prog w) X c.ca
 have hf:findObj K D od "__class__"=some (.bind (.builtin "getset_descriptor.__get__") (.builtin "object.__class__")):=by
  have mo:=c.mo
  unfold mroIn at mo
  unfold findObj
  cases e:clsIn K D with
  | none=>rw [e] at mo;cases mo
  | some cd=>
   simp only [Option.bind_some,c.ca,c.sg,c.tk]
 have L2:=looks_find (M:=model prog w) X I hf
 unfold Builtin.«object.__getattribute__»
 repeat (any_goals (first | assumption | (with_reducible refine wpAny_bind (L0.at ?_)) | (with_reducible refine wpAny_bind (L2.at ?_)) | wp_step))
 refine class_get (s:=⟨h,g,d,t,os⟩) (ox:=ox) (od:=od) X I c.mo ?_
 exact wpAny_pure hq
theorem qGm {tk:Tok}{R:Result→Shared→Prop}(c:ExcK K D)(X:K.In h)(I:InstAt h a ox D od)(hq:R (.ok (.ret (.ref D))) ⟨h,g,d,t,os⟩):
 codeAny (model prog w) A (.call (.builtin "BaseException.__getattribute__") ⟨[.ref a,.str "__class__" tk],[]⟩) R ⟨h,g,d,t,os⟩:=by
 refine codeAny_call_builtin F.attr_ValueError.ga.plain F.entry_bexc_ga ?_
 have bkd:builtinKind "BaseException.__getattribute__"=some .slot:=by decide+kernel
 have hsp:splitId "BaseException.__getattribute__"=some ("BaseException","__getattribute__"):=by decide+kernel
 have ha:=F.args_bexc_ga (.ref a) (.str "__class__" tk)
 have L0:=I.type (M:=model prog w)
 have L1:Looks (model prog w) h (isInstance (.ref a) (.type "BaseException")) true:=L0.andThen (looks_mroIn X c.mb)
 simp only [checkBuiltinCall,bkd,hsp]
 refine wpAny_bind (L1.at ?_)
 repeat (first | assumption | (with_reducible refine qEy c X I ?_) | exact hq | wp_step)
theorem qJa {tk:Tok}{fill:Bool}{Q:Value→Shared→Prop}(c:ExcK K D)(X:K.In h)(I:InstAt h a ox D od)(hq:Q (.ref D) ⟨h,g,d,t,os⟩):
 wpAny (model prog w) A (getAttrBy (.ref a) (.str "__class__" tk) fill) Q E ⟨h,g,d,t,os⟩:=by
 have L0:=I.type (M:=model prog w)
 have L1:=looks_findIn (M:=model prog w) X c.ga
 have L2:=looks_findIn (M:=model prog w) X c.gt
 have f3:=F.attr_ValueError.ga.bind (.ref a)
 have no2:(Value.builtin "BaseException.__getattribute__" == Value.builtin "object.__getattribute__")=false:=by decide+kernel
 have no1:(onTheHeap (Value.ref D) && Value.builtin "BaseException.__getattribute__" == Value.builtin "object.__getattribute__")=false:=by rw [no2];rfl
 repeat (any_goals (first | assumption | (with_reducible refine wpAny_bind (L0.at ?_)) | (with_reducible refine wpAny_bind (L1.at ?_)) | (with_reducible refine wpAny_bind (L2.at ?_)) | (with_reducible refine L1.at ?_) | (with_reducible refine L2.at ?_) | wp_step))
 refine qGm c X I ?_
 show wpAny _ _ (handedOut (.ref D)) Q E _
 exact wpAny_pure hq
theorem qGb {Q:Option Value→Shared→Prop}(c:ExcK K D)(X:K.In h)(I:InstAt h a ox D od)(hq:Q (some (.ref D)) ⟨h,g,d,t+1,os⟩):wpAny (model prog w) A (getAttr? (.ref a) "__class__") Q E ⟨h,g,d,t,os⟩:=by
 unfold getAttr? getAttrBy?
 repeat (any_goals (first | assumption | with_reducible refine qJa c X I ?_ | wp_step))
theorem qDg (c:ExcK K D):KitX K (.ref a) (.ref D) (fun h=>InstAt h a ox D od) where
 ty:=fun _ _ _ I=>I.type
 it:=fun _ _ X _=>by
  have mo:=c.mo
  unfold mroIn clsIn at mo
  split at mo
  · rename_i kls kdi kcd ksl kob
    intro A' Q' E' s' kp wq
    unfold isType loadHead
    exact wpAny_bind (wpAny_loadPart (kp _ _ (X _ _ kob)) (wpAny_pure wq))
  · cases mo
 ne:=fun h tp dd its n sl X htp=>by
  have mo:=c.mo
  refine Bool.eq_false_iff.mpr fun same=>?_
  have here:D=tp:=Value.ref.inj (beq_iff_eq.mp same)
  subst here
  unfold mroIn clsIn at mo
  split at mo
  · rename_i kls kdi kcd ksl kob
    have z:=(X _ _ kob).symm.trans htp
    cases z
  · cases mo
 ca:=fun {_ _ _ _ _ s} X I k=>by
  obtain⟨h,g,d,t,os⟩:=s
  exact qGb c X I k
end
end L3
namespace L3
open PySem PySem.Spec PyProof.Rows L2
def OwnD (H:Hp)(od:Option Addr):Prop:=od=none∨∃ dx fs,od=some dx∧H dx=some (.xd fs)
theorem OwnD.at {X:Cx}{pins:List (Addr × Obj)}{σ:L2.St}{H:Hp}{s:Shared}{e D:Addr}{od:Option Addr}{vs:Array Value}{sl:Array (Option Value)}(I:Inv X pins σ H s)(h:OwnD H od)
 (qe:s.heap.get? e=some {cls:=.ref D,dict:=od,data:=.fields vs,slots:=sl}):∃ o,PySem.W.InstAt s.heap e {cls:=.ref D,dict:=od,data:=.fields vs,slots:=sl} D o:=by
 rcases h with rfl | ⟨dx,fs,rfl,hd⟩
 · exact⟨none,qe,rfl,rfl,trivial⟩
 · obtain⟨mA,⟨o,es,ep,e',c⟩,r⟩:=I.hok dx _ hd
   exact⟨some o,qe,rfl,rfl,e'⟩
theorem qBc {X:Cx}:zX X (.builtin "isinstance") (fun xs H Q=>∃ e D od c b,xs=[.ref e,c]∧H e=some (qDx e (.ref D,od))∧OwnD H od∧ExcK X.K D∧
 ((∃ n,c= .ty n∧PySem.W.kitOne X.K (.ref D) (.type n)=some b)∨∃ a,c= .ref a∧PySem.W.kitOne X.K (.ref D) (.ref a)=some b)∧Q (.bl b) H):=by
 intro pins s σ H xs us Q I r h
 obtain⟨e,D,od,c,b,rfl,he,hod,hc,hk,q⟩:=h
 obtain⟨u,u',rfl,rx,rc⟩:=qI0 r
 cases rx
 obtain⟨⟨vs,sl,qe⟩,_⟩:=I.hok e _ he
 obtain⟨oo,J⟩:=hod.at I qe
 rcases hk with ⟨n,rfl,hk⟩ | ⟨a,rfl,hk⟩
 · cases rc
   exact PySem.W.kia_one (qDg hc) I.kIn J hk (fun z=>nomatch z) fun tk=>⟨.bl b,H,I.tok _,rfl,q⟩
 · cases rc
   exact PySem.W.kia_one (qDg hc) I.kIn J hk (fun z=>nomatch z) fun tk=>⟨.bl b,H,I.tok _,rfl,q⟩
end L3
set_option maxRecDepth 100000
namespace L3
open PySem PySem.Spec PySem.Calls PySem.Builtin PySem.Builtin.ObjectAttr PyProof.Rows
def qJs (K:PySem.W.Frag)(C D:Addr):Bool:=(PySem.W.clsIn K C).any fun cd=>cd.mro == .ref C:: .ref D::qKp
section
variable {prog : Program} {w : World} {A : Around} {E : Value → Shared → Prop} {K : PySem.W.Frag} {s : Shared} {x C D : Addr} {vs : Array Value} {sl : Array (Option Value)} {R : Result → Shared → Prop}
end
section
variable {prog : Program} {w : World} {A : Around} {E : Value → Shared → Prop} {h : Heap} {g : Array GenState} {d : Drawn} {t : Nat} {os : OsState}
variable {nm q : Str} {C N : Addr} {bs bm bmB : List Value} {hdct : Bool} {sn : List Str} {sub : List Value} {ab : Bool} {col : Option Bool} {dd : Option Addr} {k0 k1 k2 k3 k5 : Option Value} {B newId initId : String}
end
section
variable {prog : Program} {w : World} {A : Around} {E : Value → Shared → Prop} {s : Shared} {env : Env}
variable {nm q : Str} {C N : Addr} {bs bm bmB : List Value} {hdct : Bool} {sn : List Str} {sub : List Value} {ab : Bool} {col : Option Bool} {dd : Option Addr} {k0 k1 k2 k3 k5 : Option Value} {B newId initId : String}
end
end L3
namespace L3
open PySem PySem.Spec PyProof.Rows L2
def qFp (K:PySem.W.Frag)(C f:Addr):Bool:=match K.lookup C with
 | some ⟨.type "type",_,.cls cd,sl⟩=>(match cd.mro,sl.toList with
  | .ref C'::bm,[_,_,_,_,some (.builtin n),_]=>C' == C && n == "ValueError.__new__" && !cd.hasDel && PySem.W.tailIn K qKp bm && PySem.W.nsOkIn K cd.ns && PySem.W.nsIn K cd.ns "__init__" == some (some (.ref f))
  | _,_=>false)
 | _=>false
structure XMk (K:PySem.W.Frag)(C D f:Addr):Prop where
 ov:qJs K C D=true
 hd:PySem.W.hasDictIn K C=true
 sa:PySem.W.findIn K (.ref C) "__setattr__"=some (some (.builtin "object.__setattr__"))
 ex:qFp K C f=true
 fn:PySem.W.isFn K (.ref f)=true
section
variable {X : Cx} {pins : List (Addr × Obj)} {σ : L2.St} {H : Hp} {s : Shared}
end
end L3
set_option maxRecDepth 100000
namespace L3
open PySem PySem.Spec PySem.Calls PyProof.Rows PySem.W
section
variable {prog : Program} {w : World} {A : Around} {E : Value → Shared → Prop} {K : Frag} {h : Heap} {g : Array GenState} {d : Drawn} {t : Nat} {os : OsState} {a D : Addr} {ox o : Obj} {name : Str} {v : Value}
end
end L3
namespace L3
open PySem PySem.Spec PyProof.Rows L2
end L3
set_option maxRecDepth 100000
namespace L3
open PySem PySem.Spec PyProof.Rows L2
inductive PHs (X:Cx):List ExceptHandler→List (Addr × Option Nat × TS)→Prop where
 | nil:PHs X [] []
 | cons {x:Str} {np hpos:Pos} {nm:Option Str} {i:Option Nat} {b₀:Stmt} {suite:List Stmt} {C:Addr} {ts:TS} {hs:List ExceptHandler} {cs:List (Addr × Option Nat × TS)} (hcl:qBl X nm i) (hg:Gl X x) (hm:X.mg x=some (.ref C))
  (h:∀ l ea,PSs (hdX (pnX X l) ea).nox (b₀::suite) ts) (r:PHs X hs cs) (hdb:(x == ("__debug__":Str))=false:=by decide):PHs X (.ExceptHandler (some (.Name x np)) nm (b₀::suite) hpos::hs) ((C,i,ts)::cs)
section
variable {X : Cx}
theorem qDf {bs:List Bool}{its:List Value}{P:Program}{w:World}{A:Around}(r:Vals (bs.map V.bl) its):TruthOf P w A (fun i v=>its.toArray[i]? =some v) (fun i=>(bs[i]?).getD false):=by
 intro i v s Q E hv hq
 have hv':its[i]? =some v:=by simpa using hv
 have hl:=r.length
 have hi:i < bs.length:=by
  have:=(List.getElem?_eq_some_iff.mp hv').1
  rw [List.length_map] at hl
  omega
 obtain⟨u,e1,q1⟩:=r.get (i:=i) (x:=.bl bs[i]) (by rw [List.getElem?_map,List.getElem?_eq_getElem hi];rfl)
 rw [hv'] at e1
 cases e1
 cases q1
 have e:(bs[i]?).getD false=bs[i]:=by rw [List.getElem?_eq_getElem hi];rfl
 have hq':Q ((bs[i]?).getD false) s:=hq
 rw [e] at hq'
 exact wpAny_truthy_bool hq'
theorem qEr (bs:List Bool):(List.range bs.length).all (fun i=>(bs[i]?).getD false)=bs.all id:=by
 rw [Bool.eq_iff_iff,List.all_eq_true,List.all_eq_true]
 constructor
 · intro h x hx
   obtain⟨i,hi,e⟩:=List.mem_iff_getElem.mp hx
   have:=h i (by simpa using hi)
   rw [List.getElem?_eq_getElem hi,e] at this
   exact this
 · intro h i hi
   have hi:i < bs.length:=by simpa using hi
   rw [List.getElem?_eq_getElem hi]
   exact h _ (List.getElem_mem hi)
theorem qE6 (bs:List Bool):(List.range bs.length).any (fun i=>(bs[i]?).getD false)=bs.any id:=by
 rw [Bool.eq_iff_iff,List.any_eq_true,List.any_eq_true]
 constructor
 · rintro ⟨i,hi,h⟩
   have hi:i < bs.length:=by simpa using hi
   rw [List.getElem?_eq_getElem hi] at h
   exact⟨_,List.getElem_mem hi,h⟩
 · rintro ⟨x,hx,h⟩
   obtain⟨i,hi,e⟩:=List.mem_iff_getElem.mp hx
   exact⟨i,by simpa using hi,by rw [List.getElem?_eq_getElem hi,e];exact h⟩
theorem kB (hc:X.calm=true):zX X (.builtin "all") (fun xs H Q=>∃ (p:Addr) (bs:List Bool),xs=[.ref p]∧SqL X.K H p (bs.map V.bl)∧Q (.bl (bs.all id)) H):=by
 intro pins s σ H xs us Q I r h
 obtain⟨p,bs,rfl,hq,q⟩:=h
 obtain⟨u,rfl,rx⟩:=vU r
 cases rx
 obtain⟨its,rv,pl,hz⟩:=I.list hq
 have hp:p≠s.heap.objs.size:=by
  obtain⟨o,n,e,_⟩:=pl
  exact Nat.ne_of_lt (Heap.lt_size e)
 have hh:X.A.in1.handled=none:=I.ok.hd hc
 have hl:its.toArray.size=bs.length:=by rw [List.size_toArray,← rv.length,List.length_map]
 refine call_all_walk (wpAny_pyIter_list pl.isList ?_)
 refine⟨s.heap.objs.size,_,_,_,_,_,_,rfl,Walks.list hh _ p hp its.toArray,⟨⟨_,Heap.get?_push_size _ rfl,rfl,rfl⟩,pl.isList.at fun o e=>Heap.get?_push_of_some _ e⟩,qDf rv,fun h' tk hk=>?_⟩
 rw [hl,qEr]
 refine⟨.bl _,H,I.kept fun b o e=>hk b o (fun z=>?_) (Heap.get?_push_of_some _ e),rfl,q⟩
 have z':b=s.heap.objs.size:=by simpa using z
 exact absurd (Heap.lt_size e) (by rw [z'];exact Nat.lt_irrefl _)
theorem vZ (hc:X.calm=true):zX X (.builtin "any") (fun xs H Q=>∃ (p:Addr) (bs:List Bool),xs=[.ref p]∧SqL X.K H p (bs.map V.bl)∧Q (.bl (bs.any id)) H):=by
 intro pins s σ H xs us Q I r h
 obtain⟨p,bs,rfl,hq,q⟩:=h
 obtain⟨u,rfl,rx⟩:=vU r
 cases rx
 obtain⟨its,rv,pl,hz⟩:=I.list hq
 have hp:p≠s.heap.objs.size:=by
  obtain⟨o,n,e,_⟩:=pl
  exact Nat.ne_of_lt (Heap.lt_size e)
 have hh:X.A.in1.handled=none:=I.ok.hd hc
 have hl:its.toArray.size=bs.length:=by rw [List.size_toArray,← rv.length,List.length_map]
 refine call_any_walk (wpAny_pyIter_list pl.isList ?_)
 refine⟨s.heap.objs.size,_,_,_,_,_,_,rfl,Walks.list hh _ p hp its.toArray,⟨⟨_,Heap.get?_push_size _ rfl,rfl,rfl⟩,pl.isList.at fun o e=>Heap.get?_push_of_some _ e⟩,qDf rv,fun h' tk hk=>?_⟩
 rw [hl,qE6]
 refine⟨.bl _,H,I.kept fun b o e=>hk b o (fun z=>?_) (Heap.get?_push_of_some _ e),rfl,q⟩
 have z':b=s.heap.objs.size:=by simpa using z
 exact absurd (Heap.lt_size e) (by rw [z'];exact Nat.lt_irrefl _)
theorem qEc:OpR X (compareOp .In) (fun x y H Q=>∃ (a b:Str),x= .str a∧y= .str b∧Q (.bl (!(Builtin.Str.occurrences b a 0 b.length 1).isEmpty)) H):=by
 intro pins s σ H x y v u Q I rx ry h
 obtain⟨a,b,rfl,rfl,q⟩:=h
 obtain⟨t,rfl⟩:=rx
 obtain⟨t',rfl⟩:=ry
 exact P.in_str ⟨.bl _,H,I,rfl,q⟩
def Its (z:Str):It:=⟨fun i _=>i < z.cps.size,fun i H x H'=>H'=H∧∃ c,z.cps[i]? =some c∧x= .str ⟨#[c]⟩,fun i _=>z.cps.size≤i⟩
theorem qEg {P:Program}{w:World}{K:PySem.W.Frag}{tg:Expr}(it:Addr)(z:Str)(t:Tok)(ty:String)(hty:ty="str_ascii_iterator"∨ty="str_iterator"):
 qIk P w K tg (Its z) [it] it (fun i h=>h.IsStrIter it ty z t i∧i≤z.cps.size) where
 mem:=by simp
 obj:=fun i h st b hb=>by
  have e:b=it:=by simpa using hb
  subst e
  obtain⟨⟨o,e,c,d⟩,_⟩:=st
  exact⟨o,e,fun v z=>by rw [d] at z;cases z⟩
 keep:=fun i h h' st k=>⟨let ⟨o,ho,r⟩:=st.1;⟨o,k it (by simp) o ho,r⟩,st.2⟩
 item:=by
  intro X hP hw hK hc i pins s σ H E I hf st hg
  subst hP hw hK
  have hi:i < z.cps.size:=hg
  have hx:z.cps[i]? =some z.cps[i]:=by simp [hi]
  obtain⟨f0,f1,f2,f3,f4,f5⟩:=hf it (by simp)
  have fin:∀ h',h'.IsStrIter it ty z t (i+1)→Heap.SameBut it s.heap h'→∃ u,some (Value.str ⟨#[z.cps[i]]⟩ s.toks)=some u∧wpAny (model X.prog X.w) X.A (letOwnedTupleGo tg (.ref it) u) (fun _ s2=>∃ x H',Inv X pins σ H' s2∧RelV x u∧(Its z).yld i H x H'∧(s2.heap.IsStrIter it ty z t (i+1)∧i+1≤z.cps.size)∧∀ b∈[it],H' b=none) E {s with heap:=h',toks:=s.toks+1}:=fun h' st' sb=>by
   have I1:Inv X pins σ H {s with heap:=h',toks:=s.toks+1}:=I.turned (t':=s.toks+1) (fun b o hb e=>(sb.2 b hb).trans e) f0 f1 f3 f4 f5
   obtain⟨o,e,c,d⟩:=id st'
   refine⟨_,rfl,qGw (s:={s with heap:=h',toks:=s.toks+1}) e c d (by rcases hty with rfl | rfl <;> decide) ⟨.str ⟨#[z.cps[i]]⟩,H,I1,⟨_,rfl⟩,⟨rfl,_,hx,rfl⟩,⟨st',hi⟩,fun b hb=>(hf b hb).1⟩⟩
  rcases hty with rfl | rfl
  · exact wpAny_pyNext_ascii_item st.1 hx fin
  · exact wpAny_pyNext_wide_item st.1 hx fin
 done:=by
  intro X hP hw hK hc i pins s σ H E I hf st hg
  subst hP hw hK
  have hi:z.cps.size≤i:=hg
  have hx:z.cps[i]? =none:=by simp [hi]
  obtain⟨f0,f1,f2,f3,f4,f5⟩:=hf it (by simp)
  rcases hty with rfl | rfl
  · exact wpAny_pyNext_ascii_end (I.ok.hd hc) st.1 hx fun h' eb=>⟨rfl,I.turned (t':=s.toks) (fun b o hb e=>eb b o hb e) f0 f1 f3 f4 f5⟩
  · exact wpAny_pyNext_wide_end (I.ok.hd hc) st.1 hx fun h' eb=>⟨rfl,I.turned (t':=s.toks) (fun b o hb e=>eb b o hb e) f0 f1 f3 f4 f5⟩
 self:=fun _ _ _ _ _ st h=>by
  rcases hty with rfl | rfl
  · exact wpAny_pyIter_striter_ascii st.1 h
  · exact wpAny_pyIter_striter_wide st.1 h
def qMr (tl:TE):TI:=fun σ H R=>tl σ H fun x H1=>∃ z,x= .str z∧R (Its z) H1
theorem qDb {tg l:Expr}{tl:TE}(hl:PE X l tl):PI X tg l (qMr tl):=by
 intro pins s σ H R I h
 refine thn (hl pins s σ H _ I h) fun v s1 ⟨x,H1,I1,r1,q1⟩=>?_
 obtain⟨z,e,q⟩:=q1
 subst e
 obtain⟨t,rfl⟩:=r1
 have key:∀ ty:String,(ty="str_ascii_iterator"∨ty="str_iterator")→PIE X pins σ tg R (.ref s1.heap.objs.size) {s1 with heap:=s1.heap.push {cls:=.type ty,data:=.fields #[.str z t,.int 0 0]}}:=fun ty hty=>by
  refine⟨s1.heap.objs.size,[s1.heap.objs.size],_,_,H1,rfl,I1.kept (t':=s1.toks) fun b o e=>Heap.get?_push_of_some _ e,qEg _ z t ty hty,⟨⟨_,Heap.get?_push_size _ rfl,rfl,rfl⟩,Nat.zero_le _⟩,fun b hb=>?_,q⟩
  have e:b=s1.heap.objs.size:=by simpa using hb
  subst e
  exact I1.fpOk (Nat.le_refl _) (I1.hok.fresh (Nat.le_refl _))
 cases ha:z.cps.all (· < 128)
 · exact wpAny_pyIter_wide ha (key _ (.inr rfl))
 · exact wpAny_pyIter_ascii ha (key _ (.inl rfl))
theorem vF {z:Str}{js:List Nat}{te:TE}{σ:L2.St}{H:Hp}{Q:VK}(Pv:Nat→List V→Hp→Prop)(h0:Pv 0 [] H)(hl:∀ i acc H,i≤z.cps.size→Pv i acc H→acc.length < sizeLine)
 (hs:∀ i c acc H,i < z.cps.size→z.cps[i]? =some c→Pv i acc H→te (some (.str ⟨#[c]⟩)::xZ js σ) H fun v H'=>Nxt z.cps.size i (Pv (i+1) (acc++[v]) H')) (hd:∀ acc H,Pv z.cps.size acc H→∀ D,H D=none→Q (.ref D) (upd H D (.lst acc))):CompEnd js te σ Q (Its z) H:=by
 refine⟨fun i m acc H=>m=z.cps.size - i∧i≤z.cps.size∧Pv i acc H,⟨z.cps.size,by simp,Nat.zero_le _,h0⟩,?_⟩
 rintro i m acc H2 ⟨rfl,hi,p⟩
 refine⟨hl i acc H2 hi p,?_⟩
 by_cases hlt:i < z.cps.size
 · refine .inr ⟨hlt,fun x H3 y=>?_⟩
   obtain⟨e,c,hc,rfl⟩:=y
   subst e
   exact hs i c acc _ hlt hc p
 · have e:i=z.cps.size:=by omega
   subst e
   exact .inl ⟨Nat.le_refl _,hd acc H2 p⟩
end
theorem qAg {X:Cx}{K:PySem.W.Frag}(h:X.K=K):zX X (.builtin "isinstance") (fun xs H Q=>∃ e D od c b,xs=[.ref e,c]∧H e=some (qDx e (.ref D,od))∧OwnD H od∧ExcK K D∧
 ((∃ n,c= .ty n∧PySem.W.kitOne K (.ref D) (.type n)=some b)∨∃ a,c= .ref a∧PySem.W.kitOne K (.ref D) (.ref a)=some b)∧Q (.bl b) H):=h ▸ qBc
section
variable {X : Cx}
end
theorem qF8 {x:Str}{j:Nat}(h:j≤x.length):(Txt.slice x none (some (j:Int))).cps.toList=x.cps.toList.take j:=by
 have e:=beq_iff_eq.mp (slice_closes_toL (x:=x) (j:=(j:Int)) (by omega) (by omega))
 rw [e]
 simp
theorem qDm {x:Str}{j:Nat}(h:j≤x.length):(Txt.slice x (some (j:Int)) none).cps.toList=x.cps.toList.drop j:=by
 rw [slice_from_eq (x:=x) (i:=(j:Int)) (b:=(x.length:Int)) (by omega) (by omega) rfl]
 have e:((x.length:Int) - (j:Int)).toNat=(x.cps.toList.drop j).length:=by
  rw [List.length_drop]
  have:x.length=x.cps.toList.length:=by simp [Str.length]
  omega
 rw [e]
 show List.take _ (List.drop ((j:Int)).toNat _)=_
 rw [Int.toNat_natCast,List.take_length]
theorem zB {x y:Str}(h:x.cps.toList=y.cps.toList):x=y:=Str.ext' (Array.toList_inj.mp h)
inductive D where
 | leaf (v:V)
 | tup (xs:List D)
 | lst (xs:List D)
mutual
def Rep (K:PySem.W.Frag)(H:Hp):D→V→Prop
 | .leaf v,x=>x=v∧kE v=true
 | .tup ds,x=>∃ p xs,x= .ref p∧SqT K H p xs∧Reps K H ds xs
 | .lst ds,x=>∃ p xs,x= .ref p∧SqL K H p xs∧Reps K H ds xs
def Reps (K:PySem.W.Frag)(H:Hp):List D→List V→Prop
 | [],[]=>True
 | d::ds,x::xs=>Rep K H d x∧Reps K H ds xs
 | _,_=>False
end
mutual
def eqD:D→D→Bool
 | .leaf v,.leaf w=>eqV v w
 | .tup xs,.tup ys=>kq xs ys
 | .lst xs,.lst ys=>kq xs ys
 | _,_=>false
def kq:List D→List D→Bool
 | [],[]=>true
 | x::xs,y::ys=>eqD x y && kq xs ys
 | _,_=>false
end
mutual
def dep:D→Nat
 | .leaf _=>0
 | .tup xs=>qB2 xs+1
 | .lst xs=>qB2 xs+1
def qB2:List D→Nat
 | []=>0
 | x::xs=>max (dep x) (qB2 xs)
end
theorem Reps.length {K:PySem.W.Frag}{H:Hp}:∀ {ds:List D} {xs:List V},Reps K H ds xs→ds.length=xs.length
 | [],[],_=>rfl
 | _::_,_::_,h=>by
  unfold Reps at h
  rw [List.length_cons,List.length_cons,h.2.length]
 | [],_::_,h=>by unfold Reps at h;exact h.elim
 | _::_,[],h=>by unfold Reps at h;exact h.elim
theorem qGx {v:V}(h:kE v=true):eqV v v=true:=by
 cases v <;> simp_all [kE,eqV]
theorem zy:∀ {xs ys:List D},kq xs ys=true→xs.length=ys.length
 | [],[],_=>rfl
 | x::xs,y::ys,h=>by
  unfold kq at h
  rw [Bool.and_eq_true] at h
  rw [List.length_cons,List.length_cons,zy h.2]
 | [],_::_,h=>by simp [kq] at h
 | _::_,[],h=>by simp [kq] at h
def itE (xs ys:List D)(j:Nat):Bool:=match xs[j]?,ys[j]? with
 | some a,some b=>eqD a b
 | _,_=>false
theorem qBe:∀ (xs ys:List D),((List.range (min xs.length ys.length)).all (itE xs ys) && xs.length == ys.length)=kq xs ys
 | [],[]=>by simp [kq]
 | [],y::ys=>by simp [kq]
 | x::xs,[]=>by simp [kq]
 | x::xs,y::ys=>by
  have ih:=qBe xs ys
  have e:min (x::xs).length (y::ys).length=min xs.length ys.length+1:=by simp only [List.length_cons];omega
  rw [e,List.range_succ_eq_map,List.all_cons,List.all_map]
  have e2:(itE (x::xs) (y::ys)) ∘ Nat.succ=itE xs ys:=by
   funext j
   simp [itE]
  have e3:itE (x::xs) (y::ys) 0=eqD x y:=by simp [itE]
  have e4:((x::xs).length == (y::ys).length)=(xs.length == ys.length):=by
   rw [Bool.eq_iff_iff];simp
  rw [e2,e3,e4,Bool.and_assoc,ih]
  conv=>rhs;unfold kq
theorem qB3 {xs ys:List D}(h:xs.length=ys.length):(List.range xs.length).all (itE xs ys)=kq xs ys:=by
 have:=qBe xs ys
 rw [← h,Nat.min_self] at this
 simpa using this
section
variable {X : Cx} {pins : List (Addr × Obj)} {σ : L2.St} {H : Hp} {s : Shared}
mutual
theorem wu (I:Inv X pins σ H s):∀ (d e:D) {x:V},Rep X.K H d x→Rep X.K H e x→eqD d e=true
 | .leaf v,.leaf w,x,h1,h2=>by
  unfold Rep at h1 h2
  obtain⟨rfl,f⟩:=h1
  obtain⟨rfl,_⟩:=h2
  unfold eqD
  exact qGx f
 | .leaf v,.tup ds,x,h1,h2=>by
  unfold Rep at h1 h2
  obtain⟨rfl,f⟩:=h1
  obtain⟨p,xs,rfl,_⟩:=h2
  cases f
 | .leaf v,.lst ds,x,h1,h2=>by
  unfold Rep at h1 h2
  obtain⟨rfl,f⟩:=h1
  obtain⟨p,xs,rfl,_⟩:=h2
  cases f
 | .tup ds,.leaf w,x,h1,h2=>by
  unfold Rep at h1 h2
  obtain⟨rfl,f⟩:=h2
  obtain⟨p,xs,rfl,_⟩:=h1
  cases f
 | .lst ds,.leaf w,x,h1,h2=>by
  unfold Rep at h1 h2
  obtain⟨rfl,f⟩:=h2
  obtain⟨p,xs,rfl,_⟩:=h1
  cases f
 | .tup ds,.tup es,x,h1,h2=>by
  unfold Rep at h1 h2
  obtain⟨p,xs,rfl,t1,r1⟩:=h1
  obtain⟨q,ys,e,t2,r2⟩:=h2
  cases e
  rw [I.tuple_inj t1 t2] at r1
  unfold eqD
  exact vT I ds es r1 r2
 | .lst ds,.lst es,x,h1,h2=>by
  unfold Rep at h1 h2
  obtain⟨p,xs,rfl,t1,r1⟩:=h1
  obtain⟨q,ys,e,t2,r2⟩:=h2
  cases e
  rw [I.list_inj t1 t2] at r1
  unfold eqD
  exact vT I ds es r1 r2
 | .tup ds,.lst es,x,h1,h2=>by
  unfold Rep at h1 h2
  obtain⟨p,xs,rfl,t1,r1⟩:=h1
  obtain⟨q,ys,e,t2,r2⟩:=h2
  cases e
  obtain⟨_,_,i1,_⟩:=I.tuple t1
  obtain⟨_,_,i2,_⟩:=I.list t2
  exact(SeqAt.ne_of_list_tuple i2.isList i1 rfl).elim
 | .lst ds,.tup es,x,h1,h2=>by
  unfold Rep at h1 h2
  obtain⟨p,xs,rfl,t1,r1⟩:=h1
  obtain⟨q,ys,e,t2,r2⟩:=h2
  cases e
  obtain⟨_,_,i1,_⟩:=I.list t1
  obtain⟨_,_,i2,_⟩:=I.tuple t2
  exact(SeqAt.ne_of_list_tuple i1.isList i2 rfl).elim
theorem vT (I:Inv X pins σ H s):∀ (ds es:List D) {xs:List V},Reps X.K H ds xs→Reps X.K H es xs→kq ds es=true
 | [],[],_,_,_=>by simp [kq]
 | d::ds,e::es,[],h1,_=>by unfold Reps at h1;exact h1.elim
 | d::ds,e::es,x::xs,h1,h2=>by
  unfold Reps at h1 h2
  unfold kq
  rw [wu I d e h1.1 h2.1,vT I ds es h1.2 h2.2]
  rfl
 | [],e::es,[],_,h2=>by unfold Reps at h2;exact h2.elim
 | [],e::es,_::_,h1,_=>by unfold Reps at h1;exact h1.elim
 | d::ds,[],[],h1,_=>by unfold Reps at h1;exact h1.elim
 | d::ds,[],_::_,_,h2=>by unfold Reps at h2;exact h2.elim
end
theorem zF {A:Around}{x:V}{u:Value}{p:Addr}{its:Array Value}(f:kE x=true)(r:RelV x u)(hu:A.units < cLine)(h:s.heap.IsTuple p its∨s.heap.IsList p its):SeqAt.EqAt A s u (.ref p) false∧SeqAt.EqAt A s (.ref p) u false:=by
 cases x with
 | non=>cases r;rcases h with h | h <;> exact⟨by first | exact SeqAt.EqAt.none_tuple h hu | exact SeqAt.EqAt.none_list h hu,by first | exact SeqAt.EqAt.tuple_none h hu | exact SeqAt.EqAt.list_none h hu⟩
 | bl b=>cases r;rcases h with h | h <;> exact⟨by first | exact SeqAt.EqAt.bool_tuple _ h hu | exact SeqAt.EqAt.bool_list _ h hu,by first | exact SeqAt.EqAt.tuple_bool _ h hu | exact SeqAt.EqAt.list_bool _ h hu⟩
 | int i=>obtain⟨t,rfl⟩:=r;rcases h with h | h <;> exact⟨by first | exact SeqAt.EqAt.int_tuple _ _ h hu | exact SeqAt.EqAt.int_list _ _ h hu,by first | exact SeqAt.EqAt.tuple_int _ _ h hu | exact SeqAt.EqAt.list_int _ _ h hu⟩
 | str i=>obtain⟨t,rfl⟩:=r;rcases h with h | h <;> exact⟨by first | exact SeqAt.EqAt.str_tuple _ _ h hu | exact SeqAt.EqAt.str_list _ _ h hu,by first | exact SeqAt.EqAt.tuple_str _ _ h hu | exact SeqAt.EqAt.list_str _ _ h hu⟩
 | _=>cases f
theorem Reps.get {K:PySem.W.Frag}{H:Hp}:∀ {ds:List D} {xs:List V},Reps K H ds xs→∀ (j:Nat) (d:D),ds[j]? =some d→∃ x,xs[j]? =some x∧Rep K H d x
 | [],[],_,j,d,e=>by simp at e
 | a::ds,x::xs,h,0,d,e=>by
  unfold Reps at h
  have:a=d:=by simpa using e
  subst this
  exact⟨x,rfl,h.1⟩
 | a::ds,x::xs,h,j+1,d,e=>by
  unfold Reps at h
  exact h.2.get j d (by simpa using e)
 | [],_::_,h,_,_,_=>by unfold Reps at h;exact h.elim
 | _::_,[],h,_,_,_=>by unfold Reps at h;exact h.elim
theorem qAr:∀ {ds:List D} {j:Nat} {d:D},ds[j]? =some d→dep d≤qB2 ds
 | a::ds,0,d,e=>by
  have:a=d:=by simpa using e
  subst this
  unfold qB2
  exact Nat.le_max_left _ _
 | a::ds,j+1,d,e=>by
  have:=qAr (ds:=ds) (j:=j) (d:=d) (by simpa using e)
  unfold qB2
  exact Nat.le_trans this (Nat.le_max_right _ _)
 | [],_,_,e=>by simp at e
theorem qEm {A:Around}{ds es:List D}{xs ys:List V}{us ws:List Value}(r1:Reps X.K H ds xs)(r2:Reps X.K H es ys)(v1:Vals xs us)(v2:Vals ys ws)
 (ih:∀ d e x y u w,d∈ds→Rep X.K H d x→Rep X.K H e y→RelV x u→RelV y w→SeqAt.EqAt A s u w (eqD d e)):
 ∀ j (h1:j < us.toArray.size) (h2:j < ws.toArray.size),SeqAt.EqAt A s us.toArray[j] ws.toArray[j] (itE ds es j):=by
 intro j h1 h2
 have l1:=v1.length
 have l2:=v2.length
 have m1:=r1.length
 have m2:=r2.length
 rw [List.size_toArray] at h1 h2
 have g1:ds[j]? =some ds[j]:=List.getElem?_eq_getElem (by omega)
 have g2:es[j]? =some es[j]:=List.getElem?_eq_getElem (by omega)
 obtain⟨x,ex,rx⟩:=r1.get j _ g1
 obtain⟨y,ey,ry⟩:=r2.get j _ g2
 obtain⟨u,eu,qu⟩:=v1.get ex
 obtain⟨w,ew,qw⟩:=v2.get ey
 have c1:us.toArray[j]=u:=by
  have:=(List.getElem?_eq_some_iff.mp eu).2
  simpa using this
 have c2:ws.toArray[j]=w:=by
  have:=(List.getElem?_eq_some_iff.mp ew).2
  simpa using this
 have e:itE ds es j=eqD ds[j] es[j]:=by unfold itE;rw [g1,g2]
 rw [c1,c2,e]
 exact ih _ _ _ _ _ _ (List.getElem_mem _) rx ry qu qw
theorem qJ6 (I:Inv X pins σ H s):∀ (n:Nat) (A:Around) (d e:D) (x y:V) (u w:Value),dep d≤n→A.units+n < cLine→Rep X.K H d x→Rep X.K H e y→RelV x u→RelV y w→SeqAt.EqAt A s u w (eqD d e):=by
 intro n
 induction n with
 | zero=>
  intro A d e x y u w hd hu r1 r2 q1 q2
  cases d with
  | leaf v=>
   unfold Rep at r1
   obtain⟨rfl,f1⟩:=r1
   cases e with
   | leaf v'=>
    unfold Rep at r2
    obtain⟨rfl,f2⟩:=r2
    unfold eqD
    exact qEz q1 q2 f1 f2
   | tup es=>
    unfold Rep at r2
    obtain⟨p,ys,rfl,t,_⟩:=r2
    cases q2
    obtain⟨_,_,i,_⟩:=I.tuple t
    unfold eqD
    exact(zF f1 q1 hu (.inl i)).1
   | lst es=>
    unfold Rep at r2
    obtain⟨p,ys,rfl,t,_⟩:=r2
    cases q2
    obtain⟨_,_,i,_⟩:=I.list t
    unfold eqD
    exact(zF f1 q1 hu (.inr i.isList)).1
  | tup ds=>unfold dep at hd;omega
  | lst ds=>unfold dep at hd;omega
 | succ n ih=>
  intro A d e x y u w hd hu r1 r2 q1 q2
  have hu0:A.units < cLine:=by omega
  have hu1:A.in1.units+n < cLine:=by show A.units+1+n < cLine;omega
  cases d with
  | leaf v=>
   unfold Rep at r1
   obtain⟨rfl,f1⟩:=r1
   cases e with
   | leaf v'=>
    unfold Rep at r2
    obtain⟨rfl,f2⟩:=r2
    unfold eqD
    exact qEz q1 q2 f1 f2
   | tup es=>
    unfold Rep at r2
    obtain⟨p,ys,rfl,t,_⟩:=r2
    cases q2
    obtain⟨_,_,i,_⟩:=I.tuple t
    unfold eqD
    exact(zF f1 q1 hu0 (.inl i)).1
   | lst es=>
    unfold Rep at r2
    obtain⟨p,ys,rfl,t,_⟩:=r2
    cases q2
    obtain⟨_,_,i,_⟩:=I.list t
    unfold eqD
    exact(zF f1 q1 hu0 (.inr i.isList)).1
  | tup ds=>
   have r1':=r1
   unfold Rep at r1
   obtain⟨p,xs,rfl,t1,s1⟩:=r1
   cases q1
   obtain⟨us,v1,i1,_⟩:=I.tuple t1
   cases e with
   | leaf v'=>
    unfold Rep at r2
    obtain⟨rfl,f2⟩:=r2
    unfold eqD
    exact(zF f2 q2 hu0 (.inl i1)).2
   | lst es=>
    unfold Rep at r2
    obtain⟨q,ys,rfl,t2,_⟩:=r2
    cases q2
    obtain⟨_,_,i2,_⟩:=I.list t2
    unfold eqD
    exact SeqAt.EqAt.tuple_list i1 i2.isList hu0
   | tup es=>
    have r2':=r2
    unfold Rep at r2
    obtain⟨q,ys,rfl,t2,s2⟩:=r2
    cases q2
    by_cases pq:p=q
    · subst pq
      rw [wu I _ _ r1' r2']
      exact SeqAt.EqAt.same _
    obtain⟨ws,v2,i2,_⟩:=I.tuple t2
    have hdd:qB2 ds≤n:=by unfold dep at hd;omega
    have:=SeqAt.EqAt.of_refs pq (SeqAt.RcAt.tuples i1 i2 hu0 (qEm s1 s2 v1 v2 fun d e x y u w hm ra rb qa qb=>by
     obtain⟨j,hj,ej⟩:=List.mem_iff_getElem.mp hm
     have hde:dep d≤qB2 ds:=qAr (j:=j) (by rw [List.getElem?_eq_getElem hj,ej])
     exact ih A.in1 d e x y u w (by omega) hu1 ra rb qa qb))
    rw [List.size_toArray,List.size_toArray,← v1.length,← v2.length,← s1.length,← s2.length,qBe] at this
    unfold eqD
    exact this
  | lst ds=>
   have r1':=r1
   unfold Rep at r1
   obtain⟨p,xs,rfl,t1,s1⟩:=r1
   cases q1
   obtain⟨us,v1,i1,_⟩:=I.list t1
   cases e with
   | leaf v'=>
    unfold Rep at r2
    obtain⟨rfl,f2⟩:=r2
    unfold eqD
    exact(zF f2 q2 hu0 (.inr i1.isList)).2
   | tup es=>
    unfold Rep at r2
    obtain⟨q,ys,rfl,t2,_⟩:=r2
    cases q2
    obtain⟨_,_,i2,_⟩:=I.tuple t2
    unfold eqD
    exact SeqAt.EqAt.list_tuple i1.isList i2 hu0
   | lst es=>
    have r2':=r2
    unfold Rep at r2
    obtain⟨q,ys,rfl,t2,s2⟩:=r2
    cases q2
    by_cases pq:p=q
    · subst pq
      rw [wu I _ _ r1' r2']
      exact SeqAt.EqAt.same _
    obtain⟨ws,v2,i2,_⟩:=I.list t2
    have hdd:qB2 ds≤n:=by unfold dep at hd;omega
    unfold eqD
    by_cases hl:ds.length=es.length
    · have hsz:us.toArray.size=ws.toArray.size:=by rw [List.size_toArray,List.size_toArray,← v1.length,← v2.length,← s1.length,← s2.length];exact hl
      have:=SeqAt.EqAt.of_refs pq (SeqAt.RcAt.lists i1.isList i2.isList hsz hu0 (qEm s1 s2 v1 v2 fun d e x y u w hm ra rb qa qb=>by
       obtain⟨j,hj,ej⟩:=List.mem_iff_getElem.mp hm
       have hde:dep d≤qB2 ds:=qAr (j:=j) (by rw [List.getElem?_eq_getElem hj,ej])
       exact ih A.in1 d e x y u w (by omega) hu1 ra rb qa qb))
      rw [List.size_toArray,← v1.length,← s1.length,qB3 hl] at this
      exact this
    · have hsz:(us.toArray.size != ws.toArray.size)=true:=by
       rw [List.size_toArray,List.size_toArray,← v1.length,← v2.length,← s1.length,← s2.length]
       simpa using hl
      have e:kq ds es=false:=by
       rw [Bool.eq_false_iff]
       intro z
       exact hl (zy z)
      rw [e]
      exact SeqAt.EqAt.of_refs pq (SeqAt.RcAt.lists_lengths i1.isList i2.isList hsz hu0)
def kin:D→D→Bool
 | .tup _,.tup _=>true
 | .lst _,.lst _=>true
 | _,_=>false
inductive qH3 (K:PySem.W.Frag)(neg:Bool)(x:V)(y:V)(H:Hp)(Q:VK):Prop
| mk (d e:D) (_:Rep K H d x) (_:Rep K H e y) (_:kin d e=true) (_:dep d≤60) (_:Q (.bl (if neg then !eqD d e else eqD d e)) H)
theorem zK {A:Around}(I:Inv X pins σ H s)(hu:A.units+64 < cLine){ds es:List D}{xs ys:List V}{us ws:List Value}(hd:qB2 ds≤60)(s1:Reps X.K H ds xs)(s2:Reps X.K H es ys)(v1:Vals xs us)(v2:Vals ys ws):
 ∀ j (h1:j < us.toArray.size) (h2:j < ws.toArray.size),SeqAt.EqAt A.in1 s us.toArray[j] ws.toArray[j] (itE ds es j):=
 qEm s1 s2 v1 v2 fun d e x y u w hm ra rb qa qb=>by
  obtain⟨j,hj,ej⟩:=List.mem_iff_getElem.mp hm
  have hde:dep d≤qB2 ds:=qAr (j:=j) (by rw [List.getElem?_eq_getElem hj,ej])
  exact qJ6 I 60 A.in1 d e x y u w (by omega) (by show A.units+1+60 < cLine;omega) ra rb qa qb
theorem qHe (hu:X.A.units+64 < cLine):OpR X (compareOp .Eq) (qH3 X.K false):=by
 intro pins s σ H x y v u Q I rx ry h
 obtain⟨d,e,r1,r2,hk,hd,q⟩:=h
 have hu0:X.A.units < cLine:=by omega
 cases d with
 | leaf a=>cases e <;> cases hk
 | tup ds=>
  cases e with
  | leaf b=>cases hk
  | lst es=>cases hk
  | tup es=>
   unfold Rep at r1 r2
   obtain⟨p,xs,rfl,t1,s1⟩:=r1
   obtain⟨p',ys,rfl,t2,s2⟩:=r2
   cases rx;cases ry
   obtain⟨us,v1,i1,_⟩:=I.tuple t1
   obtain⟨ws,v2,i2,_⟩:=I.tuple t2
   refine SeqAt.eq_tupleAt i1 i2 hu0 (zK I hu (by unfold dep at hd;omega) s1 s2 v1 v2) ?_
   rw [List.size_toArray,List.size_toArray,← v1.length,← v2.length,← s1.length,← s2.length,qBe]
   refine⟨.bl _,H,I,rfl,?_⟩
   unfold eqD at q
   exact q
 | lst ds=>
  cases e with
  | leaf b=>cases hk
  | tup es=>cases hk
  | lst es=>
   unfold Rep at r1 r2
   obtain⟨p,xs,rfl,t1,s1⟩:=r1
   obtain⟨p',ys,rfl,t2,s2⟩:=r2
   cases rx;cases ry
   obtain⟨us,v1,i1,_⟩:=I.list t1
   obtain⟨ws,v2,i2,_⟩:=I.list t2
   unfold eqD at q
   by_cases hl:ds.length=es.length
   · have hsz:us.toArray.size=ws.toArray.size:=by rw [List.size_toArray,List.size_toArray,← v1.length,← v2.length,← s1.length,← s2.length];exact hl
     refine SeqAt.eq_listAt i1.isList i2.isList hsz hu0 (zK I hu (by unfold dep at hd;omega) s1 s2 v1 v2) ?_
     rw [List.size_toArray,← v1.length,← s1.length,qB3 hl]
     exact⟨.bl _,H,I,rfl,q⟩
   · have hsz:(us.toArray.size != ws.toArray.size)=true:=by
      rw [List.size_toArray,List.size_toArray,← v1.length,← v2.length,← s1.length,← s2.length]
      simpa using hl
     have e:kq ds es=false:=by
      rw [Bool.eq_false_iff]
      intro z
      exact hl (zy z)
     rw [e] at q
     exact SeqAt.eq_list_lengthsAt i1.isList i2.isList hsz hu0 ⟨.bl _,H,I,rfl,q⟩
theorem vI (hu:X.A.units+64 < cLine):OpR X (compareOp .NotEq) (qH3 X.K true):=by
 intro pins s σ H x y v u Q I rx ry h
 obtain⟨d,e,r1,r2,hk,hd,q⟩:=h
 have hu0:X.A.units < cLine:=by omega
 cases d with
 | leaf a=>cases e <;> cases hk
 | tup ds=>
  cases e with
  | leaf b=>cases hk
  | lst es=>cases hk
  | tup es=>
   unfold Rep at r1 r2
   obtain⟨p,xs,rfl,t1,s1⟩:=r1
   obtain⟨p',ys,rfl,t2,s2⟩:=r2
   cases rx;cases ry
   obtain⟨us,v1,i1,_⟩:=I.tuple t1
   obtain⟨ws,v2,i2,_⟩:=I.tuple t2
   refine SeqAt.RcNeAt.tuples i1 i2 hu0 (zK I hu (by unfold dep at hd;omega) s1 s2 v1 v2) _ _ _ _ ?_
   rw [List.size_toArray,List.size_toArray,← v1.length,← v2.length,← s1.length,← s2.length,qBe]
   refine⟨.bl _,H,I,rfl,?_⟩
   unfold eqD at q
   exact q
 | lst ds=>
  cases e with
  | leaf b=>cases hk
  | tup es=>cases hk
  | lst es=>
   unfold Rep at r1 r2
   obtain⟨p,xs,rfl,t1,s1⟩:=r1
   obtain⟨p',ys,rfl,t2,s2⟩:=r2
   cases rx;cases ry
   obtain⟨us,v1,i1,_⟩:=I.list t1
   obtain⟨ws,v2,i2,_⟩:=I.list t2
   unfold eqD at q
   by_cases hl:ds.length=es.length
   · have hsz:us.toArray.size=ws.toArray.size:=by rw [List.size_toArray,List.size_toArray,← v1.length,← v2.length,← s1.length,← s2.length];exact hl
     refine SeqAt.RcNeAt.lists i1.isList i2.isList hsz hu0 (zK I hu (by unfold dep at hd;omega) s1 s2 v1 v2) _ _ _ _ ?_
     rw [List.size_toArray,← v1.length,← s1.length,qB3 hl]
     exact⟨.bl _,H,I,rfl,q⟩
   · have hsz:(us.toArray.size != ws.toArray.size)=true:=by
      rw [List.size_toArray,List.size_toArray,← v1.length,← v2.length,← s1.length,← s2.length]
      simpa using hl
     have e:kq ds es=false:=by
      rw [Bool.eq_false_iff]
      intro z
      exact hl (zy z)
     rw [e] at q
     exact SeqAt.RcNeAt.lists_lengths i1.isList i2.isList hsz hu0 _ _ _ _ ⟨.bl _,H,I,rfl,q⟩
end
end L3
namespace L3
open PySem PySem.Spec PyProof.Rows L2
theorem qFv {X:Cx}{pins:List (Addr × Obj)}{σ:L2.St}{H:Hp}{s:Shared}{h':Heap}{t':Nat}{ch:List Addr}(I:Inv X pins σ H s)(hf:∀ b∈ch,qF2 X pins H b)
 (k:∀ b o,b ∉ ch→s.heap.get? b=some o→h'.get? b=some o):Inv X pins σ H {s with heap:=h',toks:=t'}:=by
 have nit:∀ b u,H b=some u→b ∉ ch:=fun b u e z=>by rw [(hf b z).1] at e;cases e
 refine I.step (g':=s.gens) (d':=s.drawn) (ch:=ch) (fun b hb=>?_) (fun b o _ _ hc e _=>k b o hc e) (fun b o _ _ hc e _=>⟨o.slots,k b o hc e⟩) (fun _ _ _ _ n=>n)
  (fun b o hc e=>⟨o,k b o hc e⟩) (fun _ _ e=>e) (fun _ _ _ e=>e) (fun b ps e=>⟨#[],by rw [e];simp⟩) (fun m hm=>?_) (fun b u e=>?_) I.bare
 · obtain⟨_,f1,_,f3,f4,f5⟩:=hf b hb
   exact⟨f3,f1,f4,f5⟩
 · obtain⟨o,es,ep,ho,r⟩:=hm
   exact⟨o,es,ep,k _ o (fun z=>(hf _ z).2.1 rfl) ho,r⟩
 · refine(I.hok b u e).stay (fun c v hc q=>k c v ?_ q) (fun _ q=>q) fun _ _ q=>q
   rcases hc with z | z
   · rw [z];exact nit b u e
   · exact nit c _ z
theorem qG5 {X:Cx}{pins:List (Addr × Obj)}{σ:L2.St}{H:Hp}{s:Shared}{h':Heap}{t':Nat}{ch:List Addr}{xs:List V}{us:Array Value}(I:Inv X pins σ H s)(hf:∀ b∈ch,qF2 X pins H b)(hlt:∀ b∈ch,b < s.heap.objs.size)
 (k:∀ b o,b ∉ ch→s.heap.get? b=some o→h'.get? b=some o) (hT:h'.get? s.heap.objs.size=some {cls:=.type "tuple",data:=.seq us}) (r:Vals xs us.toList) (hz:xs.length≤sizeLine):
 Inv X pins σ (upd H s.heap.objs.size (.tup xs)) {s with heap:=h',toks:=t'}∧∀ b∈ch,upd H s.heap.objs.size (.tup xs) b=none:=by
 have hn:∀ b∈ch,upd H s.heap.objs.size (.tup xs) b=none:=fun b hb=>by
  rw [qY (Nat.ne_of_lt (hlt b hb))];exact(hf b hb).1
 have I1:Inv X pins σ (upd H s.heap.objs.size (.tup xs)) {s with heap:=s.heap.push {cls:=.type "tuple",data:=.seq us},toks:=t'}:=
  I.laid (t':=t') (fun b o e=>Heap.get?_push_of_some _ e) (Nat.le_refl _) ⟨hz,us.toList,r,⟨_,Heap.get?_push_size _ rfl,rfl,_,rfl⟩⟩
 have I2:=qFv (h':=h') (t':=t') (ch:=ch) I1 (fun b hb=>⟨hn b hb,(hf b hb).2⟩) (fun b o hb e=>?_)
 · exact⟨I2,hn⟩
 rcases Heap.get?_push_cases e with ⟨e1,e2⟩ | e1
 · rw [e1,e2];exact hT
 · exact k b o hb e1
def Ite (K:PySem.W.Frag)(a:Addr):It:=
 ⟨fun i H=>∃ xs x,SqL K H a xs∧xs[i]? =some x,fun i H x H'=>∃ p v,H p=none∧x= .ref p∧(∀ xs,SqL K H a xs→xs[i]? =some v)∧H'=upd H p (.tup [.int i,v]),fun i H=>∃ xs,SqL K H a xs∧xs.length≤i⟩
theorem qD8 {P:Program}{w:World}{K:PySem.W.Frag}{elts:List Expr}{k1:Nat}{pos:Pos}(a e it:Addr)(hne:e≠it):
 qIk P w K (.Tuple elts k1 pos) (Ite K a) [e,it] e (fun i h=>(∃ old,IsEnum h e it (i:Nat) old)∧h.IsListIter it a i) where
 mem:=by simp
 obj:=fun i h st b hb=>by
  obtain⟨⟨old,he⟩,o,ho,c,d⟩:=st
  rcases List.mem_cons.mp hb with rfl | hb
  · exact⟨_,he,fun v z=>by cases z⟩
  · have e:b=it:=by simpa using hb
    subst e
    exact⟨o,ho,fun v z=>by rw [d] at z;cases z⟩
 keep:=fun i h h' st k=>by
  obtain⟨⟨old,he⟩,hi⟩:=st
  exact⟨⟨old,k e (by simp) _ he⟩,hi.at fun o q=>k it (by simp) o q⟩
 item:=by
  intro X hP hw hK hc i pins s σ H E I hf st hg
  subst hP hw hK
  obtain⟨⟨old,he⟩,hit⟩:=st
  obtain⟨xs,x,hq,hx⟩:=hg
  obtain⟨its,rv,p,hz⟩:=I.list hq
  obtain⟨u,hu,ru⟩:=rv.get hx
  refine wpAny_pyNext_enum_item he hit p.isList (x:=u) (by simpa using hu) hne fun h' heo hit' hT hsz hk=>?_
  refine⟨_,rfl,wpAny_letOwnedTupleGo_enum heo fun h'' he'' hs''=>?_⟩
  have hel:e < s.heap.objs.size:=Heap.lt_size he
  have hil:it < s.heap.objs.size:=by obtain⟨_,q,_⟩:=hit;exact Heap.lt_size q
  have T:=qG5 (h':=h'') (t':=s.toks+1) (ch:=[e,it]) (xs:=[.int i,x]) (us:=#[.int i s.toks,u]) I hf (fun b hb=>by
   rcases List.mem_cons.mp hb with rfl | hb
   · exact hel
   · have z:b=it:=by simpa using hb
     subst z;exact hil)
   (fun b o hb q=>(hs''.2 b (fun z=>hb (by simp [z]))).trans (hk b o (fun z=>hb (by simp [z])) (fun z=>hb (by simp [z])) q))
   ((hs''.2 _ (Nat.ne_of_gt hel)).trans hT) (.cons ⟨_,rfl⟩ (.cons ru .nil)) (by show 2≤sizeLine;decide)
  refine⟨.ref s.heap.objs.size,_,T.1,rfl,⟨_,x,I.hok.fresh (Nat.le_refl _),rfl,fun ys hy=>by rw [I.list_inj hy hq];exact hx,rfl⟩,⟨⟨u,by simpa using he''⟩,hit'.at fun o q=>(hs''.2 it hne.symm).trans q⟩,T.2⟩
 done:=by
  intro X hP hw hK hc i pins s σ H E I hf st hg
  subst hP hw hK
  obtain⟨⟨old,he⟩,hit⟩:=st
  obtain⟨xs,hq,hx⟩:=hg
  obtain⟨its,rv,p,hz⟩:=I.list hq
  obtain⟨f0,f1,f2,f3,f4,f5⟩:=hf it (by simp)
  have hl:=rv.length
  exact wpAny_pyNext_enum_end (I.ok.hd hc) he hit p.isList (by simp;omega) fun h' eb=>⟨rfl,I.turned (t':=s.toks) (fun b o hb e=>eb b o hb e) f0 f1 f3 f4 f5⟩
 self:=fun _ _ _ _ _ st h=>by
  obtain⟨⟨old,he⟩,_⟩:=st
  exact wpAny_pyIter_enum he h
inductive qJ7 (K:PySem.W.Frag)(R:It→Hp→Prop)(vs:List V)(H1:Hp):Prop
| mk a (_:vs=[.ref a]) (_:(∃ xs,SqL K H1 a xs)) (_:R (Ite K a) H1)
def qLa (K:PySem.W.Frag)(t:TA):TI:=fun σ H R=>t σ H fun vs H1=>qJ7 K R vs H1
theorem qIt {X:Cx}{l:Expr}{tl:TA}{elts:List Expr}{k1:Nat}{tpos p pos:Pos}(hg:Gl X "enumerate")(hm:X.mg "enumerate"=none)(hl:PA X [l] tl)(hs:starEach [l] X.env=[(false,eval l X.env)]:=by rfl):
 PI X (.Tuple elts k1 tpos) (.Call (.Name "enumerate" p) [l] [] pos) (qLa X.K tl):=by
 intro pins s σ H R I h
 refine Call_ (vV I hg hm boot_enumerate (PyProof.Rows.callWith_type1 (thn (hl pos pins s σ H _ I h) fun us s1 ⟨vs,H1,I1,r1,q1⟩=>?_) hs rfl))
 obtain⟨a,e,⟨xs,hq⟩,q⟩:=q1
 subst e
 cases r1 with
 | cons r rr=>
  cases rr
  cases r
  obtain⟨its,rv,pl,hz⟩:=I1.list hq
  refine call_enumerate_list pl.isList fun h' he hit hsz hk=>?_
  refine wpAny_pyIter_enum he ?_
  refine⟨s1.heap.objs.size+1,[s1.heap.objs.size+1,s1.heap.objs.size],_,_,H1,rfl,I1.kept (t':=s1.toks) fun b o e=>hk b o e,qD8 a _ _ (Nat.succ_ne_self _),⟨⟨_,he⟩,hit⟩,fun b hb=>?_,q⟩
  rcases List.mem_cons.mp hb with rfl | hb
  · exact I1.fpOk (Nat.le_succ _) (I1.hok.fresh (Nat.le_succ _))
  · have e:b=s1.heap.objs.size:=by simpa using hb
    subst e
    exact I1.fpOk (Nat.le_refl _) (I1.hok.fresh (Nat.le_refl _))
def qMw (t:TT):TT:=fun σ H Q=>∃ R:Bool→Hp→Prop,t σ H R∧∀ b H',R b H'→Q b H'
theorem qD4 {X:Cx}{e:Expr}{t:TT}(h:PT X e t):PT X e (qMw t):=by
 rintro pins s σ H Q I ⟨R,ht,hR⟩
 exact thn (h pins s σ H R I ht) fun b s' ⟨H',I',r⟩=>⟨H',I',hR b H' r⟩
def CompEndP (K:PySem.W.Frag)(js:List Nat)(tc:TT)(te:TE)(σ:L2.St)(Q:VK)(J:It)(H1:Hp):Prop:=∃ W:Nat→Nat→List V→Hp→Prop,(∃ m,W 0 m [] H1)∧∀ i m acc H2,W i m acc H2→
 acc.length < sizeLine∧((J.stop i H2∧∀ D,H2 D=none→Q (.ref D) (upd H2 D (.lst acc)))∨
  (J.go i H2∧∀ x H3,J.yld i H2 x H3→∃ p va vb,x= .ref p∧SqT K H3 p [va,vb]∧tc (some va::some vb::xZ js σ) H3 fun ok H4=>if ok=true then te (some va::some vb::xZ js σ) H4 fun v H5=>∃ m',m' < m∧W (i+1) m' (acc++[v]) H5 else ∃ m',m' < m∧W (i+1) m' acc H4))
def qJd (K:PySem.W.Frag)(js:List Nat)(wi:TI)(tc:TT)(te:TE):TE:=fun σ H Q=>wi σ H (CompEndP K js tc te σ Q)
theorem CompEndP.g {K:PySem.W.Frag}{js:List Nat}{tc:TT}{te:TE}(σ:L2.St)(Q:VK)(J:It)(H1:Hp):CompEndP K js tc te σ Q J H1→jr 2 js (qI6 K 2 (kr (xJ 0) (kr (xJ 1) qKd))) tc te σ Q J H1:=fun⟨W,w0,st⟩=>
 ⟨W,w0,fun i m acc H2 w=>⟨(st i m acc H2 w).1,(st i m acc H2 w).2.imp id fun⟨go,y⟩=>⟨go,fun x H3 z=>let ⟨p,va,vb,e,q,r⟩:=y x H3 z;⟨p,_,e,q,rfl,va,_,rfl,vb,_,rfl,rfl,[some va,some vb],rfl,rfl,r⟩⟩⟩⟩
theorem qFu {X:Cx}{scope:Scope}{cl:List (Str × Addr)}{x1 x2:Str}{px1 px2:Pos}{tk:Nat}{tpos:Pos}{ys:List Str}(hcm:X.calm=true)(hnd:([x1,x2]++ys).Nodup)(hx1:scope.names.lookup x1=some .local)(hx2:scope.names.lookup x2=some .local)(C:Addr)(s:Shared)(H:Hp)(fp:List Addr):PG (qS X scope cl C ([x1,x2]++ys) s H fp).nox (.Tuple [.Name x1 px1,.Name x2 px2] tk tpos) (qI6 X.K 2 (kr (xJ 0) (kr (xJ 1) qKd))):=
 qJ5 (X:=(qS X scope cl C ([x1,x2]++ys) s H fp).nox) hcm (qDi (jo (i:=0) hnd rfl (.inl (lookup_relabel_local hx1)) (.inr (lookup_relabel_local hx1))) (qDi (jo (i:=1) hnd rfl (.inl (lookup_relabel_local hx2)) (.inr (lookup_relabel_local hx2))) qH5))
theorem qGt {X:Cx}{elt iter cnd:Expr}{x1 x2:Str}{px1 px2:Pos}{tk:Nat}{tpos:Pos}{scope:Scope}{cl:List (Str × Addr)}{pos:Pos}{wi:TI}{tc:TT}{te:TE}(ys:List Str)(js:List Nat){i:Nat}{y:Str}{py spos:Pos}(hN:X.N.Nodup)(hi':X.N[i]? =some y)(hy:X.env.kindOf y=some .local)
 (hcm:X.calm=true) (hi:PI X (.Tuple [.Name x1 px1,.Name x2 px2] tk tpos) iter wi) (hc:∀ C s H fp,PT (qS X scope cl C (x1::x2::ys) s H fp).nox cnd tc) (he:∀ C s H fp,PE (qS X scope cl C (x1::x2::ys) s H fp).nox elt te) (hx1:scope.names.lookup x1=some .local:=by rfl) (hx2:scope.names.lookup x2=some .local:=by rfl) (hC:COk X scope cl iter [x1,x2] ys js:=by exact⟨rfl,rfl,rfl,rfl,rfl,rfl,rfl,rfl,fun _=>rfl,by decide⟩) (hsw:swapsWith (.ListComp elt [⟨.Tuple [.Name x1 px1,.Name x2 px2] tk tpos,iter,[cnd],0⟩] scope pos) (some (.Name y py)) spos.line X.env=pure true:=by rfl):PS X (.Assign [.Name y py] (.ListComp elt [⟨.Tuple [.Name x1 px1,.Name x2 px2] tk tpos,iter,[cnd],0⟩] scope pos) spos) (qG4 (qJd X.K js wi tc te) (xJ i)):=
 qC0 (xs:=[x1,x2]) (T:=CompEndP X.K js tc te) hN hi' hy hcm hi (qFu hcm hC.nd hx1 hx2) (fun C s H fp=>qIh (hc C s H fp)) he hC CompEndP.g hsw
theorem qDy {K:PySem.W.Frag}{a:Addr}{xs:List V}{js:List Nat}{tc:TT}{te:TE}{σ:L2.St}{H:Hp}{Q:VK}(Pv:Nat→List V→Hp→Prop)(h0:Pv 0 [] H)(hl:∀ i acc H,i≤xs.length→Pv i acc H→SqL K H a xs∧acc.length < sizeLine)
 (hs:∀ i x acc H p,i < xs.length→xs[i]? =some x→Pv i acc H→H p=none→tc (some (.int i)::some x::xZ js σ) (upd H p (.tup [.int i,x])) fun ok H'=>if ok=true then te (some (.int i)::some x::xZ js σ) H' fun v H''=>Nxt xs.length i (Pv (i+1) (acc++[v]) H'') else Nxt xs.length i (Pv (i+1) acc H')) (hd:∀ acc H,Pv xs.length acc H→∀ D,H D=none→Q (.ref D) (upd H D (.lst acc))):CompEndP K js tc te σ Q (Ite K a) H:=by
 refine⟨fun i m acc H=>m=xs.length - i∧i≤xs.length∧Pv i acc H,⟨xs.length,by simp,Nat.zero_le _,h0⟩,?_⟩
 rintro i m acc H2 ⟨rfl,hi,p⟩
 obtain⟨q,hz⟩:=hl i acc H2 hi p
 refine⟨hz,?_⟩
 by_cases hlt:i < xs.length
 · refine .inr ⟨⟨xs,xs[i],q,by simp [hlt]⟩,fun x H3 y=>?_⟩
   obtain⟨z,v,hz,rfl,y,rfl⟩:=y
   exact⟨z,_,_,rfl,SqT.of qC,hs i v acc _ z hlt (y xs q) p hz⟩
 · have e:i=xs.length:=by omega
   subst e
   exact .inl ⟨⟨xs,q,Nat.le_refl _⟩,hd acc H2 p⟩
theorem qDw (n:Nat):n+4≠n+2∧n+4≠n+3∧n+4≠n∧n+4≠n+1∧n+2≠n+3∧n+2≠n∧n+2≠n+1∧n+3≠n∧n+3≠n+1∧n≠n+1:=by omega
section
variable {P : Program} {w : World} {K : PySem.W.Frag}
end
def EqIn (P:Program)(w:World)(A:Around)(s:Shared)(y x:Value):Prop:=∀ (E:Value→Shared→Prop) (Q:Bool→Shared→Prop),Q true s→wpAny (model P w) A (eqBool y x) Q E s
theorem EqIn.rc {P:Program}{w:World}{A:Around}{s:Shared}{l b:Addr}(h:∀ (E:Value→Shared→Prop) (Q:Value→Shared→Prop),Q (.bool true) s→wpAny (model P w) A (richCompare .Eq (.ref l) (.ref b)) Q E s):EqIn P w A s (.ref l) (.ref b):=by
 by_cases e:l=b
 · subst e
   exact fun E Q hq=>SeqAt.EqAt.same _ P w E Q hq
 · intro E Q hq
   unfold eqBool
   refine wpAny_holding (wpAny_ite_split (fun z=>?_) (fun _=>?_))
   · have:=eq_of_beq z
     injection this with this
     exact absurd this e
   · exact wpAny_bind (h E _ (wpAny_truthy_bool hq))
section
variable {X : Cx} {pins : List (Addr × Obj)} {σ : L2.St} {H : Hp} {s : Shared}
end
end L3
set_option maxRecDepth 100000
namespace L3
open PySem PySem.Spec PyProof.Rows L2
theorem qAe {K:PySem.W.Frag}{a:Addr}{xs:List V}{js:List Nat}{te:TE}{σ:L2.St}{H:Hp}{Q:VK}(Pv:Nat→List V→Hp→Prop)(h0:Pv 0 [] H)(hl:∀ i acc H,i≤xs.length→Pv i acc H→SqT K H a xs∧acc.length < sizeLine)
 (hs:∀ i x acc H,i < xs.length→xs[i]? =some x→Pv i acc H→te (some x::xZ js σ) H fun v H'=>Nxt xs.length i (Pv (i+1) (acc++[v]) H')) (hd:∀ acc H,Pv xs.length acc H→∀ D,H D=none→Q (.ref D) (upd H D (.lst acc))):CompEnd js te σ Q (Itt K a) H:=by
 refine⟨fun i m acc H=>m=xs.length - i∧i≤xs.length∧Pv i acc H,⟨xs.length,by simp,Nat.zero_le _,h0⟩,?_⟩
 rintro i m acc H2 ⟨rfl,hi,p⟩
 obtain⟨q,hz⟩:=hl i acc H2 hi p
 refine⟨hz,?_⟩
 by_cases hlt:i < xs.length
 · refine .inr ⟨⟨xs,xs[i],q,by simp [hlt]⟩,fun x H3 y=>?_⟩
   obtain⟨e,y⟩:=y
   subst e
   exact hs i x acc _ hlt (y xs q) p
 · have e:i=xs.length:=by omega
   subst e
   exact .inl ⟨⟨xs,q,Nat.le_refl _⟩,hd acc H2 p⟩
variable {X : Cx}
def qIm:V→List V→Hp→VK→Prop:=fun x vs H Q=>∃ a b:Str,x= .str a∧vs=[.str b]∧Q (.bl (decide (0+b.length≤a.length) && Builtin.Str.subAt a b 0)) H
theorem qAo:MtM X "str.startswith" qIm:=by
 intro pins s σ H x vs v us Q I rx rv h
 obtain⟨a,b,rfl,rfl,q⟩:=h
 obtain⟨t,rfl⟩:=rx
 obtain⟨u,rfl,ru⟩:=rv.one
 obtain⟨t',rfl⟩:=ru
 refine call_gives F.slot_str_startswith (typeIs_str s a t) F.entry_str_startswith (F.args_str_startswith_2 _ _) (gives_str_startswith a b t t') ?_
 exact⟨.bl _,H,I,rfl,q⟩
def qLn:V→List V→Hp→VK→Prop:=fun x vs H Q=>∃ a b:Str,x= .str a∧vs=[.str b]∧(b.length == 0)=false∧a.length≤sizeLine∧
 ∀ p,H p=none→Q (.ref p) (upd H p (.tup [.str (Txt.partition a b).1,.str (Txt.partition a b).2.1,.str (Txt.partition a b).2.2]))
theorem qA5:MtM X "str.partition" qLn:=by
 intro pins s σ H x vs v us Q I rx rv h
 obtain⟨a,b,rfl,rfl,hb,ha,q⟩:=h
 obtain⟨t,rfl⟩:=rx
 obtain⟨u,rfl,ru⟩:=rv.one
 obtain⟨t',rfl⟩:=ru
 refine call_meets F.slot_str_partition (typeIs_str s a t) F.entry_str_partition (F.args_str_partition_2 _ _) (meets_str_partition a b t t' hb ha) ?_
 have hf:H s.heap.objs.size=none:=I.hok.fresh (Nat.le_refl _)
 have lay:∀ (x1 x2 x3:Str) (t1 t2 t3:Tok) (k:Nat),Inv X pins σ (upd H s.heap.objs.size (.tup [.str x1,.str x2,.str x3])) {s with toks:=k,heap:=s.heap.push {cls:=.type "tuple",data:=.seq [.str x1 t1,.str x2 t2,.str x3 t3].toArray}}:=fun x1 x2 x3 t1 t2 t3 k=>by
  refine I.laid (t':=k) (fun b u e=>Heap.get?_push_of_some _ e) (Nat.le_refl _) ?_
  exact⟨(by show 3≤sizeLine;decide),[.str x1 t1,.str x2 t2,.str x3 t3],.cons ⟨_,rfl⟩ (.cons ⟨_,rfl⟩ (.cons ⟨_,rfl⟩ .nil)),⟨_,Heap.get?_push_size _ rfl,rfl,_,rfl⟩⟩
 have q':=q _ hf
 unfold Txt.partition at q'
 revert q'
 cases Builtin.Str.occurrences a b 0 a.length 1 with
 | nil=>intro q';exact⟨.ref _,_,lay _ _ _ _ _ _ _,rfl,q'⟩
 | cons i r=>intro q';exact⟨.ref _,_,lay _ _ _ _ _ _ _,rfl,q'⟩
theorem qBu:∀ (l:List (Str × Tok)),Vals ((l.map (·.1)).map V.str) (strValues l)
 | []=>.nil
 | p::l=>.cons ⟨_,rfl⟩ (qBu l)
def qJc:V→List V→Hp→VK→Prop:=fun x vs H Q=>∃ a b:Str,x= .str a∧vs=[.str b]∧(b.length == 0)=false∧a.length+2≤sizeLine∧
 ∀ p,H p=none→Q (.ref p) (upd H p (.lst ((Txt.split a b).map V.str)))
theorem xP:MtM X "str.split" qJc:=by
 intro pins s σ H x vs v us Q I rx rv h
 obtain⟨a,b,rfl,rfl,hb,ha,q⟩:=h
 obtain⟨t,rfl⟩:=rx
 obtain⟨u,rfl,ru⟩:=rv.one
 obtain⟨t',rfl⟩:=ru
 have hf:H s.heap.objs.size=none:=I.hok.fresh (Nat.le_refl _)
 have lay:∀ (l:List (Str × Tok)) (k:Nat),l.length≤sizeLine→Inv X pins σ (upd H s.heap.objs.size (.lst ((l.map (·.1)).map V.str))) {s with toks:=k,heap:=s.heap.push {cls:=.type "list",data:=.seq (strValues l).toArray}}:=fun l k hl=>by
  refine I.laid (t':=k) (fun b u e=>Heap.get?_push_of_some _ e) (Nat.le_refl _) ?_
  exact⟨by rw [List.length_map,List.length_map];exact hl,strValues l,0,qBu l,Heap.get?_push_size _ rfl⟩
 have hn:(Builtin.Str.partsBetween a (Builtin.Str.occurrences a b 0 a.length (a.length+1)) b.length).length≤sizeLine:=by
  have e1:=StrLaws.occ_length_le a b 0 a.length (a.length+1)
  rw [length_partsBetween];omega
 cases h1:(decide (a.length < b.length) || decide (Builtin.Str.strKind a < Builtin.Str.strKind b))
 · cases hf':(Builtin.Str.occurrences a b 0 a.length (a.length+1)).isEmpty
   · refine call_meets F.slot_str_split (typeIs_str _ _ _) F.entry_str_split (F.args_str_split_2 _ _) (meets_str_split_sep a b t t' h1 hb hf' (by omega) hn) ?_
     show wants _ _ _ {s with toks:=_,heap:=s.heap.push {cls:=.type "list",data:=.seq (strsFrom s.toks (Builtin.Str.partsBetween a (Builtin.Str.occurrences a b 0 a.length (a.length+1)) b.length)).toArray}}
     rw [strsFrom_eq]
     have e:(numbered s.toks (Builtin.Str.partsBetween a (Builtin.Str.occurrences a b 0 a.length (a.length+1)) b.length)).map (·.1)=Txt.split a b:=(numbered_texts _ _).trans ((if_neg (ne_true_of_eq_false h1)).trans (if_neg (ne_true_of_eq_false hf'))).symm
     have q':=q _ hf
     rw [← e] at q'
     exact⟨.ref _,_,lay _ _ (by rw [← List.length_map (f:=(·.1)),numbered_texts];exact hn),rfl,q'⟩
   · refine call_meets F.slot_str_split (typeIs_str _ _ _) F.entry_str_split (F.args_str_split_2 _ _) (meets_str_split_not_found a b t t' h1 hb hf') ?_
     have e:[a]=Txt.split a b:=((if_neg (ne_true_of_eq_false h1)).trans (if_pos hf')).symm
     have q':=q _ hf
     rw [← e] at q'
     exact⟨.ref _,_,lay [(a,t)] s.toks (by show 1≤sizeLine;decide),rfl,q'⟩
 · refine call_meets F.slot_str_split (typeIs_str _ _ _) F.entry_str_split (F.args_str_split_2 _ _) (meets_str_split_cannot_occur a b t t' h1) ?_
   have e:[a]=Txt.split a b:=(if_pos h1).symm
   have q':=q _ hf
   rw [← e] at q'
   exact⟨.ref _,_,lay [(a,t)] s.toks (by show 1≤sizeLine;decide),rfl,q'⟩
theorem qi:zX X (.type "int") (fun xs H Q=>∃ (z:Str) (n:Int),xs=[.str z]∧z.length≤640∧intText? z=some n∧Q (.int n) H):=by
 intro pins s σ H xs us Q I r h
 obtain⟨z,n,rfl,hl,hn,q⟩:=h
 obtain⟨u,rfl,t,rfl⟩:=vU r
 exact PySem.W.KIN.call_text hn hl ⟨.int n,H,I.tok _,⟨_,rfl⟩,q⟩
end L3
namespace L3
open PySem PySem.Spec PyProof.Rows L2 PySem.NumText PySem.Builtin.Str
def jq (l:List Nat):List Nat:=if l.head?=some 45 then l.tail else l
def qAp (c:Nat):Bool:=!(occurrences "0123456789" ⟨#[c]⟩ 0 ("0123456789":Str).length 1).isEmpty
theorem qF6:("0123456789":Str).cps.toList=[48,49,50,51,52,53,54,55,56,57]:=by decide+kernel
theorem qAf (c:Nat):qAp c=true↔48≤c∧c≤57:=by
 unfold qAp
 rw [StrLaws.found_one,decide_eq_true_eq,qF6]
 simp only [List.mem_cons,List.not_mem_nil,or_false]
 omega
theorem kY {l:List Nat}(h:l.all qAp=true):AllDigits l:=fun c hc=>(qAf c).mp (List.all_eq_true.mp h c hc)
theorem qB7 (x:Str):(decide (0+("-":Str).length≤x.length) && subAt x "-" 0)=decide (x.cps.toList.head?=some 45):=by
 have h:=StrLaws.subAt_one x 45 0
 have e:("-":Str)=⟨#[45]⟩:=by decide+kernel
 rw [e,Bool.eq_iff_iff,Bool.and_eq_true,decide_eq_true_eq,decide_eq_true_eq,List.head?_eq_getElem?]
 exact h
def qBy (l:List Nat):Int:=if l.head?=some 45 then -((digitsVal (jq l):Nat):Int) else ((digitsVal (jq l):Nat):Int)
structure Fig (l:List Nat):Prop where
 ne:jq l≠[]
 len:(jq l).length≤60
 all:(jq l).all qAp=true
theorem zP {x:Str}(h:Fig x.cps.toList):intText? x=some (qBy x.cps.toList)∧x.length≤61:=by
 have hl:x.cps.toList.length=x.length:=Array.length_toList
 have ha:=kY h.all
 have hn:=h.ne
 have h60:=h.len
 unfold qBy
 unfold jq at ha hn h60 ⊢
 by_cases hd:x.cps.toList.head?=some 45
 · rw [if_pos hd] at ha hn h60 ⊢
   rw [if_pos hd]
   cases hx:x.cps.toList with
   | nil=>rw [hx] at hd;cases hd
   | cons c cs=>
    rw [hx] at hd ha hn h60 hl
    have hc:c=45:=by simpa using hd
    subst hc
    rw [List.length_cons] at hl
    simp only [List.tail_cons] at ha hn h60 ⊢
    exact⟨intText_neg hx ha hn (by omega),by omega⟩
 · rw [if_neg hd] at ha hn h60 ⊢
   rw [if_neg hd]
   exact⟨intText_digits ha hn (by omega),by omega⟩
theorem qDt {c:Nat}(h:48≤c∧c≤57):(Char.ofNat c).toNat=c:=by
 have:∀ d:Nat,d < 10→(Char.ofNat (48+d)).toNat=48+d:=by decide
 have:=this (c - 48) (by omega)
 rwa [show 48+(c - 48)=c by omega] at this
theorem qCu:∀ {l:List Nat},AllDigits l→(l.map Char.ofNat).map Char.toNat=l
 | [],_=>rfl
 | c::l,h=>by rw [List.map_cons,List.map_cons,qDt h.head,qCu h.tail]
theorem qGk (l:List Nat):(l.dropWhile (· == 48)).length≤l.length:=by
 induction l with
 | nil=>exact Nat.le_refl _
 | cons c l ih=>rw [List.dropWhile_cons];split <;> simp <;> omega
theorem qFd {l:List Nat}(h:AllDigits l)(hne:l≠[]):(Nat.toDigits 10 (digitsVal l)).map Char.toNat=l↔¬ (l.head?=some 48∧l≠[48]):=by
 rw [toDigits_all l h]
 cases l with
 | nil=>exact absurd rfl hne
 | cons c t=>
  by_cases hc:c=48
  · subst hc
    rw [List.dropWhile_cons,if_pos (by rfl)]
    have hdl:=qGk t
    cases hd:t.dropWhile (· == 48) with
    | nil=>
     show [48]=48::t↔_
     constructor
     · intro e z;exact z.2 e.symm
     · intro z
       have:¬ (48::t≠[48]):=fun k=>z ⟨rfl,k⟩
       exact(Decidable.not_not.mp this).symm
    | cons d r=>
     rw [hd] at hdl
     constructor
     · intro e
       have:=congrArg List.length e
       simp at this
       simp at hdl
       omega
     · intro z
       have:¬ (48::t≠[48]):=fun k=>z ⟨rfl,k⟩
       have e:=Decidable.not_not.mp this
       have:t=[]:=by simpa using e
       rw [this] at hd
       cases hd
  · rw [List.dropWhile_cons,if_neg (by simpa using hc)]
    show ((c::t).map Char.ofNat).map Char.toNat=c::t↔_
    constructor
    · intro _ z;exact hc (by simpa using z.1)
    · intro _;exact qCu h
theorem qBq {m:Nat}(h:0 < m):(Str.ofString (toString (-((m:Nat):Int)))).cps.toList=45::(Nat.toDigits 10 m).map Char.toNat:=by
 rw [signs_ofString]
 obtain⟨k,rfl⟩:∃ k,m=k+1:=⟨m - 1,by omega⟩
 have e:-(((k+1:Nat)):Int)=Int.negSucc k:=rfl
 rw [e]
 show ("-"++Nat.repr (k+1)).toList.map Char.toNat=_
 rw [String.toList_append,List.map_append,Nat.toList_repr]
 rfl
theorem vD {l:List Nat}(h:Fig l):(Str.ofString (toString (qBy l))).cps.toList=l↔¬ ((jq l).head?=some 48∧l≠[48]):=by
 have ha:=kY h.all
 have hn:=h.ne
 unfold qBy
 unfold jq at ha hn ⊢
 by_cases hd:l.head?=some 45
 · rw [if_pos hd] at ha hn ⊢
   rw [if_pos hd]
   cases l with
   | nil=>cases hd
   | cons c fs=>
    have hc:c=45:=by simpa using hd
    subst hc
    simp only [List.tail_cons] at ha hn ⊢
    have hl:(45::fs)≠[48]:=by intro z;simp at z
    by_cases h0:digitsVal fs=0
    · rw [h0]
      have hz:(Str.ofString (toString (-((0:Nat):Int)))).cps.toList=[48]:=by decide+kernel
      rw [hz]
      constructor
      · intro e;simp at e
      · intro z
        exfalso
        cases fs with
        | nil=>exact hn rfl
        | cons d r=>
         have hd48:d≠48:=fun e=>z ⟨by rw [e];rfl,hl⟩
         have:=digitsVal_pos (c:=d) (cs:=r) (by have:=ha.head;omega)
         omega
    · rw [qBq (by omega),List.cons.injEq]
      have:=qFd ha hn
      constructor
      · rintro ⟨_,e⟩ z
        have h2:=this.mp e
        by_cases e48:fs=[48]
        · rw [e48] at h0;exact h0 (by decide)
        · exact h2 ⟨z.1,e48⟩
      · intro z
        refine⟨rfl,this.mpr fun k=>z ⟨k.1,hl⟩⟩
 · rw [if_neg hd] at ha hn ⊢
   rw [if_neg hd]
   rw [PySem.W.KIN.signs_num]
   exact qFd ha hn
theorem qFr:∀ (l:List Nat) (a:Nat),a*10 ^ l.length≤l.foldl (fun acc c=>acc*10+(c - 48)) a
 | [],a=>by simp
 | c::l,a=>by
  have:=qFr l (a*10+(c - 48))
  rw [List.length_cons,Nat.pow_succ,List.foldl_cons]
  refine Nat.le_trans ?_ this
  rw [Nat.mul_comm (10 ^ l.length),← Nat.mul_assoc]
  exact Nat.mul_le_mul_right _ (by omega)
theorem zL (m:Nat):AllDigits ((Nat.toDigits 10 m).map Char.toNat):=by
 intro c hc
 obtain⟨ch,hch,e⟩:=List.mem_map.mp hc
 have r:=digit_range (Nat.isDigit_of_mem_toDigits (by decide) (by decide) hch)
 rw [← e]
 exact r
theorem qEu (m:Nat):(Nat.toDigits 10 m).map Char.toNat≠[]:=by
 intro e
 have h:=toDigits_len_ge 10 m
 rw [List.map_eq_nil_iff.mp e] at h
 exact absurd h (by decide)
theorem wa (m:Nat):¬ (((Nat.toDigits 10 m).map Char.toNat).head?=some 48∧(Nat.toDigits 10 m).map Char.toNat≠[48]):=by
 have h:=qFd (zL m) (qEu m)
 rw [PySem.W.KIN.val_back] at h
 exact h.mp rfl
theorem qE9 {m n:Nat}(h:m < 10 ^ n)(hn:1≤n):((Nat.toDigits 10 m).map Char.toNat).length≤n:=by
 have hv:=PySem.W.KIN.val_back m
 have hh:=wa m
 have hd:=zL m
 generalize (Nat.toDigits 10 m).map Char.toNat=l at*
 cases l with
 | nil=>simp
 | cons c t=>
  by_cases hc:c=48
  · have:¬ (c::t≠[48]):=fun k=>hh ⟨by rw [hc];rfl,k⟩
    rw [Decidable.not_not.mp this]
    exact hn
  · have h1:=qFr t (0*10+(c - 48))
    have h2:t.foldl (fun acc c=>acc*10+(c - 48)) (0*10+(c - 48))=m:=hv
    rw [h2] at h1
    have hc':=hd.head
    rw [List.length_cons]
    by_cases hl:n≤t.length
    · have:10 ^ n≤10 ^ t.length:=Nat.pow_le_pow_right (by decide) hl
      have h3:1*10 ^ t.length≤(0*10+(c - 48))*10 ^ t.length:=Nat.mul_le_mul_right _ (by omega)
      omega
    · omega
theorem zI {p:Int}(h:p.natAbs < 10 ^ 60):Fig (Str.ofString (toString p)).cps.toList∧qBy (Str.ofString (toString p)).cps.toList=p∧¬ ((jq (Str.ofString (toString p)).cps.toList).head?=some 48∧(Str.ofString (toString p)).cps.toList≠[48]):=by
 have alld:∀ m:Nat,((Nat.toDigits 10 m).map Char.toNat).all qAp=true:=fun m=>List.all_eq_true.mpr fun c hc=>(qAf c).mpr (zL m c hc)
 by_cases h0:p < 0
 · obtain⟨m,rfl⟩:∃ m:Nat,p= -((m:Nat):Int):=⟨p.natAbs,by omega⟩
   have hm:0 < m:=by omega
   have hm2:m < 10 ^ 60:=by omega
   rw [qBq hm]
   have ef:jq (45::(Nat.toDigits 10 m).map Char.toNat)=(Nat.toDigits 10 m).map Char.toNat:=rfl
   refine⟨⟨by rw [ef];exact qEu m,by rw [ef];exact qE9 hm2 (by decide),by rw [ef];exact alld m⟩,?_,?_⟩
   · have e45:(45::(Nat.toDigits 10 m).map Char.toNat).head?=some 45:=rfl
     unfold qBy
     rw [if_pos e45,ef,PySem.W.KIN.val_back]
   · rw [ef]
     rintro ⟨z1,_⟩
     have hh:=wa m
     by_cases e:(Nat.toDigits 10 m).map Char.toNat=[48]
     · have hv:=PySem.W.KIN.val_back m
       rw [e] at hv
       have:m=0:=hv.symm
       omega
     · exact hh ⟨z1,e⟩
 · obtain⟨m,rfl⟩:∃ m:Nat,p=((m:Nat):Int):=⟨p.natAbs,by omega⟩
   have hm2:m < 10 ^ 60:=by omega
   rw [PySem.W.KIN.signs_num]
   have hn45:¬ ((Nat.toDigits 10 m).map Char.toNat).head?=some 45:=by
    have hd:=zL m
    cases hl:(Nat.toDigits 10 m).map Char.toNat with
    | nil=>simp
    | cons c t=>
     rw [hl] at hd
     intro z
     have:c=45:=by simpa using z
     have:=hd.head
     omega
   have ef:jq ((Nat.toDigits 10 m).map Char.toNat)=(Nat.toDigits 10 m).map Char.toNat:=by unfold jq;rw [if_neg hn45]
   refine⟨⟨by rw [ef];exact qEu m,by rw [ef];exact qE9 hm2 (by decide),by rw [ef];exact alld m⟩,?_,?_⟩
   · unfold qBy
     rw [if_neg hn45,ef,PySem.W.KIN.val_back]
   · rw [ef];exact wa m
theorem zG {l:List Nat}(h:Fig l):(qBy l).natAbs < 10 ^ 60:=by
 have ha:=kY h.all
 have h60:=h.len
 have:∀ (l:List Nat),AllDigits l→∀ a,l.foldl (fun acc c=>acc*10+(c - 48)) a < (a+1)*10 ^ l.length:=by
  intro l
  induction l with
  | nil=>intro _ a;simp
  | cons c l ih=>
   intro hl a
   have h1:=ih hl.tail (a*10+(c - 48))
   have hc:=hl.head
   rw [List.foldl_cons,List.length_cons,Nat.pow_succ]
   refine Nat.lt_of_lt_of_le h1 ?_
   rw [Nat.mul_comm (10 ^ l.length),← Nat.mul_assoc]
   exact Nat.mul_le_mul_right _ (by omega)
 have hv:digitsVal (jq l) < 10 ^ 60:=by
  have h1:=this (jq l) ha 0
  have h2:10 ^ (jq l).length≤10 ^ 60:=Nat.pow_le_pow_right (by decide) h60
  unfold digitsVal
  omega
 unfold qBy
 split <;> omega
end L3
namespace L3
open PySem PySem.Spec PyProof.Rows L2 PySem.NumText PySem.Builtin.Str
theorem qE7 {X:Cx}:OpR X (compareOp .NotIn) (fun x y H Q=>∃ (a b:Str),x= .str a∧y= .str b∧Q (.bl (!(!(occurrences b a 0 b.length 1).isEmpty))) H):=by
 intro pins s σ H x y v u Q I rx ry h
 obtain⟨a,b,rfl,rfl,q⟩:=h
 obtain⟨t,rfl⟩:=rx
 obtain⟨t',rfl⟩:=ry
 exact P.notIn_str ⟨.bl _,H,I,rfl,q⟩
theorem qAx:("/":Str)=⟨#[47]⟩:=by decide+kernel
theorem qx (x y:Str):(x++y).cps.toList=x.cps.toList++y.cps.toList:=Array.toList_append
theorem qE1 {x:Str}(h:47 ∉ x.cps.toList):Txt.partition x "/"=(x,Str.empty,Str.empty):=by
 rw [qAx]
 unfold Txt.partition
 rcases StrLaws.occ_head x ⟨#[47]⟩ 1 (Nat.le_refl _) with ⟨e,_⟩ | ⟨i,r,e,ha,_⟩
 · rw [e]
 · exact absurd (List.mem_of_getElem? ((StrLaws.subAt_one x 47 i).mp ha)) h
theorem qFm {x:Str}(h:47∈x.cps.toList):∃ p r:Str,Txt.partition x "/"=(p,("/":Str),r)∧x.cps.toList=p.cps.toList++47::r.cps.toList∧47 ∉ p.cps.toList:=by
 rw [qAx]
 unfold Txt.partition
 rcases StrLaws.occ_head x ⟨#[47]⟩ 1 (Nat.le_refl _) with ⟨_,hn⟩ | ⟨i,r,e,ha,hn⟩
 · obtain⟨i,hi⟩:=List.mem_iff_getElem?.mp h
   exact absurd ((StrLaws.subAt_one x 47 i).mpr hi) (hn i)
 · rw [e]
   have hi:=(StrLaws.subAt_one x 47 i).mp ha
   have hlt:=(List.getElem?_eq_some_iff.mp hi).1
   have hl:x.cps.toList.length=x.length:=Array.length_toList
   refine⟨_,_,rfl,?_,?_⟩
   · rw [StrLaws.strSub_toList,StrLaws.strSub_toList,List.drop_zero,Nat.sub_zero]
     have e2:(x.cps.toList.drop (i+(⟨#[47]⟩:Str).length)).take (x.length - (i+(⟨#[47]⟩:Str).length))=x.cps.toList.drop (i+1):=by
      show (x.cps.toList.drop (i+1)).take (x.length - (i+1))=_
      exact List.take_of_length_le (by rw [List.length_drop,hl];omega)
     rw [e2]
     have e3:x.cps.toList.drop i=47::x.cps.toList.drop (i+1):=by
      obtain⟨h1,h2⟩:=List.getElem?_eq_some_iff.mp hi
      rw [List.drop_eq_getElem_cons h1,h2]
     rw [← e3,List.take_append_drop]
   · exact StrLaws.part_free x 47 0 i (by omega) (fun k _ hk=>hn k hk)
inductive qD9 (l:List Nat):List Str→Prop where
 | none (h:l=[]):qD9 l []
 | one {p:Str} (h:l=p.cps.toList) (hf:47 ∉ l):qD9 l [p]
 | two {p q:Str} (h:l=p.cps.toList++47::q.cps.toList) (hp:47 ∉ p.cps.toList) (hq:47 ∉ q.cps.toList):qD9 l [p,q]
 | more {p q r:Str} {t:List Str} (vv:List Nat) (h:l=p.cps.toList++47::vv) (hp:47 ∉ p.cps.toList) (hq:47∈vv):qD9 l (p::q::r::t)
theorem qCa (x:Str):qD9 x.cps.toList (Txt.split x "/"):=by
 have hj:=StrLaws.join_split x "/"
 have hf:∀ p∈Txt.split x "/",47 ∉ p.cps.toList:=by rw [qAx];exact StrLaws.split_free x 47
 have es:("/":Str).cps.toList=[47]:=by decide+kernel
 generalize Txt.split x "/"=ps at hj hf
 match ps,hj,hf with
 | [],hj,_=>
  refine .none ?_
  rw [← hj]
  rfl
 | [p],hj,hf=>
  have:p=x:=hj
  subst this
  exact .one rfl (hf p (by simp))
 | [p,q],hj,hf=>
  refine .two ?_ (hf p (by simp)) (hf q (by simp))
  have e:p++"/"++q=x:=hj
  rw [← e,qx,qx,es,List.append_assoc]
  rfl
 | p::q::r::t,hj,hf=>
  have e:p++"/"++(q++"/"++Str.join "/" (r::t))=x:=hj
  refine .more (q++"/"++Str.join "/" (r::t)).cps.toList ?_ (hf p (by simp)) ?_
  · rw [← e,qx,qx,es,List.append_assoc]
    rfl
  · rw [qx,qx,es]
    simp
def zd (l:List Nat):Option Int:=if (jq l).isEmpty || decide (60 < (jq l).length) || ((jq l).head? == some 48 && l != [48]) || !((jq l).all qAp) then none else some (qBy l)
theorem jS {l:List Nat}{n:Int}(h:zd l=some n):Fig l∧n=qBy l∧¬ ((jq l).head?=some 48∧l≠[48]):=by
 unfold zd at h
 split at h
 · cases h
 · rename_i c
   simp only [Bool.or_eq_true,Bool.not_eq_true',not_or,Bool.and_eq_true,decide_eq_true_eq,List.isEmpty_iff,beq_iff_eq,bne_iff_ne] at c
   obtain⟨⟨⟨c1,c2⟩,c3⟩,c4⟩:=c
   refine⟨⟨c1,by omega,by simpa using c4⟩,(Option.some.inj h).symm,fun z=>c3 ⟨z.1,z.2⟩⟩
theorem qAt {l:List Nat}(h:Fig l)(h2:¬ ((jq l).head?=some 48∧l≠[48])):zd l=some (qBy l):=by
 unfold zd
 rw [if_neg]
 simp only [Bool.or_eq_true,Bool.not_eq_true',not_or,Bool.and_eq_true,decide_eq_true_eq,List.isEmpty_iff,beq_iff_eq,bne_iff_ne]
 refine⟨⟨⟨h.ne,by have:=h.len;omega⟩,fun z=>h2 ⟨z.1,z.2⟩⟩,by rw [h.all];simp⟩
theorem vj {l:List Nat}(h:47∈l):zd l=none:=by
 cases e:zd l with
 | none=>rfl
 | some n=>
  exfalso
  have:=(jS e).1.all
  have hm:47∈jq l:=by
   unfold jq
   split
   · rename_i hd
     cases l with
     | nil=>cases h
     | cons c t=>
      have:c=45:=by simpa using hd
      subst this
      rcases List.mem_cons.mp h with z | z
      · omega
      · exact z
   · exact h
  have:=(qAf 47).mp (List.all_eq_true.mp this 47 hm)
  omega
def jd (l:List Nat):Option (Int × Int):=
 if 47∈l then
  match zd (l.takeWhile (· != 47)),zd ((l.dropWhile (· != 47)).drop 1) with
  | some n,some m=>if m < 2∨Int.gcd n m≠1 then none else some (n,m)
  | _,_=>none
 else (zd l).map fun n=>(n,1)
theorem qLb:∀ {p r:List Nat},47 ∉ p→(p++47::r).takeWhile (· != 47)=p∧((p++47::r).dropWhile (· != 47)).drop 1=r
 | [],r,_=>⟨rfl,rfl⟩
 | c::p,r,h=>by
  have hc:(c != 47)=true:=bne_iff_ne.mpr fun z=>h (by rw [z];exact List.mem_cons_self)
  obtain⟨i1,i2⟩:=qLb (p:=p) (r:=r) (fun z=>h (List.mem_cons_of_mem _ z))
  rw [List.cons_append,List.takeWhile_cons,List.dropWhile_cons,if_pos hc,if_pos hc,i1,i2]
  exact⟨rfl,rfl⟩
theorem zq {p r:List Nat}(h:47 ∉ p):jd (p++47::r)=match zd p,zd r with | some n,some m=>if m < 2∨Int.gcd n m≠1 then none else some (n,m) | _,_=>none:=by
 unfold jd
 rw [if_pos (by simp),(qLb h).1,(qLb h).2]
theorem vK {l:List Nat}(h:47 ∉ l):jd l=(zd l).map fun n=>(n,1):=by unfold jd;rw [if_neg h]
theorem qO {G:Prop}(k:∀ X:Prop,(G→X)→X):G:=k G id
section
variable {X : Cx}
theorem jT {a:Expr}{ta:TE}{i:Int}{j}{p pos:Pos}(ha:PE X a ta):PE X (.Subscript a (.Constant (.int i) j p) pos) (tOp (qKk X.K) ta (tC (.int i))):=qj qHd ha qF (fun _ _=>rfl)
theorem qg (i:Nat){x:Str}{e:Expr}{te:TE}{pos pos':Pos}(hN:X.N.Nodup)(he:PE X e te)(hi:X.N[i]? =some x:=by rfl)(hx:Loc X.env.scope x:=by exact Or.inl rfl)(hs:swapsWith e (some (.Name x pos')) pos.line X.env=pure false:=by rfl)(hf:X.fn x=true∨X.env.scope.names.lookup x=some .local:=by first | exact .inl rfl | exact .inr rfl | assumption):
 PS X (.Assign [.Name x pos'] e pos) (qG4 te (xJ i)):=qI4 hN hi hx he hs hf
end
end L3
set_option maxRecDepth 100000
namespace L3
open PySem PySem.Spec PyProof.Rows L2
end L3
set_option maxRecDepth 100000
namespace L3
open PySem PySem.Spec PyProof.Rows L2
end L3
set_option maxRecDepth 100000
namespace L3
open PySem PySem.Spec PySem.W PyProof.Rows L2
section
variable {X : Cx} {pins : List (Addr × Obj)} {σ : L2.St} {H : Hp} {s : Shared} {a : Addr} {kvs : List (Key × V)} {k : Key} {u r : Value} {A : Around} {E : Value → Shared → Prop}
end
end L3
set_option maxRecDepth 100000
namespace L3
open PySem PySem.Spec PySem.W PyProof.Rows L2
section
variable {prog : Program} {w : World} {A : Around} {R : Result → Shared → Prop} {I : Addr} {fp wr : List Addr} {n : Nat} {P : Nat → Value → Prop} {St : Nat → Heap → Prop} {kw : List (Str × Value)}
end
end L3
set_option maxRecDepth 100000
namespace L3
open PySem PySem.Spec PyProof.Rows L2
def g5 (K:PySem.W.Frag):TG:=qI6 K 5 (kr (xJ 0) (kr (xJ 1) (kr (xJ 2) (kr (xJ 3) (kr (xJ 4) qKd)))))
end L3
set_option maxRecDepth 100000
namespace L3
open PySem PySem.Spec PyProof.Rows L2
def qK6 (h₀:Heap)(H:Hp)(fp:List Addr)(e:Addr):Prop:=(h₀.get? e=none∨e∈fp)∧H e=none
def XEF (X:Cx)(Ex:Value→Option Addr→Hp→Prop):Value→Shared→Prop:=fun e s'=>∃ ea C σ H',e= .ref ea∧Inv X [] σ H' s'∧(qK6 X.s₀.heap H' X.ex ea∧∃ hd,xf s'.heap ea C hd∧∀ T,hd=some T→qK6 X.s₀.heap H' X.ex T)∧Ex C.1 C.2 H'
theorem qJh {X:Cx}{Ex:Value→Option Addr→Hp→Prop}:qBz (CXR X.prog X.w) (X.wish (XEF X Ex)) Ex:=by
 rintro pins σ H s e s' I ⟨ea,C,H',rfl,os,bare,un,hok,⟨n1,hd,r,n3⟩,q⟩
 have I0:=I.unwish
 have I1:Inv X pins σ H' s':=I0.call' (ch:=[]) os un hok bare fun b z=>nomatch z
 have old:∀ b,s.heap.get? b=none→X.s₀.heap.get? b=none∨b∈X.ex:=fun b z=>by
  by_cases hb:b∈X.ex
  · exact .inr hb
  · refine .inl ?_
    cases w:X.s₀.heap.get? b with
    | none=>rfl
    | some o=>
     obtain⟨o',w'⟩:=I0.base.there b o w hb
     rw [z] at w';cases w'
 exact⟨ea,C,σ,H',rfl,I1.pins_of (pins':=[]) fun p hp=>(nomatch hp),⟨⟨old _ n1.1,n1.2.1⟩,hd,r,fun T e=>⟨old _ (n3 T e).1,(n3 T e).2.1⟩⟩,q⟩
theorem qCj {X:Cx}{Ex:Value→Option Addr→Hp→Prop}{k j:Nat}{x:Str}{st:Stmt}{ps:List Str}{f:Addr}{fd:FuncData}{sp:Sp}{e:Expr}{es:List Expr}{t:TA}{p pos:Pos}(D:Def X.K X.mg x st ps f fd)(F:FnOk X.prog X.w X.K X.mg X.base (CXR X.prog X.w) j f fd ps sp)(hr:Room k X.A)(hg:Gl X x)
 (ha:PA (X.wish (XEF X Ex)) (e::es) t) (hj:j≤k:=by decide)
 (hdb:(x == ("__debug__":Str))=false:=by decide) (he:starEach (e::es) X.env=(false,eval e X.env)::starEach es X.env:=by rfl) (hpl:(backTo pos (starEach es X.env)).any (·.1)=false:=by rfl):
 PE (X.wish (XEF X Ex)) (.Call (.Name x p) (e::es) [] pos) (qGs sp [] Ex t):=
 qB9 (X:=X.wish (XEF X Ex)) (CX:=CXR X.prog X.w) F (hr.mono hj) hg D.m D.F.kp D.b .nil qJh ha hdb he hpl
theorem wO {X:Cx}(Ex:Value→Option Addr→Hp→Prop){elt iter tg:Expr}{cs:List Expr}{scope:Scope}{cl:List (Str × Addr)}{pos:Pos}{wi:TI}{g:TG}{tc:TT}{te:TE}{xs ys:List Str}{js:List Nat}{E:It→Hp→Prop}
 (hcm:X.calm=true) (hi:PI (X.wish (XE X Ex)) tg iter wi) (hg:∀ C s H fp,PG (qS X scope cl C (xs++ys) s H fp).nox tg g) (hc:∀ C s H fp,PTs (qS X scope cl C (xs++ys) s H fp).nox cs tc) (he:∀ C s H fp,PE ((qS X scope cl C (xs++ys) s H fp).wish (XEF (qS X scope cl C (xs++ys) s H fp) Ex)) elt te)
 (hC:COk X scope cl iter xs ys js) (hex:X.ex=[]) (hfr:X.env.frame=some X.env.locals) (hstk:X.stack=X.env::X.outer)
 {pins:List (Addr × Obj)} {s:Shared} {σ:L2.St} {H:Hp} (R:V→Hp→Prop) (use:Option (Value→Sem Unit)) (Q:Value→Shared→Prop) (I:Inv X pins σ H s) (h:wi σ H E) (hE:∀ J H1,E J H1→jr xs.length js g tc te σ R J H1)
 (fin:∀ (v:V) (u:Value) (H':Hp) (s':Shared) (C:Addr),Inv X pins σ H' s'→RelV v u→R v H'→(∃ m,s'.heap.Ns C m)→H' C=none→C≠X.env.locals→X.s₀.heap.objs.size≤C→(∀ y c,X.env.cells.lookup y=some c→c≠C)→(∀ p∈X.pn++pins,p.1≠C)→
   compPost (model X.prog X.w) X.A (XE X Ex) use Q u C (.ok .next) s'):
 wpAny (model X.prog X.w) X.A (comprehension (.ListComp elt [⟨tg,iter,cs,0⟩] scope pos) scope X.env (firstIterPos [⟨tg,iter,cs,0⟩] pos) (newList []) false (eval iter X.env) use) Q (XE X Ex) s:=by
 obtain⟨hclos,hcl,hcell,hkind,hnames,hhas,hjs,hys,hs,hnd⟩:=hC
 have hcell':∀ y∈scope.names,y.2≠ .cell:=fun y hy=>by
  have:=List.all_eq_true.mp hcell y hy
  simpa using this
 have hnm:∀ y∈scope.names,y.2= .local→scope.names.lookup y.1=some .local:=fun y hy e=>by
  have:=List.all_eq_true.mp hnames y hy
  rw [e] at this
  simpa using this
 have clX:∀ y c,cl.lookup y=some c→X.env.cells.lookup y=some c:=fun y c e=>by
  have hm:=PySem.mem_of_lookup e
  obtain⟨k,hk,e2⟩:=List.mem_iff_getElem.mp hm
  have:=congrArg (fun l=>l[k]?) hcl
  simp only [List.getElem?_map,List.getElem?_eq_getElem hk,Option.map_some,e2] at this
  exact Option.some.inj this
 have has:∀ y,((relabel scope X.env).names.lookup y=some .cell∨(relabel scope X.env).names.lookup y=some .free)→∃ c,cl.lookup y=some c:=fun y hy=>by
  have key:∀ k:NameKind,(k= .cell∨k= .free)→(relabel scope X.env).names.lookup y=some k→∃ c,cl.lookup y=some c:=fun k hk e=>by
   have:=List.all_eq_true.mp hhas _ (PySem.mem_of_lookup e)
   rcases hk with rfl | rfl <;> exact Option.isSome_iff_exists.mp (by simpa using this)
  rcases hy with e | e
  · exact key _ (.inl rfl) e
  · exact key _ (.inr rfl) e
 refine wpAny_comprehension_free (use:=use) rfl hs hclos hkind hnm (thn (hi pins s σ H _ (I.wish _) h) fun v s1 h1=>thn h1 fun itv s2 h2=>?_)
 obtain⟨it,fp,tn,J,H2,e,I2,T,st2,f2,hw⟩:=h2
 have I2:=I2.unwish
 obtain⟨W,⟨m0,w0⟩,turn⟩:=hE J H2 hw
 subst e
 refine wpAny_newObj_type (wpAny_newFunctionEnv hcell' (by intro y hy;simp at hy) (fun h₁ hns hsb=>?_) hkind)
 dsimp only at hns hsb ⊢
 generalize hG:s2.heap.push {cls:=.type "list",dict:=none,data:=.seq ([]:List Value).toArray}=G at hns hsb ⊢
 have szG:G.objs.size=s2.heap.objs.size+1:=by rw [← hG,Heap.size_push]
 have inG:∀ b o,s2.heap.get? b=some o→G.get? b=some o:=fun b o e=>hG ▸ Heap.get?_push_of_some _ e
 have ltC:∀ b o,s2.heap.get? b=some o→b≠G.objs.size:=fun b o e=>by rw [szG];exact Nat.ne_of_lt (Nat.lt_succ_of_lt (Heap.lt_size e))
 have ltD:∀ b o,s2.heap.get? b=some o→b≠s2.heap.objs.size:=fun b o e=>Nat.ne_of_lt (Heap.lt_size e)
 have DC:s2.heap.objs.size≠G.objs.size:=by rw [szG];omega
 have old:∀ b o,s2.heap.get? b=some o→h₁.get? b=some o:=fun b o e=>hsb.extBut b o (ltC b o e) (Heap.get?_push_of_some _ (inG b o e))
 have hacc:h₁.PlainList s2.heap.objs.size #[]:=⟨_,hsb.extBut _ _ DC (Heap.get?_push_of_some _ (hG ▸ Heap.get?_push_size _ rfl))⟩
 have fpO:∀ b∈fp,∃ o,s2.heap.get? b=some o:=fun b hb=>let ⟨o,e,_⟩:=T.obj 0 _ st2 b hb;⟨o,e⟩
 have stkO:∀ b∈frs X.stack,∃ o,s2.heap.get? b=some o:=fun b hb=>by
  obtain⟨_,o,ho,_⟩:=I2.stack.mem hb
  exact⟨o,ho⟩
 have freshH:∀ a,s2.heap.objs.size≤a→H2 a=none:=fun a ha=>I2.hok.fresh ha
 have stkFp:∀ b∈fp,b ∉ frs X.stack:=fun b hb z=>by
  rcases List.mem_cons.mp (I2.stkSub b z) with q | q
  · exact(f2 b hb).2.1 q
  · exact(f2 b hb).2.2.1 q
 have okX:(qS X scope cl G.objs.size (xs++ys) s2 H2 fp).Ok:={
  mod:=I2.ok.mod
  kind:=hkind
  glob:=I2.ok.glob
  blt:=I2.ok.blt
  above:=by show s2.heap.objs.size≤G.objs.size;rw [szG];omega
  inj:=fun y z c e1 e2=>I2.ok.inj y z c (clX y c e1) (clX z c e2)
  has:=fun y hy=>has y hy
  cab:=fun y c e _=>absurd (show false=true from e) Bool.false_ne_true
  hd:=I2.ok.hd
  frames:=I2.ok.frames
  stk:=.inl rfl
  exf:=fun b hb=>by
   obtain⟨o,e⟩:=fpO b hb
   exact⟨ltC b o e,fun y c e1=>(f2 b hb).2.2.2.2.1 y c (clX y c e1)⟩
  bs:=I2.bs
  bsz:=Nat.le_trans I2.ok.bsz I2.sz
  noex:=fun b o e hb=>by
   rcases (f2 b hb).2.2.2.1 with q | q
   · exact I2.ok.noex b o e q
   · exact Nat.lt_irrefl _ (Nat.lt_of_lt_of_le (Nat.lt_of_lt_of_le (Heap.lt_size e) I2.ok.bsz) q)
  exfs:=stkFp
  funs:=I2.stack
  frf:=I2.stkFree}
 have lenY:js.length=ys.length:=by have:=congrArg List.length hjs;simpa using this
 have I0:Inv (qS X scope cl G.objs.size (xs++ys) s2 H2 fp) [] (List.replicate xs.length none++xZ js σ) H2 {s2 with heap:=h₁,toks:=s2.toks+([]:List (Str × Value)).length}:=by
  refine⟨okX,rfl,I2.bare,Un.kept old,⟨_,hns,fun k y v e1 e2 e3=>?_⟩,fun y c e=>?_,freshH _ (by show s2.heap.objs.size≤G.objs.size;rw [szG];omega),fun y c e=>I2.freeC y c (clX y c e),fun p hp=>absurd (show p∈([]:List (Addr × Obj)) from hp) (by simp),I2.hok.kept old,?_⟩
  · obtain⟨k,e1',e2'⟩:∃ k,ys[k]? =some y∧(xZ js σ)[k]? =some (some v):=by
     have e1:(xs++ys)[k]? =some y:=e1
     by_cases hk:k < xs.length
     · rw [List.getElem?_append_left (by simpa using hk),List.getElem?_replicate,if_pos hk] at e2
       cases e2
     · rw [List.getElem?_append_right (by simpa using hk),List.length_replicate] at e2
       rw [List.getElem?_append_right (Nat.le_of_not_lt hk)] at e1
       exact⟨_,e1,e2⟩
    unfold xZ at e2'
    rw [List.getElem?_map] at e2'
    cases ej:js[k]? with
    | none=>rw [ej] at e2';cases e2'
    | some j=>
     rw [ej] at e2'
     have e4:(σ[j]?).join=some v:=Option.some.inj e2'
     have e5:σ[j]? =some (some v):=by
      cases q:σ[j]? with
      | none=>rw [q] at e4;cases e4
      | some o=>rw [q] at e4;exact congrArg some e4
     have e6:X.N[j]? =some y:=by
      have:=congrArg (fun l=>l[k]?) hjs
      simp only [List.getElem?_map,ej,e1',Option.map_some] at this
      exact Option.some.inj this
     have hy:=List.all_eq_true.mp hys y (List.mem_of_getElem? e1')
     simp only [Bool.and_eq_true,Bool.or_eq_true,beq_iff_eq] at hy
     obtain⟨ky,ko⟩:=hy
     obtain⟨m,hn,hl⟩:=I2.loc
     obtain⟨u,r,lk⟩:=hl j y v e6 e5 (.inr ko)
     refine⟨u,r,.inr ⟨ky,?_⟩⟩
     rcases lk with ⟨kl,_⟩ | ⟨_,c,ec,hc⟩
     · have kl':X.env.scope.names.lookup y=some .local:=kl
       rw [kl'] at ko
       rcases ko with z | z <;> cases z
     · obtain⟨c',ec'⟩:=has y ky
       have:=clX y c' ec'
       rw [ec] at this
       cases this
       obtain⟨o,ho,hd⟩:=hc
       exact⟨c,ec',o,old c o ho,hd⟩
  · obtain⟨v,o,ho,hd⟩:=I2.cell y c (clX y c e)
    exact⟨v,o,old c o ho,hd⟩
  · show (List.replicate xs.length none++xZ js σ).length=(xs++ys).length
    simp [xZ,lenY]
 have hch:∀ b∈fp,(b∈X.ex∨X.s₀.heap.objs.size≤b)∧b≠X.env.locals∧(∀ y c,X.env.cells.lookup y=some c→c≠b)∧∀ p∈X.pn++pins,p.1≠b:=fun b hb=>by
  obtain⟨_,z1,_,z3,z4,z5⟩:=f2 b hb
  exact⟨z3,z1,z4,z5⟩
 have raised:∀ (x:Value) (s7:Shared),XEF (qS X scope cl G.objs.size (xs++ys) s2 H2 fp) Ex x s7→notedBy (model X.prog X.w) X.A (compEnvC scope cl G.objs.size X.env) (fun x z=>compPost (model X.prog X.w) X.A (XE X Ex) use Q (.ref s2.heap.objs.size) G.objs.size (.error x) z) x s7:=by
  rintro x s7 ⟨ea,B,σ8,H8,rfl,I8,⟨n1,hd,r,n3⟩,ex⟩
  have fr:X.A.frames=some (X.env::X.outer):=by rw [← hstk];exact I.ok.frames
  have ff:s7.heap.FunFrames X.base (X.env::X.outer):=by
   have z:=I8.stack
   rw [show (qS X scope cl G.objs.size (xs++ys) s2 H2 fp).stack=X.env::X.outer from hstk] at z
   exact z
  have IX:=(I2.call' (s':=s7) (ch:=fp) I8.os I8.base I8.hok I8.bare hch).pins_of (pins':=[]) fun p hp=>absurd hp (by simp)
  have up:∀ {a:Addr},qK6 s2.heap H8 fp a→qCh X.s₀.heap H8 X.pn a:=fun {a} n=>by
   rcases n.1 with n0 | n0
   · refine⟨?_,n.2,fun p hp z=>?_⟩
     · cases w:X.s₀.heap.get? a with
       | none=>rfl
       | some o=>
        obtain⟨o',w'⟩:=I2.base.there a o w (by rw [hex];intro y;cases y)
        rw [n0] at w';cases w'
     · have q':=(I2.pin p (List.mem_append_left _ hp)).1
       rw [z,n0] at q';cases q'
   · obtain⟨_,_,_,z3,_,z5⟩:=f2 a n0
     refine⟨?_,n.2,fun p hp=>z5 p (List.mem_append_left _ hp)⟩
     rw [hex] at z3
     rcases z3 with z3 | z3
     · cases z3
     · cases w:X.s₀.heap.get? a with
       | none=>rfl
       | some o=>exact absurd (Heap.lt_size w) (Nat.not_lt.mpr z3)
  have n1X:=up n1
  have n3X:∀ T,hd=some T→qCh X.s₀.heap H8 X.pn T:=fun T e=>up (n3 T e)
  show wpAny _ _ (noteFrame (.ref ea) X.env) _ _ _
  refine qDd fr ff hfr r fun h1 N1=>?_
  have N1:Noted (frs X.stack) ea hd B s7.heap h1:=by rw [hstk];exact N1
  obtain⟨I9,n9,hd9,r9,n39⟩:=xN IX hex r n1X n3X N1
  obtain⟨m,hn,_⟩:=I8.loc
  have hn:s7.heap.Ns G.objs.size m:=hn
  obtain⟨oC,es,ep,hoC,hdC,hsk,hfd⟩:=id hn
  have nea:G.objs.size≠ea:=fun z=>by
   obtain⟨vs,sl,q,_⟩:=r
   rw [z,q] at hoC
   cases hoC
   cases hdC
  have nhd:some G.objs.size≠hd:=fun z=>by
   subst z
   obtain⟨vs,sl,q,r1,nT,oT,ts,m',qT,dT,r3⟩:=r
   rw [qT] at hoC
   cases hoC
   rw [dT] at hdC
   cases hdC
  have nst:G.objs.size ∉ frs X.stack:=fun z=>by
   obtain⟨o,e⟩:=stkO _ z
   exact ltC _ o e rfl
  have hn1:h1.Ns G.objs.size m:=⟨oC,es,ep,N1.keep _ _ hoC nst nea nhd,hdC,hsk,hfd⟩
  refine⟨m,hn1,fun h2 hsb cenv _=>?_⟩
  obtain⟨T,rfl,r9⟩:∃ T,hd9=some T∧xf h1 ea B (some T):=by
   cases hd9 with
   | some T=>exact⟨T,rfl,r9⟩
   | none=>
    obtain⟨T,_,rT⟩:=N1.ent
    obtain⟨vs,sl,q1,q2⟩:=r9
    obtain⟨vs',sl',q1',q2',_⟩:=rT
    rw [q1] at q1'
    cases q1'
    rw [q2] at q2'
    cases q2'
  have I10:Inv X [] σ H8 {s7 with heap:=h2}:=by
   refine zm (C:=G.objs.size) (s:={s7 with heap:=h1}) I9 hsb I8.free ?_ ?_ (fun y c e=>?_) fun p hp=>?_
   · rw [szG];exact Nat.ne_of_gt (Nat.lt_succ_of_lt I2.lt)
   · rw [szG];exact Nat.le_succ_of_le I2.sz
   · obtain⟨v,o,ho,_⟩:=I2.cell y c e
     exact ltC c o ho
   · have hp:p∈X.pn:=by simpa using hp
     exact ltC p.1 p.2 (I2.pin p (List.mem_append_left _ hp)).1
  have r10:xf h2 ea B (some T):=by
   obtain⟨vs,sl,q,r1,nT,oT,ts,m',qT,dT,r3⟩:=r9
   have nTC:G.objs.size≠T:=fun z=>by
    obtain⟨oC,es,ep,hoC,hdC,_⟩:=hn1
    rw [z,qT] at hoC
    cases hoC
    rw [dT] at hdC
    cases hdC
   exact⟨vs,sl,hsb.extBut _ _ nea.symm q,r1,nT,oT,ts,m',hsb.extBut _ _ nTC.symm qT,dT,r3⟩
  obtain⟨vs,sl,q,r1,_⟩:=id r10
  unfold PySem.passOn
  refine wpAny_bind (wpAny_field (s:={s7 with heap:=h2}) q rfl r1 ?_)
  rw [if_neg (by simp)]
  refine wpAny_bind (wL (s:={s7 with heap:=h2}) r10 fun h3 N3=>wpAny_throw ?_)
  obtain⟨I11,x11⟩:=xN I10 hex r10 n9 n39 (N3 _)
  exact⟨ea,B,σ,H8,rfl,I11,x11,ex⟩
 have loop:∀ s3:Shared,s3={s2 with heap:=h₁,toks:=s2.toks+([]:List (Str × Value)).length}→
  codeAny (model X.prog X.w) X.A (.compLoop (.ListComp elt [⟨tg,iter,cs,0⟩] scope pos) 0 (.ref it) (.ref s2.heap.objs.size) (compEnvC scope cl G.objs.size X.env))
   (compPost (model X.prog X.w) X.A (XE X Ex) use Q (.ref s2.heap.objs.size) G.objs.size) s3:=by
  rintro s3 rfl
  have stat:∀ {H':Hp} (o:Obj),(∀ b∈fp,H' b=none)→∀ b∈fp,qF2 (qS X scope cl G.objs.size (xs++ys) s2 H2 fp) [(s2.heap.objs.size,o)] H' b:=fun {H'} o hn b hb=>by
   obtain⟨ob,eb⟩:=fpO b hb
   refine⟨hn b hb,ltC b ob eb,stkFp b hb,.inl hb,fun y c e1=>(f2 b hb).2.2.2.2.1 y c (clX y c e1),fun p hp=>?_⟩
   have hp':p=(s2.heap.objs.size,o):=by
    have:p∈[(s2.heap.objs.size,o)]:=hp
    simpa using this
   rw [hp']
   exact Ne.symm (ltD b ob eb)
  refine wP (fun n s'=>∃ i acc its H3,Inv (qS X scope cl G.objs.size (xs++ys) s2 H2 fp) [] (List.replicate xs.length none++xZ js σ) H3 s'∧tn i s'.heap∧(∀ b∈fp,H3 b=none)∧s'.heap.PlainList s2.heap.objs.size its.toArray∧Vals acc its∧H3 s2.heap.objs.size=none∧W i n acc H3)
   ?_ m0 ⟨0,[],[],H2,I0,T.keep _ _ _ st2 fun b _ o e=>old b o e,fun b hb=>(f2 b hb).1,hacc,.nil,freshH _ (Nat.le_refl _),w0⟩
  rintro n s3 ⟨i,acc,its,H3,I3,st3,fr3,⟨nn,pl3⟩,va3,hD3,w3⟩
  obtain⟨hlen,cs⟩:=turn i n acc H3 w3
  have hal:acc.length=its.length:=va3.length
  have nD:s2.heap.objs.size ∉ frs X.stack:=fun z=>by
   obtain⟨o,e⟩:=stkO _ z
   exact ltD _ o e rfl
  have I3p:Inv (qS X scope cl G.objs.size (xs++ys) s2 H2 fp) [(s2.heap.objs.size,{cls:=.type "list",data:=.seq its.toArray nn})] (List.replicate xs.length none++xZ js σ) H3 s3:=I3.pins_of fun p hp=>by
   have e:p=(s2.heap.objs.size,{cls:=.type "list",data:=.seq its.toArray nn}):=by simpa using hp
   subst e
   exact⟨pl3,hD3,DC,nD,fun v z=>nomatch z⟩
  rcases cs with ⟨stop,q⟩ | ⟨go,step⟩
  · refine thn (T.done (qS X scope cl G.objs.size (xs++ys) s2 H2 fp) rfl rfl rfl hcm i _ s3 _ H3 _ I3p (stat _ fr3) st3 stop) fun r s4 hr=>?_
    obtain⟨hr,I4⟩:=hr
    subst hr
    have pl4:=(I4.pin (s2.heap.objs.size,{cls:=.type "list",data:=.seq its.toArray nn}) (by simp)).1
    obtain⟨m,hn,_⟩:=I4.loc
    have B:=I4.base
    have un':Un (frs X.stack) fp H2 (upd H3 s2.heap.objs.size (.lst acc)) s2.heap s4.heap:=by
     refine⟨fun b o e n hb hx=>B.keep b o e n hb hx,fun b o e n hb hx=>B.slot b o e n hb hx,fun b o e n hx=>?_,fun b o e hx=>B.there b o e hx,fun b xs e=>?_,fun b o u e=>?_,fun b ps e=>?_⟩
     · rw [qY (ltD b o e)]
       exact B.free b o e n hx
     · have z:=B.tups b xs e
       rw [qY (qU z hD3)]
       exact z
     · have z:=B.frzs b o u e
       rw [qY (qU z hD3)]
       exact z
     · obtain⟨more,z⟩:=B.tbls b ps e
       exact⟨more,by rw [qY (qU z hD3)];exact z⟩
    have freeC4:H3 G.objs.size=none:=I4.free
    have hok':HOk X.prog X.w (upd H3 s2.heap.objs.size (.lst acc)) s4.heap:=fun b u e=>by
     by_cases hb:b=s2.heap.objs.size
     · subst hb
       rw [qC] at e
       cases e
       exact⟨Nat.le_of_lt hlen,its,nn,va3,pl4⟩
     · rw [qY hb] at e
       exact(I4.hok b u e).stay (fun c v hc z=>z) (fun c z=>by rw [qY (qU z hD3)];exact z) fun c xs z=>by rw [qY (qU z hD3)];exact z
    have hch:∀ b∈fp,(b∈X.ex∨X.s₀.heap.objs.size≤b)∧b≠X.env.locals∧(∀ y c,X.env.cells.lookup y=some c→c≠b)∧∀ p∈X.pn++pins,p.1≠b:=fun b hb=>by
     obtain⟨_,z1,_,z3,z4,z5⟩:=f2 b hb
     exact⟨z3,z1,z4,z5⟩
    have I5:=I2.call' (s':=s4) (ch:=fp) I4.os un' hok' I4.bare hch
    refine fin (.ref s2.heap.objs.size) _ _ s4 G.objs.size I5 rfl (q _ hD3) ⟨m,hn⟩ ?_ ?_ ?_ (fun y c e=>?_) fun p hp=>?_
    · rw [qY (Ne.symm DC)];exact freeC4
    · rw [szG];exact Nat.ne_of_gt (Nat.lt_succ_of_lt I2.lt)
    · rw [szG];exact Nat.le_succ_of_le I2.sz
    · obtain⟨v,o,ho,_⟩:=I2.cell y c e
      exact ltC c o ho
    · exact ltC p.1 p.2 (I2.pin p hp).1
  · refine thn (T.item (qS X scope cl G.objs.size (xs++ys) s2 H2 fp) rfl rfl rfl hcm i _ s3 _ H3 _ I3p (stat _ fr3) st3 go) fun r s4 hr=>?_
    obtain⟨u,hr,h4⟩:=hr
    subst hr
    refine thn h4 fun _ s5 h5=>?_
    obtain⟨v,H5,I5,r5,y5,st5,fr5⟩:=h5
    have I5':=I5.pinned (stat _ fr5) (T.obj _ _ st5)
    refine wpAny_mono (hg G.objs.size s2 H2 fp _ s5 _ H5 v u _ (I5'.wish _) r5 (step v H5 y5)) (fun _ s6 h6=>?_) fun _ _ z=>z.elim
    obtain⟨σ6,H6',I6',vs,eσ,hv,q5⟩:=h6
    subst eσ
    have back:∀ (H7:Hp) (s7:Shared) (σ7:L2.St) (h':Heap) (acc':List V) (its':List Value) (m':Nat),Inv (qS X scope cl G.objs.size (xs++ys) s2 H2 fp) ([(s2.heap.objs.size,{cls:=.type "list",data:=.seq its.toArray nn})]++wV fp s5.heap) (vs++xZ js σ) H7 s7→
     Heap.SameBut s2.heap.objs.size s7.heap h'→h'.PlainList s2.heap.objs.size its'.toArray→Vals acc' its'→m' < n→W (i+1) m' acc' H7→
     ∃ m,m < n∧∃ i acc its H3,Inv (qS X scope cl G.objs.size (xs++ys) s2 H2 fp) [] (List.replicate xs.length none++xZ js σ) H3 {s7 with heap:=h'}∧tn i h'∧(∀ b∈fp,H3 b=none)∧h'.PlainList s2.heap.objs.size its.toArray∧Vals acc its∧H3 s2.heap.objs.size=none∧W i m acc H3:=by
     intro H7 s7 _ h' acc' its' m' I7 hsb' hp' va' hm' w7
     have pinD:=I7.pin (s2.heap.objs.size,{cls:=.type "list",data:=.seq its.toArray nn}) (by simp)
     have pf:∀ b∈fp,∀ o,s5.heap.get? b=some o→s7.heap.get? b=some o∧H7 b=none:=fun b hb o e=>by
      have z:=I7.pin (b,o) (List.mem_append_right _ (List.mem_append_right _ (zM hb e)))
      exact⟨z.1,z.2.1⟩
     have I8:Inv (qS X scope cl G.objs.size (xs++ys) s2 H2 fp) [] (List.replicate xs.length none++xZ js σ) H7 {s7 with heap:=h'}:=by
      have I7u:Inv (qS X scope cl G.objs.size (xs++ys) s2 H2 fp) [] (List.replicate xs.length none++xZ js σ) H7 s7:=(I7.pins_of (pins':=[]) fun p hp=>absurd hp (by simp)).weak (by simp [hv]) fun k v e=>by
       by_cases hk:k < xs.length
       · rw [List.getElem?_append_left (by simpa using hk),List.getElem?_replicate,if_pos hk] at e
         cases e
       · rw [List.getElem?_append_right (by simpa using hk),List.length_replicate] at e
         rw [List.getElem?_append_right (by rw [hv];exact Nat.le_of_not_lt hk),hv]
         exact e
      refine I7u.turned (t':=s7.toks) (it:=s2.heap.objs.size) (fun b o hb e=>hsb'.extBut b o hb e) pinD.2.1 DC (.inr (Nat.le_refl _)) (fun y c e=>?_) fun p hp=>absurd (show p∈([]:List (Addr × Obj)) from hp) (by simp)
      obtain⟨v,o,ho,_⟩:=I2.cell y c (clX y c e)
      exact ltD c o ho
     refine⟨m',hm',i+1,acc',its',H7,I8,?_,fun b hb=>?_,hp',va',pinD.2.1,w7⟩
     · refine T.keep _ _ _ st5 fun b hb o e=>hsb'.extBut b o ?_ (pf b hb o e).1
       obtain⟨ob,eb⟩:=fpO b hb
       exact ltD b ob eb
     · obtain⟨o,e,_⟩:=T.obj _ _ st5 b hb
       exact(pf b hb o e).2
    refine wpAny_mono (hc G.objs.size s2 H2 fp _ s6 _ _ _ I6' q5) (fun ok s6a h6=>?_) fun _ _ z=>z.elim
    obtain⟨H6,I6a,q6⟩:=h6
    cases ok with
    | false=>
     rw [if_neg (by decide)] at q6 ⊢
     obtain⟨m',hm',w7⟩:=q6
     have I7:=I6a.unwish
     have pinD:=I7.pin (s2.heap.objs.size,{cls:=.type "list",data:=.seq its.toArray nn}) (by simp)
     exact back H6 s6a (List.replicate xs.length none++xZ js σ) s6a.heap acc its m' I7 (Heap.SameBut.refl _ _) ⟨nn,pinD.1⟩ va3 hm' w7
    | true=>
     rw [if_pos rfl] at q6 ⊢
     refine wpAny_mono (he G.objs.size s2 H2 fp _ s6a _ H6 _ (I6a.unwish.wish _) q6) (fun y s7 h7=>?_) fun x s7 z=>raised x s7 z
     obtain⟨v7,H7,I7,r7,m',hm',w7⟩:=h7
     have I7:=I7.unwish
     have pinD:=I7.pin (s2.heap.objs.size,{cls:=.type "list",data:=.seq its.toArray nn}) (by simp)
     refine wpAny_list_append_plain (items:=its.toArray) ⟨nn,pinD.1⟩ (fun h' hp' hsb'=>?_) (by rw [List.size_toArray,← hal];exact Nat.le_of_lt hlen)
     have e8:its.toArray.push y=(its++[y]).toArray:=by simp
     rw [e8] at hp'
     exact back H7 s7 (List.replicate xs.length none++xZ js σ) h' (acc++[v7]) (its++[y]) m' I7 hsb' hp' (va3.append (.cons r7 .nil)) hm' w7
 exact codeAny_compStart_list (loop _ rfl) (T.self _ 0 _ _ _ (T.keep _ _ _ st2 fun b _ o e=>old b o e) (loop _ rfl))
section
variable {X : Cx} {elt iter tg : Expr} {cs : List Expr} {scope : Scope} {cl : List (Str × Addr)} {pos : Pos} {wi : TI} {g : TG} {tc : TT} {te : TE} {xs ys : List Str} {js : List Nat} {T : L2.St → VK → It → Hp → Prop} {Ex : Value → Option Addr → Hp → Prop}
theorem qFo
 (hcm:X.calm=true) (hi:PI (X.wish (XE X Ex)) tg iter wi) (hg:∀ C s H fp,PG (qS X scope cl C (xs++ys) s H fp).nox tg g) (hc:∀ C s H fp,PTs (qS X scope cl C (xs++ys) s H fp).nox cs tc) (he:∀ C s H fp,PE ((qS X scope cl C (xs++ys) s H fp).wish (XEF (qS X scope cl C (xs++ys) s H fp) Ex)) elt te) (hC:COk X scope cl iter xs ys js) (hex:X.ex=[]) (hfr:X.env.frame=some X.env.locals) (hstk:X.stack=X.env::X.outer) (hE:∀ σ Q J H1,T σ Q J H1→jr xs.length js g tc te σ Q J H1):PE (X.wish (XE X Ex)) (.ListComp elt [⟨tg,iter,cs,0⟩] scope pos) (fun σ H Q=>wi σ H (T σ Q)):=by
 intro pins s σ H Q I h
 rw [eval_ListComp]
 refine wO Ex hcm hi hg hc he hC hex hfr hstk Q none (EP (X.wish (XE X Ex)) pins σ Q) I.unwish h (hE σ Q) fun v u H' s' C I' r q hm h0 h1 h2 h3 h4=>?_
 obtain⟨m,hm⟩:=hm
 exact⟨m,hm,fun h' hsb=>⟨v,H',(zm I' hsb h0 h1 h2 h3 h4).wish _,r,q⟩⟩
theorem qFh {i:Nat}{y:Str}{py spos:Pos}(hN:X.N.Nodup)(hi':X.N[i]? =some y)(hy:X.env.kindOf y=some .local)
 (hcm:X.calm=true) (hi:PI (X.wish (XE X Ex)) tg iter wi) (hg:∀ C s H fp,PG (qS X scope cl C (xs++ys) s H fp).nox tg g) (hc:∀ C s H fp,PTs (qS X scope cl C (xs++ys) s H fp).nox cs tc) (he:∀ C s H fp,PE ((qS X scope cl C (xs++ys) s H fp).wish (XEF (qS X scope cl C (xs++ys) s H fp) Ex)) elt te) (hC:COk X scope cl iter xs ys js) (hex:X.ex=[]) (hfr:X.env.frame=some X.env.locals) (hstk:X.stack=X.env::X.outer) (hE:∀ σ Q J H1,T σ Q J H1→jr xs.length js g tc te σ Q J H1) (hsw:swapsWith (.ListComp elt [⟨tg,iter,cs,0⟩] scope pos) (some (.Name y py)) spos.line X.env=pure true):PS (X.wish (XE X Ex)) (.Assign [.Name y py] (.ListComp elt [⟨tg,iter,cs,0⟩] scope pos) spos) (qG4 (fun σ H Q=>wi σ H (T σ Q)) (xJ i)):=by
 intro pins s σ H D I h
 rw [exec_Assign_Name_used _ _ _ _ hsw]
 refine wpAny_bind (wpAny_standAt (wpAny_bind ?_))
 have key:=wO (pos:=pos) Ex hcm hi hg hc he hC hex hfr hstk (fun v H'=>D.nx (σ.set i (some v)) H') (some (assign (.Name y py) X.env)) (fun _ s'=>SP (X.wish (XE X Ex)) pins D .next s') I.unwish h (hE σ _) fun v u H' s' C I' r q hm h0 h1 h2 h3 h4=>?_
 · exact wpAny_bind (thn key fun _ s' hq=>wpAny_pure (wpAny_pure hq))
 · refine wpAny_assign_Name (vp I' hN hi' (.inl hy) r (fun s2 I2 ch=>?_) (.inr hy))
   obtain⟨b,sb,hb⟩:=ch
   obtain⟨m,hm⟩:=hm
   have nb:C≠b:=by
    rcases hb with rfl | hb
    · exact h1
    · exact Ne.symm (h3 y b hb)
   exact⟨m,hm.sameBut sb nb,fun h' hsb=>⟨_,H',(zm I2 hsb h0 h1 h2 h3 h4).wish _,q⟩⟩
end
theorem qF3 {X:Cx}{Ex:Value→Option Addr→Hp→Prop}{elt iter:Expr}{x:Str}{px:Pos}{scope:Scope}{cl:List (Str × Addr)}{pos:Pos}{wi:TI}{te:TE}(ys:List Str)(js:List Nat){i:Nat}{y:Str}{py spos:Pos}(hN:X.N.Nodup)(hi':X.N[i]? =some y)(hy:X.env.kindOf y=some .local)
 (hcm:X.calm=true) (hi:PI (X.wish (XE X Ex)) (.Name x px) iter wi) (he:∀ C s H fp,PE ((qS X scope cl C (x::ys) s H fp).wish (XEF (qS X scope cl C (x::ys) s H fp) Ex)) elt te) (hx:scope.names.lookup x=some .local:=by rfl) (hC:COk X scope cl iter [x] ys js:=by exact⟨rfl,rfl,rfl,rfl,rfl,rfl,rfl,rfl,fun _=>rfl,by decide⟩) (hex:X.ex=[]:=by rfl) (hfr:X.env.frame=some X.env.locals:=by rfl) (hstk:X.stack=X.env::X.outer:=by rfl) (hsw:swapsWith (.ListComp elt [⟨.Name x px,iter,[],0⟩] scope pos) (some (.Name y py)) spos.line X.env=pure true:=by rfl):PS (X.wish (XE X Ex)) (.Assign [.Name y py] (.ListComp elt [⟨.Name x px,iter,[],0⟩] scope pos) spos) (qG4 (qHg js wi te) (xJ i)):=
 qFh (xs:=[x]) (T:=CompEnd js te) hN hi' hy hcm hi (fun _ _ _ _=>jo (i:=0) hC.nd rfl (.inl (lookup_relabel_local hx)) (.inr (lookup_relabel_local hx))) (fun _ _ _ _=>wk) he hC hex hfr hstk CompEnd.g hsw
end L3
set_option maxRecDepth 100000
namespace L3
open PySem PySem.Spec PyProof.Rows L2
variable {X : Cx}
theorem qFb:∀ {ss:List Str} {us:List Value},Vals (ss.map V.str) us→∃ l:List (Str × Tok),us=strValues l∧l.map (·.1)=ss
 | [],us,r=>by cases r;exact⟨[],rfl,rfl⟩
 | x::ss,us,r=>by
  rw [List.map_cons] at r
  cases r with
  | cons h t=>
   obtain⟨tk,rfl⟩:=h
   obtain⟨l,rfl,hl⟩:=qFb t
   exact⟨(x,tk)::l,rfl,by rw [List.map_cons,hl]⟩
def qJb (sep:Str):List Str→Str
 | [x]=>x
 | l=>Builtin.Str.glued sep l
def qGn (K:PySem.W.Frag):V→List V→Hp→VK→Prop:=fun x vs H Q=>∃ (sep:Str) (l:Addr) (ss:List Str),x= .str sep∧vs=[.ref l]∧SqL K H l (ss.map V.str)∧Builtin.Str.tooLong (ss.toArray.foldl (· + ·.length+sep.length) 0)=false∧(Builtin.Str.glued sep ss).length≤sizeLine∧Q (.str (qJb sep ss)) H
theorem j9:MtM X "str.join" (qGn X.K):=by
 intro pins s σ H x vs v us Q I rx rv h
 obtain⟨sep,l,ss,rfl,rfl,hl,hb,hg,q⟩:=h
 obtain⟨t,rfl⟩:=rx
 obtain⟨u,rfl,ru⟩:=rv.one
 cases ru
 obtain⟨its,rv1,pl,hz⟩:=I.list hl
 obtain⟨ps,rfl,hps⟩:=qFb rv1
 subst hps
 refine call_meets F.slot_str_join (typeIs_str _ _ _) F.entry_str_join (F.args_str_join_2 _ _) (meets_str_join_list sep t l ps hb) ⟨pl.isList,?_⟩
 have kept:∀ k,Inv X pins σ H {s with toks:=k}:=fun k=>I.kept (t':=k) fun _ _ e=>e
 match ps,hg,q with
 | [],hg,q=>exact⟨hg,.str _,H,kept _,⟨_,rfl⟩,q⟩
 | [p],_,q=>exact⟨.str _,H,kept _,⟨_,rfl⟩,q⟩
 | p::p'::r,hg,q=>exact⟨hg,.str _,H,kept _,⟨_,rfl⟩,q⟩
end L3
set_option maxRecDepth 100000
namespace L3
open PySem PySem.Spec PyProof.Rows L2
section
variable {prog : Program} {w : World} {A : Around} {E : Value → Shared → Prop} {s : Shared}
theorem qDz {it t:Addr}{i:Nat}{items}{x:Value}{Q:Value→Shared→Prop}(hit:s.heap.IsTupleIter it t i)(ht:s.heap.IsTuple t items)(hx:items[i]? =some x)
 (hQ:∀ h',h'.IsTupleIter it t (i+1)→Heap.SameBut it s.heap h'→Q x {s with heap:=h'}):wpAny (model prog w) A (Builtin.SmallTypes.nextOf (.ref it)) Q E s:=by
 obtain⟨o,ho,hc,hd⟩:=id hit
 obtain⟨ot,hot,_,nt,hdt⟩:=ht
 unfold Builtin.SmallTypes.nextOf
 refine wpAny_bind (wpAny_callSpecial?_slot (name:=Str.ofString "__next__") hit.typeIs F.slot_tuple_iterator_next (wpAny_call_entry F.slot_tuple_iterator_next hit.typeIs F.entry_tuple_iterator_next ?_ (F.args_tuple_iterator_next_1 _)))
 show wpAny _ _ (field (.ref it) 0 >>=_) _ _ s
 refine wpAny_bind (wpAny_field ho hd (x:=.ref t) rfl ?_)
 show wpAny _ _ (if (Value.ref t == Value.none)=true then _ else _) _ _ s
 rw [if_neg (show ¬ ((Value.ref t == Value.none)=true) from Bool.false_ne_true)]
 show wpAny _ _ (field (.ref it) 1 >>=_) _ _ s
 refine wpAny_bind (wpAny_field ho hd (x:=.int i 0) rfl ?_)
 show wpAny _ _ (seqItems? (.ref t) >>=_) _ _ s
 refine wpAny_bind (wpAny_seqItems hot hdt ?_)
 simp only [Int.toNat_natCast,hx]
 refine wpAny_bind (wpAny_setField ho hd (by simp) (wpAny_pure ⟨x,rfl,wpAny_pure (hQ _ ⟨_,Heap.get?_update_self _ ho (Obj.isFreed_of_fields (Obj.data_mapFields hd _)),(Obj.cls_mapFields ..).trans hc,?_⟩ (Heap.SameBut.update ..))⟩))
 rw [Obj.data_mapFields hd];simp [rawInt]
theorem qGz {z TI TO i1 i2 l1:Addr}{k1:Nat}{xs:Array Value}{x a b:Value}{Q:Fin→Shared→Prop}(D:∃ l2,ZipApart z TI TO i1 i2 l1 l2)
 (hz:IsZip s.heap z TI TO .none) (hTI:IsPair s.heap TI (.ref i1) (.ref i2)) (hTO:IsPair s.heap TO a b) (h1:s.heap.IsListIter i1 l1 k1) (hl1:s.heap.IsList l1 xs) (hx:xs[k1]? =some x)
 {l2:Addr} {k2:Nat} {ys:Array Value} {y:Value} (h2:s.heap.IsTupleIter i2 l2 k2) (hl2:s.heap.IsTuple l2 ys) (hy:ys[k2]? =some y) (D2:l2≠z∧l2≠TO∧l2≠i1∧l2≠i2)
 (hQ:∀ h',IsZip h' z TI TO (rawInt s.heap.objs.size)→IsPair h' TO x y→h'.IsListIter i1 l1 (k1+1)→h'.IsTupleIter i2 l2 (k2+1)→IsPair h' s.heap.objs.size x y→
   (∀ c o,c≠z→c≠TO→c≠i1→c≠i2→s.heap.get? c=some o→h'.get? c=some o)→Q (.done (.ret (.ref s.heap.objs.size))) {s with heap:=h'}):
 wpAny (model prog w) A (Builtin.«zip.__next__» ⟨[.ref z],[]⟩) Q E s:=by
 obtain⟨_,D⟩:=D
 show wpAny _ _ (field (.ref z) 2 >>=_) _ _ _
 refine wpAny_bind (wpAny_field hz rfl (x:=.bool false) rfl ?_)
 show wpAny _ _ (field (.ref z) 3 >>=_) _ _ _
 refine wpAny_bind (wpAny_field hz rfl (x:=.ref TI) rfl (wpAny_bind (wpAny_seqItems hTI rfl ?_)))
 show wpAny _ _ (Builtin.SmallTypes.ownedTupleIsFree (.ref z) >>=_) _ _ _
 refine wpAny_bind ?_
 unfold Builtin.SmallTypes.ownedTupleIsFree
 refine wpAny_bind (wpAny_field hz rfl (x:=.none) rfl (wpAny_pure ?_))
 simp only [if_true]
 refine wpAny_bind (wpAny_rule (wpAny_bind (wpAny_field hz rfl (x:=.ref TO) rfl (wpAny_bind (wpAny_setField_rec hz (by simp) fun g1 z1 e1=>wpAny_bind ?_)))))
 have z1':IsZip g1 z TI TO .ellipsis:=z1
 simp only [List.zipIdx_cons,List.zipIdx_nil,List.forIn_cons,List.forIn_nil]
 refine wpAny_bind (wpAny_bind (wpAny_onRaise ?_))
 show wpAny _ _ (Builtin.SmallTypes.nextOf (.ref i1) >>=_) _ _ _
 refine wpAny_bind (wpAny_nextOf_list_item (h1.extBut e1.extBut D.i1z) (hl1.extBut e1.extBut D.l1z) hx fun g2 a2 e2=>wpAny_pure ?_)
 have t2:IsPair g2 TO a b:=e2.extBut _ _ D.TOi1 (e1.extBut _ _ D.TOz hTO)
 refine wpAny_bind (wpAny_seqItems t2 rfl (wpAny_bind (wpAny_updateSeq_pair t2 fun g3 t3 e3=>wpAny_bind (wpAny_letGo (wpAny_pure ?_)))))
 refine wpAny_bind (wpAny_bind (wpAny_onRaise ?_))
 show wpAny _ _ (Builtin.SmallTypes.nextOf (.ref i2) >>=_) _ _ _
 refine wpAny_bind (qDz (((h2.extBut e1.extBut D.i2z).extBut e2.extBut D.i12.symm).extBut e3.extBut D.TOi2.symm) (((hl2.extBut e1.extBut D2.1).extBut e2.extBut D2.2.2.1).extBut e3.extBut D2.2.1) hy fun g4 b4 e4=>wpAny_pure ?_)
 have t4:IsPair g4 TO x b:=e4.extBut _ _ D.TOi2 t3
 refine wpAny_bind (wpAny_seqItems t4 rfl (wpAny_bind (wpAny_updateSeq_pair t4 fun g5 t5 e5=>wpAny_bind (wpAny_letGo (wpAny_pure (wpAny_pure ?_))))))
 have t5':IsPair g5 TO x y:=t5
 refine wpAny_bind (wpAny_seqItems t5' rfl (wpAny_bind (wpAny_newTuple ?_)))
 have sz:g5.objs.size=s.heap.objs.size:=by rw [e5.1,e4.1,e3.1,e2.1,e1.1]
 have z5:IsZip g5 z TI TO .ellipsis:=e5.extBut _ _ D.TOz.symm (e4.extBut _ _ D.i2z.symm (e3.extBut _ _ D.TOz.symm (e2.extBut _ _ D.i1z.symm z1')))
 have k5:∀ c o,c≠z→c≠TO→c≠i1→c≠i2→s.heap.get? c=some o→g5.get? c=some o:=fun c o c1 c2 c3 c4 e=>e5.extBut _ _ c2 (e4.extBut _ _ c4 (e3.extBut _ _ c2 (e2.extBut _ _ c3 (e1.extBut _ _ c1 e))))
 have a5:g5.IsListIter i1 l1 (k1+1):=((a2.extBut e3.extBut D.TOi1.symm).extBut e4.extBut D.i12).extBut e5.extBut D.TOi1.symm
 have b5:g5.IsTupleIter i2 l2 (k2+1):=b4.extBut e5.extBut D.TOi2.symm
 have lz:z < g5.objs.size:=Heap.lt_size z5
 show wpAny _ _ (Builtin.SmallTypes.ownedTupleHandOut (.ref z) (.ref g5.objs.size) >>=_) _ _ _
 refine wpAny_bind ?_
 unfold Builtin.SmallTypes.ownedTupleHandOut
 have z6:IsZip (g5.push {cls:=.type "tuple",data:=.seq #[x,y]}) z TI TO .ellipsis:=Heap.get?_push_of_some _ z5
 refine wpAny_bind (wpAny_setField_rec z6 (by simp) fun g7 z7 e7=>?_)
 have z7':IsZip g7 z TI TO (rawInt g5.objs.size):=z7
 refine wpAny_setField_rec z7' (by simp) fun g8 z8 e8=>wpAny_pure ?_
 have z8':IsZip g8 z TI TO (rawInt g5.objs.size):=z8
 have up:∀ c o,c≠z→g5.get? c=some o→g8.get? c=some o:=fun c o c1 e=>e8.extBut _ _ c1 (e7.extBut _ _ c1 (Heap.get?_push_of_some _ e))
 have t8:IsPair g8 g5.objs.size x y:=e8.extBut _ _ (Nat.ne_of_gt lz) (e7.extBut _ _ (Nat.ne_of_gt lz) (Heap.get?_push_size _ rfl))
 show Q (.done (.ret (.ref g5.objs.size))) _
 rw [sz] at z8' t8 ⊢
 exact hQ g8 z8' (up _ _ D.TOz t5') (a5.at fun o e=>up _ o D.i1z e) (b5.at fun o e=>up _ o D.i2z e) t8 fun c o c1 c2 c3 c4 e=>up c o c1 (k5 c o c1 c2 c3 c4 e)
theorem qGo {z TI TO i1 i2 l1:Addr}{k1:Nat}{xs:Array Value}{Q:Fin→Shared→Prop}(hh:A.handled=none)(n:i1≠z∧l1≠z)
 (hz:IsZip s.heap z TI TO .none) (hTI:IsPair s.heap TI (.ref i1) (.ref i2)) (h1:s.heap.IsListIter i1 l1 k1) (hl1:s.heap.IsList l1 xs) (hx:xs[k1]? =none)
 (hE:∀ h' e,(∀ c o,c≠z→c≠i1→s.heap.get? c=some o→h'.get? c=some o)→(∃ o,h'.get? e=some o∧o.cls= .type "StopIteration")→E (.ref e) {s with heap:=h'}):
 wpAny (model prog w) A (Builtin.«zip.__next__» ⟨[.ref z],[]⟩) Q E s:=by
 show wpAny _ _ (field (.ref z) 2 >>=_) _ _ _
 refine wpAny_bind (wpAny_field hz rfl (x:=.bool false) rfl ?_)
 show wpAny _ _ (field (.ref z) 3 >>=_) _ _ _
 refine wpAny_bind (wpAny_field hz rfl (x:=.ref TI) rfl (wpAny_bind (wpAny_seqItems hTI rfl ?_)))
 show wpAny _ _ (Builtin.SmallTypes.ownedTupleIsFree (.ref z) >>=_) _ _ _
 refine wpAny_bind ?_
 unfold Builtin.SmallTypes.ownedTupleIsFree
 refine wpAny_bind (wpAny_field hz rfl (x:=.none) rfl (wpAny_pure ?_))
 simp only [if_true]
 refine wpAny_bind (wpAny_rule (wpAny_bind (wpAny_field hz rfl (x:=.ref TO) rfl (wpAny_bind (wpAny_setField_rec hz (by simp) fun g1 z1 e1=>wpAny_bind ?_)))))
 have z1':IsZip g1 z TI TO .ellipsis:=z1
 simp only [List.zipIdx_cons,List.zipIdx_nil,List.forIn_cons,List.forIn_nil]
 refine wpAny_bind (wpAny_bind (wpAny_onRaise ?_))
 show wpAny _ _ (Builtin.SmallTypes.nextOf (.ref i1) >>=_) _ _ _
 refine wpAny_bind (wpAny_nextOf_list_end hh (h1.extBut e1.extBut n.1) (hl1.extBut e1.extBut n.2) hx fun g2 e e2 he=>?_)
 obtain⟨oe,hoe,hce⟩:=he
 have z2:IsZip g2 z TI TO .ellipsis:=e2 _ _ n.1.symm z1'
 have ne:e≠z:=fun x=>by subst x;rw [z2] at hoe;cases hoe;simp at hce
 exact wpAny_setField_rec z2 (by simp) fun g3 _ e3=>hE g3 e (fun c o c1 c3 x=>e3.extBut _ _ c1 (e2 _ _ c3 (e1.extBut _ _ c1 x))) ⟨oe,e3.extBut _ _ ne hoe,hce⟩
theorem qH9 (l1 l2:Addr)(xs ys:Array Value):Meets (Builtin.«zip.__new__» ⟨[.type "zip",.ref l1,.ref l2],[]⟩) (fun _ R s=>s.heap.IsList l1 xs∧s.heap.IsTuple l2 ys∧
 ∀ h1 h2 h3 h4 h5,h1=s.heap.push {cls:=.type "list_iterator",data:=.fields #[.ref l1,.int 0 0]}→h2=h1.push {cls:=.type "tuple_iterator",data:=.fields #[.ref l2,.int 0 0]}→
  h3=h2.push {cls:=.type "tuple",data:=.seq #[.ref s.heap.objs.size,.ref h1.objs.size]}→h4=h3.push {cls:=.type "tuple",data:=.seq #[.none,.none]}→
  h5=h4.push {cls:=.type "zip",data:=.fields #[.none,.bool false,.bool false,.ref h2.objs.size,.ref h3.objs.size]}→R (.ok (.ret (.ref h4.objs.size))) {s with heap:=h5}):=
 .of_wp fun prog w A R s h=>by
  obtain⟨hp,g,d,tk,os⟩:=s
  obtain⟨m1,m2,h⟩:=h
  have h:=h _ _ _ _ _ rfl rfl rfl rfl rfl
  have hsub:=sub_zip
  have p1:Heap.IsList (Shared.heap ⟨hp,g,d,tk,os⟩) l1 xs:=m1
  have p2:Heap.IsTuple (Shared.heap ⟨hp.push {cls:=.type "list_iterator",data:=.fields #[.ref l1,.int 0 0]},g,d,tk,os⟩) l2 ys:=Heap.IsTuple.push m2 _
  wp_walk using wpAny_pyIter_list p1,wpAny_pyIter_tuple p2
  exact⟨_,rfl,h⟩
theorem qEv {l1 l2:Addr}{xs ys:Array Value}{Q:Value→Shared→Prop}(hl1:s.heap.IsList l1 xs)(hl2:s.heap.IsTuple l2 ys)
 (h:∀ h',IsZip h' (s.heap.objs.size+4) (s.heap.objs.size+2) (s.heap.objs.size+3) .none→IsPair h' (s.heap.objs.size+2) (.ref s.heap.objs.size) (.ref (s.heap.objs.size+1))→
   IsPair h' (s.heap.objs.size+3) .none .none→h'.IsListIter s.heap.objs.size l1 0→h'.IsTupleIter (s.heap.objs.size+1) l2 0→
   (∀ c o,s.heap.get? c=some o→h'.get? c=some o)→Q (.ref (s.heap.objs.size+4)) {s with heap:=h'}):
 wpAny (model prog w) A (call (.type "zip") [.ref l1,.ref l2]) Q E s:=by
 refine callType_new F.called_zip (by decide) (F.typeCall_zip_2 _ _) (F.newCall_zip_2 _ _) (fun obj=>F.args_object_init_3 obj _ _) F.entry_zip_new (qH9 l1 l2 xs ys) ⟨hl1,hl2,fun h1 h2 h3 h4 h5 e1 e2 e3 e4 e5=>?_⟩
 have z1:h1.objs.size=s.heap.objs.size+1:=by rw [e1];exact Heap.size_push ..
 have z2:h2.objs.size=s.heap.objs.size+2:=by rw [e2,Heap.size_push,z1]
 have z3:h3.objs.size=s.heap.objs.size+3:=by rw [e3,Heap.size_push,z2]
 have z4:h4.objs.size=s.heap.objs.size+4:=by rw [e4,Heap.size_push,z3]
 have u5:∀ c o,h4.get? c=some o→h5.get? c=some o:=fun c o q=>by rw [e5];exact Heap.get?_push_of_some _ q
 have u4:∀ c o,h3.get? c=some o→h4.get? c=some o:=fun c o q=>by rw [e4];exact Heap.get?_push_of_some _ q
 have u3:∀ c o,h2.get? c=some o→h3.get? c=some o:=fun c o q=>by rw [e3];exact Heap.get?_push_of_some _ q
 have u2:∀ c o,h1.get? c=some o→h2.get? c=some o:=fun c o q=>by rw [e2];exact Heap.get?_push_of_some _ q
 have u1:∀ c o,s.heap.get? c=some o→h1.get? c=some o:=fun c o q=>by rw [e1];exact Heap.get?_push_of_some _ q
 have g5:IsZip h5 h4.objs.size h2.objs.size h3.objs.size .none:=by rw [e5];exact Heap.get?_push_size _ rfl
 have g4:IsPair h5 h3.objs.size .none .none:=u5 _ _ (by rw [e4];exact Heap.get?_push_size _ rfl)
 have g3:IsPair h5 h2.objs.size (.ref s.heap.objs.size) (.ref h1.objs.size):=u5 _ _ (u4 _ _ (by rw [e3];exact Heap.get?_push_size _ rfl))
 have g2:h5.IsTupleIter h1.objs.size l2 0:=⟨_,u5 _ _ (u4 _ _ (u3 _ _ (by rw [e2];exact Heap.get?_push_size _ rfl))),rfl,rfl⟩
 have g1:h5.IsListIter s.heap.objs.size l1 0:=⟨_,u5 _ _ (u4 _ _ (u3 _ _ (u2 _ _ (by rw [e1];exact Heap.get?_push_size _ rfl)))),rfl,rfl⟩
 rw [z2,z3,z4] at g5
 rw [z3] at g4
 rw [z2,z1] at g3
 rw [z1] at g2
 show _∧_
 rw [z4]
 exact⟨⟨_,g5,rfl⟩,h _ g5 g3 g4 g1 g2 fun c o x=>u5 _ _ (u4 _ _ (u3 _ _ (u2 _ _ (u1 _ _ x))))⟩
end
def qLq (K:PySem.W.Frag)(a b:Addr):It:=
 ⟨fun i H=>∃ xs ys x y,SqL K H a xs∧SqT K H b ys∧xs[i]? =some x∧ys[i]? =some y,
  fun i H x H'=>∃ p v u,H p=none∧x= .ref p∧(∀ xs,SqL K H a xs→xs[i]? =some v)∧(∀ ys,SqT K H b ys→ys[i]? =some u)∧H'=upd H p (.tup [v,u]),
  fun i H=>∃ xs,SqL K H a xs∧xs.length≤i⟩
theorem qHw {X:Cx}{pins:List (Addr × Obj)}{σ:L2.St}{H:Hp}{s:Shared}{fp:List Addr}(I:Inv X pins σ H s){l:Addr}(hl:(∃ zs,SqL X.K H l zs)∨∃ zs,SqT X.K H l zs)(hf:∀ b∈fp,H b=none∧(b∈X.ex∨X.s₀.heap.objs.size≤b)):∀ c∈fp,l≠c:=fun c hc e=>by
 subst e
 have free:=(hf l hc).1
 have kin:∀ o,X.K.lookup l=some o→False:=fun o q=>by
  rcases (hf l hc).2 with q2 | q2
  · exact I.ok.noex l o (I.ok.mod.kin l o q) q2
  · exact Nat.lt_irrefl _ (Nat.lt_of_lt_of_le (Nat.lt_of_lt_of_le (Heap.lt_size (I.ok.mod.kin l o q)) I.ok.bsz) q2)
 rcases hl with ⟨zs,h⟩ | ⟨zs,h⟩
 · rcases h with (q | ⟨o,q⟩) | ⟨o,its,n,q,_⟩
   · rw [free] at q;cases q
   · rw [free] at q;cases q
   · exact kin o q
 · rcases h with (q | ⟨o,q⟩) | ⟨o,its,n,q,_⟩
   · rw [free] at q;cases q
   · rw [free] at q;cases q
   · exact kin o q
theorem qEh {P:Program}{w:World}{K:PySem.W.Frag}{elts:List Expr}{k1:Nat}{pos:Pos}(z TI TO i1 i2 a b:Addr)(n0:z≠TI∧z≠TO∧z≠i1∧z≠i2∧TI≠TO∧TI≠i1∧TI≠i2∧TO≠i1∧TO≠i2∧i1≠i2):
 qIk P w K (.Tuple elts k1 pos) (qLq K a b) [z,TI,TO,i1,i2] z (fun i h=>IsZip h z TI TO .none∧IsPair h TI (.ref i1) (.ref i2)∧(∃ u v,IsPair h TO u v)∧h.IsListIter i1 a i∧h.IsTupleIter i2 b i) where
 mem:=by simp
 obj:=fun i h st c hc=>by
  obtain⟨hz,hTI,⟨u,v,hTO⟩,⟨o1,e1,_,d1⟩,o2,e2,_,d2⟩:=st
  simp only [List.mem_cons,List.not_mem_nil,or_false] at hc
  rcases hc with rfl | rfl | rfl | rfl | rfl
  · exact⟨_,hz,fun v z=>by cases z⟩
  · exact⟨_,hTI,fun v z=>by cases z⟩
  · exact⟨_,hTO,fun v z=>by cases z⟩
  · exact⟨o1,e1,fun v z=>by rw [d1] at z;cases z⟩
  · exact⟨o2,e2,fun v z=>by rw [d2] at z;cases z⟩
 keep:=fun i h h' st k=>by
  obtain⟨hz,hTI,⟨u,v,hTO⟩,h1,h2⟩:=st
  exact⟨k z (by simp) _ hz,k TI (by simp) _ hTI,⟨u,v,k TO (by simp) _ hTO⟩,h1.at fun o q=>k i1 (by simp) o q,h2.at fun o q=>k i2 (by simp) o q⟩
 item:=by
  intro X hP hw hK hc i pins s σ H E I hf st hg
  subst hP hw hK
  obtain⟨hz,hTI,⟨u0,v0,hTO⟩,h1,h2⟩:=st
  obtain⟨xs,ys,x,y,hq1,hq2,hx,hy⟩:=hg
  obtain⟨its1,rv1,p1,hz1⟩:=I.list hq1
  obtain⟨its2,rv2,p2,hz2⟩:=I.tuple hq2
  obtain⟨u,hu,ru⟩:=rv1.get hx
  obtain⟨u',hu',ru'⟩:=rv2.get hy
  have nf:∀ b∈[z,TI,TO,i1,i2],H b=none∧(b∈X.ex∨X.s₀.heap.objs.size≤b):=fun b hb=>⟨(hf b hb).1,(hf b hb).2.2.2.1⟩
  have na:=qHw I (.inl ⟨xs,hq1⟩) nf
  have nb:=qHw I (.inr ⟨ys,hq2⟩) nf
  obtain⟨n1,n2,n3,n4,n5,n6,n7,n8,n9,n10⟩:=n0
  have D:ZipApart z TI TO i1 i2 a a:=⟨n1.symm,n2.symm,n3.symm,n4.symm,n5,n6,n7,n8,n9,n10,na z (by simp),na TO (by simp),na i1 (by simp),na i2 (by simp),na z (by simp),na TO (by simp),na i1 (by simp),na i2 (by simp)⟩
  have hT:s.TypeIs (.ref z) "zip":=⟨_,hz,rfl⟩
  have lt:∀ c∈[z,TI,TO,i1,i2],c < s.heap.objs.size:=fun c hc=>by
   simp only [List.mem_cons,List.not_mem_nil,or_false] at hc
   rcases hc with rfl | rfl | rfl | rfl | rfl
   · exact Heap.lt_size hz
   · exact Heap.lt_size hTI
   · exact Heap.lt_size hTO
   · obtain⟨_,q,_⟩:=h1;exact Heap.lt_size q
   · obtain⟨_,q,_⟩:=h2;exact Heap.lt_size q
  unfold pyNext
  refine wpAny_bind (wpAny_attempt (wpAny_callSpecial?_slot (name:=Str.ofString "__next__") hT F.slot_zip_next (wpAny_call_entry F.slot_zip_next hT F.entry_zip_next (qGz ⟨a,D⟩ hz hTI hTO h1 p1.isList (x:=u) (by simpa using hu) h2 (show s.heap.IsTuple b its2.toArray from p2) (y:=u') (by simpa using hu') ⟨nb z (by simp),nb TO (by simp),nb i1 (by simp),nb i2 (by simp)⟩ fun h' hz' hTO' h1' h2' hT hk=>⟨_,rfl,wpAny_pure ?_⟩) (F.args_zip_next_1 _))))
  refine⟨_,rfl,wpAny_letOwnedTupleGo_zip hz' fun h'' hz'' hs''=>?_⟩
  have up:∀ c o,c≠z→h'.get? c=some o→h''.get? c=some o:=fun c o hc q=>(hs''.2 c hc).trans q
  have T:=qG5 (h':=h'') (t':=s.toks) (ch:=[z,TI,TO,i1,i2]) (xs:=[x,y]) (us:=#[u,u']) I hf lt
   (fun c o hc q=>up c o (fun e=>hc (by simp [e])) (hk c o (fun e=>hc (by simp [e])) (fun e=>hc (by simp [e])) (fun e=>hc (by simp [e])) (fun e=>hc (by simp [e])) q))
   (up _ _ (Nat.ne_of_gt (lt z (by simp))) hT) (.cons ru (.cons ru' .nil)) (by show 2≤sizeLine;decide)
  refine⟨.ref s.heap.objs.size,_,T.1,rfl,⟨_,x,y,I.hok.fresh (Nat.le_refl _),rfl,fun zs hzs=>by rw [I.list_inj hzs hq1];exact hx,fun zs hzs=>by rw [I.tuple_inj hzs hq2];exact hy,rfl⟩,?_,T.2⟩
  exact⟨hz'',up _ _ n1.symm (hk _ _ n1.symm n5 n6 n7 hTI),⟨_,_,up _ _ n2.symm hTO'⟩,h1'.at fun o q=>up _ o n3.symm q,h2'.at fun o q=>up _ o n4.symm q⟩
 done:=by
  intro X hP hw hK hc i pins s σ H E I hf st hg
  subst hP hw hK
  obtain⟨hz,hTI,⟨u0,v0,hTO⟩,h1,h2⟩:=st
  obtain⟨xs,hq1,hend⟩:=hg
  obtain⟨its1,rv1,p1,hz1⟩:=I.list hq1
  have nf:∀ b∈[z,TI,TO,i1,i2],H b=none∧(b∈X.ex∨X.s₀.heap.objs.size≤b):=fun b hb=>⟨(hf b hb).1,(hf b hb).2.2.2.1⟩
  have na:=qHw I (.inl ⟨xs,hq1⟩) nf
  have hT:s.TypeIs (.ref z) "zip":=⟨_,hz,rfl⟩
  have l1:=rv1.length
  unfold pyNext
  refine wpAny_bind (wpAny_attempt (wpAny_callSpecial?_slot (name:=Str.ofString "__next__") hT F.slot_zip_next (wpAny_call_entry F.slot_zip_next hT F.entry_zip_next (qGo (I.ok.hd hc) ⟨n0.2.2.1.symm,na z (by simp)⟩ hz hTI h1 p1.isList (by simp;omega) fun h' e hk he=>?_) (F.args_zip_next_1 _))))
  obtain⟨o,ho,hcls⟩:=he
  refine wpAny_bind (wpAny_isInstance (T:="StopIteration") (b:=true) ⟨o,ho,hcls⟩ isSubtype_stop ?_)
  exact wpAny_pure ⟨rfl,qFv (t':=s.toks) (ch:=[z,TI,TO,i1,i2]) I hf fun c o hc q=>hk c o (fun e=>hc (by simp [e])) (fun e=>hc (by simp [e])) q⟩
 self:=fun _ _ _ _ _ st h=>wpAny_pyIter_zip st.1 h
def qLw (K:PySem.W.Frag)(t:TA):TI:=fun σ H R=>t σ H fun vs H1=>∃ a b,vs=[.ref a,.ref b]∧(∃ xs,SqL K H1 a xs)∧(∃ ys,SqT K H1 b ys)∧R (qLq K a b) H1
theorem qIr {X:Cx}{l l':Expr}{tl:TA}{elts:List Expr}{k1:Nat}{tpos p pos:Pos}(hg:Gl X "zip")(hm:X.mg "zip"=none)(hl:PA X [l,l'] tl)(hs:starEach [l,l'] X.env=[(false,eval l X.env),(false,eval l' X.env)]:=by rfl)(hs2:starEach [l'] X.env=[(false,eval l' X.env)]:=by rfl):
 PI X (.Tuple elts k1 tpos) (.Call (.Name "zip" p) [l,l'] [] pos) (qLw X.K tl):=by
 intro pins s σ H R I h
 refine Call_ (vV I hg hm boot_zip (PyProof.Rows.callWith_type1 (thn (hl pos pins s σ H _ I h) fun us s1 ⟨vs,H1,I1,r1,q1⟩=>?_) (by rw [hs,hs2]) (by rw [hs2];rfl)))
 obtain⟨a,b,e,⟨xs,hq1⟩,⟨ys,hq2⟩,q⟩:=q1
 subst e
 cases r1 with
 | cons r rr=>
  cases rr with
  | cons r' rr=>
   cases rr
   cases r
   cases r'
   obtain⟨its1,rv1,p1,hz1⟩:=I1.list hq1
   obtain⟨its2,rv2,p2,hz2⟩:=I1.tuple hq2
   refine qEv p1.isList (show s1.heap.IsTuple b its2.toArray from p2) fun h' hz hTI hTO h1 h2 hk=>wpAny_pyIter_zip hz ?_
   refine⟨s1.heap.objs.size+4,[s1.heap.objs.size+4,s1.heap.objs.size+2,s1.heap.objs.size+3,s1.heap.objs.size,s1.heap.objs.size+1],_,_,H1,rfl,I1.kept (t':=s1.toks) fun c o e=>hk c o e,qEh _ _ _ _ _ a b (qDw _),⟨hz,hTI,⟨_,_,hTO⟩,h1,h2⟩,fun c hc=>?_,q⟩
   have hle:s1.heap.objs.size≤c:=by
    simp only [List.mem_cons,List.not_mem_nil,or_false] at hc
    rcases hc with rfl | rfl | rfl | rfl | rfl <;> omega
   exact I1.fpOk hle (I1.hok.fresh hle)
def CompEnd2 (K:PySem.W.Frag)(js:List Nat)(te:TE)(σ:L2.St)(Q:VK)(J:It)(H1:Hp):Prop:=∃ W:Nat→Nat→List V→Hp→Prop,(∃ m,W 0 m [] H1)∧∀ i m acc H2,W i m acc H2→
 acc.length < sizeLine∧((J.stop i H2∧∀ D,H2 D=none→Q (.ref D) (upd H2 D (.lst acc)))∨
  (J.go i H2∧∀ x H3,J.yld i H2 x H3→∃ p va vb,x= .ref p∧SqT K H3 p [va,vb]∧te (some va::some vb::xZ js σ) H3 fun v H5=>∃ m',m' < m∧W (i+1) m' (acc++[v]) H5))
def qJz (K:PySem.W.Frag)(js:List Nat)(wi:TI)(te:TE):TE:=fun σ H Q=>wi σ H (CompEnd2 K js te σ Q)
theorem CompEnd2.g {K:PySem.W.Frag}{js:List Nat}{te:TE}(σ:L2.St)(Q:VK)(J:It)(H1:Hp):CompEnd2 K js te σ Q J H1→jr 2 js (qI6 K 2 (kr (xJ 0) (kr (xJ 1) qKd))) (fun _ H Q=>Q true H) te σ Q J H1:=fun⟨W,w0,st⟩=>
 ⟨W,w0,fun i m acc H2 w=>⟨(st i m acc H2 w).1,(st i m acc H2 w).2.imp id fun⟨go,y⟩=>⟨go,fun x H3 z=>let ⟨p,va,vb,e,q,r⟩:=y x H3 z;⟨p,_,e,q,rfl,va,_,rfl,vb,_,rfl,rfl,[some va,some vb],rfl,rfl,r⟩⟩⟩⟩
theorem qFt {X:Cx}{Ex:Value→Option Addr→Hp→Prop}{elt iter:Expr}{x1 x2:Str}{px1 px2:Pos}{tk:Nat}{tpos:Pos}{scope:Scope}{cl:List (Str × Addr)}{pos:Pos}{wi:TI}{te:TE}(ys:List Str)(js:List Nat)
 (hcm:X.calm=true) (hi:PI (X.wish (XE X Ex)) (.Tuple [.Name x1 px1,.Name x2 px2] tk tpos) iter wi) (he:∀ C s H fp,PE ((qS X scope cl C (x1::x2::ys) s H fp).wish (XEF (qS X scope cl C (x1::x2::ys) s H fp) Ex)) elt te) (hx1:scope.names.lookup x1=some .local:=by rfl) (hx2:scope.names.lookup x2=some .local:=by rfl) (hC:COk X scope cl iter [x1,x2] ys js:=by exact⟨rfl,rfl,rfl,rfl,rfl,rfl,rfl,rfl,fun _=>rfl,by decide⟩) (hex:X.ex=[]:=by rfl) (hfr:X.env.frame=some X.env.locals:=by rfl) (hstk:X.stack=X.env::X.outer:=by rfl):PE (X.wish (XE X Ex)) (.ListComp elt [⟨.Tuple [.Name x1 px1,.Name x2 px2] tk tpos,iter,[],0⟩] scope pos) (qJz X.K js wi te):=
 qFo (xs:=[x1,x2]) (T:=CompEnd2 X.K js te) hcm hi (qFu hcm hC.nd hx1 hx2) (fun _ _ _ _=>wk) he hC hex hfr hstk CompEnd2.g
theorem qEo {K:PySem.W.Frag}{a b:Addr}{xs ys:List V}{js:List Nat}{te:TE}{σ:L2.St}{H:Hp}{Q:VK}(Pv:Nat→List V→Hp→Prop)(hlen:xs.length≤ys.length)(h0:Pv 0 [] H)(hl:∀ i acc H,i≤xs.length→Pv i acc H→SqL K H a xs∧SqT K H b ys∧acc.length < sizeLine)
 (hs:∀ i x y acc H p,xs[i]? =some x→ys[i]? =some y→Pv i acc H→H p=none→te (some x::some y::xZ js σ) (upd H p (.tup [x,y])) fun v H'=>Nxt xs.length i (Pv (i+1) (acc++[v]) H')) (hd:∀ acc H,Pv xs.length acc H→∀ D,H D=none→Q (.ref D) (upd H D (.lst acc))):CompEnd2 K js te σ Q (qLq K a b) H:=by
 refine⟨fun i m acc H=>m=xs.length - i∧i≤xs.length∧Pv i acc H,⟨xs.length,by simp,Nat.zero_le _,h0⟩,?_⟩
 rintro i m acc H2 ⟨rfl,hi,p⟩
 obtain⟨q1,q2,hz⟩:=hl i acc H2 hi p
 refine⟨hz,?_⟩
 by_cases hlt:i < xs.length
 · have hlt2:i < ys.length:=by omega
   refine .inr ⟨⟨xs,ys,xs[i],ys[i],q1,q2,by simp [hlt],by simp [hlt2]⟩,fun x H3 y=>?_⟩
   obtain⟨z,v,u,hz,rfl,y1,y2,rfl⟩:=y
   exact⟨z,_,_,rfl,SqT.of qC,hs i v u acc _ z (y1 xs q1) (y2 ys q2) p hz⟩
 · have e:i=xs.length:=by omega
   subst e
   exact .inl ⟨⟨xs,q1,Nat.le_refl _⟩,hd acc H2 p⟩
end L3
set_option maxRecDepth 100000
namespace L3
open PySem PySem.Spec PyProof.Rows L2
inductive KEs (P:Params):List (Str × V)→List DictEntry→Prop where
 | nil:KEs P [] []
 | cons {k:Str} {t:Tok} {v:V} {u:Value} {l:List (Str × V)} {es:List DictEntry} (r:RelV v u) (q:KEs P l es):KEs P ((k,v)::l) (⟨PyData.keyHash P k,.str k t,u⟩::es)
structure KDi (K:PySem.W.Frag)(P:Params)(a:Addr)(l:List (Str × V)):Prop where
 ex:∃ es n,K.lookup a=some ⟨.type "dict",none,.dict es n,#[]⟩∧KEs P l es.toList
 ns:(a == sysModules)=false
theorem KEs.lit {P:Params}{l:List (Str × V)}{es:List DictEntry}(h:KEs P l es):PySem.W.KeysLit P es:=by
 induction h with
 | nil=>trivial
 | cons r q ih=>exact⟨⟨_,_,rfl,rfl⟩,ih⟩
theorem KEs.find {P:Params}{l:List (Str × V)}{es:List DictEntry}(h:KEs P l es)(k:Str):RelO (l.lookup k) ((es.find? fun e=>Value.isStrOf k e.key).map (·.val)):=by
 induction h with
 | nil=>exact True.intro
 | @cons k' t v u l es r q ih=>
  rw [List.lookup_cons,List.find?_cons]
  show RelO _ (Option.map _ (match k' == k with | true=>_ | false=>_))
  have e:(k == k')=(k' == k):=Bool.beq_comm
  rw [e]
  cases k' == k with
  | true=>exact r
  | false=>exact ih
theorem KDi.map {X:Cx}{pins:List (Addr × Obj)}{σ:L2.St}{H:Hp}{s:Shared}{a:Addr}{l:List (Str × V)}(I:Inv X pins σ H s)(h:KDi X.K X.w.params a l):∃ f:Str→Option Value,s.heap.MapOf (strKind X.prog X.w) a f∧∀ k,RelO (l.lookup k) (f k):=by
 obtain⟨es,n,hl,q⟩:=h.ex
 refine⟨_,PySem.W.mapOf_K (prog:=X.prog) (fun b o e=>I.kIn b o e) hl q.lit,fun k=>?_⟩
 have:=q.find k
 unfold findBy
 rw [← Array.find?_toList]
 exact this
def qLr (K:PySem.W.Frag)(P:Params)(td ty:TE):TE:=fun σ H Q=>td σ H fun x H1=>ty σ H1 fun y H2=>∃ a l k v,x= .ref a∧KDi K P a l∧y= .str k∧l.lookup k=some v∧Q v H2
def qHl (K:PySem.W.Frag)(P:Params)(ty td:TE):TE:=fun σ H Q=>ty σ H fun y H1=>td σ H1 fun x H2=>∃ a l k,x= .ref a∧KDi K P a l∧y= .str k∧Q (.bl (!(l.lookup k).isSome)) H2
section
variable {X : Cx} {o i : Expr} {pos : Pos} {td ty : TE}
theorem qH0 (ho:PE X o td)(hi:PE X i ty)(hs:qL6 i):PE X (.Subscript o i pos) (qLr X.K X.w.params td ty):=by
 intro pins s σ H Q I h
 refine qIs PySem.F.slot_dict_getitem.lookup hs (thn (ho pins s σ H _ I h) fun u s1 ⟨x,H1,I1,rx,q1⟩=>thn (hi pins s1 σ H1 _ I1 q1) fun iv s2 ⟨y,H2,I2,ry,a,l,k,v,ex,g,ey,hv,q2⟩=>?_)
 subst ex ey
 obtain rfl:u=Value.ref a:=rx
 obtain⟨t,rfl⟩:=ry
 obtain⟨f,mp,hf⟩:=g.map I2
 obtain⟨w',hw,rw'⟩:=RelO.some_of (v:=v) (o:=f k) (by rw [← hv];exact hf k)
 exact⟨mp.typeIs,wpAny_getItem_of (strKind_is X.prog X.w k t) mp hw ⟨v,H2,I2.tok _,rw',q2⟩⟩
theorem qEb (hi:PE X i ty)(ho:PE X o td):PC X .NotIn i o (qHl X.K X.w.params ty td):=by
 intro pins s σ H Q I h
 refine thn (hi pins s σ H _ I h) fun iv s1 ⟨y,H1,I1,ry,q1⟩=>thn (ho pins s1 σ H1 _ I1 q1) fun u s2 ⟨x,H2,I2,rx,a,l,k,ex,g,ey,q2⟩=>?_
 subst ex ey
 obtain rfl:u=Value.ref a:=rx
 obtain⟨t,rfl⟩:=ry
 obtain⟨f,mp,hf⟩:=g.map I2
 refine wpAny_notIn_of (strKind_is X.prog X.w k t) g.ns mp ?_
 rw [← (hf k).isSome_eq]
 exact⟨.bl _,H2,I2.tok _,rfl,q2⟩
end
end L3
set_option maxRecDepth 100000
namespace L3
open PySem PySem.Spec PyProof.Rows L2
variable {X : Cx}
theorem qBk:zX X (.type "str") (fun xs H Q=>(∃ i:Int,xs=[.int i]∧i.natAbs.log2 < 1920∧Q (.str (toString i)) H)∨∃ z:Str,xs=[.str z]∧Q (.str z) H):=by
 intro pins s σ H xs us Q I r h
 rcases h with ⟨i,rfl,hz,q⟩ | ⟨z,rfl,q⟩
 · obtain⟨u,rfl,t,rfl⟩:=vU r
   exact PySem.P.str_of_int hz ⟨.str _,H,I.tok _,⟨_,rfl⟩,q⟩
 · obtain⟨u,rfl,t,rfl⟩:=vU r
   exact PySem.P.str_of_str ⟨.str z,H,I,⟨_,rfl⟩,q⟩
theorem qBf:OpR X (compareOp .IsNot) (fun x y H Q=>∃ b,y= .bl b∧((∃ a,x= .bl a∧Q (.bl (a != b)) H)∨∃ z,x= .ref z∧Q (.bl true) H)):=by
 intro pins s σ H x y v u Q I rx ry h
 obtain⟨b,rfl,⟨a,rfl,q⟩ | ⟨z,rfl,q⟩⟩:=h
 · cases rx;cases ry
   exact isnot_bool ⟨.bl (a != b),H,I,rfl,q⟩
 · cases rx;cases ry
   show wpAny _ _ (pure (Value.bool true)) _ _ _
   exact wpAny_pure ⟨.bl true,H,I,rfl,q⟩
end L3
set_option maxRecDepth 100000
namespace L3
open PySem PySem.Spec PyProof.Rows L2 PySem.Builtin.Str PySem.StrLaws
theorem zN (sep:Str):∀ l:List Str,qJb sep l=Str.join sep l
 | []=>glued_eq_join sep []
 | [_]=>rfl
 | x::y::r=>glued_eq_join sep (x::y::r)
def xa (sep:Str)(l:List Str):Nat:=(l.map (·.length)).sum+l.length*sep.length
theorem zO (sep:Str):∀ l:List Str,l≠[]→(Str.join sep l).length+sep.length=xa sep l
 | [],h=>absurd rfl h
 | [x],_=>by
  unfold xa
  simp
  rfl
 | x::y::r,_=>by
  have h:=zO sep (y::r) (by simp)
  unfold xa at h ⊢
  have e:Str.join sep (x::y::r)=x++sep++Str.join sep (y::r):=rfl
  rw [e,Str.length_append,Str.length_append]
  simp only [List.map_cons,List.sum_cons,List.length_cons,Nat.succ_mul] at h ⊢
  omega
theorem wm (sep:Str)(l:List Str):(Str.join sep l).length≤xa sep l:=by
 cases l with
 | nil=>exact Nat.zero_le _
 | cons x r=>have:=zO sep (x::r) (by simp);omega
theorem zJ (x y:Str):Txt.split x y≠[]:=by
 unfold Txt.split
 split
 · simp
 · split
   · simp
   · rw [partsBetween_eq]
     obtain⟨p,r,e⟩:=partsFrom_ne x y.length 0 (occurrences x y 0 x.length (x.length+1))
     rw [e];simp
theorem vc (x y:Str):xa y (Txt.split x y)=x.length+y.length:=by
 have h:=zO y (Txt.split x y) (zJ x y)
 rw [join_split] at h
 exact h.symm
theorem qEw:∀ {l:List Str} {p:Str},p∈l→p.length≤(l.map (·.length)).sum
 | x::l,p,h=>by
  rw [List.map_cons,List.sum_cons]
  rcases List.mem_cons.mp h with rfl | h
  · omega
  · have:=qEw h;omega
theorem qAj {sep:Str}{l:List Str}{p:Str}(h:p∈l):p.length+sep.length≤xa sep l:=by
 have h1:=qEw h
 have h2:1≤l.length:=List.length_pos_iff.mpr (fun e=>by rw [e] at h;cases h)
 unfold xa
 have:1*sep.length≤l.length*sep.length:=Nat.mul_le_mul_right _ h2
 omega
theorem zz {x y p:Str}(h:p∈Txt.split x y):p.length≤x.length:=by
 have:=qAj (sep:=y) h
 rw [vc] at this
 omega
theorem zA {x y:Str}(hy:1≤y.length):(Txt.split x y).length≤x.length+y.length:=by
 have h:=vc x y
 unfold xa at h
 have:(Txt.split x y).length*1≤(Txt.split x y).length*y.length:=Nat.mul_le_mul_left _ hy
 omega
theorem jv (sep:Str)(l m:List Str):xa sep (l++m)=xa sep l+xa sep m:=by
 unfold xa
 rw [List.map_append,List.sum_append,List.length_append,Nat.add_mul]
 omega
theorem vJ (sep x:Str):xa sep [x]=x.length+sep.length:=by
 unfold xa
 simp
theorem qDj (sep:Str)(l:List Str)(i:Nat):xa sep (l.take i)+xa sep (l.drop i)=xa sep l:=by
 rw [← jv,List.take_append_drop]
theorem zW (sep:Str)(l:List Str){i j:Nat}(h:i≤j):xa sep (l.drop j)≤xa sep (l.drop i):=by
 have e:l.drop j=(l.drop i).drop (j - i):=by rw [List.drop_drop];congr 1;omega
 rw [e]
 have:=qDj sep (l.drop i) (j - i)
 omega
theorem qH4 (sep:Str){l:List Str}{i:Nat}{x:Str}(h:i < l.length):xa sep (l.set i x)≤xa sep l+x.length:=by
 rw [List.set_eq_take_append_cons_drop,if_pos h]
 have e1:=qDj sep l i
 have e2:l.drop i=[l[i]]++l.drop (i+1):=by rw [List.drop_eq_getElem_cons h];rfl
 rw [e2,jv,vJ] at e1
 have e3:l.take i++x::l.drop (i+1)=l.take i++([x]++l.drop (i+1)):=rfl
 rw [e3,jv,jv,vJ]
 omega
theorem kI {sep:Str}{l:List Str}(h:xa sep l≤90000):tooLong (l.toArray.foldl (· + ·.length+sep.length) 0)=false∧(glued sep l).length≤sizeLine:=by
 have hs:(90000:Nat)≤sizeLine:=by decide
 have e:tooLong (l.toArray.foldl (· + ·.length+sep.length) 0)=false:=by
  rw [joinTotal]
  unfold tooLong
  exact decide_eq_false (by unfold xa at h;omega)
 refine⟨e,?_⟩
 rw [glued_eq_join]
 have:=wm sep l
 omega
theorem qC9 {x y:Str}{c k:Nat}(hc:y.cps.toList.head?=some c)(h:At x y x.length k):x.cps.toList[k]? =some c:=by
 have h2:=h.2
 rw [subAt_eq] at h2
 have e:=eq_of_beq h2
 cases hy:y.cps.toList with
 | nil=>rw [hy] at hc;cases hc
 | cons d t=>
  rw [hy] at hc e
  have hd:d=c:=by simpa using hc
  subst hd
  have e1:=congrArg (·[0]?) e
  have hl:0 < y.length:=by
   have:y.cps.toList.length=y.length:=Array.length_toList
   rw [hy] at this;simp at this;omega
  simp only [List.getElem?_cons_zero] at e1
  rw [List.getElem?_take_of_lt hl,List.getElem?_drop] at e1
  simpa using e1
theorem wN {x y:Str}{c:Nat}(hc:y.cps.toList.head?=some c):∀ (qs:List Str) (a:Nat) (cuts:List Nat) (f:Nat),qs≠[]→(∀ q∈qs,c ∉ q.cps.toList)→x.cps.toList.drop a=(Str.join y qs).cps.toList→a≤x.length→ChainG x y x.length a cuts f→(∀ k,f≤k→¬ At x y x.length k)→partsFrom x y.length a cuts=qs
 | [],_,_,_,h,_,_,_,_,_=>absurd rfl h
 | [q],a,cuts,f,_,hq,e,ha,hG,hn=>by
  have no:∀ k,a≤k→¬ At x y x.length k:=fun k hk hA=>by
   have h1:=qC9 hc hA
   have:c∈x.cps.toList.drop a:=by
    refine List.mem_of_getElem? (i:=k - a) ?_
    rw [List.getElem?_drop]
    rw [show a+(k - a)=k by omega]
    exact h1
   rw [e] at this
   exact hq q (by simp) this
  cases cuts with
  | nil=>
   show [strSub x a x.length]=[q]
   congr 1
   apply zB
   rw [strSub_toList,e]
   have hl:(x.cps.toList.drop a).length=x.length - a:=by rw [List.length_drop];congr 1
   have e2:(Str.join y [q]).cps.toList=q.cps.toList:=rfl
   rw [e,e2] at hl
   rw [e2,← hl,List.take_length]
  | cons d r=>exact absurd hG.2.1 (no d hG.1)
 | q::q'::r,a,cuts,f,_,hq,e,ha,hG,hn=>by
  have ej:(Str.join y (q::q'::r)).cps.toList=q.cps.toList++(y.cps.toList++(Str.join y (q'::r)).cps.toList):=by
   show (q++y++Str.join y (q'::r)).cps.toList=_
   rw [qx,qx,List.append_assoc]
  rw [ej] at e
  have lq:q.cps.toList.length=q.length:=Array.length_toList
  have ly:y.cps.toList.length=y.length:=Array.length_toList
  have lx:x.cps.toList.length=x.length:=Array.length_toList
  have hlen:x.length - a=q.length+(y.length+(Str.join y (q'::r)).cps.toList.length):=by
   have:=congrArg List.length e
   rw [List.length_drop,List.length_append,List.length_append,lx,lq,ly] at this
   exact this
  have edr:x.cps.toList.drop (a+q.length)=y.cps.toList++(Str.join y (q'::r)).cps.toList:=by
   rw [← List.drop_drop,e,← lq,List.drop_left]
  have hA:At x y x.length (a+q.length):=by
   refine⟨by omega,?_⟩
   rw [subAt_eq,edr,← ly,List.take_left]
   exact beq_self_eq_true _
  have no:∀ k,a≤k→k < a+q.length→¬ At x y x.length k:=fun k h1 h2 hk=>by
   have h3:=qC9 hc hk
   have:q.cps.toList[k - a]? =some c:=by
    have h4:(x.cps.toList.drop a)[k - a]? =some c:=by rw [List.getElem?_drop,show a+(k - a)=k by omega];exact h3
    rw [e,List.getElem?_append_left (by omega)] at h4
    exact h4
   exact hq q (by simp) (List.mem_of_getElem? this)
  cases cuts with
  | nil=>
   have ef:f=a:=hG
   exact absurd hA (hn _ (by omega))
  | cons d cs=>
   have hd:d=a+q.length:=by
    rcases Nat.lt_trichotomy d (a+q.length) with h | h | h
    · exact absurd hG.2.1 (no d hG.1 h)
    · exact h
    · exact absurd hA (hG.2.2.1 _ (by omega) h)
   subst hd
   show strSub x a (a+q.length)::partsFrom x y.length (a+q.length+y.length) cs=q::q'::r
   congr 1
   · apply zB
     rw [strSub_toList,e,show a+q.length - a=q.cps.toList.length by omega,List.take_left]
   · refine wN hc (q'::r) _ cs f (by simp) (fun p hp=>hq p (List.mem_cons_of_mem _ hp)) ?_ (by omega) hG.2.2.2 hn
     rw [← List.drop_drop,edr,← ly,List.drop_left]
theorem wK {y:Str}{c:Nat}(hc:y.cps.toList.head?=some c)(hk:Builtin.Str.strKind y=1){qs:List Str}(h0:qs≠[])(hq:∀ q∈qs,c ∉ q.cps.toList):Txt.split (Str.join y qs) y=qs:=by
 have hy:1≤y.length:=by
  have:y.cps.toList.length=y.length:=Array.length_toList
  cases hy:y.cps.toList with
  | nil=>rw [hy] at hc;cases hc
  | cons d t=>rw [hy] at this;simp at this;omega
 obtain⟨f,hG,hn⟩:=occ_tight (Str.join y qs) y hy
 have key:=wN (x:=Str.join y qs) hc qs 0 _ f h0 hq (by rw [List.drop_zero]) (Nat.zero_le _) hG hn
 unfold Txt.split
 split
 · rename_i hb
   rw [Bool.or_eq_true,decide_eq_true_eq,decide_eq_true_eq] at hb
   have hlt:(Str.join y qs).length < y.length:=by
    rcases hb with h | h
    · exact h
    · rw [hk] at h
      have:1≤Builtin.Str.strKind (Str.join y qs):=by unfold Builtin.Str.strKind;split <;> (try split) <;> decide
      omega
   match qs,h0,hlt with
   | [q],_,_=>rfl
   | q::q'::r,_,hlt=>
    have:=zO y (q::q'::r) (by simp)
    unfold xa at this
    simp only [List.length_cons,Nat.succ_mul] at this
    omega
 · split
   · rename_i he
     rw [List.isEmpty_iff.mp he] at key
     have e2:partsFrom (Str.join y qs) y.length 0 []=[strSub (Str.join y qs) 0 (Str.join y qs).length]:=rfl
     rw [e2,sub_whole] at key
     exact key
   · rw [partsBetween_eq]
     exact key
theorem noX {P:Program}{w:World}{K:PySem.W.Frag}{mg:Str→Option Value}{base:Heap}{k:Nat}{f:Addr}{fd:FuncData}{ps:List Str}{sp:Sp}(F:FnOk P w K mg base (CXR P w) k f fd ps sp):FnOk P w K mg base CX0 k f fd ps (fun vs H Q _=>sp vs H Q E0):=by
 refine⟨fun vs H Q E h=>F.len vs H Q E0 h,fun A outer s H args us vs Q E hr e0 e1 r h=>?_⟩
 refine codeAny_mono (F.run A outer s H args us vs Q E0 hr e0 e1 r h) fun x s' q=>?_
 cases x with
 | ok c=>cases c <;> exact q
 | error e=>
  obtain⟨_,_,_,_,_,_,_,_,_,z⟩:=(show CXR P w outer H s E0 e s' from q)
  exact z.elim
end L3
set_option maxRecDepth 100000
namespace Lw
open PySem L2 L3 Mt
seal L2.PSs L2.PS L2.PE L2.PA L2.PT L2.PW L2.PC L2.PI L2.PG L2.PGs L2.PO
def top (i:Nat):Stmt:=PySem.Challenge.pw_reelcut_k85_tracks_in_texts.main.body.getD i (.Pass ⟨0,0,0,0⟩)
theorem scA {N P:List Str}{sc:Scope}(h1:sc.kind= .function:=by rfl)(h2:sc.isCoroutine=false:=by rfl)(h3:sc.isGenerator=false:=by rfl)(h4:N.Nodup:=by decide+kernel)(h5:N.take P.length=P:=by rfl)(h6:∀ x∈P,sc.names.lookup x=some .local∨sc.names.lookup x=some .cell:=by decide+kernel)(h7:∀ y∈sc.names,y.2≠ .free:=by decide+kernel):qQ N P sc:=⟨h1,h2,h3,h4,h5,h6,h7⟩
abbrev kM:Stmt:=top 5
abbrev ji:Stmt:=top 6
abbrev xW:Stmt:=top 7
abbrev vW:Stmt:=top 8
abbrev vH:Stmt:=top 13
abbrev kK:Stmt:=top 15
abbrev vR:Stmt:=top 16
abbrev jm:Stmt:=top 17
abbrev xV:Stmt:=top 22
abbrev jz:Stmt:=top 23
abbrev zg:Stmt:=top 24
abbrev xy:Stmt:=top 25
abbrev za:Stmt:=top 26
abbrev xw:Stmt:=top 27
abbrev xz:Stmt:=top 28
abbrev xQ:Stmt:=top 29
abbrev xT:Stmt:=top 30
abbrev ju:Stmt:=top 31
abbrev zb:Stmt:=top 32
abbrev zh:Stmt:=top 33
abbrev vX:Stmt:=top 34
abbrev zY:Stmt:=top 35
abbrev xr:Stmt:=top 36
abbrev zV:Stmt:=top 37
abbrev xv:Stmt:=top 38
abbrev xE:Stmt:=top 40
abbrev xo:Stmt:=top 41
abbrev zl:Stmt:=top 42
abbrev xu:Stmt:=top 43
abbrev xk:Stmt:=top 45
abbrev jj:Stmt:=top 46
abbrev jL:Stmt:=top 47
abbrev xA:Stmt:=top 48
abbrev zU:Stmt:=top 49
abbrev jw:Stmt:=top 50
abbrev xS:Stmt:=top 51
abbrev j0:Stmt:=top 52
abbrev xG:Stmt:=top 53
abbrev jk:Stmt:=top 54
abbrev jU:Stmt:=top 55
abbrev qH1:Stmt:=top 56
theorem qCi:qQ ["x"] ["x"] (qI kM):=scA
theorem jG:qQ ["one","other","rest"] ["one","other"] (qI ji):=scA
theorem wB:qQ ["x"] ["x"] (qI xW):=scA
theorem qDr:qQ ["thing"] ["thing"] (qI vH):=scA
theorem jW:qQ ["some","track","waiting","item"] ["some"] (qI kK):=scA
theorem qDk:qQ ["track","place"] ["track","place"] (qI vR):=scA
theorem xL:qQ ["track","mixes"] ["track"] (qI jm):=scA
theorem wC:qQ ["number"] ["number"] (qI xV):=scA
theorem vC:qQ ["one"] ["one"] (qI jz):=scA
theorem qA6:qQ ["part"] ["part"] (qI zg):=scA
theorem qAw:qQ ["parts"] ["parts"] (qI xy):=scA
theorem qBw:qQ ["item"] ["item"] (qI za):=scA
theorem wv:qQ ["track"] ["track"] (qI xw):=scA
theorem wx:qQ ["thing"] ["thing"] (qI xz):=scA
theorem v9:qQ ["signs"] ["signs"] (qI xQ):=scA
theorem zT:qQ ["text","signs"] ["text"] (qI xT):=scA
theorem jl:qQ ["text","parts","one"] ["text"] (qI ju):=scA
theorem qBo:qQ ["word"] ["word"] (qI zb):=scA
theorem kh:qQ ["word","least","number"] ["word","least"] (qI zh):=scA
theorem qAz:qQ ["word","kind"] ["word","kind"] (qI zY):=scA
theorem qAk:qQ ["words","kinds"] ["words","kinds"] (qI xr):=scA
theorem ki:qQ ["text","words"] ["text"] (qI zV):=scA
theorem zn:qQ ["text","track"] ["text"] (qI xv):=scA
theorem vo:qQ ["_law_script","_law_k"] ["_law_script","_law_k"] (qI xE):=scA
theorem jO:qQ ["_law_number_here","_law_many","_law_found","_law_x","_law_k"] ["_law_number_here","_law_many"] (qI xo):=scA
theorem j5:qQ ["_law_x","_law_cell","_law_step","_law_start","_law_length"] ["_law_x","_law_cell"] (qI zl):=scA
theorem jR:qQ ["_law_cells","_law_track_here","_law_k","_law_x","_law_item"] ["_law_cells"] (qI xu):=scA
theorem wy:qQ ["_law_one"] ["_law_one"] (qI xk):=scA
theorem kU:qQ ["_law_item"] ["_law_item"] (qI jj):=scA
theorem qq:qQ ["_law_text","_law_x","_law_y","_law_some","_law_at","_law_other"] ["_law_text","_law_x","_law_y"] (qI jL):=scA
theorem qy:qQ ["_law_text","_law_x","_law_y","_law_way","_law_at","_law_words","_law_place","_law_signs"] ["_law_text","_law_x","_law_y"] (qI xA):=scA
theorem jc:qQ ["_law_text","_law_found","e"] ["_law_text"] (qI zU):=scA
theorem jn:qQ ["_law_track_here","_law_words","_law_k"] ["_law_track_here"] (qI jw):=scA
theorem xB:qQ ["_law_text","_law_least","_law_figures"] ["_law_text","_law_least"] (qI xS):=scA
theorem jA:qQ ["_law_text","_law_parts","_law_one","_law_other"] ["_law_text"] (qI j0):=scA
theorem vP:qQ ["_law_text"] ["_law_text"] (qI xG):=scA
theorem qZ:qQ ["_law_text","_law_words","_law_kind","_law_found"] ["_law_text"] (qI jk):=scA
theorem j6:qQ ["_law_text","_law_track_here"] ["_law_text"] (qI jU):=scA
theorem xp:qQ ["_law_script","_law_track_here","_law_text","_law_handed","_law_item","_law_xs","_law_k","_law_due","_law_found","_law_odd"] ["_law_script"] (qI qH1):=scA
set_option genInjectivity false
set_option genSizeOf false
structure Ads where
 A0:Addr
 B0:FuncData
 A1:Addr
 B1:FuncData
 A2:Addr
 B2:FuncData
 A3:Addr
 B3:FuncData
 A4:Addr
 B4:FuncData
 A5:Addr
 B5:FuncData
 A6:Addr
 B6:FuncData
 A7:Addr
 B7:FuncData
 A8:Addr
 B8:FuncData
 A9:Addr
 B9:FuncData
 A10:Addr
 B10:FuncData
 A11:Addr
 B11:FuncData
 A12:Addr
 B12:FuncData
 A13:Addr
 B13:FuncData
 A14:Addr
 B14:FuncData
 A15:Addr
 B15:FuncData
 A16:Addr
 B16:FuncData
 A17:Addr
 B17:FuncData
 A18:Addr
 B18:FuncData
 A19:Addr
 B19:FuncData
 A20:Addr
 B20:FuncData
 A21:Addr
 B21:FuncData
 A22:Addr
 B22:FuncData
 A23:Addr
 B23:FuncData
 A24:Addr
 B24:FuncData
 A25:Addr
 B25:FuncData
 A26:Addr
 B26:FuncData
 A27:Addr
 B27:FuncData
 A28:Addr
 B28:FuncData
 A29:Addr
 B29:FuncData
 A30:Addr
 B30:FuncData
 A31:Addr
 B31:FuncData
 A32:Addr
 B32:FuncData
 A33:Addr
 B33:FuncData
 A34:Addr
 B34:FuncData
 A35:Addr
 B35:FuncData
 A36:Addr
 B36:FuncData
 A37:Addr
 B37:FuncData
 A38:Addr
 B38:FuncData
 A39:Addr
 B39:FuncData
 A40:Addr
 B40:FuncData
 k_CutError:Addr
 k_NoClip:Addr
 k_NoText:Addr
 t_LETTERS:Tok
 t_LONGEST_NAME:Tok
 n_NOUGHT:Addr
 t_FIGURES:Tok
 t_MOST_FIGURES:Tok
 n_ITEMS:Addr
 n_ITEMS_0:Addr
 n_ITEMS_1:Addr
 n_ITEMS_2:Addr
 n_ITEMS_3:Addr
 pr:Params
class WP (w:World) (a:Ads):Prop where
 e:w.params=a.pr
structure Tx (K:PySem.W.Frag)(mg:Str→Option Value)(a:Ads):Prop where
 D0:L3.Def K mg "is_whole" kM ["x"] a.A0 a.B0
 D1:L3.Def K mg "common_divisor" ji ["one","other"] a.A1 a.B1
 D2:L3.Def K mg "is_fraction" xW ["x"] a.A2 a.B2
 D3:L3.Def K mg "is_before" vW ["one","other"] a.A3 a.B3
 D4:L3.Def K mg "is_name" vH ["thing"] a.A4 a.B4
 D5:L3.Def K mg "one_form" kK ["some"] a.A5 a.B5
 D6:L3.Def K mg "kind_at" vR ["track","place"] a.A6 a.B6
 D7:L3.Def K mg "is_in_one_form" jm ["track"] a.A7 a.B7
 D8:L3.Def K mg "show_number" xV ["number"] a.A8 a.B8
 D9:L3.Def K mg "show_fraction" jz ["one"] a.A9 a.B9
 D10:L3.Def K mg "show_word" zg ["part"] a.A10 a.B10
 D11:L3.Def K mg "show_words" xy ["parts"] a.A11 a.B11
 D12:L3.Def K mg "show_item" za ["item"] a.A12 a.B12
 D13:L3.Def K mg "show_track" xw ["track"] a.A13 a.B13
 D14:L3.Def K mg "check_text" xz ["thing"] a.A14 a.B14
 D15:L3.Def K mg "are_figures" xQ ["signs"] a.A15 a.B15
 D16:L3.Def K mg "read_number" xT ["text"] a.A16 a.B16
 D17:L3.Def K mg "read_fraction" ju ["text"] a.A17 a.B17
 D18:L3.Def K mg "read_name" zb ["word"] a.A18 a.B18
 D19:L3.Def K mg "read_from" zh ["word","least"] a.A19 a.B19
 D20:L3.Def K mg "read_rate" vX ["word"] a.A20 a.B20
 D21:L3.Def K mg "read_word" zY ["word","kind"] a.A21 a.B21
 D22:L3.Def K mg "read_words" xr ["words","kinds"] a.A22 a.B22
 D23:L3.Def K mg "read_item" zV ["text"] a.A23 a.B23
 D24:L3.Def K mg "read_track" xv ["text"] a.A24 a.B24
 D25:L3.Def K mg "_law_cell_at" xE ["_law_script","_law_k"] a.A25 a.B25
 D26:L3.Def K mg "_law_drawn" xo ["_law_number_here","_law_many"] a.A26 a.B26
 D27:L3.Def K mg "_law_part" zl ["_law_x","_law_cell"] a.A27 a.B27
 D28:L3.Def K mg "_law_track" xu ["_law_cells"] a.A28 a.B28
 D29:L3.Def K mg "_law_shown" xk ["_law_one"] a.A29 a.B29
 D30:L3.Def K mg "_law_item_text" jj ["_law_item"] a.A30 a.B30
 D31:L3.Def K mg "_law_items_changed" jL ["_law_text","_law_x","_law_y"] a.A31 a.B31
 D32:L3.Def K mg "_law_changed" xA ["_law_text","_law_x","_law_y"] a.A32 a.B32
 D33:L3.Def K mg "_law_read" zU ["_law_text"] a.A33 a.B33
 D34:L3.Def K mg "_law_one_form" jw ["_law_track_here"] a.A34 a.B34
 D35:L3.Def K mg "_law_number" xS ["_law_text","_law_least"] a.A35 a.B35
 D36:L3.Def K mg "_law_fraction" j0 ["_law_text"] a.A36 a.B36
 D37:L3.Def K mg "_law_is_name" xG ["_law_text"] a.A37 a.B37
 D38:L3.Def K mg "_law_item_read" jk ["_law_text"] a.A38 a.B38
 D39:L3.Def K mg "_law_track_read" jU ["_law_text"] a.A39 a.B39
 D40:L3.Def K mg "law" qH1 ["_law_script"] a.A40 a.B40
 c_CutError:mg "CutError"=some (.ref a.k_CutError)
 c_NoClip:mg "NoClip"=some (.ref a.k_NoClip)
 c_NoText:mg "NoText"=some (.ref a.k_NoText)
 b_isinstance:mg "isinstance"=none
 b_int:mg "int"=none
 b_bool:mg "bool"=none
 b_abs:mg "abs"=none
 b_tuple:mg "tuple"=none
 b_len:mg "len"=none
 b_all:mg "all"=none
 b_str:mg "str"=none
 b_enumerate:mg "enumerate"=none
 b_zip:mg "zip"=none
 b_range:mg "range"=none
 b_any:mg "any"=none
 b_list:mg "list"=none
 g_LETTERS:mg "LETTERS"=some (.str "abcdefghijklmnopqrstuvwxyz" a.t_LETTERS)
 g_LONGEST_NAME:mg "LONGEST_NAME"=some (.int 8 a.t_LONGEST_NAME)
 g_NOUGHT:mg "NOUGHT"=some (.ref a.n_NOUGHT)
 sq_NOUGHT:∀ H,SqT K H a.n_NOUGHT [.int 0,.int 1]
 g_FIGURES:mg "FIGURES"=some (.str "0123456789" a.t_FIGURES)
 g_MOST_FIGURES:mg "MOST_FIGURES"=some (.int 60 a.t_MOST_FIGURES)
 g_ITEMS:mg "ITEMS"=some (.ref a.n_ITEMS)
 kd_ITEMS:L3.KDi K a.pr a.n_ITEMS [("clip",.ref a.n_ITEMS_0),("nest",.ref a.n_ITEMS_1),("gap",.ref a.n_ITEMS_2),("mix",.ref a.n_ITEMS_3)]
 sq_ITEMS_0:∀ H,SqT K H a.n_ITEMS_0 [.str "name",.str "fraction",.str "fraction",.str "length"]
 sq_ITEMS_1:∀ H,SqT K H a.n_ITEMS_1 [.str "name",.str "count",.str "length"]
 sq_ITEMS_2:∀ H,SqT K H a.n_ITEMS_2 [.str "length"]
 sq_ITEMS_3:∀ H,SqT K H a.n_ITEMS_3 [.str "length"]
 x_NoText:L3.OwnX K a.k_NoText
 e_NoText:L3.ExcK K a.k_NoText
 m_NoText:PySem.W.exmOne K (.ref a.k_NoText) (.ref a.k_NoText)=some true
 i_TK:PySem.W.kitOne K (.ref a.k_NoText) (.ref a.k_NoClip)=some false
inductive qGa (K:PySem.W.Frag)(vs:List V)(H:Hp)(Q:VK)(_:XK):Prop
| mk (a:Addr) (ns:List Int) (_:vs=[.ref a]) (_:SqL K H a (ns.map V.int)) (_:ns.length≤63) (_:∀ H',Q (.bl true) H')
theorem xU {CX:CXT}{P:Program}{w:World}{K:PySem.W.Frag}{mg:Str→Option Value}{base:Heap}{ns:List Str}{n:Str}{sc:Scope}{ad:Addr}{cdv:Value}{A:Around}{outer:List Env}{s:Shared}{H:Hp}{E:XK}:(qF0 CX P w K mg base ns n sc ad cdv A outer s H E).K=K:=rfl
theorem qz {CX:CXT}{P:Program}{w:World}{K:PySem.W.Frag}{mg:Str→Option Value}{base:Heap}{ns:List Str}{n:Str}{sc:Scope}{ad:Addr}{cdv:Value}{A:Around}{outer:List Env}{s:Shared}{H:Hp}{E:XK}:(qF0 CX P w K mg base ns n sc ad cdv A outer s H E).nox.K=K:=rfl
theorem sL0:(0:Nat)≤sizeLine:=by decide
theorem sL1:(1:Nat)≤sizeLine:=by decide
theorem sL2:(2:Nat)≤sizeLine:=by decide
theorem sL3:(3:Nat)≤sizeLine:=by decide
theorem sL4:(4:Nat)≤sizeLine:=by decide
theorem sL5:(5:Nat)≤sizeLine:=by decide
theorem glt {α:Type}{xs:List α}{i:Nat}{x:α}(h:xs[i]? =some x):i < xs.length:=(List.getElem?_eq_some_iff.mp h).1
theorem ixL {K:PySem.W.Frag}{σ:St}{H:Hp}{p:Addr}{xs:List V}{i:Int}{v:V}{Q:VK}(h:SqL K H p xs)(a:atI xs i=some v)(q:Q v H):tC (.int i) σ H (fun y H2=>qLz K (.ref p) y H2 Q):=⟨p,xs,i,v,rfl,rfl,h,a,q⟩
theorem qMg {K:PySem.W.Frag}{σ:St}{H:Hp}{p:Addr}{xs:List V}{i:Int}{v:V}{Q:VK}{j:Nat}(e:σ[j]? =some (some (.ref p)))(h:SqT K H p xs)(a:atI xs i=some v)(q:Q v H):tOp (qKk K) (qI9 j) (tC (.int i)) σ H Q:=⟨.ref p,e,p,xs,i,v,rfl,rfl,h,a,q⟩
theorem ixO {K:PySem.W.Frag}{σ:St}{H:Hp}{p:Addr}{xs:List V}{i:Int}{v:V}{Q:VK}{j:Nat}(h:H p=some (.tup xs))(a:atI xs i=some v)(q:Q v H)(e:σ[j]? =some (some (.ref p)):=by rfl):tOp (qKk K) (qI9 j) (tC (.int i)) σ H Q:=qMg e (SqT.of h) a q
theorem qL5 {K:PySem.W.Frag}{σ:St}{H:Hp}{p:Addr}{xs:List V}{i:Int}{v:V}{Q:VK}{j:Nat}(e:σ[j]? =some (some (.ref p)))(h:SqL K H p xs)(a:atI xs i=some v)(q:Q v H):tOp (qLz K) (qI9 j) (tC (.int i)) σ H Q:=⟨.ref p,e,p,xs,i,v,rfl,rfl,h,a,q⟩
section
variable {P : Program} {w : World} {K : W.Frag} {mg : Str → Option Value} {base : Heap} {a : Ads}
inductive kQ (vs:List V)(H:Hp)(Q:VK)(_:XK):Prop
| mk (i j:Int) (_:vs=[.int i,.int j]) (_:Q (.int ((Int.gcd i j:Nat):Int)) H)
theorem kX (T:Tx K mg a):FnOk P w K mg base CX0 1 a.A1 a.B1 ["one","other"] kQ:=by
 refine T.D1.F.ok jG (fun vs H Q E h=>?_) (fun cdv A outer s H vs Q E hr h=>?_)
 · obtain⟨i,j,rfl,_⟩:=h
   rfl
 refine qO fun _ Y=>?_
 obtain⟨i,j,rfl,q⟩:=h
 apply Y
 refine⟨_,(qD (qC3 PassesOwn.never (qH kD (pv 1) qF (qM _)) (qD (qg 2 jG.nd (qP qc (pv 0) (pv 1)))
  (qD (qg 0 jG.nd (pv 1))
  (qG (qg 1 jG.nd (pv 2))))))
  (qG (qK (qN qC8 rfl T.b_abs rfl (qA (pv 0) qB))))),?_⟩
 try dsimp only [xU,qz]
 refine qCs (fun σ H'=>H'=H∧∃ (x y:Int) (v:Option V),σ=[some (.int x),some (.int y),v]∧Int.gcd x y=Int.gcd i j)
  (fun σ _=>match σ with | [_,some (.int y),_]=>y.natAbs | _=>0) ⟨rfl,i,j,none,rfl,rfl⟩ ?_ ?_
 · rintro σ H1 ⟨rfl,x,y,v,rfl,e⟩
   refine⟨_,rfl,rfl,_,rfl,?_⟩
   refine qAy (fun c=>?_) (fun c=>?_)
   · have hy:y≠0:=by simpa using c
     refine⟨_,rfl,_,rfl,_,_,rfl,rfl,hy,_,rfl,_,rfl,⟨rfl,y,x.fmod y,_,rfl,?_⟩,?_⟩
     · rw [qCl];exact e
     · exact qE3 x y hy
   · have hy:y=0:=by simpa using c
     subst hy
     refine⟨_,rfl,x,rfl,?_⟩
     have e2:(if x < 0 then -x else x)=((Int.gcd i j:Nat):Int):=by
      rw [← e,Int.gcd_zero_right]
      split <;> omega
     rw [e2]
     exact q
 · rintro σ H1 Q1 Q2 hq h
   refine qO fun _ Y=>?_
   obtain⟨v,e,s,k,hk,z⟩:=h
   apply Y
   exact⟨v,e,s,k,hk,hq _ _ z⟩
def Pr (K:W.Frag)(H:Hp)(v:V)(p q:Int):Prop:=∃ z,v= .ref z∧SqT K H z [.int p,.int q]
theorem at0 {x y:V}:atI [x,y] 0=some x:=rfl
theorem at1 {x y:V}:atI [x,y] 1=some y:=rfl
theorem nz {j:Int}(h:j≠0:=by decide):j≠0:=h
theorem cdB {i j:Int}(h0:j≠0)(h:j.natAbs < 18446744073709551616):CDivB i j:=
 ⟨h0,Nat.lt_of_lt_of_le h (Nat.le_trans (by decide:18446744073709551616≤2 ^ 64) (Nat.pow_le_pow_right (by decide) (by decide)))⟩
theorem cmR {i j:Int}(h1:-(18446744073709551616:Int) < j)(h2:j < 18446744073709551616):CMulB i j:=.inl (.inr ⟨h1,h2⟩)
theorem cmL {i j:Int}(h1:-(18446744073709551616:Int) < i)(h2:i < 18446744073709551616):CMulB i j:=.inl (.inl ⟨h1,h2⟩)
theorem at3 {x y z:V}{i:Int}(h0:0≤i)(h1:i < 3):∃ v,atI [x,y,z] i=some v∧(v=x∨v=y∨v=z):=by
 have:i=0∨i=1∨i=2:=by omega
 rcases this with rfl | rfl | rfl
 · exact⟨x,rfl,.inl rfl⟩
 · exact⟨y,rfl,.inr (.inl rfl)⟩
 · exact⟨z,rfl,.inr (.inr rfl)⟩
theorem at4 {x y z u:V}{i:Int}(h0:0≤i)(h1:i < 4):∃ v,atI [x,y,z,u] i=some v∧(v=x∨v=y∨v=z∨v=u):=by
 have:i=0∨i=1∨i=2∨i=3:=by omega
 rcases this with rfl | rfl | rfl | rfl
 · exact⟨x,rfl,.inl rfl⟩
 · exact⟨y,rfl,.inr (.inl rfl)⟩
 · exact⟨z,rfl,.inr (.inr (.inl rfl))⟩
 · exact⟨u,rfl,.inr (.inr (.inr rfl))⟩
theorem fm (i:Int){j:Int}(h:0 < j):0≤i.fmod j∧i.fmod j < j:=⟨Int.fmod_nonneg_of_pos i h,Int.fmod_lt_of_pos i h⟩
theorem cpw {n:Nat}(h:n≤1000000):qL1 10 (n:Int):=⟨by omega,by omega,by decide⟩
inductive NoW (H:Hp):V→Prop where
 | non:NoW H .non
 | bl (b:Bool):NoW H (.bl b)
 | str (z:Str):NoW H (.str z)
 | lst {a:Addr} {xs:List V} (e:H a=some (.lst xs)):NoW H (.ref a)
 | tup {a:Addr} {xs:List V} (e:H a=some (.tup xs)):NoW H (.ref a)
def WhB (H:Hp)(x:V)(b:Bool):Prop:=(∃ i:Int,x= .int i∧b=true)∨(NoW H x∧b=false)
theorem WhB.int {H:Hp}(i:Int):WhB H (.int i) true:=.inl ⟨i,rfl,rfl⟩
theorem WhB.no {H:Hp}{x:V}(h:NoW H x):WhB H x false:=.inr ⟨h,rfl⟩
theorem WhB.ty {H:Hp}{x:V}{b:Bool}(h:WhB H x b):∃ t i c,vq K H x t∧W.kitOne K t (.type "int")=some i∧W.kitOne K t (.type "bool")=some c∧b=(i && !c):=by
 rcases h with ⟨i,rfl,rfl⟩ | ⟨h,rfl⟩
 · exact⟨_,true,false,.int i,by kernel_rfl,by kernel_rfl,rfl⟩
 · cases h with
   | non=>exact⟨_,false,false,.non,by kernel_rfl,by kernel_rfl,rfl⟩
   | bl b=>exact⟨_,true,true,.bl b,by kernel_rfl,by kernel_rfl,rfl⟩
   | str z=>exact⟨_,false,false,.str z,by kernel_rfl,by kernel_rfl,rfl⟩
   | lst e=>exact⟨_,false,false,.lst e,by kernel_rfl,by kernel_rfl,rfl⟩
   | tup e=>exact⟨_,false,false,.tup e,by kernel_rfl,by kernel_rfl,rfl⟩
inductive wc (vs:List V)(H:Hp)(Q:VK)(_:XK):Prop
| mk (x:V) (b:Bool) (_:vs=[x]) (_:WhB H x b) (_:Q (.bl b) H)
theorem zu (T:Tx K mg a):FnOk P w K mg base CX0 1 a.A0 a.B0 ["x"] wc:=by
 refine T.D0.F.ok qCi (fun vs H Q E h=>?_) (fun cdv A outer s H vs Q E hr h=>?_)
 · obtain⟨x,b,rfl,_⟩:=h
   rfl
 refine qO fun _ Y=>?_
 obtain⟨x,b,rfl,hx,q⟩:=h
 apply Y
 refine⟨_,(qG (qK (qDc (qN jV rfl T.b_isinstance rfl (qA (pv 0) (qA (qD0 rfl T.b_int rfl) qB))) (qCm (qJf (qN jV rfl T.b_isinstance rfl (qA (pv 0) (qA (qD0 rfl T.b_bool rfl) qB)))))))),?_⟩
 try dsimp only [xU,qz]
 refine qO fun _ Y=>?_
 obtain⟨t,i,c,ty,e1,e2,rfl⟩:=hx.ty (K:=K)
 apply Y
 refine⟨_,rfl,_,_,_,i,rfl,ty,⟨_,.inl ⟨rfl,e1⟩⟩,i,rfl,?_⟩
 cases i with
 | false=>exact ql q
 | true=>exact qt ⟨_,rfl,_,_,_,c,rfl,ty,⟨_,.inl ⟨rfl,e2⟩⟩,c,rfl,q⟩
inductive FrB (K:W.Frag)(H:Hp):V→Bool→Prop where
 | no {x:V} {t:Value} (ty:vq K H x t) (e:W.kitOne K t (.type "tuple")=some false):FrB K H x false
 | len {z:Addr} {xs:List V} (e:H z=some (.tup xs)) (h:xs.length≠2):FrB K H (.ref z) false
 | one {z:Addr} {x y:V} (e:H z=some (.tup [x,y])) (h:NoW H x):FrB K H (.ref z) false
 | two {z:Addr} {i:Int} {y:V} (e:H z=some (.tup [.int i,y])) (h:NoW H y):FrB K H (.ref z) false
 | nums {z:Addr} {p q:Int} (e:H z=some (.tup [.int p,.int q])):FrB K H (.ref z) (decide (1≤q) && decide (Int.gcd p q=1))
inductive wA (K:W.Frag)(vs:List V)(H:Hp)(Q:VK)(_:XK):Prop
| mk (x:V) (b:Bool) (_:vs=[x]) (_:FrB K H x b) (_:Q (.bl b) H)
theorem wG (T:Tx K mg a):FnOk P w K mg base CX0 2 a.A2 a.B2 ["x"] (wA K):=by
 refine T.D2.F.ok wB (fun vs H Q E h=>?_) (fun cdv A outer s H vs Q E hr h=>?_)
 · obtain⟨x,b,rfl,_⟩:=h
   rfl
 refine qO fun _ Y=>?_
 obtain⟨x,b,rfl,hx,k⟩:=h
 apply Y
 refine⟨_,(qD (qd (PW.pt (xM (zR (jf (qN jV rfl T.b_isinstance rfl (qA (pv 0) (qA (qD0 rfl T.b_tuple rfl) qB))))) (je (qH kD (qN qX rfl T.b_len rfl (qA (pv 0) qB)) qF (qM _))))) (qG (qK zQ)) qL)
  (qD (qd (PW.pt (xM (zR (jf (qW T.D0 (zu T) hr rfl (qA (jT (pv 0)) qB)))) (je (zR (jf (qW T.D0 (zu T) hr rfl (qA (jT (pv 0)) qB))))))) (qG (qK zQ)) qL)
  (qG (qK (qDc (xR qJr (jT (pv 0)) qF (qM _)) (qCm (xR jC (qW T.D1 (kX T) hr rfl (qA (jT (pv 0)) (qA (jT (pv 0)) qB))) qF (qM _)))))))),?_⟩
 try dsimp only [xU,qz]
 cases hx with
 | no ty e=>exact⟨_,rfl,_,_,_,false,rfl,ty,⟨_,.inl ⟨rfl,e⟩⟩,false,rfl,qt (qt k)⟩
 | @len z xs e h=>
  refine⟨_,rfl,_,_,_,true,rfl,.tup e,⟨_,.inl ⟨rfl,by kernel_rfl⟩⟩,true,rfl,ql ?_⟩
  refine⟨_,rfl,_,_,rfl,.inr (SqT.of e),rfl,_,rfl,?_⟩
  have d:(!decide (V.int (xs.length:Int)=V.int 2))=true:=by
   have:¬ (V.int (xs.length:Int)=V.int 2):=fun z=>h (by injection z with z;omega)
   simp [this]
  rw [d]
  exact qt k
 | @one z x y e h=>
  refine⟨_,rfl,_,_,_,true,rfl,.tup e,⟨_,.inl ⟨rfl,by kernel_rfl⟩⟩,true,rfl,ql ?_⟩
  refine⟨_,rfl,_,_,rfl,.inr (SqT.of e),rfl,_,rfl,ql ?_⟩
  exact(ixO e at0 ⟨x,false,rfl,.no h,false,rfl,qt (qt k)⟩)
 | @two z i y e h=>
  refine⟨_,rfl,_,_,_,true,rfl,.tup e,⟨_,.inl ⟨rfl,by kernel_rfl⟩⟩,true,rfl,ql ?_⟩
  refine⟨_,rfl,_,_,rfl,.inr (SqT.of e),rfl,_,rfl,ql ?_⟩
  refine(ixO e at0 ⟨_,true,rfl,.int i,true,rfl,ql ?_⟩)
  exact(ixO e at1 ⟨y,false,rfl,.no h,false,rfl,qt k⟩)
 | @nums z p q e=>
  refine⟨_,rfl,_,_,_,true,rfl,.tup e,⟨_,.inl ⟨rfl,by kernel_rfl⟩⟩,true,rfl,ql ?_⟩
  refine⟨_,rfl,_,_,rfl,.inr (SqT.of e),rfl,_,rfl,ql ?_⟩
  refine(ixO e at0 ⟨_,true,rfl,.int p,true,rfl,ql ?_⟩)
  refine(ixO e at1 ⟨_,true,rfl,.int q,true,rfl,ql ?_⟩)
  refine(ixO e at1 ⟨_,_,rfl,rfl,decide (1≤q),rfl,?_⟩)
  by_cases hq:1≤q
  · rw [decide_eq_true hq] at k ⊢
    refine qt (ixO e at0 (ixO e at1 ⟨p,q,rfl,rfl,?_⟩))
    have d:decide (V.int ((Int.gcd p q:Nat):Int)=V.int 1)=(true && decide (Int.gcd p q=1)):=by
     rw [Bool.true_and,Bool.eq_iff_iff,decide_eq_true_eq,decide_eq_true_eq]
     constructor
     · intro z;injection z with z;omega
     · intro z;rw [z];rfl
    rw [d]
    exact k
  · rw [decide_eq_false hq] at k ⊢
    exact ql k
theorem zE {i j:Int}{n m:Nat}(h1:i.natAbs < 2 ^ n)(h2:j.natAbs < 2 ^ m):(i*j).natAbs < 2 ^ (n+m):=by
 rw [Int.natAbs_mul,Nat.pow_add]
 exact Nat.mul_lt_mul'' h1 h2
structure Bn (n:Nat)(p q r s:Int):Prop where
 q0:0 < q
 s0:0 < s
 bp:p.natAbs < 2 ^ n
 bq:q.natAbs < 2 ^ n
 br:r.natAbs < 2 ^ n
 bs:s.natAbs < 2 ^ n
theorem qIc {i:Int}{n m:Nat}(h:i.natAbs < 2 ^ n)(l:n≤m:=by decide):i.natAbs < 2 ^ m:=Nat.lt_of_lt_of_le h (Nat.pow_le_pow_right (by decide) l)
theorem Bn.part {p q r s k:Int}(h:Bn 110 p q r s)(hk:k.natAbs < 2 ^ 30):Bn 340 (plP p q r s k) (plQ p q r s k) r s:=by
 obtain⟨hq,hs,bp,bq,br,bs⟩:=h
 refine⟨qI5 hq hs,hs,Nat.lt_of_le_of_lt (qHm hq hs) ?_,Nat.lt_of_le_of_lt (qH7 hq hs) (qIc (zE bq bs)),qIc br,qIc bs⟩
 have h1:=zE bp bs
 have h2:=zE (zE hk br) bq
 have e:(2:Nat) ^ (110+110)+2 ^ (30+110+110)≤2 ^ 340:=by decide
 omega
def qIx (c:Nat):Bool:=!(Builtin.Str.occurrences "abcdefghijklmnopqrstuvwxyz" ⟨#[c]⟩ 0 ("abcdefghijklmnopqrstuvwxyz":Str).length 1).isEmpty
def q9 (z:Str):Bool:=decide (1≤z.length∧z.length≤8) && z.cps.toList.all qIx
inductive vk (K:W.Frag)(vs:List V)(H:Hp)(Q:VK)(_:XK):Prop
| mk (z:Addr) (ns:List Int) (i:Int) (_:vs=[.ref z,.int i]) (_:SqL K H z (ns.map V.int)) (_:ns.length≤63) (_:0≤i) (_:∀ c:Int,Q (.int c) H)
theorem vO (T:Tx K mg a):FnOk P w K mg base CX0 1 a.A25 a.B25 ["_law_script","_law_k"] (vk K):=by
 refine T.D25.F.ok vo (fun vs H Q E h=>?_) (fun cdv A outer s H vs Q E hr h=>?_)
 · obtain⟨z,ns,i,rfl,_⟩:=h
   rfl
 refine qO fun _ Y=>?_
 obtain⟨z,ns,i,rfl,hS,hl,h0,k⟩:=h
 apply Y
 refine⟨_,(qD (qd (qH qB1 (pv 1) (qN qX rfl T.b_len rfl (qA (pv 0) qB)) (qM _)) (qG (qK (qj qR (pv 0) (pv 1) (fun _ _=>rfl)))) qL)
  (qG (qK qF))),?_⟩
 try dsimp only [xU,qz]
 have hml:(ns.map V.int).length=ns.length:=List.length_map _
 refine⟨_,rfl,_,rfl,z,_,rfl,.inl hS,_,_,rfl,rfl,_,rfl,?_⟩
 refine qAy (fun c=>?_) (fun _=>?_)
 · have c':i < ((ns.map V.int).length:Int):=of_decide_eq_true c
   rw [hml] at c'
   have hi:i.toNat < ns.length:=by omega
   have e:i=((i.toNat:Nat):Int):=by omega
   have hat:atI (ns.map V.int) ((i.toNat:Nat):Int)=some (.int ns[i.toNat]):=j3 (by rw [List.getElem?_map,List.getElem?_eq_getElem hi];rfl)
   rw [← e] at hat
   exact⟨_,rfl,_,rfl,z,_,_,.int ns[i.toNat],rfl,rfl,hS,hat,k _⟩
 · exact k 0
inductive qAb (vs:List V)(H:Hp)(Q:VK)(_:XK):Prop
| mk (n m:Int) (_:vs=[.int n,.int m]) (_:0≤m) (_:m≤100) (_:∀ (z:Addr) (xs:List Int),H z=none→xs.length=m.toNat→(∀ x∈xs,0≤x∧x < 2147483629)→Q (.ref z) (upd H z (.lst (xs.map V.int))))
theorem zw (T:Tx K mg a):FnOk P w K mg base CX0 1 a.A26 a.B26 ["_law_number_here","_law_many"] qAb:=by
 refine T.D26.F.ok jO (fun vs H Q E h=>?_) (fun cdv A outer s H vs Q E hr h=>?_)
 · obtain⟨n,m,rfl,_⟩:=h
   rfl
 refine qO fun _ Y=>?_
 obtain⟨n,m,rfl,h0,h1,k⟩:=h
 apply Y
 refine⟨_,(qD (qg 2 jO.nd (jH qB))
  (qD (qg 3 jO.nd (qP qc (pv 0) qF))
  (qD (vn PassesOwn.never rfl (vi rfl T.b_range (qA (pv 1) qB)) (jo (i:=4) jO.nd rfl (Or.inl rfl)) (qD (qg 3 jO.nd (qP qc (qP jJ (qP jJ (qP jJ (qP kW (pv 3) (pv 3)) (qP kW qF (pv 3))) (qP kW qF (pv 4))) qF) qF))
  (qG (xD (jt F.plainAttrs_list F.slot_list_append F.type_list_append xx (pv 2) (qA (qP qv (pv 3) qF) qB))))))
  (qG (qK (pv 2)))))),?_⟩
 try dsimp only [xU,qz]
 refine⟨sL0,fun z hz=>?_⟩
 refine⟨_,rfl,_,_,rfl,rfl,nz,?_⟩
 refine⟨_,rfl,m,rfl,by omega,by omega,kF (n:=m.toNat) (fun i σ H'=>∃ (xs:List Int) (x:Int) (o:Option V),σ=[some (.int n),some (.int m),some (.ref z),some (.int x),o]∧H'=upd H z (.lst (xs.map V.int))∧xs.length=i∧(∀ x∈xs,0≤x∧x < 2147483629)∧0≤x∧x < 2147483629)
  ⟨[],_,none,rfl,rfl,rfl,(by simp),Int.fmod_nonneg_of_pos n (by decide),Int.fmod_lt_of_pos n (by decide)⟩ ?_ ?_⟩
 · rintro i σ H' hi ⟨xs,x,o,rfl,rfl,hl,hx,x0,x1⟩
   have q0:=Int.fmod_nonneg_of_pos (x*x+40692*x+2*(0+(i:Int))+1) (show (0:Int) < 2147483629 by decide)
   have q1:=Int.fmod_lt_of_pos (x*x+40692*x+2*(0+(i:Int))+1) (show (0:Int) < 2147483629 by decide)
   refine⟨_,rfl,_,rfl,_,_,rfl,rfl,cmL (by omega) (by omega),_,rfl,_,_,rfl,rfl,cmL (by decide) (by decide),_,_,rfl,rfl,?_⟩
   refine⟨_,rfl,_,_,rfl,rfl,cmL (by decide) (by decide),_,_,rfl,rfl,_,_,rfl,rfl,_,_,rfl,rfl,nz,?_⟩
   refine⟨_,rfl,.inl ⟨rfl,_,SqL.of qC⟩,_,rfl,_,_,rfl,rfl,cdB (by decide) (by decide),z,_,_,rfl,rfl,qC,(by rw [List.length_map];exact qEf (by omega)),?_⟩
   refine⟨xs++[(x*x+40692*x+2*(0+(i:Int))+1).fmod 2147483629 |>.fdiv 3],_,_,rfl,?_,?_,?_,q0,q1⟩
   · rw [qIp,List.map_append]
     rfl
   · rw [List.length_append,hl]
     rfl
   · intro y hy
     rcases List.mem_append.mp hy with hy | hy
     · exact hx y hy
     · have e:y=((x*x+40692*x+2*(0+(i:Int))+1).fmod 2147483629).fdiv 3:=by simpa using hy
       rw [e,Int.fdiv_eq_ediv_of_nonneg _ (by decide)]
       omega
 · rintro σ H' ⟨xs,x,o,rfl,rfl,hl,hx,x0,x1⟩
   exact⟨_,rfl,k z xs hz hl hx⟩
theorem atN {xs:List V}{i:Int}{n:Nat}(h:xs.length=n)(h0:0≤i)(h1:i < (n:Int)):∃ v,atI xs i=some v∧v∈xs:=by
 have hi:i.toNat < xs.length:=by omega
 have e:i=((i.toNat:Nat):Int):=by omega
 have hat:=j3 (List.getElem?_eq_getElem hi)
 rw [← e] at hat
 exact⟨_,hat,List.getElem_mem hi⟩
theorem kd {b:Bool}{A B:Prop}(h:b=false)(q:B):if b=true then A else B:=by subst h;exact q
theorem qH8 {b:Bool}{A B:Prop}(h:b=true)(q:A):if b=true then A else B:=by subst h;exact q
inductive Im where
 | clip (n:Str) (p q r s l:Int)
 | nest (n:Str) (b l:Int)
 | gap (l:Int)
 | mix (l:Int)
def Im.d:Im→D
 | .clip n p q r s l=>.tup [.leaf (.str "clip"),.leaf (.str n),.tup [.leaf (.int p),.leaf (.int q)],.tup [.leaf (.int r),.leaf (.int s)],.leaf (.int l)]
 | .nest n b l=>.tup [.leaf (.str "nest"),.leaf (.str n),.leaf (.int b),.leaf (.int l)]
 | .gap l=>.tup [.leaf (.str "gap"),.leaf (.int l)]
 | .mix l=>.tup [.leaf (.str "mix"),.leaf (.int l)]
def Im.wd:Im→Str
 | .clip .. =>"clip"
 | .nest .. =>"nest"
 | .gap _=>"gap"
 | .mix _=>"mix"
def Im.l:Im→Int
 | .clip _ _ _ _ _ l=>l
 | .nest _ _ l=>l
 | .gap l=>l
 | .mix l=>l
def TS (H H':Hp):Prop:=∀ b xs,H b=some (.tup xs)→H' b=some (.tup xs)
theorem TS.trans {H H1 H2:Hp}(a:TS H H1)(b:TS H1 H2):TS H H2:=fun c o h=>b c o (a c o h)
theorem qh {H H':Hp}(e:Same H H'):TS H H':=fun _ _ h=>e _ _ h
theorem kf {H:Hp}{l:Addr}{xs:List V}{o:HO}(h:H l=some (.lst xs)):TS H (upd H l o):=fun b ys hb=>by
 rw [qY (qLx hb h (by intro z;cases z))];exact hb
theorem xI {H H':Hp}{y:Addr}{o:HO}(e:Same H H')(h:H y=none):Same H (upd H' y o):=fun b u hb=>by
 rw [qY (qU hb h)];exact e b u hb
def IsI (H:Hp):Im→V→Prop
 | .clip n p q r s l,v=>∃ z x y:Addr,v= .ref z∧H z=some (.tup [.str "clip",.str n,.ref x,.ref y,.int l])∧H x=some (.tup [.int p,.int q])∧H y=some (.tup [.int r,.int s])
 | .nest n b l,v=>∃ z:Addr,v= .ref z∧H z=some (.tup [.str "nest",.str n,.int b,.int l])
 | .gap l,v=>∃ z:Addr,v= .ref z∧H z=some (.tup [.str "gap",.int l])
 | .mix l,v=>∃ z:Addr,v= .ref z∧H z=some (.tup [.str "mix",.int l])
theorem isG {H:Hp}{z:Addr}{l:Int}(h:H z=some (.tup [.str "gap",.int l])):IsI H (.gap l) (.ref z):=⟨z,rfl,h⟩
theorem isM {H:Hp}{z:Addr}{l:Int}(h:H z=some (.tup [.str "mix",.int l])):IsI H (.mix l) (.ref z):=⟨z,rfl,h⟩
theorem isN {H:Hp}{z:Addr}{n:Str}{b l:Int}(h:H z=some (.tup [.str "nest",.str n,.int b,.int l])):IsI H (.nest n b l) (.ref z):=⟨z,rfl,h⟩
theorem isC {H:Hp}{z x y:Addr}{n:Str}{p q r s l:Int}(h:H z=some (.tup [.str "clip",.str n,.ref x,.ref y,.int l]))(hx:H x=some (.tup [.int p,.int q]))(hy:H y=some (.tup [.int r,.int s])):IsI H (.clip n p q r s l) (.ref z):=⟨z,x,y,rfl,h,hx,hy⟩
theorem IsI.ts {H H':Hp}(e:TS H H'):∀ {m:Im} {v:V},IsI H m v→IsI H' m v
 | .clip ..,_,⟨z,x,y,h,hz,hx,hy⟩=>⟨z,x,y,h,e _ _ hz,e _ _ hx,e _ _ hy⟩
 | .nest ..,_,⟨z,h,hz⟩=>⟨z,h,e _ _ hz⟩
 | .gap _,_,⟨z,h,hz⟩=>⟨z,h,e _ _ hz⟩
 | .mix _,_,⟨z,h,hz⟩=>⟨z,h,e _ _ hz⟩
theorem IsI.opn {H:Hp}{m:Im}{v:V}(h:IsI H m v):∃ (z:Addr) (xs:List V),v= .ref z∧H z=some (.tup xs)∧atI xs 0=some (.str m.wd)∧atI xs (-1)=some (.int m.l):=by
 cases m with
 | clip n p q r s l=>obtain⟨z,x,y,h,hz,_⟩:=h;exact⟨z,_,h,hz,rfl,rfl⟩
 | nest n b l=>obtain⟨z,h,hz⟩:=h;exact⟨z,_,h,hz,rfl,rfl⟩
 | gap l=>obtain⟨z,h,hz⟩:=h;exact⟨z,_,h,hz,rfl,rfl⟩
 | mix l=>obtain⟨z,h,hz⟩:=h;exact⟨z,_,h,hz,rfl,rfl⟩
theorem qCv {H:Hp}:∀ {xs:List V},xs.all kE=true→Reps K H (xs.map D.leaf) xs
 | [],_=>by simp [Reps]
 | x::xs,h=>by
  rw [List.all_cons,Bool.and_eq_true] at h
  rw [List.map_cons];unfold Reps Rep
  exact⟨⟨rfl,h.1⟩,qCv h.2⟩
theorem kG {H:Hp}{z:Addr}{xs:List V}(hz:H z=some (.tup xs))(h:xs.all kE=true):Rep K H (.tup (xs.map D.leaf)) (.ref z):=by
 unfold Rep
 exact⟨z,xs,rfl,SqT.of hz,qCv h⟩
theorem IsI.rep {H:Hp}:∀ {m:Im} {v:V},IsI H m v→Rep K H m.d v
 | .clip n p q r s l,_,⟨z,x,y,h,hz,hx,hy⟩=>by
  subst h
  have h1:Rep K H (.tup [.leaf (.int p),.leaf (.int q)]) (.ref x):=kG hx rfl
  have h2:Rep K H (.tup [.leaf (.int r),.leaf (.int s)]) (.ref y):=kG hy rfl
  unfold Im.d Rep
  refine⟨z,_,rfl,SqT.of hz,?_⟩
  unfold Reps Reps Reps Reps Reps Reps
  refine⟨?_,?_,h1,h2,?_,trivial⟩
  · unfold Rep;exact⟨rfl,rfl⟩
  · unfold Rep;exact⟨rfl,rfl⟩
  · unfold Rep;exact⟨rfl,rfl⟩
 | .nest n b l,_,⟨z,h,hz⟩=>by subst h;exact kG hz rfl
 | .gap l,_,⟨z,h,hz⟩=>by subst h;exact kG hz rfl
 | .mix l,_,⟨z,h,hz⟩=>by subst h;exact kG hz rfl
theorem qCt (m:Im):eqD m.d m.d=true:=by
 cases m <;> simp [Im.d,eqD,kq,eqV]
theorem qKj (m:Im):dep m.d≤2:=by
 cases m <;> simp [Im.d,dep,qB2]
def IsIs (H:Hp):List Im→List V→Prop
 | [],[]=>True
 | m::ms,v::vs=>IsI H m v∧IsIs H ms vs
 | _,_=>False
theorem IsIs.len {H:Hp}:∀ {ms:List Im} {vs:List V},IsIs H ms vs→vs.length=ms.length
 | [],[],_=>rfl
 | _::_,_::_,h=>by rw [List.length_cons,List.length_cons,IsIs.len h.2]
 | [],_::_,h=>h.elim
 | _::_,[],h=>h.elim
theorem IsIs.ts {H H':Hp}(e:TS H H'):∀ {ms:List Im} {vs:List V},IsIs H ms vs→IsIs H' ms vs
 | [],[],_=>trivial
 | _::_,_::_,h=>⟨IsI.ts e h.1,IsIs.ts e h.2⟩
 | [],_::_,h=>h.elim
 | _::_,[],h=>h.elim
theorem IsIs.get {H:Hp}:∀ {ms:List Im} {vs:List V} {i:Nat} {v:V},IsIs H ms vs→vs[i]? =some v→∃ m,ms[i]? =some m∧IsI H m v
 | [],[],_,_,_,h=>by simp at h
 | m::_,x::_,0,v,h,e=>by
  have e':x=v:=by simpa using e
  subst e'
  exact⟨m,rfl,h.1⟩
 | _::ms,_::vs,i+1,v,h,e=>by
  obtain⟨m,h1,h2⟩:=IsIs.get (i:=i) h.2 (by simpa using e)
  exact⟨m,by simpa using h1,h2⟩
 | [],_::_,_,_,h,_=>h.elim
 | _::_,[],_,_,h,_=>h.elim
theorem IsIs.get' {H:Hp}{ms:List Im}{vs:List V}{i:Nat}{m:Im}(h:IsIs H ms vs)(e:ms[i]? =some m):∃ v,vs[i]? =some v∧IsI H m v:=by
 have hi:i < vs.length:=by rw [h.len];exact(glt e)
 have ev:vs[i]? =some vs[i]:=List.getElem?_eq_getElem hi
 obtain⟨m',h1,h2⟩:=h.get ev
 rw [e] at h1
 cases h1
 exact⟨_,ev,h2⟩
theorem IsIs.app {H:Hp}:∀ {ms:List Im} {vs:List V} {ms':List Im} {vs':List V},IsIs H ms vs→IsIs H ms' vs'→IsIs H (ms++ms') (vs++vs')
 | [],[],_,_,_,h'=>h'
 | _::_,_::_,_,_,h,h'=>⟨h.1,h.2.app h'⟩
 | [],_::_,_,_,h,_=>h.elim
 | _::_,[],_,_,h,_=>h.elim
theorem IsIs.one {H:Hp}{m:Im}{v:V}(h:IsI H m v):IsIs H [m] [v]:=⟨h,trivial⟩
theorem IsIs.rep {H:Hp}:∀ {ms:List Im} {vs:List V},IsIs H ms vs→Reps K H (ms.map Im.d) vs
 | [],[],_=>by unfold List.map Reps;trivial
 | _::_,_::_,h=>by unfold List.map Reps;exact⟨h.1.rep,h.2.rep⟩
 | [],_::_,h=>h.elim
 | _::_,[],h=>h.elim
theorem vL:∀ ms:List Im,kq (ms.map Im.d) (ms.map Im.d)=true
 | []=>by simp [kq]
 | m::ms=>by unfold List.map kq;rw [qCt,vL ms];rfl
theorem wM:∀ ms:List Im,qB2 (ms.map Im.d)≤2
 | []=>by simp [qB2]
 | m::ms=>by
  have h1:=qKj m
  have h2:=wM ms
  unfold List.map qB2
  omega
def Tr (H:Hp)(z:Addr)(ms:List Im):Prop:=∃ vs,H z=some (.lst vs)∧IsIs H ms vs
theorem Tr.same {H H':Hp}{z:Addr}{ms:List Im}(e:Same H H')(h:Tr H z ms):Tr H' z ms:=let ⟨vs,h1,h2⟩:=h;⟨vs,e _ _ h1,h2.ts (qh e)⟩
theorem Tr.rep {H:Hp}{z:Addr}{ms:List Im}(h:Tr H z ms):Rep K H (.lst (ms.map Im.d)) (.ref z):=by
 obtain⟨vs,h1,h2⟩:=h
 unfold Rep
 exact⟨z,vs,rfl,SqL.of h1,h2.rep⟩
theorem eqTr {H:Hp}{x y:Addr}{ms:List Im}{Q:VK}(h1:Tr H x ms)(h2:Tr H y ms)(q:Q (.bl true) H):qH3 K false (.ref x) (.ref y) H Q:=by
 refine⟨_,_,h1.rep,h2.rep,rfl,by have:=wM ms;unfold dep;omega,?_⟩
 have e:eqD (.lst (ms.map Im.d)) (.lst (ms.map Im.d))=true:=by unfold eqD;exact vL ms
 rw [e]
 exact q
theorem qKo {H:Hp}{x y:Addr}{ms:List Im}{Q:VK}(h1:Tr H x ms)(h2:Tr H y ms)(q:Q (.bl false) H):qH3 K true (.ref x) (.ref y) H Q:=by
 refine⟨_,_,h1.rep,h2.rep,rfl,by have:=wM ms;unfold dep;omega,?_⟩
 have e:eqD (.lst (ms.map Im.d)) (.lst (ms.map Im.d))=true:=by unfold eqD;exact vL ms
 rw [e]
 exact q
theorem qJo {H:Hp}{x y:Addr}{ms:List Im}{Q:VK}(h1:Tr H x ms)(h2:H y=some (.lst []))(q:Q (.bl ms.isEmpty) H):qH3 K false (.ref x) (.ref y) H Q:=by
 refine⟨_,.lst [],h1.rep,?_,rfl,by have:=wM ms;unfold dep;omega,?_⟩
 · unfold Rep;exact⟨y,[],rfl,SqL.of h2,by unfold Reps;trivial⟩
 · have e:eqD (.lst (ms.map Im.d)) (.lst [])=ms.isEmpty:=by cases ms <;> simp [eqD,kq]
   rw [e]
   exact q
theorem qJm {H:Hp}{x y:Addr}{ms:List Im}{Q:VK}(h1:Tr H x ms)(h2:H y=some (.lst []))(q:Q (.bl (!ms.isEmpty)) H):qH3 K true (.ref x) (.ref y) H Q:=by
 refine⟨_,.lst [],h1.rep,?_,rfl,by have:=wM ms;unfold dep;omega,?_⟩
 · unfold Rep;exact⟨y,[],rfl,SqL.of h2,by unfold Reps;trivial⟩
 · have e:eqD (.lst (ms.map Im.d)) (.lst [])=ms.isEmpty:=by cases ms <;> simp [eqD,kq]
   rw [e]
   exact q
theorem IsIs.dl {H:Hp}:∀ {ms:List Im} {vs:List V},IsIs H ms vs→IsIs H ms.dropLast vs.dropLast
 | [],[],_=>trivial
 | [_],[_],_=>trivial
 | _::_::_,_::_::_,h=>⟨h.1,IsIs.dl h.2⟩
 | [],_::_,h=>h.elim
 | _::_,[],h=>h.elim
 | [_],_::_::_,h=>h.2.elim
 | _::_::_,[_],h=>h.2.elim
theorem IsIs.last {H:Hp}{ms:List Im}{vs:List V}(h:IsIs H ms vs)(hne:ms≠[]):∃ v m,vs[vs.length - 1]? =some v∧ms.getLast?=some m∧m∈ms∧IsI H m v:=by
 have hl:0 < ms.length:=List.length_pos_iff.mpr hne
 have hi:vs.length - 1 < vs.length:=by rw [h.len];omega
 have ev:vs[vs.length - 1]? =some vs[vs.length - 1]:=List.getElem?_eq_getElem hi
 obtain⟨m,h1,h2⟩:=h.get ev
 refine⟨_,m,ev,?_,List.mem_of_getElem? h1,h2⟩
 rw [h.len] at h1
 rw [List.getLast?_eq_getElem?]
 exact h1
theorem qE5 {m:Im}(h:m.wd="gap"):∃ l,m= .gap l:=by
 cases m with
 | gap l=>exact⟨l,rfl⟩
 | clip=>exact absurd (show ("clip":Str)="gap" from h) (by decide+kernel)
 | nest=>exact absurd (show ("nest":Str)="gap" from h) (by decide+kernel)
 | mix=>exact absurd (show ("mix":Str)="gap" from h) (by decide+kernel)
open PySem.NumText
theorem qV {n:Nat}(h:n < 1000000):n < sizeLine:=Nat.lt_of_lt_of_le h (by decide)
theorem two:(2:Nat)≤sizeLine:=by decide
theorem qAh {x y:Str}:decide (V.str x=V.str y)=decide (x=y):=by
 rw [Bool.eq_iff_iff];simp
theorem qB6 {p:Int}(h:p.natAbs < 10 ^ 60):p.natAbs.log2 < 1920:=by
 by_cases h0:p.natAbs=0
 · rw [h0];decide
 · have h1:p.natAbs < 2 ^ 200:=Nat.lt_of_lt_of_le h (by decide)
   have:=(Nat.log2_lt h0).mpr h1
   omega
theorem qAs {p:Int}(h:p.natAbs < 10 ^ 60):(Str.ofString (toString p)).length≤61:=(zP (zI h).1).2
inductive vx (vs:List V)(H:Hp)(Q:VK)(_:XK):Prop
| mk (i:Int) (_:vs=[.int i]) (_:i.natAbs < 10 ^ 60) (_:Q (.str (toString i)) H)
theorem jZ (T:Tx K mg a):FnOk P w K mg base CX0 1 a.A8 a.B8 ["number"] vx:=by
 refine T.D8.F.ok wC (fun vs H Q E h=>?_) (fun cdv A outer s H vs Q E hr h=>?_)
 · obtain⟨i,rfl,_⟩:=h
   rfl
 refine qO fun _ Y=>?_
 obtain⟨i,rfl,hi,q⟩:=h
 apply Y
 refine⟨_,(qG (qK (qf jg rfl T.b_str rfl (qA (pv 0) qB)))),?_⟩
 try dsimp only [xU,qz]
 exact⟨_,rfl,i,rfl,qB6 hi,q⟩
def shF (p q:Int):Str:=if q=1 then (toString p:String) else Str.ofString (toString p)++"/"++Str.ofString (toString q)
inductive kz (K:W.Frag)(vs:List V)(H:Hp)(Q:VK)(_:XK):Prop
| mk (x:V) (p q:Int) (_:vs=[x]) (_:Pr K H x p q) (_:p.natAbs < 10 ^ 60) (_:q.natAbs < 10 ^ 60) (_:Q (.str (shF p q)) H)
theorem xb (T:Tx K mg a):FnOk P w K mg base CX0 2 a.A9 a.B9 ["one"] (kz K):=by
 refine T.D9.F.ok vC (fun vs H Q E h=>?_) (fun cdv A outer s H vs Q E hr h=>?_)
 · obtain⟨x,p,q,rfl,_⟩:=h
   rfl
 refine qO fun _ Y=>?_
 obtain⟨x,p,q,rfl,⟨z,rfl,hz⟩,hp,hq,k⟩:=h
 apply Y
 refine⟨_,(qD (qd (qH jC (jT (pv 0)) qF (qM _)) (qG (qK (qW T.D8 (jZ T) hr rfl (qA (jT (pv 0)) qB)))) qL)
  (qG (qK (qP jX (qP jX (qW T.D8 (jZ T) hr rfl (qA (jT (pv 0)) qB)) qJ) (qW T.D8 (jZ T) hr rfl (qA (jT (pv 0)) qB)))))),?_⟩
 try dsimp only [xU,qz]
 refine⟨_,rfl,_,_,_,_,rfl,rfl,hz,at1,rfl,_,rfl,qAy (fun c=>?_) (fun c=>?_)⟩
 · have:q=1:=by simpa using c
   unfold shF at k
   rw [if_pos this] at k
   exact⟨_,rfl,_,_,_,_,rfl,rfl,hz,at0,p,rfl,hp,k⟩
 · have:q≠1:=by simpa using c
   unfold shF at k
   rw [if_neg this] at k
   have l1:=qAs hp
   have l2:=qAs hq
   have ls:("/":Str).length=1:=by decide+kernel
   refine⟨_,rfl,_,_,_,_,rfl,rfl,hz,at0,p,rfl,hp,_,_,rfl,rfl,?_,?_⟩
   · exact Nat.le_of_lt (qV (by rw [ls];omega))
   refine⟨_,rfl,_,_,_,_,rfl,rfl,hz,at1,q,rfl,hq,_,_,rfl,rfl,?_,k⟩
   have e:(Str.ofString (toString p)++("/":Str)).length=(Str.ofString (toString p)).length+1:=by
    show (_++_:Array Nat).size=_
    rw [Array.size_append];rfl
   rw [e]
   exact Nat.le_of_lt (qV (by omega))
inductive wH (K:W.Frag)(N:Addr)(vs:List V)(H:Hp)(Q:VK)(E:XK):Prop
| mk (x:V) (t:Value) (b:Bool) (_:vs=[x]) (_:vq K H x t) (_:W.kitOne K t (.type "str")=some b) (_:(b=true→Q .non H)) (_:(b=false→E (.ref N) none H))
theorem jb (T:Tx K mg a):FnOk P w K mg base (CXR P w) 1 a.A14 a.B14 ["thing"] (wH K a.k_NoText):=by
 refine okX T.D14.F wx (fun vs H Q E h=>?_) (fun cdv A outer s H vs Q E hr h=>?_)
 · obtain⟨x,t,b,rfl,_⟩:=h
   rfl
 refine qO fun _ Y=>?_
 obtain⟨x,t,b,rfl,ty,e,kg,kb⟩:=h
 apply Y
 refine⟨_,(qG (qd (zR (jf (qN jV rfl T.b_isinstance rfl (qA (pv 0) (qA (qD0 rfl T.b_str rfl) qB))))) (qG (j8 rfl rfl T.c_NoText T.x_NoText (qA qJ qB))) qL)),?_⟩
 try dsimp only [xU,qz]
 refine⟨_,rfl,_,_,_,b,rfl,ty,⟨_,.inl ⟨rfl,e⟩⟩,b,rfl,?_⟩
 cases b with
 | true=>exact ql (kg rfl)
 | false=>exact qt ⟨sL1,kb rfl⟩
def qF1 (l:List Nat):Bool:=decide (1≤l.length∧l.length≤60) && l.all qAp
inductive vy (vs:List V)(H:Hp)(Q:VK)(_:XK):Prop
| mk (z:Str) (_:vs=[.str z]) (_:z.length≤90000) (_:∀ H',Same H H'→Q (.bl (qF1 z.cps.toList)) H')
theorem wF (T:Tx K mg a):FnOk P w K mg base CX0 1 a.A15 a.B15 ["signs"] vy:=by
 refine T.D15.F.ok v9 (fun vs H Q E h=>?_) (fun cdv A outer s H vs Q E hr h=>?_)
 · obtain⟨z,rfl,_⟩:=h
   rfl
 refine qO fun _ Y=>?_
 obtain⟨z,rfl,hz,kk⟩:=h
 apply Y
 refine⟨_,(qD (qd (PW.pt (xM (qH qB1 (qN jF rfl T.b_len rfl (qA (pv 0) qB)) qF (qM _)) (je (qH qEk (qN jF rfl T.b_len rfl (qA (pv 0) qB)) (zf (v:=.int 60) rfl T.g_MOST_FIGURES ⟨_,rfl⟩) (qM _))))) (qG (qK zQ)) qL)
  (qG (qK (qN (kB rfl) rfl T.b_all rfl (qA (jp [] [] rfl (qDb (pv 0)) (fun _ _ _ _=>(xR qEc (pv 0) (zf (v:=.str "0123456789") rfl T.g_FIGURES ⟨_,rfl⟩) rfl))) qB))))),?_⟩
 try dsimp only [xU,qz]
 have hl:z.cps.toList.length=z.length:=Array.length_toList
 have hsz:z.length≤sizeLine:=Nat.le_of_lt (qV (by omega))
 refine⟨_,rfl,z,rfl,hsz,_,_,rfl,rfl,_,rfl,?_⟩
 by_cases h1:(z.length:Int) < 1
 · rw [decide_eq_true h1]
   have e:qF1 z.cps.toList=false:=by unfold qF1;rw [decide_eq_false (by omega)];rfl
   have:=kk H (Same.refl _)
   rw [e] at this
   exact qt (qt this)
 rw [decide_eq_false h1]
 refine ql ⟨_,rfl,z,rfl,hsz,_,_,rfl,rfl,_,rfl,?_⟩
 by_cases h2:(60:Int) < (z.length:Int)
 · rw [decide_eq_true h2]
   have e:qF1 z.cps.toList=false:=by unfold qF1;rw [decide_eq_false (by omega)];rfl
   have:=kk H (Same.refl _)
   rw [e] at this
   exact qt this
 rw [decide_eq_false h2]
 refine ql ?_
 refine⟨_,rfl,z,rfl,vF (fun i acc H'=>H'=H∧acc=((z.cps.toList.take i).map qAp).map V.bl) ⟨rfl,rfl⟩ ?_ ?_ ?_⟩
 · rintro i acc H' hi ⟨_,rfl⟩
   rw [List.length_map,List.length_map,List.length_take]
   exact qV (by omega)
 · rintro i c acc H' hi hc ⟨rfl,rfl⟩
   refine⟨_,rfl,_,_,rfl,rfl,Nxt.mk hi ⟨rfl,?_⟩⟩
   have hc':z.cps.toList[i]? =some c:=by simpa using hc
   rw [List.take_add_one,hc',List.map_append,List.map_append]
   rfl
 · rintro acc H' ⟨rfl,rfl⟩ D hD
   refine⟨D,_,rfl,SqL.of qC,?_⟩
   have e:((z.cps.toList.take z.cps.size).map qAp).all id=qF1 z.cps.toList:=by
    rw [List.take_of_length_le (by simp)]
    unfold qF1
    rw [decide_eq_true (by omega:1≤z.cps.toList.length∧z.cps.toList.length≤60),Bool.true_and,List.all_map]
    rfl
   rw [e]
   exact kk _ (qE hD _)
theorem figB_iff {l:List Nat}:qF1 (jq l)=true↔Fig l:=by
 unfold qF1
 rw [Bool.and_eq_true,decide_eq_true_eq]
 constructor
 · rintro ⟨⟨h1,h2⟩,h3⟩
   exact⟨fun e=>by rw [e] at h1;simp at h1,h2,h3⟩
 · intro h
   have:=List.length_pos_iff.mpr h.ne
   exact⟨⟨by omega,h.len⟩,h.all⟩
theorem qHc (x:Str)(h:x.cps.toList.head?=some 45):(Txt.slice x (some 1) none).cps.toList=jq x.cps.toList:=by
 have hl:x.cps.toList.length=x.length:=Array.length_toList
 have h1:1≤x.length:=by
  cases hx:x.cps.toList with
  | nil=>rw [hx] at h;cases h
  | cons c t=>rw [hx,List.length_cons] at hl;omega
 unfold jq
 rw [if_pos h,← List.drop_one]
 exact qDm (j:=1) h1
inductive vQ (K:W.Frag)(N:Addr)(vs:List V)(H:Hp)(Q:VK)(E:XK):Prop
| mk (x:V) (_:vs=[x]) (_:((∃ z:Str,x= .str z∧z.length≤90000∧(∀ n,zd z.cps.toList=some n→∀ H',Same H H'→Q (.int n) H')∧(zd z.cps.toList=none→∀ H',Same H H'→E (.ref N) none H'))∨(∃ t,vq K H x t∧W.kitOne K t (.type "str")=some false∧E (.ref N) none H)))
theorem jQ (T:Tx K mg a):FnOk P w K mg base (CXR P w) 3 a.A16 a.B16 ["text"] (vQ K a.k_NoText):=by
 refine okX T.D16.F zT (fun vs H Q E h=>?_) (fun cdv A outer s H vs Q E hr h=>?_)
 · obtain⟨x,rfl,_⟩:=h
   rfl
 refine qO fun _ Y=>?_
 obtain⟨x,rfl,h⟩:=h
 apply Y
 refine⟨_,(qD (xD (jN T.D14 (jb T) hr rfl (qA (pv 0) qB)))
  (qD (jP (qg 1 zT.nd (qDe (jf (jt F.plainAttrs_str F.slot_str_startswith F.type_str_startswith qAo (pv 0) (qA qJ qB))) (qr vY (pv 0) (jD qF) jK) (pv 0))))
  (qD (qd (PW.pt (xM (zR (jf (qW T.D15 (wF T) hr rfl (qA (pv 1) qB)))) (je (qH kD (qW T.D8 (jZ T) hr rfl (qA (qf qi rfl T.b_int rfl (qA (pv 0) qB)) qB)) (pv 0) (qM _))))) (qG (j8 rfl rfl T.c_NoText T.x_NoText (qA qJ qB))) qL)
  (qG (qK (qf qi rfl T.b_int rfl (qA (pv 0) qB))))))),?_⟩
 try dsimp only [xU,qz]
 rcases h with ⟨z,rfl,hz,kg,kb⟩ | ⟨t,ty,e,kb⟩
 rotate_left
 · exact⟨_,rfl,x,t,false,rfl,ty,e,(fun z=>by cases z),fun _=>kb⟩
 refine⟨_,rfl,_,_,true,rfl,.str z,by kernel_rfl,(fun _=>?_),(fun z=>by cases z)⟩
 have hl:z.cps.toList.length=z.length:=Array.length_toList
 have hsz:z.length≤sizeLine:=Nat.le_of_lt (qV (by omega))
 have one:(1:Nat)≤sizeLine:=by decide
 refine⟨fun σ H'=>∃ sg:Str,σ=[some (.str z),some (.str sg)]∧H'=H∧sg.cps.toList=jq z.cps.toList∧sg.length≤90000,?_,?_⟩
 · refine⟨_,rfl,rfl,_,_,rfl,rfl,_,rfl,?_⟩
   rw [qB7]
   refine qAy (fun c=>?_) (fun c=>?_)
   · have c':z.cps.toList.head?=some 45:=by simpa using c
     exact⟨_,rfl,_,rfl,z,rfl,hsz,_,rfl,rfl,qHc z c',Nat.le_trans (Txt.slice_le _ _ _) (by omega)⟩
   · have c':¬ z.cps.toList.head?=some 45:=by simpa using c
     exact⟨_,rfl,z,rfl,rfl,by unfold jq;rw [if_neg c'],by omega⟩
 rintro σ H1 ⟨sg,rfl,rfl,hsg,hs9⟩
 refine⟨_,rfl,sg,rfl,hs9,fun H1 s1=>⟨_,rfl,?_⟩⟩
 rw [hsg]
 by_cases hF:Fig z.cps.toList
 · rw [figB_iff.mpr hF]
   obtain⟨hi,hl61⟩:=zP hF
   have hsm:=zG hF
   refine ql ⟨_,rfl,z,_,rfl,by omega,hi,_,rfl,hsm,_,rfl,rfl,_,rfl,?_⟩
   have hsh:=vD hF
   by_cases h0:(jq z.cps.toList).head?=some 48∧z.cps.toList≠[48]
   · have hne:¬ V.str (Str.ofString (toString (qBy z.cps.toList)))=V.str z:=fun e=>by
      injection e with e
      exact absurd h0 (hsh.mp (by rw [e]))
     rw [show (!decide (V.str (Str.ofString (toString (qBy z.cps.toList)))=V.str z))=true by rw [decide_eq_false hne];rfl]
     refine qt ⟨one,kb ?_ _ s1⟩
     cases e:zd z.cps.toList with
     | none=>rfl
     | some n=>exact absurd h0 (jS e).2.2
   · have he:V.str (Str.ofString (toString (qBy z.cps.toList)))=V.str z:=congrArg V.str (zB (hsh.mpr h0))
     rw [show (!decide (V.str (Str.ofString (toString (qBy z.cps.toList)))=V.str z))=false by rw [decide_eq_true he];rfl]
     exact ql ⟨_,rfl,z,_,rfl,by omega,hi,kg _ (qAt hF h0) _ s1⟩
 · rw [show qF1 (jq z.cps.toList)=false by rw [Bool.eq_false_iff];exact fun e=>hF (figB_iff.mp e)]
   refine qt (qt ⟨one,kb ?_ _ s1⟩)
   cases e:zd z.cps.toList with
   | none=>rfl
   | some n=>exact absurd (jS e).1 hF
inductive kT (K:W.Frag)(N:Addr)(vs:List V)(H:Hp)(Q:VK)(E:XK):Prop
| mk (x:V) (_:vs=[x]) (_:((∃ z:Str,x= .str z∧z.length≤90000∧(∀ n m,jd z.cps.toList=some (n,m)→∀ y H',Same H H'→H' y=some (.tup [.int n,.int m])→Q (.ref y) H')∧(jd z.cps.toList=none→∀ H',Same H H'→E (.ref N) none H'))∨(∃ t,vq K H x t∧W.kitOne K t (.type "str")=some false∧E (.ref N) none H)))
theorem kc (T:Tx K mg a):FnOk P w K mg base (CXR P w) 4 a.A17 a.B17 ["text"] (kT K a.k_NoText):=by
 refine okX T.D17.F jl (fun vs H Q E h=>?_) (fun cdv A outer s H vs Q E hr h=>?_)
 · obtain⟨x,rfl,_⟩:=h
   rfl
 refine qO fun _ Y=>?_
 obtain⟨x,rfl,h⟩:=h
 apply Y
 refine⟨_,(qD (xD (jN T.D14 (jb T) hr rfl (qA (pv 0) qB)))
  (qD (qg 1 jl.nd (jt F.plainAttrs_str F.slot_str_partition F.type_str_partition qA5 (pv 0) (qA qJ qB)))
  (qD (qg 2 jl.nd (jE (qA (jN T.D16 (jQ T) hr rfl (qA (jT (pv 1)) qB)) (qA (qDe (qH jC (jT (pv 1)) qJ (qM _)) (jN T.D16 (jQ T) hr rfl (qA (jT (pv 1)) qB)) qF) qB))))
  (qD (qd (PW.pt (xM (zR (jf (qW T.D2 (wG T) hr rfl (qA (pv 2) qB)))) (je (qH kD (qW T.D9 (xb T) hr rfl (qA (pv 2) qB)) (pv 0) (qM _))))) (qG (j8 rfl rfl T.c_NoText T.x_NoText (qA qJ qB))) qL)
  (qG (qK (pv 2))))))),?_⟩
 try dsimp only [xU,qz]
 rcases h with ⟨z,rfl,hz,kg,kb⟩ | ⟨t,ty,e,kb⟩
 rotate_left
 · exact⟨_,rfl,x,t,false,rfl,ty,e,(fun z=>by cases z),fun _=>kb⟩
 refine⟨_,rfl,_,_,true,rfl,.str z,by kernel_rfl,(fun _=>?_),(fun z=>by cases z)⟩
 have hl:z.cps.toList.length=z.length:=Array.length_toList
 have hsz:z.length≤sizeLine:=Nat.le_of_lt (qV (by omega))
 have one:(1:Nat)≤sizeLine:=by decide
 refine⟨_,rfl,rfl,_,_,rfl,rfl,(by decide+kernel),hsz,fun tp htp=>?_⟩
 by_cases h47:47∈z.cps.toList
 · obtain⟨p,r,ep,el,hp⟩:=qFm h47
   rw [ep]
   have w1:=qE htp (.tup [.str p,.str "/",.str r])
   have lp:p.length≤90000∧r.length≤90000:=by
    have e1:p.cps.toList.length=p.length:=Array.length_toList
    have e2:r.cps.toList.length=r.length:=Array.length_toList
    rw [el,List.length_append,List.length_cons] at hl
    omega
   have hfr:=zq (p:=p.cps.toList) (r:=r.cps.toList) hp
   rw [← el] at hfr
   refine(ixO qC rfl ⟨_,rfl,.inl ⟨p,rfl,lp.1,fun n hn H1 s1=>?_,fun hn H1 s1=>?_⟩⟩)
   rotate_left
   · refine kb ?_ H1 (w1.trans s1)
     rw [hfr,hn]
   have t1:=L3.Same.tup s1 (SqT.of (K:=K) (qC (H:=H) (a:=tp) (o:=.tup [.str p,.str "/",.str r])))
   refine⟨_,rfl,_,_,_,_,rfl,rfl,t1,rfl,rfl,_,rfl,qt ?_⟩
   refine⟨_,rfl,_,_,_,_,rfl,rfl,t1,rfl,_,rfl,.inl ⟨r,rfl,lp.2,fun m hm H2 s2=>?_,fun hm H2 s2=>?_⟩⟩
   rotate_left
   · refine kb ?_ H2 ((w1.trans s1).trans s2)
     rw [hfr,hn,hm]
   rw [hn,hm] at hfr
   refine qO fun _ Y=>?_
   obtain⟨F1,e1,z1⟩:=jS hn
   obtain⟨F2,e2,z2⟩:=jS hm
   apply Y
   have b1:=zG F1
   have b2:=zG F2
   rw [← e1] at b1
   rw [← e2] at b2
   have e12:=(w1.trans s1).trans s2
   refine⟨two,fun y hy=>?_⟩
   have w3:=qE hy (.tup [.int n,.int m])
   have hyv:(upd H2 y (.tup [.int n,.int m])) y=some (.tup [.int n,.int m]):=qC
   have e13:=e12.trans w3
   generalize upd H2 y (.tup [.int n,.int m])=H3 at hyv e13 ⊢
   refine⟨_,rfl,_,_,rfl,.nums hyv,_,rfl,?_⟩
   dsimp only at hfr
   by_cases hd:(decide (1≤m) && decide (Int.gcd n m=1))=true
   · rw [hd]
     have hd':1≤m∧Int.gcd n m=1:=by simpa using hd
     refine ql ⟨_,rfl,_,n,m,rfl,⟨y,rfl,SqT.of hyv⟩,b1,b2,_,rfl,rfl,_,rfl,?_⟩
     by_cases hm1:m=1
     ·
      have hne:¬ V.str (shF n m)=V.str z:=fun e=>by
       injection e with e
       unfold shF at e
       rw [if_pos hm1] at e
       have hc:=(zI b1).1.all
       rw [e] at hc
       have:=qAt (zI b1).1 (zI b1).2.2
       rw [e,vj h47] at this
       cases this
      rw [show (!decide (V.str (shF n m)=V.str z))=true by rw [decide_eq_false hne];rfl]
      refine qt ⟨one,kb ?_ H3 e13⟩
      rw [hfr,if_pos (by omega)]
     · have he:shF n m=z:=by
        unfold shF
        rw [if_neg hm1]
        apply zB
        have s1':=(vD F1).mpr z1
        have s2':=(vD F2).mpr z2
        rw [← e1] at s1'
        rw [← e2] at s2'
        rw [qx,qx,s1',s2',el,List.append_assoc]
        rfl
       rw [show (!decide (V.str (shF n m)=V.str z))=false by rw [decide_eq_true (congrArg V.str he)];rfl]
       refine ql ⟨_,rfl,kg n m ?_ y H3 e13 hyv⟩
       rw [hfr,if_neg (by omega)]
   · have hd0:(decide (1≤m) && decide (Int.gcd n m=1))=false:=by rw [Bool.eq_false_iff];exact hd
     rw [hd0]
     refine qt (qt ⟨one,kb ?_ H3 e13⟩)
     rw [hfr,if_pos]
     by_cases h1:1≤m
     · right;intro z;exact hd (by simp [h1,z])
     · left;omega
 · rw [qE1 h47]
   have w1:=qE htp (.tup [.str z,.str Str.empty,.str Str.empty])
   have hfr:=vK h47
   refine(ixO qC rfl ⟨_,rfl,.inl ⟨z,rfl,hz,fun n hn H1 s1=>?_,fun hn H1 s1=>?_⟩⟩)
   rotate_left
   · refine kb ?_ H1 (w1.trans s1)
     rw [hfr,hn];rfl
   have t1:=L3.Same.tup s1 (SqT.of (K:=K) (qC (H:=H) (a:=tp) (o:=.tup [.str z,.str Str.empty,.str Str.empty])))
   refine⟨_,rfl,_,_,_,_,rfl,rfl,t1,rfl,rfl,_,rfl,kd (by decide+kernel) ?_⟩
   rw [hn] at hfr
   refine qO fun _ Y=>?_
   obtain⟨F1,e1,z1⟩:=jS hn
   apply Y
   have b1:=zG F1
   rw [← e1] at b1
   have e12:=w1.trans s1
   refine⟨two,fun y hy=>?_⟩
   have w3:=qE hy (.tup [.int n,.int 1])
   have hyv:(upd H1 y (.tup [.int n,.int 1])) y=some (.tup [.int n,.int 1]):=qC
   have e13:=e12.trans w3
   generalize upd H1 y (.tup [.int n,.int 1])=H3 at hyv e13 ⊢
   refine⟨_,rfl,_,_,rfl,.nums hyv,_,rfl,?_⟩
   have hd:(decide ((1:Int)≤1) && decide (Int.gcd n 1=1))=true:=by simp
   rw [hd]
   refine ql ⟨_,rfl,_,n,1,rfl,⟨y,rfl,SqT.of hyv⟩,b1,by decide,_,rfl,rfl,_,rfl,?_⟩
   have he:shF n 1=z:=by
    unfold shF
    rw [if_pos rfl]
    apply zB
    have s1':=(vD F1).mpr z1
    rw [← e1] at s1'
    exact s1'
   rw [show (!decide (V.str (shF n 1)=V.str z))=false by rw [decide_eq_true (congrArg V.str he)];rfl]
   exact ql ⟨_,rfl,kg n 1 (by rw [hfr];rfl) y H3 e13 hyv⟩
inductive qDu (vs:List V)(H:Hp)(Q:VK)(_:XK):Prop
| mk (z:Str) (_:vs=[.str z]) (_:z.length≤90000) (_:∀ H',Same H H'→Q (.bl (q9 z)) H')
theorem qDn (T:Tx K mg a):FnOk P w K mg base CX0 1 a.A4 a.B4 ["thing"] qDu:=by
 refine T.D4.F.ok qDr (fun vs H Q E h=>?_) (fun cdv A outer s H vs Q E hr h=>?_)
 · obtain⟨z,rfl,_⟩:=h
   rfl
 refine qO fun _ Y=>?_
 obtain⟨z,rfl,hz,kk⟩:=h
 apply Y
 refine⟨_,(qD (qd (zR (jf (qN jV rfl T.b_isinstance rfl (qA (pv 0) (qA (qD0 rfl T.b_str rfl) qB))))) (qG (qK zQ)) qL)
  (qD (qd (PW.pt (xM (qH qB1 (qN jF rfl T.b_len rfl (qA (pv 0) qB)) qF (qM _)) (je (qH qEk (qN jF rfl T.b_len rfl (qA (pv 0) qB)) (zf (v:=.int 8) rfl T.g_LONGEST_NAME ⟨_,rfl⟩) (qM _))))) (qG (qK zQ)) qL)
  (qG (qK (qN (kB rfl) rfl T.b_all rfl (qA (jp [] [] rfl (qDb (pv 0)) (fun _ _ _ _=>(xR qEc (pv 0) (zf (v:=.str "abcdefghijklmnopqrstuvwxyz") rfl T.g_LETTERS ⟨_,rfl⟩) rfl))) qB)))))),?_⟩
 try dsimp only [xU,qz]
 have hsz:z.length≤sizeLine:=Nat.le_of_lt (qV (by omega))
 refine⟨_,rfl,_,_,_,true,rfl,.str z,⟨_,.inl ⟨rfl,by kernel_rfl⟩⟩,true,rfl,ql ?_⟩
 refine⟨_,rfl,z,rfl,hsz,_,_,rfl,rfl,_,rfl,?_⟩
 by_cases h1:(z.length:Int) < 1
 · rw [decide_eq_true h1]
   have e:q9 z=false:=by unfold q9;rw [decide_eq_false (by omega)];rfl
   have:=kk H (Same.refl _)
   rw [e] at this
   exact qt (qt this)
 rw [decide_eq_false h1]
 refine ql ⟨_,rfl,z,rfl,hsz,_,_,rfl,rfl,_,rfl,?_⟩
 by_cases h2:(8:Int) < (z.length:Int)
 · rw [decide_eq_true h2]
   have e:q9 z=false:=by unfold q9;rw [decide_eq_false (by omega)];rfl
   have:=kk H (Same.refl _)
   rw [e] at this
   exact qt this
 rw [decide_eq_false h2]
 refine ql ?_
 refine⟨_,rfl,z,rfl,vF (fun i acc H'=>H'=H∧acc=((z.cps.toList.take i).map qIx).map V.bl) ⟨rfl,rfl⟩ ?_ ?_ ?_⟩
 · rintro i acc H' hi ⟨_,rfl⟩
   rw [List.length_map,List.length_map,List.length_take]
   exact qV (by have:z.cps.size=z.length:=rfl;omega)
 · rintro i c acc H' hi hc ⟨rfl,rfl⟩
   refine⟨_,rfl,_,_,rfl,rfl,Nxt.mk hi ⟨rfl,?_⟩⟩
   have hc':z.cps.toList[i]? =some c:=by simpa using hc
   rw [List.take_succ,hc',List.map_append,List.map_append]
   rfl
 · rintro acc H' ⟨rfl,rfl⟩ D hD
   refine⟨D,_,rfl,SqL.of qC,?_⟩
   have e:((z.cps.toList.take z.cps.size).map qIx).all id=q9 z:=by
    rw [List.take_of_length_le (by simp)]
    unfold q9
    rw [decide_eq_true (by omega:1≤z.length∧z.length≤8),Bool.true_and,List.all_map]
    rfl
   rw [e]
   exact kk _ (qE hD _)
inductive Wd where
 | nm (z:Str)
 | fr (p q:Int)
 | nu (n:Int)
def WdIs (H:Hp):Wd→V→Prop
 | .nm z,v=>v= .str z
 | .fr p q,v=>∃ y,v= .ref y∧H y=some (.tup [.int p,.int q])
 | .nu n,v=>v= .int n
theorem WdIs.same {H H':Hp}(s:Same H H'):∀ {d:Wd} {v:V},WdIs H d v→WdIs H' d v
 | .nm _,_,h=>h
 | .fr _ _,_,⟨y,e,h⟩=>⟨y,e,s _ _ h⟩
 | .nu _,_,h=>h
def jI (least:Int)(l:List Nat):Option Int:=match zd l with
 | some n=>if n < least then none else some n
 | none=>none
def vM (k:Str):Prop:=k="name"∨k="fraction"∨k="count"∨k="length"
def wdO (k z:Str):Option Wd:=
 if k="name" then (if q9 z then some (.nm z) else none)
 else if k="fraction" then (match jd z.cps.toList with | some (p,q)=>some (.fr p q) | none=>none)
 else if k="count" then (match jI 0 z.cps.toList with | some n=>some (.nu n) | none=>none)
 else (match jI 1 z.cps.toList with | some n=>some (.nu n) | none=>none)
inductive wt (N:Addr)(vs:List V)(H:Hp)(Q:VK)(E:XK):Prop
| mk (z:Str) (_:vs=[.str z]) (_:z.length≤80000) (_:∀ H',Same H H'→(q9 z=true→Q (.str z) H')∧(q9 z=false→E (.ref N) none H'))
theorem we (T:Tx K mg a):FnOk P w K mg base (CXR P w) 2 a.A18 a.B18 ["word"] (wt a.k_NoText):=by
 refine okX T.D18.F qBo (fun vs H Q E h=>?_) (fun cdv A outer s H vs Q E hr h=>?_)
 · obtain⟨z,rfl,_⟩:=h
   rfl
 refine qO fun _ Y=>?_
 obtain⟨z,rfl,hz,kk⟩:=h
 apply Y
 refine⟨_,(qD (qd (zR (jf (qW T.D4 (qDn T) hr rfl (qA (pv 0) qB)))) (qG (j8 rfl rfl T.c_NoText T.x_NoText (qA qJ qB))) qL)
  (qG (qK (pv 0)))),?_⟩
 try dsimp only [xU,qz]
 refine⟨_,rfl,z,rfl,by omega,fun H1 s1=>⟨_,rfl,?_⟩⟩
 obtain⟨k1,k2⟩:=kk H1 s1
 cases hn:q9 z with
 | true=>exact ql ⟨_,rfl,k1 hn⟩
 | false=>exact qt ⟨sL1,k2 hn⟩
inductive wf (N:Addr)(vs:List V)(H:Hp)(Q:VK)(E:XK):Prop
| mk (z:Str) (m:Int) (_:vs=[.str z,.int m]) (_:z.length≤80000) (_:∀ H',Same H H'→(∀ n,jI m z.cps.toList=some n→Q (.int n) H')∧(jI m z.cps.toList=none→E (.ref N) none H'))
theorem z9 (T:Tx K mg a):FnOk P w K mg base (CXR P w) 4 a.A19 a.B19 ["word","least"] (wf a.k_NoText):=by
 refine okX T.D19.F kh (fun vs H Q E h=>?_) (fun cdv A outer s H vs Q E hr h=>?_)
 · obtain⟨z,m,rfl,_⟩:=h
   rfl
 refine qO fun _ Y=>?_
 obtain⟨z,m,rfl,hz,kk⟩:=h
 apply Y
 refine⟨_,(qD (qg 2 kh.nd (jN T.D16 (jQ T) hr rfl (qA (pv 0) qB)))
  (qD (qd (qH qB1 (pv 2) (pv 1) (qM _)) (qG (j8 rfl rfl T.c_NoText T.x_NoText (qA qJ qB))) qL)
  (qG (qK (pv 2))))),?_⟩
 try dsimp only [xU,qz]
 refine⟨_,rfl,_,rfl,.inl ⟨z,rfl,by omega,fun n hn H1 s1=>?_,fun hn H1 s1=>?_⟩⟩
 · obtain⟨k1,k2⟩:=kk H1 s1
   unfold jI at k1 k2
   rw [hn] at k1 k2
   refine⟨_,rfl,_,rfl,_,_,rfl,rfl,_,rfl,?_⟩
   by_cases hm:n < m
   · rw [decide_eq_true hm]
     exact qt ⟨sL1,k2 (if_pos hm)⟩
   · rw [decide_eq_false hm]
     exact ql ⟨_,rfl,k1 n (if_neg hm)⟩
 · obtain⟨k1,k2⟩:=kk H1 s1
   exact k2 (by unfold jI;rw [hn])
inductive wg (N:Addr)(vs:List V)(H:Hp)(Q:VK)(E:XK):Prop
| mk (z k:Str) (_:vs=[.str z,.str k]) (_:z.length≤80000) (_:vM k) (_:(∀ d v H',wdO k z=some d→Same H H'→WdIs H' d v→Q v H')) (_:(wdO k z=none→∀ H',Same H H'→E (.ref N) none H'))
theorem qAd (T:Tx K mg a):FnOk P w K mg base (CXR P w) 5 a.A21 a.B21 ["word","kind"] (wg a.k_NoText):=by
 refine okX T.D21.F qAz (fun vs H Q E h=>?_) (fun cdv A outer s H vs Q E hr h=>?_)
 · obtain⟨z,k,rfl,_⟩:=h
   rfl
 refine qO fun _ Y=>?_
 obtain⟨z,k,rfl,hz,hk,kg,kb⟩:=h
 apply Y
 refine⟨_,(qD (qd (qH jC (pv 1) qJ (qM _)) (qG (qK (jN T.D18 (we T) hr rfl (qA (pv 0) qB)))) qL)
  (qD (qd (qH jC (pv 1) qJ (qM _)) (qG (qK (jN T.D17 (kc T) hr rfl (qA (pv 0) qB)))) qL)
  (qD (qd (qH jC (pv 1) qJ (qM _)) qEj qL)
  (qD (qd (qH jC (pv 1) qJ (qM _)) (qG (qK (jN T.D19 (z9 T) hr rfl (qA (pv 0) (qA qF qB))))) qL)
  (qD (qd (qH jC (pv 1) qJ (qM _)) (qG (qK (jN T.D19 (z9 T) hr rfl (qA (pv 0) (qA qF qB))))) qL)
  (qG (qK (jN T.D16 (jQ T) hr rfl (qA (pv 0) qB))))))))),?_⟩
 try dsimp only [xU,qz]
 refine⟨_,rfl,rfl,_,rfl,?_⟩
 have hN:∀ (x y:Str),x≠y→decide (V.str x=V.str y)=false:=fun x y h=>decide_eq_false fun e=>h (by injection e)
 rcases hk with rfl | rfl | rfl | rfl
 · refine qt ⟨_,rfl,z,rfl,hz,fun H1 s1=>⟨fun hn=>?_,fun hn=>?_⟩⟩
   · exact kg (.nm z) _ H1 (by unfold wdO;rw [if_pos rfl,if_pos hn]) s1 rfl
   · exact kb (by unfold wdO;rw [if_pos rfl,if_neg (by rw [hn];decide)]) H1 s1
 · have e:wdO "fraction" z=(match jd z.cps.toList with | some (p,q)=>some (.fr p q) | none=>none):=by
    unfold wdO
    rw [if_neg (by decide+kernel),if_pos rfl]
   refine kd (hN _ _ (by decide+kernel)) ⟨_,rfl,rfl,_,rfl,qt ⟨_,rfl,_,rfl,.inl ⟨z,rfl,by omega,fun n m hn y H1 s1 hy=>?_,fun hn H1 s1=>?_⟩⟩⟩
   · exact kg (.fr n m) _ H1 (by rw [e,hn]) s1 ⟨y,rfl,hy⟩
   · exact kb (by rw [e,hn]) H1 s1
 · have e:wdO "count" z=(match jI 0 z.cps.toList with | some n=>some (.nu n) | none=>none):=by
    unfold wdO
    rw [if_neg (by decide+kernel),if_neg (by decide+kernel),if_pos rfl]
   refine kd (hN _ _ (by decide+kernel)) ⟨_,rfl,rfl,_,rfl,kd (hN _ _ (by decide+kernel)) ⟨_,rfl,rfl,_,rfl,kd (hN _ _ (by decide+kernel)) ⟨_,rfl,rfl,_,rfl,qt ⟨_,rfl,z,0,rfl,hz,fun H1 s1=>⟨fun n hn=>?_,fun hn=>?_⟩⟩⟩⟩⟩
   · exact kg (.nu n) _ H1 (by rw [e,hn]) s1 rfl
   · exact kb (by rw [e,hn]) H1 s1
 · have e:wdO "length" z=(match jI 1 z.cps.toList with | some n=>some (.nu n) | none=>none):=by
    unfold wdO
    rw [if_neg (by decide+kernel),if_neg (by decide+kernel),if_neg (by decide+kernel)]
   refine kd (hN _ _ (by decide+kernel)) ⟨_,rfl,rfl,_,rfl,kd (hN _ _ (by decide+kernel)) ⟨_,rfl,rfl,_,rfl,kd (hN _ _ (by decide+kernel)) ⟨_,rfl,rfl,_,rfl,kd (hN _ _ (by decide+kernel)) ⟨_,rfl,rfl,_,rfl,qt ⟨_,rfl,z,1,rfl,hz,fun H1 s1=>⟨fun n hn=>?_,fun hn=>?_⟩⟩⟩⟩⟩⟩
   · exact kg (.nu n) _ H1 (by rw [e,hn]) s1 rfl
   · exact kb (by rw [e,hn]) H1 s1
def jx:List Str→List Str→Option (List Wd)
 | [],[]=>some []
 | k::ks,z::zs=>match wdO k z,jx ks zs with
  | some d,some ds=>some (d::ds)
  | _,_=>none
 | _,_=>none
def WdsIs (H:Hp):List Wd→List V→Prop
 | [],[]=>True
 | d::ds,v::vs=>WdIs H d v∧WdsIs H ds vs
 | _,_=>False
theorem WdsIs.same {H H':Hp}(s:Same H H'):∀ {ds:List Wd} {vs:List V},WdsIs H ds vs→WdsIs H' ds vs
 | [],[],_=>trivial
 | _::_,_::_,h=>⟨h.1.same s,WdsIs.same s h.2⟩
 | [],_::_,h=>h.elim
 | _::_,[],h=>h.elim
theorem WdsIs.len {H:Hp}:∀ {ds:List Wd} {vs:List V},WdsIs H ds vs→vs.length=ds.length
 | [],[],_=>rfl
 | _::_,_::_,h=>by rw [List.length_cons,List.length_cons,WdsIs.len h.2]
 | [],_::_,h=>h.elim
 | _::_,[],h=>h.elim
theorem WdsIs.snoc {H:Hp}:∀ {ds:List Wd} {vs:List V} {d:Wd} {v:V},WdsIs H ds vs→WdIs H d v→WdsIs H (ds++[d]) (vs++[v])
 | [],[],_,_,_,h=>⟨h,trivial⟩
 | _::_,_::_,_,_,h,h'=>⟨h.1,h.2.snoc h'⟩
 | [],_::_,_,_,h,_=>h.elim
 | _::_,[],_,_,h,_=>h.elim
theorem qCp:∀ {ks zs:List Str} {i:Nat} {k z:Str},ks[i]? =some k→zs[i]? =some z→wdO k z=none→jx ks zs=none
 | [],_,_,_,_,h,_,_=>by simp at h
 | _::_,[],_,_,_,_,h,_=>by simp at h
 | k'::ks,z'::zs,0,k,z,h,h',hn=>by
  have e1:k'=k:=by simpa using h
  have e2:z'=z:=by simpa using h'
  subst e1 e2
  unfold jx
  rw [hn]
 | k'::ks,z'::zs,i+1,k,z,h,h',hn=>by
  have:=qCp (ks:=ks) (zs:=zs) (i:=i) (by simpa using h) (by simpa using h') hn
  unfold jx
  rw [this]
  cases wdO k' z' <;> rfl
theorem qDh:∀ {ks zs:List Str} {ds:List Wd} {k z:Str} {d:Wd},jx ks zs=some ds→wdO k z=some d→jx (ks++[k]) (zs++[z])=some (ds++[d])
 | [],[],ds,k,z,d,h,h'=>by
  have e:ds=[]:=by unfold jx at h;cases h;rfl
  subst e
  show jx [k] [z]=_
  unfold jx jx
  rw [h']
  rfl
 | [],_::_,_,_,_,_,h,_=>by unfold jx at h;cases h
 | _::_,[],_,_,_,_,h,_=>by unfold jx at h;cases h
 | k'::ks,z'::zs,ds,k,z,d,h,h'=>by
  unfold jx at h
  cases e1:wdO k' z' with
  | none=>rw [e1] at h;cases h
  | some d'=>
   cases e2:jx ks zs with
   | none=>rw [e1,e2] at h;cases h
   | some ds'=>
    rw [e1,e2] at h
    have:d'::ds'=ds:=by simpa using h
    subst this
    show jx (k'::(ks++[k])) (z'::(zs++[z]))=_
    unfold jx
    rw [e1,qDh e2 h']
    rfl
theorem zk:∀ {ks zs:List Str},ks.length≠zs.length→jx ks zs=none
 | [],[],h=>absurd rfl h
 | [],_::_,_=>by unfold jx;rfl
 | _::_,[],_=>by unfold jx;rfl
 | k::ks,z::zs,h=>by
  have:=zk (ks:=ks) (zs:=zs) (by simpa using h)
  unfold jx
  rw [this]
  cases wdO k z <;> rfl
inductive vz (K:W.Frag)(N:Addr)(vs:List V)(H:Hp)(Q:VK)(E:XK):Prop
| mk (l t:Addr) (zs ks:List Str) (_:vs=[.ref l,.ref t]) (_:SqL K H l (zs.map V.str)) (_:SqT K H t (ks.map V.str)) (_:zs.length≤90000) (_:(∀ z∈zs,z.length≤80000)) (_:(∀ k∈ks,vM k)) (_:(∀ ds,jx ks zs=some ds→∀ y vs H',Same H H'→H' y=some (.tup vs)→WdsIs H' ds vs→Q (.ref y) H')) (_:(jx ks zs=none→∀ H',Same H H'→E (.ref N) none H'))
theorem wE (T:Tx K mg a):FnOk P w K mg base (CXR P w) 6 a.A22 a.B22 ["words","kinds"] (vz K a.k_NoText):=by
 refine okX T.D22.F qAk (fun vs H Q E h=>?_) (fun cdv A outer s H vs Q E hr h=>?_)
 · obtain⟨l,t,zs,ks,rfl,_⟩:=h
   rfl
 refine qO fun _ Y=>?_
 obtain⟨l,t,zs,ks,rfl,hl,ht,hlen,hz,hk,kg,kb⟩:=h
 apply Y
 refine⟨_,(qD (qd (qH kD (qN qX rfl T.b_len rfl (qA (pv 0) qB)) (qN qX rfl T.b_len rfl (qA (pv 1) qB)) (qM _)) (qG (j8 rfl rfl T.c_NoText T.x_NoText (qA qJ qB))) qL)
  (qG (qK (qf wn rfl T.b_tuple rfl (qA (qFt [] [] rfl (qIr rfl T.b_zip (qA (pv 0) (qA (pv 1) qB))) (fun _ _ _ _=>(qCj T.D21 (qAd T) hr rfl (qA (pv 0) (qA (pv 1) qB))))) qB))))),?_⟩
 try dsimp only [xU,qz]
 have e1:(zs.map V.str).length=zs.length:=List.length_map _
 have e2:(ks.map V.str).length=ks.length:=List.length_map _
 refine⟨_,rfl,l,_,rfl,.inl hl,_,rfl,t,_,rfl,.inr ht,rfl,_,rfl,?_⟩
 have dec:decide (V.int ((zs.map V.str).length:Nat)=V.int ((ks.map V.str).length:Nat))=decide (zs.length=ks.length):=by
  rw [e1,e2,Bool.eq_iff_iff,decide_eq_true_eq,decide_eq_true_eq]
  constructor
  · intro h;injection h with h;omega
  · intro h;rw [h]
 rw [dec]
 by_cases hlk:zs.length=ks.length
 · refine kd (by rw [decide_eq_true hlk];rfl) ?_
   refine⟨_,rfl,_,rfl,l,t,rfl,⟨_,hl⟩,⟨_,ht⟩,qEo (K:=K) (a:=l) (b:=t) (xs:=zs.map V.str) (ys:=ks.map V.str) (fun i acc H'=>Same H H'∧∃ ds,WdsIs H' ds acc∧acc.length=i∧jx (ks.take i) (zs.take i)=some ds) (by omega) ⟨Same.refl _,[],trivial,rfl,by unfold jx;rfl⟩ ?_ ?_ ?_⟩
   · rintro i acc H' hi ⟨s1,ds,_,hal,_⟩
     exact⟨s1.seq hl,L3.Same.tup s1 ht,qV (by omega)⟩
   · rintro i x y acc H' p hx hy ⟨s1,ds,hd,hal,hw⟩ hp
     rw [List.getElem?_map] at hx hy
     refine qO fun _ Y=>?_
     obtain⟨z,hz1,rfl⟩:=Option.map_eq_some_iff.mp hx
     obtain⟨k,hk1,rfl⟩:=Option.map_eq_some_iff.mp hy
     apply Y
     have w1:=qE hp (.tup [.str z,.str k])
     have hi:i < (zs.map V.str).length:=by rw [e1];exact glt hz1
     refine⟨_,rfl,_,rfl,z,k,rfl,hz z (List.mem_of_getElem? hz1),hk k (List.mem_of_getElem? hk1),fun d v H2 hd2 s2 hv=>?_,fun hn H2 s2=>?_⟩
     · refine Nxt.mk hi ⟨(s1.trans w1).trans s2,ds++[d],(hd.same (w1.trans s2)).snoc hv,by rw [List.length_append,hal];rfl,?_⟩
       rw [List.take_add_one,List.take_add_one,hz1,hk1]
       exact qDh hw hd2
     · exact kb (qCp hk1 hz1 hn) H2 ((s1.trans w1).trans s2)
   · rintro acc H' ⟨s1,ds,hd,hal,hw⟩ D hD
     rw [e1,List.take_length,hlk,List.take_length] at hw
     have w1:=qE hD (.lst acc)
     refine⟨D,_,rfl,.inl ⟨SqL.of qC,fun y hy=>?_⟩⟩
     have w2:=qE hy (.tup acc)
     exact kg ds hw y acc _ ((s1.trans w1).trans w2) qC (hd.same (w1.trans w2))
 · refine qH8 (by rw [decide_eq_false hlk];rfl) ⟨sL1,kb (zk fun e=>hlk e.symm) H (Same.refl _)⟩
def kC:List Str:=["name","fraction","fraction","length"]
def kN:List Str:=["name","count","length"]
def kL:List Str:=["length"]
def qp (k:Str):Option (List Str):=List.lookup k [("clip",kC),("nest",kN),("gap",kL),("mix",kL)]
def mkI (k:Str):List Wd→Option Im
 | [.nm n,.fr p q,.fr r s,.nu l]=>some (.clip n p q r s l)
 | [.nm n,.nu b,.nu l]=>some (.nest n b l)
 | [.nu l]=>if k="gap" then some (.gap l) else some (.mix l)
 | _=>none
def itW (k:Str)(zs:List Str):Option Im:=match qp k with
 | none=>none
 | some ks=>(jx ks zs).bind (mkI k)
def itO (z:Str):Option Im:=match Txt.split z " " with
 | []=>none
 | k::zs=>itW k zs
theorem ja {k z:Str}{ks zs:List Str}:jx (k::ks) (z::zs)=match wdO k z,jx ks zs with
 | some d,some ds=>some (d::ds)
 | _,_=>none:=by rw [jx]
theorem qCd {z:Str}:wdO "name" z=if q9 z then some (.nm z) else none:=by unfold wdO;rw [if_pos rfl]
theorem qCb {z:Str}:wdO "fraction" z=(match jd z.cps.toList with | some (p,q)=>some (.fr p q) | none=>none):=by unfold wdO;rw [if_neg (by decide+kernel),if_pos rfl];all_goals rfl
theorem qCk {z:Str}:wdO "count" z=(match jI 0 z.cps.toList with | some n=>some (.nu n) | none=>none):=by unfold wdO;rw [if_neg (by decide+kernel),if_neg (by decide+kernel),if_pos rfl];all_goals rfl
theorem qBj {z:Str}:wdO "length" z=(match jI 1 z.cps.toList with | some n=>some (.nu n) | none=>none):=by unfold wdO;rw [if_neg (by decide+kernel),if_neg (by decide+kernel),if_neg (by decide+kernel)];all_goals rfl
theorem qk {k:Str}{ks zs:List Str}{ds:List Wd}(h:jx (k::ks) zs=some ds):∃ z zs' d ds',zs=z::zs'∧ds=d::ds'∧wdO k z=some d∧jx ks zs'=some ds':=by
 cases zs with
 | nil=>unfold jx at h;cases h
 | cons z zs=>
  rw [ja] at h
  cases e1:wdO k z with
  | none=>rw [e1] at h;cases h
  | some d=>
   cases e2:jx ks zs with
   | none=>rw [e1,e2] at h;cases h
   | some ds'=>
    rw [e1,e2] at h
    exact⟨z,zs,d,ds',rfl,by simpa using h.symm,e1,e2⟩
theorem xO {zs:List Str}{ds:List Wd}(h:jx [] zs=some ds):zs=[]∧ds=[]:=by
 cases zs with
 | nil=>unfold jx at h;cases h;exact⟨rfl,rfl⟩
 | cons z zs=>unfold jx at h;cases h
theorem qGy {z:Str}{d:Wd}(h:wdO "name" z=some d):d= .nm z∧q9 z=true:=by
 rw [qCd] at h
 cases e:q9 z with
 | true=>rw [e,if_pos rfl] at h;cases h;exact⟨rfl,rfl⟩
 | false=>rw [e] at h;cases h
theorem qGq {z:Str}{d:Wd}(h:wdO "fraction" z=some d):∃ p q,d= .fr p q∧jd z.cps.toList=some (p,q):=by
 rw [qCb] at h
 cases e:jd z.cps.toList with
 | none=>rw [e] at h;cases h
 | some x=>obtain⟨p,q⟩:=x;rw [e] at h;cases h;exact⟨p,q,rfl,rfl⟩
theorem qJi {z:Str}{d:Wd}(h:wdO "count" z=some d):∃ n,d= .nu n∧jI 0 z.cps.toList=some n:=by
 rw [qCk] at h
 cases e:jI 0 z.cps.toList with
 | none=>rw [e] at h;cases h
 | some n=>rw [e] at h;cases h;exact⟨n,rfl,rfl⟩
theorem qA9 {z:Str}{d:Wd}(h:wdO "length" z=some d):∃ n,d= .nu n∧jI 1 z.cps.toList=some n:=by
 rw [qBj] at h
 cases e:jI 1 z.cps.toList with
 | none=>rw [e] at h;cases h
 | some n=>rw [e] at h;cases h;exact⟨n,rfl,rfl⟩
theorem qGl (vs:List V)(i:Nat):qDl vs none (some (i:Int))=vs.take i:=by
 unfold qDl
 rw [HT.sIx_none,HT.sIx_nat,List.drop_zero,Nat.sub_zero]
 by_cases h:i≤vs.length
 · rw [Nat.min_eq_left h]
 · rw [Nat.min_eq_right (by omega),List.take_of_length_le (Nat.le_refl _),List.take_of_length_le (by omega)]
theorem qC4 (vs:List V)(i:Nat):qDl vs (some (i:Int)) none=vs.drop i:=by
 unfold qDl
 rw [HT.sIx_none,HT.sIx_nat]
 by_cases h:i≤vs.length
 · rw [Nat.min_eq_left h,List.take_of_length_le (by rw [List.length_drop];omega)]
 · rw [Nat.min_eq_right (by omega),List.drop_of_length_le (by omega),List.drop_of_length_le (by omega)]
   simp
theorem vE (k:Str):k="clip"∨k="nest"∨k="gap"∨k="mix"∨(∀ v1 v2 v3 v4:V,List.lookup k [(("clip":Str),v1),("nest",v2),("gap",v3),("mix",v4)]=none)∧qp k=none:=by
 by_cases h1:k="clip"
 · exact .inl h1
 by_cases h2:k="nest"
 · exact .inr (.inl h2)
 by_cases h3:k="gap"
 · exact .inr (.inr (.inl h3))
 by_cases h4:k="mix"
 · exact .inr (.inr (.inr (.inl h4)))
 have b:∀ {x:Str},k≠x→(k == x)=false:=fun h=>by simpa using h
 refine .inr (.inr (.inr (.inr ⟨fun v1 v2 v3 v4=>?_,?_⟩)))
 · simp only [List.lookup,b h1,b h2,b h3,b h4]
 · unfold qp
   simp only [List.lookup,b h1,b h2,b h3,b h4]
theorem qKi {H:Hp}{k:Str}{ks zs:List Str}{ds:List Wd}{y:Addr}{vs:List V}(hk:qp k=some ks)(hd:jx ks zs=some ds)(hy:H y=some (.tup (.str k::vs)))(hv:WdsIs H ds vs):∃ m,(jx ks zs).bind (mkI k)=some m∧IsI H m (.ref y):=by
 rw [hd]
 show ∃ m,mkI k ds=some m∧_
 rcases vE k with rfl | rfl | rfl | rfl | ⟨_,h⟩
 · have e:ks=kC:=Option.some.inj (hk.symm.trans (show qp "clip"=some kC by decide+kernel))
   subst e
   unfold kC at hd
   obtain⟨z1,_,d1,_,rfl,rfl,g1,hd⟩:=qk hd
   obtain⟨z2,_,d2,_,rfl,rfl,g2,hd⟩:=qk hd
   obtain⟨z3,_,d3,_,rfl,rfl,g3,hd⟩:=qk hd
   obtain⟨z4,_,d4,_,rfl,rfl,g4,hd⟩:=qk hd
   obtain⟨rfl,rfl⟩:=xO hd
   obtain⟨rfl,_⟩:=qGy g1
   obtain⟨p,q,rfl,_⟩:=qGq g2
   obtain⟨r,s,rfl,_⟩:=qGq g3
   obtain⟨l,rfl,_⟩:=qA9 g4
   match vs,hv with
   | [v1,v2,v3,v4],⟨e1,⟨x,e2,hx⟩,⟨u,e3,hu⟩,e4,_⟩=>
    cases e1;cases e2;cases e3;cases e4
    exact⟨_,rfl,isC hy hx hu⟩
 · have e:ks=kN:=Option.some.inj (hk.symm.trans (show qp "nest"=some kN by decide+kernel))
   subst e
   unfold kN at hd
   obtain⟨z1,_,d1,_,rfl,rfl,g1,hd⟩:=qk hd
   obtain⟨z2,_,d2,_,rfl,rfl,g2,hd⟩:=qk hd
   obtain⟨z3,_,d3,_,rfl,rfl,g3,hd⟩:=qk hd
   obtain⟨rfl,rfl⟩:=xO hd
   obtain⟨rfl,_⟩:=qGy g1
   obtain⟨b,rfl,_⟩:=qJi g2
   obtain⟨l,rfl,_⟩:=qA9 g3
   match vs,hv with
   | [v1,v2,v3],⟨e1,e2,e3,_⟩=>
    cases e1;cases e2;cases e3
    exact⟨_,rfl,isN hy⟩
 · have e:ks=kL:=Option.some.inj (hk.symm.trans (show qp "gap"=some kL by decide+kernel))
   subst e
   unfold kL at hd
   obtain⟨z1,_,d1,_,rfl,rfl,g1,hd⟩:=qk hd
   obtain⟨rfl,rfl⟩:=xO hd
   obtain⟨l,rfl,_⟩:=qA9 g1
   match vs,hv with
   | [v1],⟨e1,_⟩=>
    cases e1
    exact⟨.gap l,(show (if ("gap":Str)="gap" then some (Im.gap l) else some (Im.mix l))=some (Im.gap l) from if_pos rfl),isG hy⟩
 · have e:ks=kL:=Option.some.inj (hk.symm.trans (show qp "mix"=some kL by decide+kernel))
   subst e
   unfold kL at hd
   obtain⟨z1,_,d1,_,rfl,rfl,g1,hd⟩:=qk hd
   obtain⟨rfl,rfl⟩:=xO hd
   obtain⟨l,rfl,_⟩:=qA9 g1
   match vs,hv with
   | [v1],⟨e1,_⟩=>
    cases e1
    exact⟨.mix l,(show (if ("mix":Str)="gap" then some (Im.gap l) else some (Im.mix l))=some (Im.mix l) from if_neg (by decide+kernel)),isM hy⟩
 · rw [hk] at h;cases h
inductive qAl (K:W.Frag)(N:Addr)(vs:List V)(H:Hp)(Q:VK)(E:XK):Prop
| mk (x:V) (_:vs=[x]) (_:((∃ z:Str,x= .str z∧z.length≤80000∧(∀ m v H',itO z=some m→Same H H'→IsI H' m v→Q v H')∧(itO z=none→∀ H',Same H H'→E (.ref N) none H'))∨(∃ t,vq K H x t∧W.kitOne K t (.type "str")=some false∧E (.ref N) none H)))
theorem zx [hW:WP w a] (T:Tx K mg a):FnOk P w K mg base (CXR P w) 7 a.A23 a.B23 ["text"] (qAl K a.k_NoText):=by
 refine okX T.D23.F ki (fun vs H Q E h=>?_) (fun cdv A outer s H vs Q E hr h=>?_)
 · obtain⟨x,rfl,_⟩:=h
   rfl
 refine qO fun _ Y=>?_
 obtain⟨x,rfl,h⟩:=h
 apply Y
 have hkd:L3.KDi K w.params a.n_ITEMS [("clip",.ref a.n_ITEMS_0),("nest",.ref a.n_ITEMS_1),("gap",.ref a.n_ITEMS_2),("mix",.ref a.n_ITEMS_3)]:=by rw [hW.e];exact T.kd_ITEMS
 refine⟨_,(qD (xD (jN T.D14 (jb T) hr rfl (qA (pv 0) qB)))
  (qD (qg 1 ki.nd (jt F.plainAttrs_str F.slot_str_split F.type_str_split xP (pv 0) (qA qJ qB)))
  (qD (qd (vm (qEb (qj qR (pv 1) qF (fun _ _=>rfl)) (zf (v:=.ref a.n_ITEMS) rfl T.g_ITEMS rfl))) (qG (j8 rfl rfl T.c_NoText T.x_NoText (qA qJ qB))) qL)
  (qG (qK (qP qFa (jE (qA (qj qR (pv 1) qF (fun _ _=>rfl)) qB)) (jN T.D22 (wE T) hr rfl (qA (qr xF (pv 1) (jD qF) jK) (qA (qH0 (zf (v:=.ref a.n_ITEMS) rfl T.g_ITEMS rfl) (qj qR (pv 1) qF (fun _ _=>rfl)) (fun _ _=>rfl)) qB))))))))),?_⟩
 try dsimp only [xU,qz]
 rcases h with ⟨z,rfl,hz,kg,kb⟩ | ⟨t,ty,e,kb⟩
 rotate_left
 · exact⟨_,rfl,x,t,false,rfl,ty,e,(fun z=>by cases z),fun _=>kb⟩
 refine⟨_,rfl,_,_,true,rfl,.str z,by kernel_rfl,(fun _=>?_),(fun z=>by cases z)⟩
 refine⟨_,rfl,rfl,_,_,rfl,rfl,(by decide+kernel),Nat.le_of_lt (qV (by omega)),fun zp hzp=>?_⟩
 have hne:=zJ z " "
 have hm:∀ p∈Txt.split z " ",p.length≤80000:=fun p hp=>Nat.le_trans (zz hp) hz
 have hc:(Txt.split z " ").length≤80001:=by
  have:=zA (x:=z) (y:=" ") (by decide+kernel)
  have e1:(" ":Str).length=1:=by decide+kernel
  omega
 have hio:itO z=match Txt.split z " " with | []=>none | k::zs=>itW k zs:=by unfold itO;rfl
 generalize Txt.split z " "=ps at hne hm hc hio ⊢
 refine qO fun _ Y=>?_
 obtain⟨k,zs,rfl⟩:∃ k zs,ps=k::zs:=by
  cases ps with
  | nil=>exact absurd rfl hne
  | cons k zs=>exact⟨k,zs,rfl⟩
 apply Y
 dsimp only at hio
 have w1:=qE hzp (.lst ((k::zs).map V.str))
 have ep:SqL K (upd H zp (.lst ((k::zs).map V.str))) zp (.str k::zs.map V.str):=SqL.of qC
 generalize upd H zp (.lst ((k::zs).map V.str))=H1 at w1 ep ⊢
 have a0:atI (V.str k::zs.map V.str) 0=some (.str k):=j3 (xs:=V.str k::zs.map V.str) (j:=0) rfl
 refine⟨_,rfl,zp,_,_,_,rfl,rfl,ep,a0,_,_,k,rfl,hkd,rfl,_,rfl,?_⟩
 have hsl:zs.length≤90000:=by rw [List.length_cons] at hc;omega
 have mz:∀ z∈zs,z.length≤80000:=fun z hz=>hm z (List.mem_cons_of_mem _ hz)
 have hex:((∃ ks t,qp k=some ks∧ks≠[]∧(∀ x∈ks,vM x)∧(∀ H,SqT K H t (ks.map V.str))∧List.lookup k [(("clip":Str),V.ref a.n_ITEMS_0),("nest",.ref a.n_ITEMS_1),("gap",.ref a.n_ITEMS_2),("mix",.ref a.n_ITEMS_3)]=some (.ref t))∨(qp k=none∧List.lookup k [(("clip":Str),V.ref a.n_ITEMS_0),("nest",.ref a.n_ITEMS_1),("gap",.ref a.n_ITEMS_2),("mix",.ref a.n_ITEMS_3)]=none)):=by
  have n:vM "name":=.inl rfl
  have f:vM "fraction":=.inr (.inl rfl)
  have c:vM "count":=.inr (.inr (.inl rfl))
  have l:vM "length":=.inr (.inr (.inr rfl))
  rcases vE k with rfl | rfl | rfl | rfl | ⟨h1,h2⟩
  · exact .inl ⟨kC,_,by decide+kernel,by unfold kC;simp,by unfold kC;simp [n,f,l],T.sq_ITEMS_0,rfl⟩
  · exact .inl ⟨kN,_,by decide+kernel,by unfold kN;simp,by unfold kN;simp [n,c,l],T.sq_ITEMS_1,rfl⟩
  · exact .inl ⟨kL,_,by decide+kernel,by unfold kL;simp,by unfold kL;simp [l],T.sq_ITEMS_2,rfl⟩
  · exact .inl ⟨kL,_,by decide+kernel,by unfold kL;simp,by unfold kL;simp [l],T.sq_ITEMS_3,rfl⟩
  · exact .inr ⟨h2,h1 _ _ _ _⟩
 rcases hex with ⟨ks,t,hk,hk0,hko,ht,hlk⟩ | ⟨hk,hlk⟩
 rotate_left
 · rw [hlk]
   refine qt ⟨sL1,kb ?_ H1 w1⟩
   rw [hio];unfold itW;rw [hk]
 rw [hlk]
 refine ql ?_
 have hiw:itO z=(jx ks zs).bind (mkI k):=by rw [hio];unfold itW;rw [hk]
 refine⟨_,rfl,zp,_,_,_,rfl,rfl,ep,a0,sL1,fun q hq=>?_⟩
 have w2:=qE hq (.tup [.str k])
 refine⟨_,rfl,_,rfl,zp,_,rfl,w2.seq ep,fun sl hsl=>?_⟩
 have ec:qDl (V.str k::zs.map V.str) (some 1) none=zs.map V.str:=qC4 (V.str k::zs.map V.str) 1
 rw [ec]
 have w3:=qE hsl (.lst (zs.map V.str))
 have w13:=(w1.trans w2).trans w3
 have ep3:SqL K (upd (upd H1 q (.tup [.str k])) sl (.lst (zs.map V.str))) zp (.str k::zs.map V.str):=w3.seq (w2.seq ep)
 have hq3:(upd (upd H1 q (.tup [.str k])) sl (.lst (zs.map V.str))) q=some (.tup [.str k]):=w3 _ _ qC
 have hs3:SqL K (upd (upd H1 q (.tup [.str k])) sl (.lst (zs.map V.str))) sl (zs.map V.str):=SqL.of qC
 generalize upd (upd H1 q (.tup [.str k])) sl (.lst (zs.map V.str))=H3 at w13 ep3 hq3 hs3 ⊢
 refine⟨_,rfl,zp,_,_,_,rfl,rfl,ep3,a0,_,_,k,_,rfl,hkd,rfl,hlk,sl,t,zs,ks,rfl,hs3,ht H3,by omega,mz,hko,fun ds hd y vs H4 s4 hy hv=>?_,fun hn H4 s4=>?_⟩
 · have e1:=hv.len
   have e2:ks.length=zs.length:=Classical.byContradiction fun h=>by rw [zk h] at hd;cases hd
   have e4:ds.length=zs.length:=by
    have e3:∀ {ks zs:List Str} {ds:List Wd},jx ks zs=some ds→ds.length=zs.length:=by
     intro ks
     induction ks with
     | nil=>intro zs ds h;obtain⟨rfl,rfl⟩:=xO h;rfl
     | cons k ks ih=>intro zs ds h;obtain⟨z,zs',d,ds',rfl,rfl,_,h'⟩:=qk h;rw [List.length_cons,List.length_cons,ih h']
    exact e3 hd
   have hk1:=List.length_pos_iff.mpr hk0
   refine⟨q,y,_,_,rfl,rfl,SqT.of (s4 _ _ hq3),SqT.of hy,by simp,Nat.le_of_lt (qV (by simp;omega)),fun e=>(by rw [e] at e1;simp at e1;omega),fun _ r hr'=>?_⟩
   have w5:=qE hr' (.tup ([.str k]++vs))
   refine qO fun _ Y=>?_
   obtain⟨m,hm',hI⟩:=qKi hk hd (H:=upd H4 r (.tup ([.str k]++vs))) (y:=r) (vs:=vs) qC (hv.same w5)
   apply Y
   exact kg m _ _ (by rw [hiw];exact hm') ((w13.trans s4).trans w5) hI
 · exact kb (by rw [hiw,hn];rfl) H4 (w13.trans s4)
theorem qD6 {m:Im}(h:m.wd="mix"):∃ l,m= .mix l:=by
 cases m with
 | mix l=>exact⟨l,rfl⟩
 | clip=>exact absurd (show ("clip":Str)="mix" from h) (by decide+kernel)
 | nest=>exact absurd (show ("nest":Str)="mix" from h) (by decide+kernel)
 | gap=>exact absurd (show ("gap":Str)="mix" from h) (by decide+kernel)
def zZ:Int→List Im→List Im
 | _,[]=>[]
 | w,.gap l::ms=>zZ (w+l) ms
 | w,.clip n p q r s l::ms=>if 0 < w then .gap w:: .clip n p q r s l::zZ 0 ms else .clip n p q r s l::zZ 0 ms
 | w,.nest n b l::ms=>if 0 < w then .gap w:: .nest n b l::zZ 0 ms else .nest n b l::zZ 0 ms
 | w,.mix l::ms=>if 0 < w then .gap w:: .mix l::zZ 0 ms else .mix l::zZ 0 ms
theorem jM {m:Im}(h:m.wd≠"gap")(w:Int)(ms:List Im):zZ w (m::ms)=if 0 < w then .gap w::m::zZ 0 ms else m::zZ 0 ms:=by
 cases m with
 | gap l=>exact absurd rfl h
 | _=>rw [zZ]
inductive qCf (vs:List V)(H:Hp)(Q:VK)(_:XK):Prop
| mk (z:Addr) (ms:List Im) (_:vs=[.ref z]) (_:Tr H z ms) (_:ms.length≤75000) (_:∀ (y:Addr) (H':Hp),Same H H'→H y=none→Tr H' y (zZ 0 ms)→Q (.ref y) H')
theorem qCc (T:Tx K mg a):FnOk P w K mg base CX0 1 a.A5 a.B5 ["some"] qCf:=by
 refine T.D5.F.ok jW (fun vs H Q E h=>?_) (fun cdv A outer s H vs Q E hr h=>?_)
 · obtain⟨z,ms,rfl,_⟩:=h
   rfl
 refine qO fun _ Y=>?_
 obtain⟨z,ms,rfl,⟨xs,hz,his⟩,hl,kk⟩:=h
 apply Y
 refine⟨_,(qD (qg 1 jW.nd (jH qB))
  (qD (qg 2 jW.nd qF)
  (qD (vn PassesOwn.never rfl (xC (pv 0)) (jo (i:=3) jW.nd rfl (Or.inl rfl)) (qG (qd (qH jC (jT (pv 3)) qJ (qM _)) (qG (qg 2 jW.nd (qP jJ (pv 2) (jT (pv 3))))) (qD (qd (qH qEk (pv 2) qF (qM _)) (qG (xD (jt F.plainAttrs_list F.slot_list_append F.type_list_append xx (pv 1) (qA (jE (qA qJ (qA (pv 2) qB))) qB)))) qL)
  (qD (qg 2 jW.nd qF)
  (qG (xD (jt F.plainAttrs_list F.slot_list_append F.type_list_append xx (pv 1) (qA (pv 3) qB)))))))))
  (qG (qK (pv 1)))))),?_⟩
 try dsimp only [xU,qz]
 refine⟨sL0,fun y hy=>?_⟩
 refine⟨_,rfl,z,rfl,⟨_,SqL.of ((qE hy _) _ _ hz)⟩,qAv (K:=K) (a:=z) (xs:=xs) (fun i σ H'=>∃ (w:Int) (as:List Im) (o:Option V) (vs:List V),σ=[some (.ref z),some (.ref y),some (.int w),o]∧H' y=some (.lst vs)∧IsIs H' as vs∧as.length≤2*i∧as++zZ w (ms.drop i)=zZ 0 ms∧Same H H')
  ⟨0,[],none,[],rfl,qC,trivial,by simp,rfl,qE hy _⟩ ?_ ?_ ?_⟩
 · rintro i σ H' hi ⟨w,as,o,vs,rfl,_,_,_,_,e⟩
   exact SqL.of (e _ _ hz)
 · rintro i x σ H' hx ⟨w,as,o,vs,rfl,hv,hiv,hal,hap,e⟩
   refine qO fun _ Y=>?_
   obtain⟨m,hm,hIx⟩:=his.get hx
   have hI:=hIx.ts (qh e)
   have hi:i < ms.length:=(glt hm)
   have hd:ms.drop i=m::ms.drop (i+1):=by
    rw [List.drop_eq_getElem_cons hi]
    rw [List.getElem?_eq_getElem hi] at hm
    cases hm
    rfl
   have hvl:vs.length≤2*i:=by rw [hiv.len];exact hal
   obtain⟨zi,xi,rfl,hzi,h0,h1⟩:=hI.opn
   apply Y
   refine⟨_,rfl,zi,xi,_,_,rfl,rfl,SqT.of hzi,h0,rfl,_,rfl,qAy (fun c=>?_) (fun c=>?_)⟩
   · obtain⟨l,rfl⟩:=qE5 (by simpa using c)
     refine qO fun _ Y=>?_
     obtain⟨z2,e2,hz2⟩:=hI
     cases e2
     apply Y
     refine⟨_,rfl,ixO hz2 at1 ⟨_,_,rfl,rfl,w+l,as,_,vs,rfl,hv,hiv,by omega,?_,e⟩⟩
     rw [hd,zZ] at hap
     exact hap
   · have hne:m.wd≠"gap":=by simpa using c
     rw [hd,jM hne] at hap
     refine⟨_,rfl,_,_,rfl,rfl,_,rfl,qAy (fun c=>?_) (fun c=>?_)⟩
     · have c':0 < w:=by simpa using c
       rw [if_pos c'] at hap
       refine⟨_,rfl,.inl ⟨rfl,_,SqL.of hv⟩,_,rfl,sL2,fun g hg=>?_⟩
       have w1:=qE hg (.tup [.str "gap",.int w])
       refine⟨y,_,_,rfl,rfl,w1 _ _ hv,qV (by omega),?_⟩
       have t2:TS (upd H' g (.tup [.str "gap",.int w])) (upd (upd H' g (.tup [.str "gap",.int w])) y (.lst (vs++[.ref g]))):=kf (w1 _ _ hv)
       have k2:IsIs (upd (upd H' g (.tup [.str "gap",.int w])) y (.lst (vs++[.ref g]))) (as++[.gap w]) (vs++[.ref g]):=((hiv.ts (qh w1)).app (.one (isG qC))).ts t2
       have k1:IsI (upd (upd H' g (.tup [.str "gap",.int w])) y (.lst (vs++[.ref g]))) m (.ref zi):=(hI.ts (qh w1)).ts t2
       have e2:Same H (upd (upd H' g (.tup [.str "gap",.int w])) y (.lst (vs++[.ref g]))):=xI (e.trans w1) hy
       have hv2:(upd (upd H' g (.tup [.str "gap",.int w])) y (.lst (vs++[.ref g]))) y=some (.lst (vs++[.ref g])):=qC
       generalize upd (upd H' g (.tup [.str "gap",.int w])) y (.lst (vs++[.ref g]))=H2 at k1 k2 e2 hv2 ⊢
       refine⟨_,rfl,.inl ⟨rfl,_,SqL.of hv2⟩,_,rfl,y,_,_,rfl,rfl,hv2,qV (by rw [List.length_append];simp;omega),?_⟩
       refine⟨0,as++[.gap w]++[m],_,_,rfl,qC,(k2.app (.one k1)).ts (kf hv2),by simp;omega,?_,xI e2 hy⟩
       rw [← hap];simp
     · have c':¬ 0 < w:=by simpa using c
       rw [if_neg c'] at hap
       refine⟨_,rfl,.inl ⟨rfl,_,SqL.of hv⟩,_,rfl,y,_,_,rfl,rfl,hv,qV (by omega),?_⟩
       refine⟨0,as++[m],_,_,rfl,qC,(hiv.app (.one hI)).ts (kf hv),by simp;omega,?_,xI e hy⟩
       rw [← hap];simp
 · rintro σ H' ⟨w,as,o,vs,rfl,hv,hiv,_,hap,e⟩
   refine⟨_,rfl,kk y H' e hy ⟨vs,hv,?_⟩⟩
   rw [his.len,List.drop_length,zZ,List.append_nil] at hap
   rw [← hap]
   exact hiv
def jY (ms:List Im)(i:Int):Str:=if i < 0 then "" else match ms[i.toNat]? with
 | some m=>m.wd
 | none=>""
theorem xH {ms:List Im}{i:Nat}{m:Im}(h:ms[i]? =some m){k:Int}(hk:k=(i:Int)):jY ms k=m.wd:=by
 subst hk
 unfold jY
 rw [if_neg (by omega)]
 have e:((i:Int)).toNat=i:=by omega
 rw [e,h]
inductive qDs (vs:List V)(H:Hp)(Q:VK)(_:XK):Prop
| mk (z:Addr) (ms:List Im) (i:Int) (_:vs=[.ref z,.int i]) (_:Tr H z ms) (_:Q (.str (jY ms i)) H)
theorem wU (T:Tx K mg a):FnOk P w K mg base CX0 1 a.A6 a.B6 ["track","place"] qDs:=by
 refine T.D6.F.ok qDk (fun vs H Q E h=>?_) (fun cdv A outer s H vs Q E hr h=>?_)
 · obtain⟨z,ms,i,rfl,_⟩:=h
   rfl
 refine qO fun _ Y=>?_
 obtain⟨z,ms,i,rfl,⟨vs,hz,his⟩,q⟩:=h
 apply Y
 refine⟨_,(qD (qd (PW.pt (xM (qH qB1 (pv 1) qF (qM _)) (je (qH qJr (pv 1) (qN qX rfl T.b_len rfl (qA (pv 0) qB)) (qM _))))) (qG (qK qJ)) qL)
  (qG (qK (jT (qj qR (pv 0) (pv 1) (fun _ _=>rfl)))))),?_⟩
 try dsimp only [xU,qz]
 have hl:=his.len
 refine⟨_,rfl,_,_,rfl,rfl,_,rfl,?_⟩
 by_cases h0:i < 0
 · rw [decide_eq_true h0]
   have e:jY ms i="":=by unfold jY;rw [if_pos h0]
   rw [e] at q
   exact qt (qt q)
 rw [decide_eq_false h0]
 refine ql ⟨_,rfl,_,rfl,z,_,rfl,.inl (SqL.of hz),_,_,rfl,rfl,_,rfl,?_⟩
 by_cases h1:((vs.length:Nat):Int)≤i
 · rw [decide_eq_true (show i ≥ ((vs.length:Nat):Int) from h1)]
   have e:jY ms i="":=by
    unfold jY
    rw [if_neg h0,List.getElem?_eq_none (by omega)]
   rw [e] at q
   exact qt q
 · rw [decide_eq_false (show ¬ i ≥ ((vs.length:Nat):Int) from h1)]
   refine ql ?_
   have hi:i.toNat < ms.length:=by omega
   have hm:ms[i.toNat]? =some ms[i.toNat]:=List.getElem?_eq_getElem hi
   refine qO fun _ Y=>?_
   obtain⟨v,hv,hI⟩:=his.get' hm
   obtain⟨zi,xi,rfl,hzi,q0,_⟩:=hI.opn
   apply Y
   have ei:i=((i.toNat:Nat):Int):=by omega
   have hat:atI vs i=some (.ref zi):=by
    rw [ei];exact j3 hv
   have e:jY ms i=ms[i.toNat].wd:=xH hm ei
   rw [e] at q
   exact⟨_,rfl,_,rfl,z,_,_,_,rfl,rfl,SqL.of hz,hat,zi,xi,_,_,rfl,rfl,SqT.of hzi,q0,q⟩
def qm:Nat→List Im→List Nat
 | _,[]=>[]
 | i,.mix _::ms=>i::qm (i+1) ms
 | i,.clip _ _ _ _ _ _::ms=>qm (i+1) ms
 | i,.nest _ _ _::ms=>qm (i+1) ms
 | i,.gap _::ms=>qm (i+1) ms
theorem jh {m:Im}(h:m.wd≠"mix")(i:Nat)(ms:List Im):qm i (m::ms)=qm (i+1) ms:=by
 cases m with
 | mix l=>exact absurd rfl h
 | _=>rfl
theorem ze:∀ (i:Nat) (ms:List Im) (m:Im),qm i (ms++[m])=qm i ms++(if m.wd="mix" then [i+ms.length] else [])
 | i,[],m=>by
  by_cases h:m.wd="mix"
  · obtain⟨l,rfl⟩:=qD6 h
    rfl
  · rw [List.nil_append,jh h,if_neg h];rfl
 | i,x::ms,m=>by
  have ih:=ze (i+1) ms m
  have e:i+1+ms.length=i+(x::ms).length:=by rw [List.length_cons];omega
  rw [e] at ih
  by_cases h:x.wd="mix"
  · obtain⟨l,rfl⟩:=qD6 h
    rw [List.cons_append,qm,qm,ih];rfl
  · rw [List.cons_append,jh h,jh h,ih]
theorem kR:∀ {i:Nat} {ms:List Im} {p:Nat},p∈qm i ms→i≤p∧∃ l,ms[p - i]? =some (.mix l)
 | _,[],_,h=>by simp [qm] at h
 | i,m::ms,p,h=>by
  by_cases hm:m.wd="mix"
  · obtain⟨l,rfl⟩:=qD6 hm
    rw [qm] at h
    rcases List.mem_cons.mp h with rfl | h
    · exact⟨Nat.le_refl _,l,by simp⟩
    · obtain⟨h1,l',h2⟩:=kR h
      have e:p - i=(p - (i+1))+1:=by omega
      exact⟨by omega,l',by rw [e,List.getElem?_cons_succ];exact h2⟩
  · rw [jh hm] at h
    obtain⟨h1,l',h2⟩:=kR h
    have e:p - i=(p - (i+1))+1:=by omega
    exact⟨by omega,l',by rw [e,List.getElem?_cons_succ];exact h2⟩
theorem wQ:∀ {i:Nat} {ms:List Im} {p:Nat} {l:Int},ms[p]? =some (.mix l)→i+p∈qm i ms
 | _,[],_,_,h=>by simp at h
 | i,m::ms,0,l,h=>by
  have e:m= .mix l:=by simpa using h
  subst e
  rw [qm]
  exact List.mem_cons_self
 | i,m::ms,p+1,l,h=>by
  have:=wQ (i:=i+1) (ms:=ms) (p:=p) (l:=l) (by simpa using h)
  rw [show i+1+p=i+(p+1) by omega] at this
  by_cases hm:m.wd="mix"
  · obtain⟨l',rfl⟩:=qD6 hm
    rw [qm]
    exact List.mem_cons_of_mem _ this
  · rw [jh hm]
    exact this
def GapP (ms:List Im):Prop:=∀ (i:Nat) (l:Int),ms[i]? =some (.gap l)→∃ m:Im,ms[i+1]? =some m∧m.wd≠"gap"
def qJ1 (ms:List Im):Prop:=∀ (i:Nat) (l:Int),ms[i]? =some (.mix l)→jY ms ((i:Int) - 1)="clip"∧jY ms ((i:Int)+1)="clip"
def ke (ms:List Im):Prop:=GapP ms∧qJ1 ms
def qKr (ms:List Im):Prop:=∀ l,Im.gap l∈ms→1≤l
theorem GapP.tail {m:Im}{ms:List Im}(h:GapP (m::ms)):GapP ms:=fun i l hi=>by
 obtain⟨m',h1,h2⟩:=h (i+1) l (by simpa using hi)
 exact⟨m',by simpa using h1,h2⟩
theorem qA7:∀ (ms:List Im),qKr ms→GapP ms→zZ 0 ms=ms
 | [],_,_=>rfl
 | m::ms,hg,h=>by
  have ht:=qA7 ms (fun l hl=>hg l (List.mem_cons_of_mem _ hl)) h.tail
  by_cases hm:m.wd="gap"
  · obtain⟨l,rfl⟩:=qE5 hm
    obtain⟨m',h1,h2⟩:=h 0 l rfl
    have hl:=hg l List.mem_cons_self
    cases ms with
    | nil=>simp at h1
    | cons m2 ms=>
     have e:m2=m':=by simpa using h1
     subst e
     rw [zZ,Int.zero_add,jM h2,if_pos (by omega)]
     rw [jM h2,if_neg (by decide)] at ht
     rw [ht]
  · rw [jM hm,if_neg (by decide),ht]
theorem qBg:∀ (ms:List Im),qKr ms→((zZ 0 ms).length≤ms.length∧(¬ GapP ms→(zZ 0 ms).length < ms.length))∧
 ∀ w:Int,0 < w→(zZ w ms).length≤ms.length+1∧((ms=[]∨(∃ l,ms[0]? =some (.gap l))∨¬ GapP ms)→(zZ w ms).length≤ms.length)
 | [],_=>⟨⟨by simp [zZ],fun h=>absurd (fun i l h=>by simp at h) h⟩,fun w hw=>⟨by simp [zZ],fun _=>by simp [zZ]⟩⟩
 | m::ms,hg=>by
  obtain⟨⟨a1,a2⟩,b⟩:=qBg ms (fun l hl=>hg l (List.mem_cons_of_mem _ hl))
  by_cases hm:m.wd="gap"
  · obtain⟨l,rfl⟩:=qE5 hm
    have hl:=hg l List.mem_cons_self
    refine⟨⟨?_,fun h=>?_⟩,fun w hw=>⟨?_,fun _=>?_⟩⟩
    · rw [zZ,Int.zero_add,List.length_cons];exact(b l (by omega)).1
    · rw [zZ,Int.zero_add,List.length_cons]
      have:=(b l (by omega)).2 ?_
      · omega
      · by_cases e:ms=[]
        · exact .inl e
        by_cases e2:∃ l',ms[0]? =some (.gap l')
        · exact .inr (.inl e2)
        refine .inr (.inr fun hp=>h fun i l' hi=>?_)
        cases i with
        | zero=>
         cases ms with
         | nil=>exact absurd rfl e
         | cons m2 ms=>
          refine⟨m2,rfl,fun z=>?_⟩
          obtain⟨l2,rfl⟩:=qE5 z
          exact e2 ⟨l2,rfl⟩
        | succ i=>
         obtain⟨m',h1,h3⟩:=hp i l' (by simpa using hi)
         exact⟨m',by simpa using h1,h3⟩
    · rw [zZ,List.length_cons];have:=(b (w+l) (by omega)).1;omega
    · rw [zZ,List.length_cons];exact(b (w+l) (by omega)).1
  · have ng:¬ GapP (m::ms)→¬ GapP ms:=fun h hp=>h fun i l' hi=>by
     cases i with
     | zero=>
      have:m= .gap l':=by simpa using hi
      rw [this] at hm
      exact absurd rfl hm
     | succ i=>
      obtain⟨m',h1,h3⟩:=hp i l' (by simpa using hi)
      exact⟨m',by simpa using h1,h3⟩
    refine⟨⟨?_,fun h=>?_⟩,fun w hw=>⟨?_,fun h=>?_⟩⟩
    · rw [jM hm,if_neg (by decide),List.length_cons,List.length_cons];omega
    · rw [jM hm,if_neg (by decide),List.length_cons,List.length_cons]
      have:=a2 (ng h);omega
    · rw [jM hm,if_pos hw,List.length_cons,List.length_cons,List.length_cons];omega
    · rw [jM hm,if_pos hw,List.length_cons,List.length_cons,List.length_cons]
      rcases h with h | ⟨l',h⟩ | h
      · cases h
      · have:m= .gap l':=by simpa using h
        rw [this] at hm
        exact absurd rfl hm
      · have:=a2 (ng h);omega
theorem qHi {ms ns:List Im}(h:ms.length≠ns.length):kq (ms.map Im.d) (ns.map Im.d)=false:=by
 rw [Bool.eq_false_iff]
 intro z
 have:=zy z
 rw [List.length_map,List.length_map] at this
 exact h this
def qD7 (ms:List Im)(n:Nat):Bool:=decide (jY ms ((n:Int) - 1)="clip") && decide (jY ms ((n:Int)+1)="clip")
theorem mixB_all {ms:List Im}:((qm 0 ms).map (qD7 ms)).all id=true↔qJ1 ms:=by
 rw [List.all_map,List.all_eq_true]
 constructor
 · intro h i l hi
   have:=h i (by have:=wQ (i:=0) hi;rwa [Nat.zero_add] at this)
   simpa [qD7] using this
 · intro h p hp
   obtain⟨_,l,hl⟩:=kR hp
   rw [Nat.sub_zero] at hl
   have:=h p l hl
   simpa [qD7] using this
inductive kS (vs:List V)(H:Hp)(Q:VK)(_:XK):Prop
| mk (z:Addr) (ms:List Im) (_:vs=[.ref z]) (_:Tr H z ms) (_:ms.length≤75000) (_:qKr ms) (_:∀ H',Same H H'→(ke ms→Q (.bl true) H')∧(¬ ke ms→Q (.bl false) H'))
theorem ka (T:Tx K mg a):FnOk P w K mg base CX0 3 a.A7 a.B7 ["track"] kS:=by
 refine T.D7.F.ok xL (fun vs H Q E h=>?_) (fun cdv A outer s H vs Q E hr h=>?_)
 · obtain⟨z,ms,rfl,_⟩:=h
   rfl
 refine qO fun _ Y=>?_
 obtain⟨z,ms,rfl,tT,hml,hgp,kk⟩:=h
 apply Y
 have hu:=hr.units
 refine⟨_,(qD (qd (qH (vI hu) (qW T.D5 (qCc T) hr rfl (qA (pv 0) qB)) (pv 0) (qM _)) (qG (qK zQ)) qL)
  (qD (qGt (i:=1) [] [] xL.nd rfl rfl rfl (qIt rfl T.b_enumerate (qA (pv 0) qB)) (fun _ _ _ _=>(qH jC (qj (qFj (K:=K) rfl) (pv 1) qF (fun _ _=>rfl)) qJ (qM _))) (fun _ _ _ _=>(pv 0)))
  (qG (qK (qN (kB rfl) rfl T.b_all rfl (qA (jp ["track"] [0] rfl (xC (pv 1)) (fun _ _ _ _=>(qDc (xR jC (qW T.D6 (wU T) hr rfl (qA (pv 1) (qA (qP qFq (pv 0) qF) qB))) qJ (qM _)) (qCm (xR jC (qW T.D6 (wU T) hr rfl (qA (pv 1) (qA (qP jJ (pv 0) qF) qB))) qJ (qM _)))))) qB)))))),?_⟩
 try dsimp only [xU,qz]
 refine⟨_,rfl,z,ms,rfl,tT,hml,fun y H1 e1 _ tY=>?_⟩
 by_cases hG:GapP ms
 rotate_left
 · refine⟨_,rfl,⟨_,_,tY.rep,(tT.same e1).rep,rfl,by have:=wM (zZ 0 ms);unfold dep;omega,?_⟩⟩
   have e:eqD (.lst ((zZ 0 ms).map Im.d)) (.lst (ms.map Im.d))=false:=by
    unfold eqD
    exact qHi (by have:=(qBg ms hgp).1.2 hG;omega)
   rw [e]
   exact⟨_,rfl,qt ((kk H1 e1).2 fun h=>hG h.1)⟩
 rw [qA7 ms hgp hG] at tY
 refine⟨_,rfl,qKo tY (tT.same e1) ⟨_,rfl,ql ?_⟩⟩
 refine qO fun _ Y=>?_
 obtain⟨xs,hz,his⟩:=tT.same e1
 apply Y
 have hxl:=his.len
 refine⟨_,rfl,z,rfl,⟨_,SqL.of hz⟩,qDy (K:=K) (a:=z) (xs:=xs) (fun i acc H'=>Same H1 H'∧acc=(qm 0 (ms.take i)).map (fun(n:Nat)=>V.int (n:Int))∧acc.length≤i) ⟨Same.refl _,rfl,by simp⟩ ?_ ?_ ?_⟩
 · rintro i acc H' hi ⟨e,rfl,hal⟩
   exact⟨SqL.of (e _ _ hz),qV (by omega)⟩
 · rintro i x acc H' p hi hx ⟨e,rfl,hal⟩ hp
   refine qO fun _ Y=>?_
   obtain⟨m,hm,hIx⟩:=his.get hx
   have w1:=qE hp (.tup [.int (i:Int),x])
   have hI:=hIx.ts (qh (e.trans w1))
   obtain⟨zi,xi,rfl,hzi,h0,h1⟩:=hI.opn
   apply Y
   have htk:ms.take (i+1)=ms.take i++[m]:=by rw [List.take_add_one,hm];rfl
   have hlt:(ms.take i).length=i:=by rw [List.length_take];omega
   refine⟨_,rfl,zi,xi,_,_,rfl,rfl,SqT.of hzi,h0,rfl,_,rfl,qAy (fun c=>?_) (fun c=>?_)⟩
   · have hw:m.wd="mix":=by simpa using c
     refine⟨_,rfl,Nxt.mk hi ⟨e.trans w1,?_,by simp at hal ⊢;omega⟩⟩
     rw [htk,ze,if_pos hw,hlt,List.map_append,Nat.zero_add];rfl
   · have hw:¬ m.wd="mix":=by simpa using c
     refine Nxt.mk hi ⟨e.trans w1,?_,by omega⟩
     rw [htk,ze,if_neg hw,List.append_nil]
 rintro acc H2 ⟨e2,rfl,hal⟩ pl hpl
 rw [hxl,List.take_length] at*
 have w3:=qE hpl (.lst ((qm 0 ms).map fun(n:Nat)=>V.int (n:Int)))
 have hP:(upd H2 pl (.lst ((qm 0 ms).map fun(n:Nat)=>V.int (n:Int)))) pl=some (.lst ((qm 0 ms).map fun(n:Nat)=>V.int (n:Int))):=qC
 have e3:=e2.trans w3
 generalize upd H2 pl (.lst ((qm 0 ms).map fun(n:Nat)=>V.int (n:Int)))=H3 at hP e3 ⊢
 have tr3:Tr H3 z ms:=⟨xs,e3 _ _ hz,his.ts (qh e3)⟩
 have hpln:(qm 0 ms).length≤75000:=by simp at hal;omega
 refine⟨_,rfl,pl,rfl,⟨_,SqL.of hP⟩,jy (K:=K) (a:=pl) (xs:=(qm 0 ms).map fun(n:Nat)=>V.int (n:Int)) (fun i acc H'=>H'=H3∧acc=(((qm 0 ms).take i).map (qD7 ms)).map V.bl) ⟨rfl,rfl⟩ ?_ ?_ ?_⟩
 · rintro i acc H' hi ⟨rfl,rfl⟩
   exact⟨SqL.of hP,qV (by simp at hi ⊢;omega)⟩
 · rintro i x acc H' hi hx ⟨rfl,rfl⟩
   refine qO fun _ Y=>?_
   obtain⟨n,hn,rfl⟩:∃ n:Nat,(qm 0 ms)[i]? =some n∧x= .int (n:Int):=by
    rw [List.getElem?_map] at hx
    cases e:(qm 0 ms)[i]? with
    | none=>rw [e] at hx;cases hx
    | some m=>rw [e] at hx;exact⟨m,rfl,(Option.some.inj hx).symm⟩
   apply Y
   have step:∀ b:Bool,b=qD7 ms n→Nxt ((qm 0 ms).map fun(n:Nat)=>V.int (n:Int)).length i (H'=H'∧(((qm 0 ms).take i).map (qD7 ms)).map V.bl++[V.bl b]=(((qm 0 ms).take (i+1)).map (qD7 ms)).map V.bl):=fun b hb=>by
    refine Nxt.mk hi ⟨rfl,?_⟩
    rw [List.take_add_one,hn,List.map_append,List.map_append,hb]
    rfl
   refine⟨_,rfl,_,rfl,_,_,rfl,rfl,z,ms,_,rfl,tr3,rfl,?_⟩
   refine⟨_,rfl,?_⟩
   rw [qAh]
   by_cases k1:jY ms ((n:Int) - 1)="clip"
   · rw [decide_eq_true k1]
     refine qt ⟨_,rfl,_,rfl,_,_,rfl,rfl,z,ms,_,rfl,tr3,rfl,?_⟩
     rw [qAh]
     exact step _ (by unfold qD7;rw [decide_eq_true k1,Bool.true_and])
   · rw [decide_eq_false k1]
     exact ql (step _ (by unfold qD7;rw [decide_eq_false k1,Bool.false_and]))
 · rintro acc H' ⟨rfl,rfl⟩ d hd
   refine⟨d,_,rfl,SqL.of qC,?_⟩
   rw [List.length_map,List.take_length]
   have w5:=(e1.trans e3).trans (qE hd (.lst (((qm 0 ms).map (qD7 ms)).map V.bl)))
   have k:=kk _ w5
   by_cases hM:qJ1 ms
   · rw [mixB_all.mpr hM]
     exact k.1 ⟨hG,hM⟩
   · rw [show ((qm 0 ms).map (qD7 ms)).all id=false by rw [Bool.eq_false_iff];exact fun z=>hM (mixB_all.mp z)]
     exact k.2 fun h=>hM h.2
def kJ:List Str→Option (List Im)
 | []=>some []
 | z::zs=>match itO z,kJ zs with
  | some m,some ms=>some (m::ms)
  | _,_=>none
theorem qCo:∀ {zs:List Str} {i:Nat} {z:Str},zs[i]? =some z→itO z=none→kJ zs=none
 | [],_,_,h,_=>by simp at h
 | z'::zs,0,z,h,hn=>by
  have e:z'=z:=by simpa using h
  subst e
  unfold kJ
  rw [hn]
 | z'::zs,i+1,z,h,hn=>by
  have:=qCo (zs:=zs) (i:=i) (by simpa using h) hn
  unfold kJ
  rw [this]
  cases itO z' <;> rfl
theorem qCx:∀ {zs:List Str} {ms:List Im} {z:Str} {m:Im},kJ zs=some ms→itO z=some m→kJ (zs++[z])=some (ms++[m])
 | [],ms,z,m,h,h'=>by
  have e:ms=[]:=by unfold kJ at h;cases h;rfl
  subst e
  show kJ [z]=_
  unfold kJ kJ
  rw [h']
  rfl
 | z'::zs,ms,z,m,h,h'=>by
  unfold kJ at h
  cases e1:itO z' with
  | none=>rw [e1] at h;cases h
  | some d'=>
   cases e2:kJ zs with
   | none=>rw [e1,e2] at h;cases h
   | some ds'=>
    rw [e1,e2] at h
    have:d'::ds'=ms:=by simpa using h
    subst this
    show kJ (z'::(zs++[z]))=_
    unfold kJ
    rw [e1,qCx e2 h']
    rfl
theorem qFs:∀ {zs:List Str} {ms:List Im} {m:Im},kJ zs=some ms→m∈ms→∃ z∈zs,itO z=some m
 | [],ms,m,h,hm=>by unfold kJ at h;cases h;cases hm
 | z'::zs,ms,m,h,hm=>by
  unfold kJ at h
  cases e1:itO z' with
  | none=>rw [e1] at h;cases h
  | some d'=>
   cases e2:kJ zs with
   | none=>rw [e1,e2] at h;cases h
   | some ds'=>
    rw [e1,e2] at h
    have:d'::ds'=ms:=by simpa using h
    subst this
    rcases List.mem_cons.mp hm with rfl | hm
    · exact⟨z',List.mem_cons_self,e1⟩
    · obtain⟨z,h1,h2⟩:=qFs e2 hm
      exact⟨z,List.mem_cons_of_mem _ h1,h2⟩
theorem qIj {m n:Int}{l:List Nat}(h:jI m l=some n):m≤n∧zd l=some n:=by
 unfold jI at h
 cases e:zd l with
 | none=>rw [e] at h;cases h
 | some k=>
  rw [e] at h
  dsimp only at h
  split at h
  · cases h
  · cases h;exact⟨by omega,rfl⟩
theorem qIu {k:Str}{zs:List Str}{l:Int}(h:itW k zs=some (.gap l)):1≤l:=by
 unfold itW at h
 rcases vE k with rfl | rfl | rfl | rfl | ⟨_,h'⟩
 · rw [show qp "clip"=some kC by decide+kernel] at h
   obtain⟨ds,hd,hm⟩:=Option.bind_eq_some_iff.mp h
   unfold kC at hd
   obtain⟨z1,_,d1,_,rfl,rfl,g1,hd⟩:=qk hd
   obtain⟨z2,_,d2,_,rfl,rfl,g2,hd⟩:=qk hd
   obtain⟨z3,_,d3,_,rfl,rfl,g3,hd⟩:=qk hd
   obtain⟨z4,_,d4,_,rfl,rfl,g4,hd⟩:=qk hd
   obtain⟨rfl,rfl⟩:=xO hd
   obtain⟨rfl,_⟩:=qGy g1
   obtain⟨p,q,rfl,_⟩:=qGq g2
   obtain⟨r,s,rfl,_⟩:=qGq g3
   obtain⟨l,rfl,_⟩:=qA9 g4
   cases hm
 · rw [show qp "nest"=some kN by decide+kernel] at h
   obtain⟨ds,hd,hm⟩:=Option.bind_eq_some_iff.mp h
   unfold kN at hd
   obtain⟨z1,_,d1,_,rfl,rfl,g1,hd⟩:=qk hd
   obtain⟨z2,_,d2,_,rfl,rfl,g2,hd⟩:=qk hd
   obtain⟨z3,_,d3,_,rfl,rfl,g3,hd⟩:=qk hd
   obtain⟨rfl,rfl⟩:=xO hd
   obtain⟨rfl,_⟩:=qGy g1
   obtain⟨b,rfl,_⟩:=qJi g2
   obtain⟨l,rfl,_⟩:=qA9 g3
   cases hm
 · rw [show qp "gap"=some kL by decide+kernel] at h
   obtain⟨ds,hd,hm⟩:=Option.bind_eq_some_iff.mp h
   unfold kL at hd
   obtain⟨z1,_,d1,_,rfl,rfl,g1,hd⟩:=qk hd
   obtain⟨rfl,rfl⟩:=xO hd
   obtain⟨n,rfl,hn⟩:=qA9 g1
   have hm:(if ("gap":Str)="gap" then some (Im.gap n) else some (Im.mix n))=some (Im.gap l):=hm
   rw [if_pos rfl] at hm
   cases hm
   exact(qIj hn).1
 · rw [show qp "mix"=some kL by decide+kernel] at h
   obtain⟨ds,hd,hm⟩:=Option.bind_eq_some_iff.mp h
   unfold kL at hd
   obtain⟨z1,_,d1,_,rfl,rfl,g1,hd⟩:=qk hd
   obtain⟨rfl,rfl⟩:=xO hd
   obtain⟨n,rfl,hn⟩:=qA9 g1
   have hm:(if ("mix":Str)="gap" then some (Im.gap n) else some (Im.mix n))=some (Im.gap l):=hm
   rw [if_neg (by decide+kernel)] at hm
   cases hm
 · rw [h'] at h;cases h
theorem qHz {zs:List Str}{ms:List Im}(h:kJ zs=some ms):qKr ms:=fun l hl=>by
 obtain⟨z,_,hz⟩:=qFs h hl
 unfold itO at hz
 split at hz
 · cases hz
 · exact qIu hz
def TrO (z:Str)(ms:List Im):Prop:=(z=""∧ms=[])∨(z≠""∧kJ (Txt.split z "; ")=some ms∧ke ms)
inductive v6 (K:W.Frag)(N:Addr)(vs:List V)(H:Hp)(Q:VK)(E:XK):Prop
| mk (x:V) (_:vs=[x]) (_:((∃ z:Str,x= .str z∧z.length≤70000∧(∀ ms y H',TrO z ms→Same H H'→H y=none→Tr H' y ms→Q (.ref y) H')∧((∀ ms,¬ TrO z ms)→∀ H',Same H H'→E (.ref N) none H'))∨(∃ t,vq K H x t∧W.kitOne K t (.type "str")=some false∧E (.ref N) none H)))
theorem zS [hW:WP w a] (T:Tx K mg a):FnOk P w K mg base (CXR P w) 8 a.A24 a.B24 ["text"] (v6 K a.k_NoText):=by
 refine okX T.D24.F zn (fun vs H Q E h=>?_) (fun cdv A outer s H vs Q E hr h=>?_)
 · obtain⟨x,rfl,_⟩:=h
   rfl
 refine qO fun _ Y=>?_
 obtain⟨x,rfl,h⟩:=h
 apply Y
 refine⟨_,(qD (xD (jN T.D14 (jb T) hr rfl (qA (pv 0) qB)))
  (qD (qd (qH jC (pv 0) qJ (qM _)) (qG (qK (jH qB))) qL)
  (qD (qF3 (i:=1) [] [] zn.nd rfl rfl rfl (xC (jt F.plainAttrs_str F.slot_str_split F.type_str_split xP (pv 0) (qA qJ qB))) (fun _ _ _ _=>(qCj T.D23 (zx (hW:=hW) T) hr rfl (qA (pv 0) qB))))
  (qD (qd (zR (jf (qW T.D7 (ka T) hr rfl (qA (pv 1) qB)))) (qG (j8 rfl rfl T.c_NoText T.x_NoText (qA qJ qB))) qL)
  (qG (qK (pv 1))))))),?_⟩
 try dsimp only [xU,qz]
 rcases h with ⟨z,rfl,hz,kg,kb⟩ | ⟨t,ty,e,kb⟩
 rotate_left
 · exact⟨_,rfl,x,t,false,rfl,ty,e,(fun z=>by cases z),fun _=>kb⟩
 refine⟨_,rfl,_,_,true,rfl,.str z,by kernel_rfl,(fun _=>?_),(fun z=>by cases z)⟩
 refine⟨_,rfl,rfl,_,rfl,?_⟩
 rw [qAh]
 by_cases h0:z=""
 · rw [decide_eq_true h0]
   exact qt ⟨sL0,fun y hy=>kg [] y _ (.inl ⟨h0,rfl⟩) (qE hy _) hy ⟨[],qC,trivial⟩⟩
 rw [decide_eq_false h0]
 refine ql ?_
 refine⟨_,rfl,rfl,_,_,rfl,rfl,(by decide+kernel),Nat.le_of_lt (qV (by omega)),fun zp hzp=>?_⟩
 have hm:∀ p∈Txt.split z "; ",p.length≤80000:=fun p hp=>Nat.le_trans (zz hp) (by omega)
 have hc:(Txt.split z "; ").length≤70002:=by
  have:=zA (x:=z) (y:="; ") (by decide+kernel)
  have e1:("; ":Str).length=2:=by decide+kernel
  omega
 have hO:∀ ms,TrO z ms↔(kJ (Txt.split z "; ")=some ms∧ke ms):=fun ms=>⟨fun h=>by
  rcases h with h | h
  · exact absurd h.1 h0
  · exact h.2,fun h=>.inr ⟨h0,h⟩⟩
 generalize Txt.split z "; "=ps at hm hc hO ⊢
 have w1:=qE hzp (.lst (ps.map V.str))
 have ep:SqL K (upd H zp (.lst (ps.map V.str))) zp (ps.map V.str):=SqL.of qC
 generalize upd H zp (.lst (ps.map V.str))=H1 at w1 ep ⊢
 have epl:(ps.map V.str).length=ps.length:=List.length_map _
 refine⟨zp,rfl,⟨_,ep⟩,jy (K:=K) (a:=zp) (xs:=ps.map V.str) (fun i acc H'=>Same H1 H'∧∃ ms,IsIs H' ms acc∧acc.length=i∧kJ (ps.take i)=some ms) ⟨Same.refl _,[],trivial,rfl,rfl⟩ ?_ ?_ ?_⟩
 · rintro i acc H' hi ⟨s1,ms,_,hal,_⟩
   exact⟨s1.seq ep,qV (by omega)⟩
 · rintro i x acc H' hi hx ⟨s1,ms,hd,hal,hw⟩
   rw [List.getElem?_map] at hx
   refine qO fun _ Y=>?_
   obtain⟨p,hp,rfl⟩:=Option.map_eq_some_iff.mp hx
   apply Y
   refine⟨_,rfl,_,rfl,.inl ⟨p,rfl,hm p (List.mem_of_getElem? hp),fun m v H2 hmO s2 hv=>?_,fun hn H2 s2=>?_⟩⟩
   · refine Nxt.mk hi ⟨s1.trans s2,ms++[m],(hd.ts (qh s2)).app (.one hv),by rw [List.length_append,hal];rfl,?_⟩
     rw [List.take_add_one,hp]
     exact qCx hw hmO
   · refine kb (fun ms' h=>?_) H2 ((w1.trans s1).trans s2)
     have:=((hO ms').mp h).1
     rw [qCo hp hn] at this
     cases this
 rintro acc H2 ⟨s1,ms,hd,hal,hw⟩ D hD
 rw [epl,List.take_length] at hw
 have w2:=qE hD (.lst acc)
 have hD1:H D=none:=by
  cases e:H D with
  | none=>rfl
  | some o=>rw [s1 _ _ (w1 _ _ e)] at hD;cases hD
 have tT:Tr (upd H2 D (.lst acc)) D ms:=⟨acc,qC,hd.ts (qh w2)⟩
 have w3:=(w1.trans s1).trans w2
 have hml:ms.length≤75000:=by rw [← hd.len];omega
 generalize upd H2 D (.lst acc)=H3 at tT w3 ⊢
 refine⟨_,rfl,D,ms,rfl,tT,hml,qHz hw,fun H4 s4=>⟨fun hf=>⟨_,rfl,ql ?_⟩,fun hf=>⟨_,rfl,qt ⟨sL1,?_⟩⟩⟩⟩
 · exact⟨_,rfl,kg ms D H4 ((hO ms).mpr ⟨hw,hf⟩) (w3.trans s4) hD1 (tT.same s4)⟩
 · refine kb (fun ms' h=>?_) H4 (w3.trans s4)
   have h':=(hO ms').mp h
   rw [hw] at h'
   cases h'.1
   exact hf h'.2
def wdS:Wd→Str
 | .nm z=>z
 | .fr p q=>shF p q
 | .nu n=>Str.ofString (toString n)
def WdB:Wd→Prop
 | .nm z=>z.length≤130
 | .fr p q=>p.natAbs < 10 ^ 60∧q.natAbs < 10 ^ 60
 | .nu n=>n.natAbs < 10 ^ 60
theorem xX (x y:Str):(x++y).length=x.length+y.length:=Array.size_append ..
theorem qFc:∀ {d:Wd},WdB d→(wdS d).length≤130
 | .nm _,h=>h
 | .fr p q,⟨h1,h2⟩=>by
  have l1:=qAs h1
  have l2:=qAs h2
  have ls:("/":Str).length=1:=by decide+kernel
  show (shF p q).length≤130
  unfold shF
  split
  · show (Str.ofString (toString p)).length≤130;omega
  · rw [xX,xX];omega
 | .nu n,h=>by
  have l1:=qAs (p:=n) h
  show (Str.ofString (toString n)).length≤130
  omega
inductive qA0 (K:W.Frag)(vs:List V)(H:Hp)(Q:VK)(_:XK):Prop
| mk (d:Wd) (v:V) (_:vs=[v]) (_:WdIs H d v) (_:WdB d) (_:Q (.str (wdS d)) H)
theorem qBb (T:Tx K mg a):FnOk P w K mg base CX0 3 a.A10 a.B10 ["part"] (qA0 K):=by
 refine T.D10.F.ok qA6 (fun vs H Q E h=>?_) (fun cdv A outer s H vs Q E hr h=>?_)
 · obtain⟨d,v,rfl,_⟩:=h
   rfl
 refine qO fun _ Y=>?_
 obtain⟨d,v,rfl,hd,hb,q⟩:=h
 apply Y
 refine⟨_,(qD (qd (jf (qN jV rfl T.b_isinstance rfl (qA (pv 0) (qA (qD0 rfl T.b_tuple rfl) qB)))) (qG (qK (qW T.D9 (xb T) hr rfl (qA (pv 0) qB)))) qL)
  (qG (qK (qf qBk rfl T.b_str rfl (qA (pv 0) qB))))),?_⟩
 try dsimp only [xU,qz]
 cases d with
 | nm z=>
  cases hd
  refine⟨_,rfl,_,_,_,false,rfl,.str z,⟨_,.inl ⟨rfl,by kernel_rfl⟩⟩,false,rfl,ql ?_⟩
  exact⟨_,rfl,.inr ⟨z,rfl,q⟩⟩
 | fr x y=>
  refine qO fun _ Y=>?_
  obtain⟨z,rfl,hz⟩:=hd
  apply Y
  refine⟨_,rfl,_,_,_,true,rfl,.tup hz,⟨_,.inl ⟨rfl,by kernel_rfl⟩⟩,true,rfl,qt ?_⟩
  exact⟨_,rfl,_,x,y,rfl,⟨z,rfl,SqT.of hz⟩,hb.1,hb.2,q⟩
 | nu n=>
  cases hd
  refine⟨_,rfl,_,_,_,false,rfl,.int n,⟨_,.inl ⟨rfl,by kernel_rfl⟩⟩,false,rfl,ql ?_⟩
  exact⟨_,rfl,.inl ⟨n,rfl,qB6 hb,q⟩⟩
theorem WdsIs.get {H:Hp}:∀ {ds:List Wd} {vs:List V} {i:Nat} {v:V},WdsIs H ds vs→vs[i]? =some v→∃ d,ds[i]? =some d∧WdIs H d v
 | [],[],_,_,_,h=>by simp at h
 | m::_,x::_,0,v,h,e=>by
  have e':x=v:=by simpa using e
  subst e'
  exact⟨m,rfl,h.1⟩
 | _::ms,_::vs,i+1,v,h,e=>by
  obtain⟨m,h1,h2⟩:=WdsIs.get (i:=i) h.2 (by simpa using e)
  exact⟨m,by simpa using h1,h2⟩
 | [],_::_,_,_,h,_=>h.elim
 | _::_,[],_,_,h,_=>h.elim
theorem qCq (sep:Str){B:Nat}:∀ {l:List Str},(∀ x∈l,x.length≤B)→xa sep l≤l.length*(B+sep.length)
 | [],_=>by unfold xa;simp
 | x::l,h=>by
  have e:xa sep (x::l)=xa sep [x]+xa sep l:=jv sep [x] l
  have ih:=qCq sep (l:=l) fun y hy=>h y (List.mem_cons_of_mem _ hy)
  have hx:=h x List.mem_cons_self
  rw [e,vJ,List.length_cons,Nat.succ_mul]
  omega
inductive qAc (K:W.Frag)(vs:List V)(H:Hp)(Q:VK)(_:XK):Prop
| mk (z:Addr) (ds:List Wd) (us:List V) (_:vs=[.ref z]) (_:H z=some (.tup us)) (_:WdsIs H ds us) (_:(∀ d∈ds,WdB d)) (_:ds.length≤10) (_:∀ H',Same H H'→Q (.str (Str.join " " (ds.map wdS))) H')
theorem qAi (T:Tx K mg a):FnOk P w K mg base CX0 4 a.A11 a.B11 ["parts"] (qAc K):=by
 refine T.D11.F.ok qAw (fun vs H Q E h=>?_) (fun cdv A outer s H vs Q E hr h=>?_)
 · obtain⟨z,ds,us,rfl,_⟩:=h
   rfl
 refine qO fun _ Y=>?_
 obtain⟨z,ds,us,rfl,hz,hd,hb,hl,kk⟩:=h
 apply Y
 refine⟨_,(qG (qK (jt F.plainAttrs_str F.slot_str_join F.type_str_join j9 qJ (qA (jp [] [] rfl (qEa (pv 0)) (fun _ _ _ _=>(qW T.D10 (qBb T) hr rfl (qA (pv 0) qB)))) qB)))),?_⟩
 try dsimp only [xU,qz]
 have hul:=hd.len
 refine⟨rfl,_,rfl,z,rfl,⟨_,SqT.of hz⟩,qAe (K:=K) (a:=z) (xs:=us) (fun i acc H'=>H'=H∧acc=((ds.take i).map wdS).map V.str) ⟨rfl,rfl⟩ ?_ ?_ ?_⟩
 · rintro i acc H' hi ⟨rfl,rfl⟩
   exact⟨SqT.of hz,qV (by simp;omega)⟩
 · rintro i x acc H' hi hx ⟨rfl,rfl⟩
   refine qO fun _ Y=>?_
   obtain⟨d,hd1,hd2⟩:=hd.get hx
   apply Y
   refine⟨_,rfl,d,x,rfl,hd2,hb d (List.mem_of_getElem? hd1),Nxt.mk hi ⟨rfl,?_⟩⟩
   rw [List.take_add_one,hd1,List.map_append,List.map_append]
   rfl
 · rintro acc H' ⟨rfl,rfl⟩ D hD
   rw [hul,List.take_length]
   have hB:=kI (sep:=" ") (l:=ds.map wdS) (by
    have:=qCq " " (B:=130) (l:=ds.map wdS) (fun x hx=>by
     obtain⟨d,h1,rfl⟩:=List.mem_map.mp hx
     exact qFc (hb d h1))
    have e1:(" ":Str).length=1:=by decide+kernel
    rw [List.length_map,e1] at this
    omega)
   refine⟨_,D,_,rfl,rfl,SqL.of qC,hB.1,hB.2,?_⟩
   rw [zN]
   exact kk _ (qE hD _)
def imW:Im→List Wd
 | .clip n p q r s l=>[.nm "clip",.nm n,.fr p q,.fr r s,.nu l]
 | .nest n b l=>[.nm "nest",.nm n,.nu b,.nu l]
 | .gap l=>[.nm "gap",.nu l]
 | .mix l=>[.nm "mix",.nu l]
def ImB (m:Im):Prop:=∀ d∈imW m,WdB d
def itS (m:Im):Str:=Str.join " " ((imW m).map wdS)
def trS (ms:List Im):Str:=Str.join "; " (ms.map itS)
theorem qFl {H:Hp}{m:Im}{v:V}(h:IsI H m v):∃ z us,v= .ref z∧H z=some (.tup us)∧WdsIs H (imW m) us:=by
 cases m with
 | clip n p q r s l=>obtain⟨z,x,y,rfl,hz,hx,hy⟩:=h;exact⟨z,_,rfl,hz,rfl,rfl,⟨x,rfl,hx⟩,⟨y,rfl,hy⟩,rfl,trivial⟩
 | nest n b l=>obtain⟨z,rfl,hz⟩:=h;exact⟨z,_,rfl,hz,rfl,rfl,rfl,rfl,trivial⟩
 | gap l=>obtain⟨z,rfl,hz⟩:=h;exact⟨z,_,rfl,hz,rfl,rfl,trivial⟩
 | mix l=>obtain⟨z,rfl,hz⟩:=h;exact⟨z,_,rfl,hz,rfl,rfl,trivial⟩
theorem qAu (m:Im):(imW m).length≤5:=by cases m <;> simp [imW]
theorem qKx:(" ":Str).length=1:=by decide+kernel
theorem qLl:("; ":Str).length=2:=by decide+kernel
theorem qDa {ds:List Wd}(hb:∀ d∈ds,WdB d):xa " " (ds.map wdS)≤ds.length*131:=by
 have:=qCq " " (B:=130) (l:=ds.map wdS) (fun x hx=>by
  obtain⟨d,h1,rfl⟩:=List.mem_map.mp hx
  exact qFc (hb d h1))
 rw [List.length_map,qKx] at this
 exact this
theorem qE0 {m:Im}(hb:ImB m):(itS m).length≤655:=by
 have h1:=wm " " ((imW m).map wdS)
 have h2:=qDa hb
 have h3:=qAu m
 unfold itS
 have:(imW m).length*131≤5*131:=Nat.mul_le_mul_right _ h3
 omega
theorem qCg {ms:List Im}(hb:∀ m∈ms,ImB m):xa "; " (ms.map itS)≤ms.length*657:=by
 have:=qCq "; " (B:=655) (l:=ms.map itS) (fun x hx=>by
  obtain⟨d,h1,rfl⟩:=List.mem_map.mp hx
  exact qE0 (hb d h1))
 rw [List.length_map,qLl] at this
 exact this
inductive qBi (vs:List V)(H:Hp)(Q:VK)(_:XK):Prop
| mk (v:V) (m:Im) (_:vs=[v]) (_:IsI H m v) (_:ImB m) (_:∀ H',Same H H'→Q (.str (itS m)) H')
theorem x8 (T:Tx K mg a):FnOk P w K mg base CX0 5 a.A12 a.B12 ["item"] qBi:=by
 refine T.D12.F.ok qBw (fun vs H Q E h=>?_) (fun cdv A outer s H vs Q E hr h=>?_)
 · obtain⟨v,m,rfl,_⟩:=h
   rfl
 refine qO fun _ Y=>?_
 obtain⟨v,m,rfl,hI,hb,kk⟩:=h
 apply Y
 refine⟨_,(qG (qK (qW T.D11 (qAi T) hr rfl (qA (pv 0) qB)))),?_⟩
 try dsimp only [xU,qz]
 refine qO fun _ Y=>?_
 obtain⟨z,us,rfl,hz,hd⟩:=qFl hI
 apply Y
 exact⟨_,rfl,z,imW m,us,rfl,hz,hd,hb,by have:=qAu m;omega,fun H' s1=>kk H' s1⟩
inductive wo (vs:List V)(H:Hp)(Q:VK)(_:XK):Prop
| mk (z:Addr) (ms:List Im) (_:vs=[.ref z]) (_:Tr H z ms) (_:(∀ m∈ms,ImB m)) (_:ms.length≤30) (_:∀ H',Same H H'→Q (.str (trS ms)) H')
theorem wj (T:Tx K mg a):FnOk P w K mg base CX0 6 a.A13 a.B13 ["track"] wo:=by
 refine T.D13.F.ok wv (fun vs H Q E h=>?_) (fun cdv A outer s H vs Q E hr h=>?_)
 · obtain⟨z,ms,rfl,_⟩:=h
   rfl
 refine qO fun _ Y=>?_
 obtain⟨z,ms,rfl,⟨xs,hz,his⟩,hb,hl,kk⟩:=h
 apply Y
 refine⟨_,(qG (qK (jt F.plainAttrs_str F.slot_str_join F.type_str_join j9 qJ (qA (jp [] [] rfl (xC (pv 0)) (fun _ _ _ _=>(qW T.D12 (x8 T) hr rfl (qA (pv 0) qB)))) qB)))),?_⟩
 try dsimp only [xU,qz]
 have hxl:=his.len
 refine⟨rfl,_,rfl,z,rfl,⟨_,SqL.of hz⟩,jy (K:=K) (a:=z) (xs:=xs) (fun i acc H'=>Same H H'∧acc=((ms.take i).map itS).map V.str) ⟨Same.refl _,rfl⟩ ?_ ?_ ?_⟩
 · rintro i acc H' hi ⟨s1,rfl⟩
   exact⟨SqL.of (s1 _ _ hz),qV (by simp;omega)⟩
 · rintro i x acc H' hi hx ⟨s1,rfl⟩
   refine qO fun _ Y=>?_
   obtain⟨m,hm,hI⟩:=his.get hx
   apply Y
   refine⟨_,rfl,x,m,rfl,hI.ts (qh s1),hb m (List.mem_of_getElem? hm),fun H2 s2=>Nxt.mk hi ⟨s1.trans s2,?_⟩⟩
   rw [List.take_add_one,hm,List.map_append,List.map_append]
   rfl
 · rintro acc H' ⟨s1,rfl⟩ D hD
   rw [hxl,List.take_length]
   have hB:=kI (sep:="; ") (l:=ms.map itS) (by have:=qCg hb;omega)
   refine⟨_,D,_,rfl,rfl,SqL.of qC,hB.1,hB.2,?_⟩
   rw [zN]
   exact kk _ (s1.trans (qE hD _))
inductive wZ (K:W.Frag)(vs:List V)(H:Hp)(Q:VK)(_:XK):Prop
| mk (z:Addr) (p q:Int) (_:vs=[.ref z]) (_:H z=some (.tup [.int p,.int q])) (_:p.natAbs < 10 ^ 60) (_:q.natAbs < 10 ^ 60) (_:Q (.str (shF p q)) H)
theorem zt (T:Tx K mg a):FnOk P w K mg base CX0 1 a.A29 a.B29 ["_law_one"] (wZ K):=by
 refine T.D29.F.ok wy (fun vs H Q E h=>?_) (fun cdv A outer s H vs Q E hr h=>?_)
 · obtain⟨z,p,q,rfl,_⟩:=h
   rfl
 refine qO fun _ Y=>?_
 obtain⟨z,p,q,rfl,hz',hp,hq,k⟩:=h
 apply Y
 have hz:SqT K H z [.int p,.int q]:=SqT.of hz'
 refine⟨_,(qD (qd (qH jC (jT (pv 0)) qF (qM _)) (qG (qK (qf jg rfl T.b_str rfl (qA (jT (pv 0)) qB)))) qL)
  (qG (qK (qP jX (qP jX (qf jg rfl T.b_str rfl (qA (jT (pv 0)) qB)) qJ) (qf jg rfl T.b_str rfl (qA (jT (pv 0)) qB)))))),?_⟩
 try dsimp only [xU,qz]
 refine⟨_,rfl,_,_,_,_,rfl,rfl,hz,at1,rfl,_,rfl,qAy (fun c=>?_) (fun c=>?_)⟩
 · have:q=1:=by simpa using c
   unfold shF at k
   rw [if_pos this] at k
   exact⟨_,rfl,_,_,_,_,rfl,rfl,hz,at0,p,rfl,qB6 hp,k⟩
 · have:q≠1:=by simpa using c
   unfold shF at k
   rw [if_neg this] at k
   have l1:=qAs hp
   have l2:=qAs hq
   have ls:("/":Str).length=1:=by decide+kernel
   refine⟨_,rfl,_,_,_,_,rfl,rfl,hz,at0,p,rfl,qB6 hp,_,_,rfl,rfl,?_,?_⟩
   · exact Nat.le_of_lt (qV (by rw [ls];omega))
   refine⟨_,rfl,_,_,_,_,rfl,rfl,hz,at1,q,rfl,qB6 hq,_,_,rfl,rfl,?_,k⟩
   rw [xX]
   exact Nat.le_of_lt (qV (by omega))
inductive kZ (vs:List V)(H:Hp)(Q:VK)(_:XK):Prop
| mk (v:V) (m:Im) (_:vs=[v]) (_:IsI H m v) (_:ImB m) (_:∀ H',Same H H'→Q (.str (itS m)) H')
theorem xK (T:Tx K mg a):FnOk P w K mg base CX0 2 a.A30 a.B30 ["_law_item"] kZ:=by
 refine T.D30.F.ok kU (fun vs H Q E h=>?_) (fun cdv A outer s H vs Q E hr h=>?_)
 · obtain⟨v,m,rfl,_⟩:=h
   rfl
 refine qO fun _ Y=>?_
 obtain⟨v,m,rfl,hI,hb,kk⟩:=h
 apply Y
 refine⟨_,(qD (qd (qH jC (jT (pv 0)) qJ (qM _)) (qG (qK (jt F.plainAttrs_str F.slot_str_join F.type_str_join j9 qJ (qA (jH (qA qJ (qA (jT (pv 0)) (qA (qW T.D29 (zt T) hr rfl (qA (jT (pv 0)) qB)) (qA (qW T.D29 (zt T) hr rfl (qA (jT (pv 0)) qB)) (qA (qf jg rfl T.b_str rfl (qA (jT (pv 0)) qB)) qB)))))) qB)))) qL)
  (qG (qK (jt F.plainAttrs_str F.slot_str_join F.type_str_join j9 qJ (qA (jp [] [] rfl (qEa (pv 0)) (fun _ _ _ _=>(qf qBk rfl T.b_str rfl (qA (pv 0) qB)))) qB))))),?_⟩
 try dsimp only [xU,qz]
 have hB:=kI (sep:=" ") (l:=(imW m).map wdS) (by have:=qDa hb;have:=qAu m;omega)
 refine qO fun _ Y=>?_
 obtain⟨z,xs,rfl,hz,h0,_⟩:=hI.opn
 apply Y
 refine⟨_,rfl,z,_,_,_,rfl,rfl,SqT.of hz,h0,rfl,_,rfl,?_⟩
 rw [qAh]
 by_cases hc:m.wd="clip"
 · rw [decide_eq_true hc]
   refine qt ?_
   cases m with
   | clip n p q r s l=>
    refine qO fun _ Y=>?_
    obtain⟨z',x,y,e,hz,hx,hy⟩:=hI
    cases e
    apply Y
    have t:=SqT.of (K:=K) hz
    have b1:WdB (.fr p q):=hb _ (by simp [imW])
    have b2:WdB (.fr r s):=hb _ (by simp [imW])
    have b3:WdB (.nu l):=hb _ (by simp [imW])
    refine⟨rfl,_,rfl,z,_,_,_,rfl,rfl,t,rfl,_,rfl,z,_,_,_,rfl,rfl,t,rfl,x,p,q,rfl,hx,b1.1,b1.2,_,rfl,z,_,_,_,rfl,rfl,t,rfl,y,r,s,rfl,hy,b2.1,b2.2,_,rfl,z,_,_,_,rfl,rfl,t,rfl,l,rfl,qB6 b3,sL5,fun D hD=>?_⟩
    refine⟨_,D,(imW (.clip n p q r s l)).map wdS,rfl,rfl,SqL.of qC,hB.1,hB.2,?_⟩
    rw [zN]
    exact kk _ (qE hD _)
   | nest=>exact absurd (show ("nest":Str)="clip" from hc) (by decide+kernel)
   | gap=>exact absurd (show ("gap":Str)="clip" from hc) (by decide+kernel)
   | mix=>exact absurd (show ("mix":Str)="clip" from hc) (by decide+kernel)
 · rw [decide_eq_false hc]
   refine ql ?_
   refine qO fun _ Y=>?_
   obtain⟨z',us,e,hz',hd⟩:=qFl hI
   cases e
   rw [hz] at hz'
   cases hz'
   apply Y
   have hul:=hd.len
   have nofr:∀ d∈imW m,∀ p q,d≠ .fr p q:=fun d hd p q e=>by
    subst e
    cases m with
    | clip=>exact hc rfl
    | _=>simp [imW] at hd
   refine⟨rfl,_,rfl,z,rfl,⟨_,SqT.of hz⟩,qAe (K:=K) (a:=z) (xs:=xs) (fun i acc H'=>H'=H∧acc=(((imW m).take i).map wdS).map V.str) ⟨rfl,rfl⟩ ?_ ?_ ?_⟩
   · rintro i acc H' hi ⟨rfl,rfl⟩
     exact⟨SqT.of hz,qV (by have:=qAu m;simp;omega)⟩
   · rintro i x acc H' hi hx ⟨rfl,rfl⟩
     refine qO fun _ Y=>?_
     obtain⟨d,hd1,hd2⟩:=hd.get hx
     apply Y
     have hdm:=List.mem_of_getElem? hd1
     have fin:Nxt xs.length i (H'=H'∧(((imW m).take i).map wdS).map V.str++[V.str (wdS d)]=(((imW m).take (i+1)).map wdS).map V.str):=Nxt.mk hi ⟨rfl,by
      rw [List.take_add_one,hd1,List.map_append,List.map_append]
      rfl⟩
     cases d with
     | nm s=>cases hd2;exact⟨_,rfl,.inr ⟨_,rfl,fin⟩⟩
     | fr p q=>exact absurd rfl (nofr _ hdm p q)
     | nu n=>cases hd2;exact⟨_,rfl,.inl ⟨n,rfl,qB6 (hb _ hdm),fin⟩⟩
   · rintro acc H' ⟨rfl,rfl⟩ D hD
     rw [hul,List.take_length]
     refine⟨_,D,_,rfl,rfl,SqL.of qC,hB.1,hB.2,?_⟩
     rw [zN]
     exact kk _ (qE hD _)
def vw:Option Int→V
 | none=>.non
 | some n=>.int n
theorem qDp (x:Str):decide (V.str (Txt.slice x none (some 1))=V.str "-")=decide (x.cps.toList.head?=some 45):=by
 have hl:x.cps.toList.length=x.length:=Array.length_toList
 have ed:("-":Str).cps.toList=[45]:=by decide+kernel
 rw [qAh,Bool.eq_iff_iff,decide_eq_true_eq,decide_eq_true_eq]
 cases hx:x.cps.toList with
 | nil=>
  have h0:x.length=0:=by rw [hx] at hl;simpa using hl.symm
  have hs:=Txt.slice_le x none (some 1)
  constructor
  · intro e
    rw [e,h0] at hs
    exact absurd hs (by decide+kernel)
  · intro e;cases e
 | cons c t=>
  have h1:1≤x.length:=by rw [hx,List.length_cons] at hl;omega
  have hst:(Txt.slice x none (some 1)).cps.toList=[c]:=by
   have:=qF8 (x:=x) (j:=1) h1
   rw [hx] at this
   exact this
  constructor
  · intro e
    rw [e,ed] at hst
    have:45=c:=by simpa using hst
    rw [← this];rfl
  · intro e
    have:c=45:=by simpa using e
    apply zB
    rw [hst,this,ed]
theorem qMz (x:Str):decide (V.str x=V.str "")=x.cps.toList.isEmpty:=by
 rw [qAh,Bool.eq_iff_iff,decide_eq_true_eq,List.isEmpty_iff]
 have ee:("":Str).cps.toList=[]:=by decide+kernel
 constructor
 · intro e;rw [e,ee]
 · intro e;apply zB;rw [e,ee]
inductive wD (vs:List V)(H:Hp)(Q:VK)(_:XK):Prop
| mk (z:Str) (lv:V) (_:vs=[.str z,lv]) (_:z.length≤90000) (_:∀ H',Same H H'→((lv= .non∧Q (vw (zd z.cps.toList)) H')∨∃ m:Int,lv= .int m∧Q (vw (jI m z.cps.toList)) H'))
theorem jB (T:Tx K mg a):FnOk P w K mg base CX0 1 a.A35 a.B35 ["_law_text","_law_least"] wD:=by
 refine T.D35.F.ok xB (fun vs H Q E h=>?_) (fun cdv A outer s H vs Q E hr h=>?_)
 · obtain⟨z,lv,rfl,_⟩:=h
   rfl
 refine qO fun _ Y=>?_
 obtain⟨z,lv,rfl,hz,kk⟩:=h
 apply Y
 have kn:zd z.cps.toList=none→∀ H',Same H H'→Q .non H':=fun e H' s=>by
  rcases kk H' s with ⟨_,q⟩ | ⟨m,_,q⟩
  · rw [e] at q;exact q
  · unfold jI at q;rw [e] at q;exact q
 refine⟨_,(qD (qg 2 xB.nd (pv 0))
  (qD (jP (qd (qH jC (qr vY (pv 0) jK (jD qF)) qJ (qM _)) (qG (qg 2 xB.nd (qr vY (pv 0) (jD qF) jK))) qL))
  (qD (jP (qd (PW.pt (xM (qH jC (pv 2) qJ (qM _)) (xM (qH qEk (qN jF rfl T.b_len rfl (qA (pv 2) qB)) qF (qM _)) (je (PW.pt (j1 (qH jC (qj qHb (pv 2) qF (fun _ _=>rfl)) qJ (qM _)) (j2 (qH kD (pv 0) qJ (qM _))))))))) (qG (qK xl)) qL))
  (qD (qd (PW.pt (xM (jf (qN (vZ rfl) rfl T.b_any rfl (qA (jp [] [] rfl (qDb (pv 2)) (fun _ _ _ _=>(xR qE7 (pv 0) qJ rfl))) qB))) (je (PW.pt (j1 (vm (qEp (pv 1))) (j2 (qH qB1 (qf qi rfl T.b_int rfl (qA (pv 0) qB)) (pv 1) (qM _)))))))) (qG (qK xl)) qL)
  (qG (qK (qf qi rfl T.b_int rfl (qA (pv 0) qB)))))))),?_⟩
 try dsimp only [xU,qz]
 have hl:z.cps.toList.length=z.length:=Array.length_toList
 have hsz:z.length≤sizeLine:=Nat.le_of_lt (qV (by omega))
 refine⟨_,rfl,fun σ H'=>∃ sg:Str,σ=[some (.str z),some lv,some (.str sg)]∧H'=H∧sg.cps.toList=jq z.cps.toList∧sg.length≤90000,?_,?_⟩
 · refine⟨_,rfl,_,rfl,z,rfl,hsz,rfl,_,rfl,?_⟩
   rw [qDp]
   refine qAy (fun c=>?_) (fun c=>?_)
   · have c':z.cps.toList.head?=some 45:=by simpa using c
     exact⟨_,rfl,_,rfl,z,rfl,hsz,_,rfl,rfl,qHc z c',Nat.le_trans (Txt.slice_le _ _ _) (by omega)⟩
   · have c':¬ z.cps.toList.head?=some 45:=by simpa using c
     exact⟨z,rfl,rfl,by unfold jq;rw [if_neg c'],by omega⟩
 rintro σ H1 ⟨sg,rfl,rfl,hsg,hs8⟩
 have hsl:sg.cps.toList.length=sg.length:=Array.length_toList
 have no:∀ {A:Prop},(((jq z.cps.toList).isEmpty || decide (60 < (jq z.cps.toList).length) || ((jq z.cps.toList).head? == some 48 && z.cps.toList != [48]) || !((jq z.cps.toList).all qAp))=true)→zd z.cps.toList=none:=fun h=>by unfold zd;rw [if_pos h]
 refine⟨fun σ H'=>σ=[some (.str z),some lv,some (.str sg)]∧H'=H1∧jq z.cps.toList≠[]∧(jq z.cps.toList).length≤60∧¬ ((jq z.cps.toList).head?=some 48∧z.cps.toList≠[48]),?_,?_⟩
 · refine⟨_,rfl,rfl,_,rfl,?_⟩
   rw [qMz,hsg]
   by_cases h1:(jq z.cps.toList).isEmpty=true
   · rw [h1]
     have e:zd z.cps.toList=none:=no (A:=True) (by rw [h1];rfl)
     exact qt (qt (kn e _ (Same.refl _)))
   have h1':(jq z.cps.toList).isEmpty=false:=by simpa using h1
   rw [h1']
   refine ql ⟨_,rfl,sg,rfl,Nat.le_of_lt (qV (by omega)),_,_,rfl,rfl,_,rfl,?_⟩
   by_cases h2:(60:Int) < (sg.length:Int)
   · rw [decide_eq_true h2]
     have h2':60 < (jq z.cps.toList).length:=by rw [← hsg,hsl];omega
     have e:zd z.cps.toList=none:=no (A:=True) (by rw [h1',decide_eq_true h2'];simp)
     exact qt (qt (kn e _ (Same.refl _)))
   rw [decide_eq_false h2]
   have h2':¬ 60 < (jq z.cps.toList).length:=by rw [← hsg,hsl];omega
   refine qO fun _ Y=>?_
   obtain⟨c0,t0,hct⟩:∃ c t,jq z.cps.toList=c::t:=by
    cases hf:jq z.cps.toList with
    | nil=>rw [hf] at h1';cases h1'
    | cons c t=>exact⟨c,t,rfl⟩
   apply Y
   have at0':atI sg.cps.toList 0=some c0:=by rw [hsg,hct];exact j3 (xs:=c0::t0) (j:=0) rfl
   have z48:decide (V.str (⟨#[c0]⟩:Str)=V.str "0")=decide (c0=48):=by
    rw [qAh,Bool.eq_iff_iff,decide_eq_true_eq,decide_eq_true_eq]
    have e0:("0":Str)=⟨#[48]⟩:=by decide+kernel
    rw [e0]
    constructor
    · intro e;have:=congrArg (fun s:Str=>s.cps.toList) e;simpa using this
    · intro e;rw [e]
   have z0:decide (V.str z=V.str "0")=decide (z.cps.toList=[48]):=by
    rw [qAh,Bool.eq_iff_iff,decide_eq_true_eq,decide_eq_true_eq]
    have e0:("0":Str).cps.toList=[48]:=by decide+kernel
    constructor
    · intro e;rw [e,e0]
    · intro e;apply zB;rw [e,e0]
   refine ql ⟨_,rfl,sg,_,c0,rfl,rfl,Nat.le_of_lt (qV (by omega)),at0',rfl,_,rfl,?_⟩
   rw [z48]
   by_cases h48:c0=48
   · rw [decide_eq_true h48]
     refine qt ⟨_,rfl,rfl,_,rfl,?_⟩
     rw [z0]
     by_cases hz48:z.cps.toList=[48]
     · rw [decide_eq_true hz48]
       exact ql ⟨rfl,rfl,by rw [hct];simp,by omega,fun k=>k.2 hz48⟩
     · rw [decide_eq_false hz48]
       have e:zd z.cps.toList=none:=no (A:=True) (by rw [hct,h48];simp [hz48])
       exact qt (kn e _ (Same.refl _))
   · rw [decide_eq_false h48]
     exact ql (ql ⟨rfl,rfl,by rw [hct];simp,by omega,fun k=>h48 (by have:=k.1;rw [hct] at this;simpa using this)⟩)
 rintro σ H2 ⟨rfl,rfl,hn1,hn2,h3⟩
 refine⟨_,rfl,sg,rfl,vF (fun i acc H'=>H'=H2∧acc=((sg.cps.toList.take i).map fun c=>!qAp c).map V.bl) ⟨rfl,rfl⟩ ?_ ?_ ?_⟩
 · rintro i acc H' hi ⟨_,rfl⟩
   rw [List.length_map,List.length_map,List.length_take]
   exact qV (by omega)
 · rintro i c acc H' hi hc ⟨rfl,rfl⟩
   refine⟨_,rfl,_,_,rfl,rfl,Nxt.mk hi ⟨rfl,?_⟩⟩
   have hc':sg.cps.toList[i]? =some c:=by simpa using hc
   rw [List.take_add_one,hc',List.map_append,List.map_append]
   rfl
 · rintro acc H' ⟨rfl,rfl⟩ D hD
   have w1:=qE hD (.lst (((sg.cps.toList.take sg.cps.size).map fun c=>!qAp c).map V.bl))
   refine⟨D,_,rfl,SqL.of qC,?_⟩
   have eany:((sg.cps.toList.take sg.cps.size).map fun c=>!qAp c).any id=!((jq z.cps.toList).all qAp):=by
    rw [List.take_of_length_le (by simp),hsg,List.any_map,List.not_all_eq_any_not]
    rfl
   rw [eany]
   by_cases hall:(jq z.cps.toList).all qAp=true
   rotate_left
   · have hall':(jq z.cps.toList).all qAp=false:=by simpa using hall
     rw [hall']
     exact⟨_,rfl,qt (qt (kn (no (A:=True) (by rw [hall'];simp)) _ w1))⟩
   rw [hall]
   have hF:Fig z.cps.toList:=⟨hn1,hn2,hall⟩
   obtain⟨hi,hl61⟩:=zP hF
   have hO:=qAt hF h3
   generalize upd H' D (.lst (((sg.cps.toList.take sg.cps.size).map fun c=>!qAp c).map V.bl))=H3 at w1 ⊢
   rcases kk H3 w1 with ⟨rfl,q⟩ | ⟨m,rfl,q⟩
   · rw [hO] at q
     exact⟨_,rfl,ql ⟨_,rfl,_,rfl,ql (ql ⟨_,rfl,z,_,rfl,by omega,hi,q⟩)⟩⟩
   · unfold jI at q
     rw [hO] at q
     dsimp only at q
     refine⟨_,rfl,ql ⟨_,rfl,_,rfl,qt ⟨_,rfl,z,_,rfl,by omega,hi,_,rfl,_,_,rfl,rfl,_,rfl,?_⟩⟩⟩
     by_cases hm:qBy z.cps.toList < m
     · rw [decide_eq_true hm]
       rw [if_pos hm] at q
       exact qt q
     · rw [decide_eq_false hm]
       rw [if_neg hm] at q
       exact ql ⟨_,rfl,z,_,rfl,by omega,hi,q⟩
inductive vh (vs:List V)(H:Hp)(Q:VK)(_:XK):Prop
| mk (z:Str) (_:vs=[.str z]) (_:z.length≤90000) (_:∀ H',Same H H'→Q (.bl (q9 z)) H')
theorem zD (T:Tx K mg a):FnOk P w K mg base CX0 1 a.A37 a.B37 ["_law_text"] vh:=by
 refine T.D37.F.ok vP (fun vs H Q E h=>?_) (fun cdv A outer s H vs Q E hr h=>?_)
 · obtain⟨z,rfl,_⟩:=h
   rfl
 refine qO fun _ Y=>?_
 obtain⟨z,rfl,hz,kk⟩:=h
 apply Y
 refine⟨_,(qG (qK (qDc (qF7 qJn qJn qF (qN jF rfl T.b_len rfl (qA (pv 0) qB)) qF) (qCm (qN (kB rfl) rfl T.b_all rfl (qA (jp [] [] rfl (qDb (pv 0)) (fun _ _ _ _=>(xR qEc (pv 0) qJ rfl))) qB)))))),?_⟩
 try dsimp only [xU,qz]
 have hl:z.cps.toList.length=z.length:=Array.length_toList
 have hsz:z.length≤sizeLine:=Nat.le_of_lt (qV (by omega))
 refine⟨_,rfl,z,rfl,hsz,_,_,rfl,rfl,_,rfl,?_⟩
 have nob:¬ (1≤z.length∧z.length≤8)→q9 z=false:=fun h=>by unfold q9;rw [decide_eq_false h];rfl
 have k0:=kk H (Same.refl _)
 by_cases h1:(1:Int)≤(z.length:Int)
 rotate_left
 · rw [decide_eq_false h1]
   rw [nob (by omega)] at k0
   exact ql ⟨_,rfl,ql k0⟩
 rw [decide_eq_true h1]
 refine qt ⟨_,_,rfl,rfl,?_⟩
 by_cases h2:(z.length:Int)≤8
 rotate_left
 · rw [decide_eq_false h2]
   rw [nob (by omega)] at k0
   exact⟨_,rfl,ql k0⟩
 rw [decide_eq_true h2]
 refine⟨_,rfl,qt ?_⟩
 refine⟨_,rfl,z,rfl,vF (fun i acc H'=>H'=H∧acc=((z.cps.toList.take i).map qIx).map V.bl) ⟨rfl,rfl⟩ ?_ ?_ ?_⟩
 · rintro i acc H' hi ⟨_,rfl⟩
   rw [List.length_map,List.length_map,List.length_take]
   exact qV (by omega)
 · rintro i c acc H' hi hc ⟨rfl,rfl⟩
   refine⟨_,rfl,_,_,rfl,rfl,Nxt.mk hi ⟨rfl,?_⟩⟩
   have hc':z.cps.toList[i]? =some c:=by simpa using hc
   rw [List.take_add_one,hc',List.map_append,List.map_append]
   rfl
 · rintro acc H' ⟨rfl,rfl⟩ D hD
   refine⟨D,_,rfl,SqL.of qC,?_⟩
   have e:((z.cps.toList.take z.cps.size).map qIx).all id=q9 z:=by
    rw [List.take_of_length_le (by simp)]
    unfold q9
    rw [decide_eq_true (by omega:1≤z.length∧z.length≤8),Bool.true_and,List.all_map]
    rfl
   rw [e]
   exact kk _ (qE hD _)
def FrV (H:Hp):Option (Int × Int)→V→Prop
 | none,v=>v= .non
 | some (n,m),v=>∃ y,v= .ref y∧H y=some (.tup [.int n,.int m])
inductive vA (vs:List V)(H:Hp)(Q:VK)(_:XK):Prop
| mk (z:Str) (_:vs=[.str z]) (_:z.length≤90000) (_:∀ v H',Same H H'→FrV H' (jd z.cps.toList) v→Q v H')
theorem xh (T:Tx K mg a):FnOk P w K mg base CX0 2 a.A36 a.B36 ["_law_text"] vA:=by
 refine T.D36.F.ok jA (fun vs H Q E h=>?_) (fun cdv A outer s H vs Q E hr h=>?_)
 · obtain⟨z,rfl,_⟩:=h
   rfl
 refine qO fun _ Y=>?_
 obtain⟨z,rfl,hz,kk⟩:=h
 apply Y
 have kn:jd z.cps.toList=none→∀ H',Same H H'→Q .non H':=fun e H' s=>kk _ H' s (by rw [e];rfl)
 have ks:∀ n m,jd z.cps.toList=some (n,m)→∀ y H',Same H H'→H' y=some (.tup [.int n,.int m])→Q (.ref y) H':=fun n m e y H' s hy=>kk _ H' s (by rw [e];exact⟨y,rfl,hy⟩)
 refine⟨_,(qD (qg 1 jA.nd (jt F.plainAttrs_str F.slot_str_split F.type_str_split xP (pv 0) (qA qJ qB)))
  (qD (qd (PW.pt (xM (qH qEk (qN qX rfl T.b_len rfl (qA (pv 1) qB)) qF (qM _)) (je (vm (wS (qW T.D35 (jB T) hr rfl (qA (qj qR (pv 1) qF (fun _ _=>rfl)) (qA xl qB)))))))) (qG (qK xl)) qL)
  (qD (qd (qH jC (qN qX rfl T.b_len rfl (qA (pv 1) qB)) qF (qM _)) (qG (qK (jE (qA (qf qi rfl T.b_int rfl (qA (pv 0) qB)) (qA qF qB))))) qL)
  (qD (qd (vm (wS (qW T.D35 (jB T) hr rfl (qA (qj qR (pv 1) qF (fun _ _=>rfl)) (qA qF qB))))) (qG (qK xl)) qL)
  (qD (qg 2 jA.nd (qN qC8 rfl T.b_abs rfl (qA (qf qi rfl T.b_int rfl (qA (qj qR (pv 1) qF (fun _ _=>rfl)) qB)) qB)))
  (qD (qg 3 jA.nd (qf qi rfl T.b_int rfl (qA (qj qR (pv 1) qF (fun _ _=>rfl)) qB)))
  (qD (qC3 PassesOwn.never (qH kD (pv 3) qF (qM _)) (qG (qJw (i:=2) (j:=3) rfl jA.nd rfl rfl (by decide) rfl rfl (qA (pv 3) (qA (qP qc (pv 2) (pv 3)) qB)) rfl)))
  (qD (qd (qH kD (pv 2) qF (qM _)) (qG (qK xl)) qL)
  (qG (qK (jE (qA (qf qi rfl T.b_int rfl (qA (qj qR (pv 1) qF (fun _ _=>rfl)) qB)) (qA (qf qi rfl T.b_int rfl (qA (qj qR (pv 1) qF (fun _ _=>rfl)) qB)) qB))))))))))))),?_⟩
 try dsimp only [xU,qz]
 have hl:z.cps.toList.length=z.length:=Array.length_toList
 refine⟨_,rfl,rfl,_,_,rfl,rfl,(by decide+kernel),Nat.le_of_lt (qV (by omega)),fun zp hzp=>?_⟩
 have hP:=qCa z
 have hne:=zJ z "/"
 generalize Txt.split z "/"=ps at hP hne ⊢
 have w1:=qE hzp (.lst (ps.map V.str))
 have ep:(upd H zp (.lst (ps.map V.str))) zp=some (.lst (ps.map V.str)):=qC
 generalize upd H zp (.lst (ps.map V.str))=H1 at w1 ep ⊢
 cases hP with
 | none h0=>exact absurd rfl hne
 | @one p hp hf47=>
  have hf:=vK hf47
  have sP:SqL K H1 zp [.str p]:=SqL.of ep
  have lp:p.length≤90000:=by
   have e1:p.cps.toList.length=p.length:=Array.length_toList
   rw [← hp] at e1;omega
  refine⟨_,rfl,zp,_,rfl,.inl (SqL.of ep),_,_,rfl,rfl,_,rfl,ql ?_⟩
  refine⟨_,rfl,zp,_,_,_,rfl,rfl,sP,rfl,p,_,rfl,lp,fun H2 s2=>.inl ⟨rfl,?_⟩⟩
  rw [← hp]
  cases hn:zd z.cps.toList with
  | none=>
   rw [hn] at hf
   exact⟨_,rfl,qt (kn hf H2 (w1.trans s2))⟩
  | some n=>
   rw [hn] at hf
   refine qO fun _ Y=>?_
   obtain⟨F1,e1,_⟩:=jS hn
   obtain⟨hi,hl61⟩:=zP F1
   apply Y
   refine⟨_,rfl,ql ⟨_,rfl,zp,_,rfl,.inl (SqL.of (s2 _ _ ep)),rfl,_,rfl,qt ⟨_,rfl,z,_,rfl,by omega,hi,sL2,fun y hy=>?_⟩⟩⟩
   rw [← e1]
   exact ks n 1 hf y _ ((w1.trans s2).trans (qE hy _)) qC
 | @two p q he hp hq=>
  have hf:=zq (p:=p.cps.toList) (r:=q.cps.toList) hp
  rw [← he] at hf
  have lp:p.length≤90000∧q.length≤90000:=by
   have e1:p.cps.toList.length=p.length:=Array.length_toList
   have e2:q.cps.toList.length=q.length:=Array.length_toList
   rw [he,List.length_append,List.length_cons] at hl
   omega
  have sP:∀ {H'},Same H1 H'→SqL K H' zp [.str p,.str q]:=fun s=>SqL.of (s _ _ ep)
  refine⟨_,rfl,zp,_,rfl,.inl (SqL.of ep),_,_,rfl,rfl,_,rfl,ql ?_⟩
  refine⟨_,rfl,zp,_,_,_,rfl,rfl,sP (Same.refl _),rfl,p,_,rfl,lp.1,fun H2 s2=>.inl ⟨rfl,?_⟩⟩
  cases hn:zd p.cps.toList with
  | none=>
   rw [hn] at hf
   exact⟨_,rfl,qt (kn hf H2 (w1.trans s2))⟩
  | some n=>
   refine⟨_,rfl,ql ⟨_,rfl,zp,_,rfl,.inl (sP s2),rfl,_,rfl,ql ?_⟩⟩
   refine⟨_,rfl,zp,_,_,_,rfl,rfl,sP s2,rfl,q,_,rfl,lp.2,fun H3 s3=>.inr ⟨2,rfl,?_⟩⟩
   have s23:=s2.trans s3
   cases hm:zd q.cps.toList with
   | none=>
    rw [hn,hm] at hf
    have e:jI 2 q.cps.toList=none:=by unfold jI;rw [hm]
    rw [e]
    exact⟨_,rfl,qt (kn hf H3 (w1.trans s23))⟩
   | some m=>
    rw [hn,hm] at hf
    dsimp only at hf
    by_cases h2:m < 2
    · have e:jI 2 q.cps.toList=none:=by unfold jI;rw [hm];exact if_pos h2
      rw [e]
      exact⟨_,rfl,qt (kn (by rw [hf,if_pos (.inl h2)]) H3 (w1.trans s23))⟩
    · have e:jI 2 q.cps.toList=some m:=by unfold jI;rw [hm];exact if_neg h2
      rw [e]
      refine⟨_,rfl,ql ?_⟩
      refine qO fun _ Y=>?_
      obtain⟨F1,e1,_⟩:=jS hn
      obtain⟨hi1,hl1⟩:=zP F1
      obtain⟨F2,e2,_⟩:=jS hm
      obtain⟨hi2,hl2⟩:=zP F2
      apply Y
      rw [← e1] at hi1
      rw [← e2] at hi2
      refine⟨_,rfl,zp,_,_,_,rfl,rfl,sP s23,rfl,p,_,rfl,by omega,hi1,n,rfl,?_⟩
      refine⟨_,rfl,zp,_,_,_,rfl,rfl,sP s23,rfl,q,_,rfl,by omega,hi2,?_⟩
      refine qCs (fun σ H'=>H'=H3∧∃ x y:Int,σ=[some (.str z),some (.ref zp),some (.int x),some (.int y)]∧0≤x∧0≤y∧Int.gcd x y=Int.gcd n m)
       (fun σ _=>match σ with | [_,_,_,some (.int y)]=>y.natAbs | _=>0) ⟨rfl,_,_,rfl,?_,?_,?_⟩ ?_ ?_
      · split <;> omega
      · omega
      · have e1:(if n < 0 then -n else n)=((n.natAbs:Nat):Int):=by split <;> omega
        rw [e1]
        rfl
      · rintro σ H4 ⟨rfl,x,y,rfl,h0,h1,eg⟩
        refine⟨_,rfl,rfl,_,rfl,?_⟩
        refine qAy (fun c=>?_) (fun c=>?_)
        · have hy:y≠0:=by simpa using c
          refine⟨_,rfl,_,rfl,_,rfl,_,_,rfl,rfl,hy,_,_,rfl,⟨rfl,y,x.fmod y,rfl,h1,Int.fmod_nonneg_of_pos x (by omega),?_⟩,?_⟩
          · rw [qCl];exact eg
          · exact qE3 x y hy
        · have hy:y=0:=by simpa using c
          subst hy
          have e2:x=((Int.gcd n m:Nat):Int):=by
           rw [← eg,Int.gcd_zero_right]
           omega
          refine⟨_,rfl,rfl,_,rfl,?_⟩
          by_cases hg:Int.gcd n m=1
          · refine kd (by rw [e2,hg];rfl) ?_
            refine⟨_,rfl,zp,_,_,_,rfl,rfl,sP s23,rfl,p,_,rfl,by omega,hi1,_,rfl,zp,_,_,_,rfl,rfl,sP s23,rfl,q,_,rfl,by omega,hi2,sL2,fun y hy=>?_⟩
            exact ks n m (by rw [hf,if_neg (by omega)]) y _ ((w1.trans s23).trans (qE hy _)) qC
          · refine qH8 ?_ (kn (by rw [hf,if_pos (.inr hg)]) _ (w1.trans s23))
            rw [e2]
            simp only [Bool.not_eq_true',decide_eq_false_iff_not]
            intro z
            injection z with z
            exact hg (by omega)
      · rintro σ H1 Q1 Q2 hq h
        refine qO fun _ Y=>?_
        obtain⟨v,e,s,k,hk,z⟩:=h
        apply Y
        exact⟨v,e,s,k,hk,hq _ _ z⟩
 | @more p q r t vv he hp hq=>
  have hf:=zq (p:=p.cps.toList) (r:=vv) hp
  rw [← he,vj hq] at hf
  have hf':jd z.cps.toList=none:=by
   rw [hf]
   cases zd p.cps.toList <;> rfl
  have hln:((p::q::r::t).map V.str).length=t.length+3:=by simp
  refine⟨_,rfl,zp,_,rfl,.inl (SqL.of ep),_,_,rfl,rfl,_,rfl,qH8 ?_ (qt (kn hf' H1 w1))⟩
  rw [hln];simp;omega
theorem qC7 {n f g l:Str}:itW "clip" [n,f,g,l]=if q9 n then (match jd f.cps.toList,jd g.cps.toList,jI 1 l.cps.toList with | some (p,q),some (r,s),some x=>some (.clip n p q r s x) | _,_,_=>none) else none:=by
 unfold itW
 rw [show qp "clip"=some kC by decide+kernel]
 show (jx kC [n,f,g,l]).bind (mkI "clip")=_
 unfold kC
 rw [ja,ja,ja,ja,qCd,qCb,qCb,qBj]
 cases q9 n with
 | false=>rfl
 | true=>
  cases jd f.cps.toList with
  | none=>rfl
  | some x=>
   cases jd g.cps.toList with
   | none=>rfl
   | some y=>
    cases jI 1 l.cps.toList with
    | none=>rfl
    | some u=>rfl
theorem qCz {n b l:Str}:itW "nest" [n,b,l]=if q9 n then (match jI 0 b.cps.toList,jI 1 l.cps.toList with | some c,some x=>some (.nest n c x) | _,_=>none) else none:=by
 unfold itW
 rw [show qp "nest"=some kN by decide+kernel]
 show (jx kN [n,b,l]).bind (mkI "nest")=_
 unfold kN
 rw [ja,ja,ja,qCd,qCk,qBj]
 cases q9 n with
 | false=>rfl
 | true=>
  cases jI 0 b.cps.toList with
  | none=>rfl
  | some y=>
   cases jI 1 l.cps.toList with
   | none=>rfl
   | some u=>rfl
theorem wW {l:Str}:itW "gap" [l]=(match jI 1 l.cps.toList with | some x=>some (.gap x) | none=>none):=by
 unfold itW
 rw [show qp "gap"=some kL by decide+kernel]
 show (jx kL [l]).bind (mkI "gap")=_
 unfold kL
 rw [ja,qBj]
 cases jI 1 l.cps.toList with
 | none=>rfl
 | some u=>show (if ("gap":Str)="gap" then some (Im.gap u) else some (Im.mix u))=_;rw [if_pos rfl]
theorem wl {l:Str}:itW "mix" [l]=(match jI 1 l.cps.toList with | some x=>some (.mix x) | none=>none):=by
 unfold itW
 rw [show qp "mix"=some kL by decide+kernel]
 show (jx kL [l]).bind (mkI "mix")=_
 unfold kL
 rw [ja,qBj]
 cases jI 1 l.cps.toList with
 | none=>rfl
 | some u=>show (if ("mix":Str)="gap" then some (Im.gap u) else some (Im.mix u))=_;rw [if_neg (by decide+kernel)]
theorem qC2 {k:Str}{zs:List Str}(h1:k="clip"→zs.length≠4)(h2:k="nest"→zs.length≠3)(h3:(k="gap"∨k="mix")→zs.length≠1):itW k zs=none:=by
 unfold itW
 rcases vE k with rfl | rfl | rfl | rfl | ⟨_,h'⟩
 · rw [show qp "clip"=some kC by decide+kernel]
   show (jx kC zs).bind _=none
   rw [zk (fun e=>h1 rfl e.symm)];rfl
 · rw [show qp "nest"=some kN by decide+kernel]
   show (jx kN zs).bind _=none
   rw [zk (fun e=>h2 rfl e.symm)];rfl
 · rw [show qp "gap"=some kL by decide+kernel]
   show (jx kL zs).bind _=none
   rw [zk (fun e=>h3 (.inl rfl) e.symm)];rfl
 · rw [show qp "mix"=some kL by decide+kernel]
   show (jx kL zs).bind _=none
   rw [zk (fun e=>h3 (.inr rfl) e.symm)];rfl
 · rw [h']
def OWs (H:Hp):List (Option Wd)→List V→Prop
 | [],[]=>True
 | none::os,v::vs=>v= .non∧OWs H os vs
 | some d::os,v::vs=>WdIs H d v∧OWs H os vs
 | _,_=>False
theorem OWs.same {H H':Hp}(s:Same H H'):∀ {os:List (Option Wd)} {vs:List V},OWs H os vs→OWs H' os vs
 | [],[],_=>trivial
 | none::_,_::_,h=>⟨h.1,OWs.same s h.2⟩
 | some _::_,_::_,h=>⟨h.1.same s,OWs.same s h.2⟩
 | [],_::_,h=>h.elim
 | none::_,[],h=>h.elim
 | some _::_,[],h=>h.elim
def nonB:V→Bool
 | .non=>true
 | _=>false
theorem WdIs.non {H:Hp}:∀ {d:Wd} {v:V},WdIs H d v→nonB v=false
 | .nm _,_,h=>by cases h;rfl
 | .fr _ _,_,⟨_,h,_⟩=>by cases h;rfl
 | .nu _,_,h=>by cases h;rfl
theorem OWs.any {H:Hp}:∀ {os:List (Option Wd)} {vs:List V},OWs H os vs→(vs.map nonB).any id=os.any (·.isNone)
 | [],[],_=>rfl
 | none::_,_::_,h=>by rw [h.1];rfl
 | some _::_,_::_,h=>by
  rw [List.map_cons,List.any_cons,List.any_cons,OWs.any h.2,h.1.non]
  rfl
 | [],_::_,h=>h.elim
 | none::_,[],h=>h.elim
 | some _::_,[],h=>h.elim
inductive qIw (z:Str)(H:Hp):V→Prop where
 | no (e:itO z=none):qIw z H .non
 | yes {y:Addr} {us:List V} {os:List (Option Wd)} (hy:H y=some (.tup us)) (hl:us.length≤5) (ho:OWs H os us) (hn:os.any (·.isNone)=true→itO z=none) (hs:os.any (·.isNone)=false→∃ m,itO z=some m∧IsI H m (.ref y)):qIw z H (.ref y)
def OW (H:Hp):Option Wd→V→Prop
 | none,v=>v= .non
 | some d,v=>WdIs H d v
theorem OW.same {H H':Hp}(s:Same H H'):∀ {o:Option Wd} {v:V},OW H o v→OW H' o v
 | none,_,h=>h
 | some _,_,h=>WdIs.same s h
theorem OWs.cons {H:Hp}{o:Option Wd}{v:V}{os:List (Option Wd)}{vs:List V}(h:OW H o v)(t:OWs H os vs):OWs H (o::os) (v::vs):=by
 cases o with
 | none=>exact⟨h,t⟩
 | some d=>exact⟨h,t⟩
theorem OW.num {H:Hp}(o:Option Int):OW H (o.map Wd.nu) (vw o):=by cases o <;> rfl
theorem OW.fr {H:Hp}{o:Option (Int × Int)}{v:V}(h:FrV H o v):OW H (o.map fun x=>Wd.fr x.1 x.2) v:=by
 cases o with
 | none=>exact h
 | some x=>exact h
inductive kP (vs:List V)(H:Hp)(Q:VK)(_:XK):Prop
| mk (z:Str) (_:vs=[.str z]) (_:z.length≤80000) (_:(itO z=none→∀ H',Same H H'→Q .non H')) (_:(∀ m v H',itO z=some m→Same H H'→IsI H' m v→Q v H'))
theorem kO (T:Tx K mg a):FnOk P w K mg base CX0 3 a.A38 a.B38 ["_law_text"] kP:=by
 refine T.D38.F.ok qZ (fun vs H Q E h=>?_) (fun cdv A outer s H vs Q E hr h=>?_)
 · obtain⟨z,rfl,_⟩:=h
   rfl
 refine qO fun _ Y=>?_
 obtain⟨z,rfl,hz,kn,ks⟩:=h
 apply Y
 refine⟨_,(qD (qg 1 qZ.nd (jt F.plainAttrs_str F.slot_str_split F.type_str_split xP (pv 0) (qA qJ qB)))
  (qD (qg 2 qZ.nd (qj qR (pv 1) qF (fun _ _=>rfl)))
  (qD (qg 3 qZ.nd xl)
  (qD (jP (qd (PW.pt (j1 (qH jC (qN qX rfl T.b_len rfl (qA (pv 1) qB)) qF (qM _)) (j1 (qH jC (pv 2) qJ (qM _)) (j2 (jf (qW T.D37 (zD T) hr rfl (qA (qj qR (pv 1) qF (fun _ _=>rfl)) qB))))))) (qD (qg 3 qZ.nd (jE (qA (pv 2) (qA (qj qR (pv 1) qF (fun _ _=>rfl)) (qA (qW T.D36 (xh T) hr rfl (qA (qj qR (pv 1) qF (fun _ _=>rfl)) qB)) (qA (qW T.D36 (xh T) hr rfl (qA (qj qR (pv 1) qF (fun _ _=>rfl)) qB)) qB))))))
  (qG (qg 3 qZ.nd (qP qFa (pv 3) (jE (qA (qW T.D35 (jB T) hr rfl (qA (qj qR (pv 1) qF (fun _ _=>rfl)) (qA qF qB))) qB)))))) qL))
  (qD (jP (qd (PW.pt (j1 (qH jC (qN qX rfl T.b_len rfl (qA (pv 1) qB)) qF (qM _)) (j1 (qH jC (pv 2) qJ (qM _)) (j2 (jf (qW T.D37 (zD T) hr rfl (qA (qj qR (pv 1) qF (fun _ _=>rfl)) qB))))))) (qG (qg 3 qZ.nd (jE (qA (pv 2) (qA (qj qR (pv 1) qF (fun _ _=>rfl)) (qA (qW T.D35 (jB T) hr rfl (qA (qj qR (pv 1) qF (fun _ _=>rfl)) (qA qF qB))) (qA (qW T.D35 (jB T) hr rfl (qA (qj qR (pv 1) qF (fun _ _=>rfl)) (qA qF qB))) qB))))))) qL))
  (qD (jP (qd (PW.pt (j1 (qH jC (qN qX rfl T.b_len rfl (qA (pv 1) qB)) qF (qM _)) (j2 (qH qBm (pv 2) (jH (qA qJ (qA qJ qB))) rfl)))) (qG (qg 3 qZ.nd (jE (qA (pv 2) (qA (qW T.D35 (jB T) hr rfl (qA (qj qR (pv 1) qF (fun _ _=>rfl)) (qA qF qB))) qB))))) qL))
  (qD (qd (PW.pt (xM (vm (wS (pv 3))) (je (jf (qN (vZ rfl) rfl T.b_any rfl (qA (jp [] [] rfl (qEa (pv 3)) (fun _ _ _ _=>(qHa (wS (pv 0))))) qB)))))) (qG (qK xl)) qL)
  (qG (qK (pv 3)))))))))),?_⟩
 try dsimp only [xU,qz]
 refine⟨_,rfl,rfl,_,_,rfl,rfl,(by decide+kernel),Nat.le_of_lt (qV (by omega)),fun zp hzp=>?_⟩
 have hne:=zJ z " "
 have hm:∀ p∈Txt.split z " ",p.length≤90000:=fun p hp=>Nat.le_trans (zz hp) (by omega)
 have hio:itO z=match Txt.split z " " with | []=>none | k::zs=>itW k zs:=by unfold itO;rfl
 generalize Txt.split z " "=ps at hne hm hio ⊢
 refine qO fun _ Y=>?_
 obtain⟨k,zs,rfl⟩:∃ k zs,ps=k::zs:=by
  cases ps with
  | nil=>exact absurd rfl hne
  | cons k zs=>exact⟨k,zs,rfl⟩
 apply Y
 dsimp only at hio
 have w1:=qE hzp (.lst ((k::zs).map V.str))
 have ep:(upd H zp (.lst ((k::zs).map V.str))) zp=some (.lst (.str k::zs.map V.str)):=qC
 generalize upd H zp (.lst ((k::zs).map V.str))=H1 at w1 ep ⊢
 have a0:atI (V.str k::zs.map V.str) 0=some (.str k):=j3 (xs:=V.str k::zs.map V.str) (j:=0) rfl
 refine(qL5 rfl (SqL.of ep) a0 ?_)
 have lenq:∀ n:Nat,decide (V.int (((V.str k::zs.map V.str).length:Nat):Int)=V.int ((n:Nat):Int))=decide (zs.length+1=n):=fun n=>by
  rw [List.length_cons,List.length_map,Bool.eq_iff_iff,decide_eq_true_eq,decide_eq_true_eq]
  constructor
  · intro h;injection h with h;omega
  · intro h;rw [h]
 have noW:∀ H':Hp,itO z=none→qIw z H' .non:=fun _ e=>.no e
 refine⟨fun σ H'=>∃ fv,σ=[some (.str z),some (.ref zp),some (.str k),some fv]∧Same H1 H'∧(zs.length=4→qIw z H' fv)∧(zs.length≠4→fv= .non),?_,?_⟩
 · refine⟨_,rfl,zp,_,rfl,.inl (SqL.of ep),rfl,_,rfl,?_⟩
   have l5:=lenq 5
   rw [show V.int ((5:Nat):Int)=V.int 5 from rfl] at l5
   rw [l5]
   by_cases h4:zs.length=4
   rotate_left
   · rw [decide_eq_false (by omega)]
     exact ql (ql ⟨_,rfl,Same.refl _,fun e=>absurd e h4,fun _=>rfl⟩)
   rw [decide_eq_true (by omega)]
   refine qt ⟨_,rfl,rfl,_,rfl,?_⟩
   rw [qAh]
   by_cases hk:k="clip"
   rotate_left
   · rw [decide_eq_false hk]
     refine ql (ql ⟨_,rfl,Same.refl _,fun _=>.no ?_,fun _=>rfl⟩)
     rw [hio];exact qC2 (fun e=>absurd e hk) (fun _=>by omega) (fun _=>by omega)
   rw [decide_eq_true hk]
   subst hk
   match zs,h4 with
   | [n,f,g,l],_=>
    have sP:∀ {H'},Same H1 H'→SqL K H' zp [.str "clip",.str n,.str f,.str g,.str l]:=fun s=>SqL.of (s _ _ ep)
    refine qt ⟨_,rfl,zp,_,_,_,rfl,rfl,sP (Same.refl _),rfl,n,rfl,hm n (by simp),fun H2 s2=>⟨_,rfl,?_⟩⟩
    rw [qC7] at hio
    cases hnb:q9 n with
    | false=>
     rw [hnb] at hio
     exact ql ⟨_,rfl,s2,fun _=>.no hio,fun e=>absurd rfl e⟩
    | true=>
     rw [hnb,if_pos rfl] at hio
     refine qt ?_
     refine⟨_,rfl,_,rfl,zp,_,_,_,rfl,rfl,sP s2,rfl,_,rfl,zp,_,_,_,rfl,rfl,sP s2,rfl,f,rfl,hm f (by simp),fun vf H3 s3 hf=>?_⟩
     have s23:=s2.trans s3
     refine⟨_,rfl,zp,_,_,_,rfl,rfl,sP s23,rfl,g,rfl,hm g (by simp),fun vg H4 s4 hg=>?_⟩
     have s24:=s23.trans s4
     refine⟨sL4,fun y1 hy1=>?_⟩
     have w5:=qE hy1 (.tup [.str "clip",.str n,vf,vg])
     have s25:=s24.trans w5
     have hy5:(upd H4 y1 (.tup [.str "clip",.str n,vf,vg])) y1=some (.tup [.str "clip",.str n,vf,vg]):=qC
     have s45:=s4.trans w5
     have f1:OW (upd H4 y1 (.tup [.str "clip",.str n,vf,vg])) _ vf:=(OW.fr hf).same s45
     have f2:OW (upd H4 y1 (.tup [.str "clip",.str n,vf,vg])) _ vg:=(OW.fr hg).same w5
     generalize upd H4 y1 (.tup [.str "clip",.str n,vf,vg])=H5 at s25 hy5 f1 f2 ⊢
     refine⟨_,rfl,_,rfl,zp,_,_,_,rfl,rfl,sP s25,rfl,l,_,rfl,hm l (by simp),fun H6 s6=>.inr ⟨1,rfl,sL1,fun y2 hy2=>?_⟩⟩
     have w7:=qE hy2 (.tup [vw (jI 1 l.cps.toList)])
     refine⟨y1,y2,_,_,rfl,rfl,SqT.of (w7 _ _ (s6 _ _ hy5)),SqT.of qC,by simp,sL5,fun e=>(by cases e),fun _ y3 hy3=>?_⟩
     have w8:=qE hy3 (.tup ([.str "clip",.str n,vf,vg]++[vw (jI 1 l.cps.toList)]))
     have s58:=(s6.trans w7).trans w8
     have hy8:(upd (upd H6 y2 (.tup [vw (jI 1 l.cps.toList)])) y3 (.tup ([.str "clip",.str n,vf,vg]++[vw (jI 1 l.cps.toList)]))) y3=some (.tup [.str "clip",.str n,vf,vg,vw (jI 1 l.cps.toList)]):=qC
     generalize upd (upd H6 y2 (.tup [vw (jI 1 l.cps.toList)])) y3 (.tup ([.str "clip",.str n,vf,vg]++[vw (jI 1 l.cps.toList)]))=H8 at hy8 s58 ⊢
     refine⟨_,rfl,s25.trans s58,fun _=>?_,fun e=>absurd rfl e⟩
     have ow:=OWs.cons (o:=some (.nm "clip")) (v:=.str "clip") rfl (OWs.cons (o:=some (.nm n)) (v:=.str n) rfl (OWs.cons (f1.same s58) (OWs.cons (f2.same s58) (OWs.cons (OW.num (H:=H8) (jI 1 l.cps.toList)) (show OWs _ [] [] from trivial)))))
     refine .yes hy8 (by simp) ow ?_ ?_
     · intro hn
       rw [hio]
       cases h1:jd f.cps.toList with
       | none=>rfl
       | some x=>
        cases h2:jd g.cps.toList with
        | none=>rfl
        | some x'=>
         cases h3:jI 1 l.cps.toList with
         | none=>rfl
         | some x''=>rw [h1,h2,h3] at hn;cases hn
     · intro hs
       rw [hio]
       cases h1:jd f.cps.toList with
       | none=>rw [h1] at hs;simp at hs
       | some x=>
        cases h2:jd g.cps.toList with
        | none=>rw [h2] at hs;simp at hs
        | some x'=>
         cases h3:jI 1 l.cps.toList with
         | none=>rw [h3] at hs;simp at hs
         | some x''=>
          rw [h1] at hf f1
          rw [h2] at hg f2
          refine qO fun _ Y=>?_
          obtain⟨u1,e1,g1⟩:=f1
          obtain⟨u2,e2,g2⟩:=f2
          subst e1 e2
          apply Y
          rw [h3] at hy8
          exact⟨_,rfl,isC hy8 (s58 _ _ g1) (s58 _ _ g2)⟩
 rintro σ H2 ⟨fv,rfl,s2,f4,n4⟩
 have ep2:∀ {H'},Same H2 H'→SqL K H' zp (.str k::zs.map V.str):=fun s=>SqL.of (s _ _ (s2 _ _ ep))
 refine⟨fun σ H'=>∃ fv,σ=[some (.str z),some (.ref zp),some (.str k),some fv]∧Same H1 H'∧((zs.length=4∨zs.length=3)→qIw z H' fv)∧(zs.length≠4→zs.length≠3→fv= .non),?_,?_⟩
 · refine⟨_,rfl,zp,_,rfl,.inl (ep2 (Same.refl _)),rfl,_,rfl,?_⟩
   have l5:=lenq 4
   rw [show V.int ((4:Nat):Int)=V.int 4 from rfl] at l5
   rw [l5]
   by_cases h3:zs.length=3
   rotate_left
   · rw [decide_eq_false (by omega)]
     exact ql (ql ⟨_,rfl,s2,fun e=>f4 (by omega),fun e _=>n4 e⟩)
   rw [decide_eq_true (by omega)]
   have hfv:=n4 (by omega)
   subst hfv
   refine qt ⟨_,rfl,rfl,_,rfl,?_⟩
   rw [qAh]
   by_cases hk:k="nest"
   rotate_left
   · rw [decide_eq_false hk]
     refine ql (ql ⟨_,rfl,s2,fun _=>.no ?_,fun _ _=>rfl⟩)
     rw [hio];exact qC2 (fun _=>by omega) (fun e=>absurd e hk) (fun _=>by omega)
   rw [decide_eq_true hk]
   subst hk
   match zs,h3 with
   | [n,b,l],_=>
    have sP:∀ {H'},Same H2 H'→SqL K H' zp [.str "nest",.str n,.str b,.str l]:=fun s=>SqL.of (s _ _ (s2 _ _ ep))
    refine qt ⟨_,rfl,zp,_,_,_,rfl,rfl,sP (Same.refl _),rfl,n,rfl,hm n (by simp),fun H3 s3=>⟨_,rfl,?_⟩⟩
    rw [qCz] at hio
    cases hnb:q9 n with
    | false=>
     rw [hnb] at hio
     exact ql ⟨_,rfl,s2.trans s3,fun _=>.no hio,fun _ e=>absurd rfl e⟩
    | true=>
     rw [hnb,if_pos rfl] at hio
     refine qt ?_
     refine⟨_,rfl,_,rfl,zp,_,_,_,rfl,rfl,sP s3,rfl,_,rfl,zp,_,_,_,rfl,rfl,sP s3,rfl,b,_,rfl,hm b (by simp),fun H4 s4=>.inr ⟨0,rfl,?_⟩⟩
     have s34:=s3.trans s4
     refine⟨_,rfl,zp,_,_,_,rfl,rfl,sP s34,rfl,l,_,rfl,hm l (by simp),fun H5 s5=>.inr ⟨1,rfl,sL4,fun y1 hy1=>?_⟩⟩
     have w5:=qE hy1 (.tup [.str "nest",.str n,vw (jI 0 b.cps.toList),vw (jI 1 l.cps.toList)])
     have s25:=((s2.trans s34).trans s5).trans w5
     have hy8:(upd H5 y1 (.tup [.str "nest",.str n,vw (jI 0 b.cps.toList),vw (jI 1 l.cps.toList)])) y1=some (.tup [.str "nest",.str n,vw (jI 0 b.cps.toList),vw (jI 1 l.cps.toList)]):=qC
     generalize upd H5 y1 (.tup [.str "nest",.str n,vw (jI 0 b.cps.toList),vw (jI 1 l.cps.toList)])=H8 at hy8 s25 ⊢
     refine⟨_,rfl,s25,fun _=>?_,fun _ e=>absurd rfl e⟩
     have ow:=OWs.cons (H:=H8) (o:=some (.nm "nest")) (v:=.str "nest") rfl (OWs.cons (o:=some (.nm n)) (v:=.str n) rfl (OWs.cons (OW.num (jI 0 b.cps.toList)) (OWs.cons (OW.num (jI 1 l.cps.toList)) (show OWs _ [] [] from trivial))))
     refine .yes hy8 (by simp) ow ?_ ?_
     · intro hn
       rw [hio]
       cases h1:jI 0 b.cps.toList with
       | none=>rfl
       | some x=>
        cases h2:jI 1 l.cps.toList with
        | none=>rfl
        | some x'=>rw [h1,h2] at hn;cases hn
     · intro hs
       rw [hio]
       cases h1:jI 0 b.cps.toList with
       | none=>rw [h1] at hs;simp at hs
       | some x=>
        cases h2:jI 1 l.cps.toList with
        | none=>rw [h2] at hs;simp at hs
        | some x'=>rw [h1,h2] at hy8;exact⟨_,rfl,isN hy8⟩
 rintro σ H3 ⟨fv,rfl,s3,f34,n34⟩
 have ep3:∀ {H'},Same H3 H'→SqL K H' zp (.str k::zs.map V.str):=fun s=>SqL.of (s _ _ (s3 _ _ ep))
 refine⟨fun σ H'=>∃ fv,σ=[some (.str z),some (.ref zp),some (.str k),some fv]∧Same H1 H'∧qIw z H' fv,?_,?_⟩
 · refine⟨_,rfl,zp,_,rfl,.inl (ep3 (Same.refl _)),rfl,_,rfl,?_⟩
   have l5:=lenq 2
   rw [show V.int ((2:Nat):Int)=V.int 2 from rfl] at l5
   rw [l5]
   by_cases h1:zs.length=1
   rotate_left
   · rw [decide_eq_false (by omega)]
     refine ql (ql ⟨_,rfl,s3,?_⟩)
     by_cases h34:zs.length=4∨zs.length=3
     · exact f34 h34
     · rw [n34 (fun e=>h34 (.inl e)) (fun e=>h34 (.inr e))]
       exact .no (by rw [hio];exact qC2 (fun _ e=>h34 (.inl e)) (fun _ e=>h34 (.inr e)) (fun _=>h1))
   rw [decide_eq_true (by omega)]
   have hfv:=n34 (by omega) (by omega)
   subst hfv
   refine qt ⟨_,rfl,sL2,fun gl hgl=>?_⟩
   have w4:=qE hgl (.lst [.str "gap",.str "mix"])
   have hin:inV (.str k) [.str "gap",.str "mix"]=decide (k="gap"∨k="mix"):=by
    rw [Bool.eq_iff_iff,decide_eq_true_eq]
    simp only [inV,eqV,List.any_cons,List.any_nil,Bool.or_false,Bool.or_eq_true,beq_iff_eq]
    exact or_congr eq_comm eq_comm
   refine⟨gl,_,rfl,.inl (SqL.of qC),rfl,rfl,_,rfl,?_⟩
   rw [if_neg Bool.false_ne_true,hin]
   have s14:=s3.trans w4
   generalize upd H3 gl (.lst [.str "gap",.str "mix"])=H4 at w4 s14 ⊢
   by_cases hk:k="gap"∨k="mix"
   rotate_left
   · rw [decide_eq_false hk]
     exact ql ⟨_,rfl,s14,.no (by rw [hio];exact qC2 (fun _=>by omega) (fun _=>by omega) (fun e=>absurd e hk))⟩
   rw [decide_eq_true hk]
   refine qt ?_
   match zs,h1 with
   | [l],_=>
    have sP:SqL K H4 zp [.str k,.str l]:=ep3 w4
    refine⟨_,rfl,_,rfl,zp,_,_,_,rfl,rfl,sP,rfl,l,_,rfl,hm l (by simp),fun H5 s5=>.inr ⟨1,rfl,sL2,fun y1 hy1=>?_⟩⟩
    have w5:=qE hy1 (.tup [.str k,vw (jI 1 l.cps.toList)])
    have s25:=(s14.trans s5).trans w5
    have hy8:(upd H5 y1 (.tup [.str k,vw (jI 1 l.cps.toList)])) y1=some (.tup [.str k,vw (jI 1 l.cps.toList)]):=qC
    generalize upd H5 y1 (.tup [.str k,vw (jI 1 l.cps.toList)])=H8 at hy8 s25 ⊢
    refine⟨_,rfl,s25,?_⟩
    have ow:=OWs.cons (H:=H8) (o:=some (.nm k)) (v:=.str k) rfl (OWs.cons (OW.num (jI 1 l.cps.toList)) (show OWs _ [] [] from trivial))
    refine .yes hy8 (by simp) ow ?_ ?_
    · intro hn
      rw [hio]
      cases h2:jI 1 l.cps.toList with
      | none=>
       rcases hk with rfl | rfl
       · rw [wW,h2]
       · rw [wl,h2]
      | some x'=>rw [h2] at hn;cases hn
    · intro hs
      rw [hio]
      cases h2:jI 1 l.cps.toList with
      | none=>rw [h2] at hs;simp at hs
      | some x'=>
       rw [h2] at hy8
       rcases hk with rfl | rfl
       · rw [wW,h2];exact⟨_,rfl,isG hy8⟩
       · rw [wl,h2];exact⟨_,rfl,isM hy8⟩
 rintro σ H4 ⟨fv,rfl,s4,hfd⟩
 have s14:=w1.trans s4
 cases hfd with
 | no e=>exact⟨_,rfl,_,rfl,qt (qt (kn e H4 s14))⟩
 | @yes y us os hy hl ho hn hs=>
  refine⟨_,rfl,_,rfl,ql ?_⟩
  refine⟨_,rfl,y,rfl,⟨_,SqT.of hy⟩,qAe (K:=K) (a:=y) (xs:=us) (fun i acc H'=>H'=H4∧acc=((us.take i).map nonB).map V.bl) ⟨rfl,rfl⟩ ?_ ?_ ?_⟩
  · rintro i acc H' hi ⟨rfl,rfl⟩
    exact⟨SqT.of hy,qV (by simp;omega)⟩
  · rintro i x acc H' hi hx ⟨rfl,rfl⟩
    refine⟨_,rfl,Nxt.mk hi ⟨rfl,?_⟩⟩
    rw [List.take_add_one,hx,List.map_append,List.map_append]
    have e:decide (x= .non)=nonB x:=by cases x <;> rfl
    rw [e]
    rfl
  · rintro acc H' ⟨rfl,rfl⟩ D hD
    rw [List.take_length]
    have w5:=qE hD (.lst ((us.map nonB).map V.bl))
    refine⟨D,_,rfl,SqL.of qC,?_⟩
    rw [ho.any]
    cases hb:os.any (·.isNone) with
    | true=>exact⟨_,rfl,qt (kn (hn hb) _ (s14.trans w5))⟩
    | false=>
     refine qO fun _ Y=>?_
     obtain⟨m,h1,h2⟩:=hs hb
     apply Y
     exact⟨_,rfl,ql ⟨_,rfl,ks m _ _ h1 (s14.trans w5) (h2.ts (qh w5))⟩⟩
def wsL (ms:List Im):List Str:=("begin":Str)::(ms.map Im.wd++[("end":Str)])
theorem qKm (ms:List Im):(wsL ms).length=ms.length+2:=by unfold wsL;simp
theorem qIf {ms:List Im}{i:Nat}{m:Im}(h:ms[i]? =some m):(wsL ms)[i+1]? =some m.wd:=by
 unfold wsL
 rw [List.getElem?_cons_succ,List.getElem?_append_left (by rw [List.length_map];exact glt h),List.getElem?_map,h]
 rfl
theorem qG9 (ms:List Im):(wsL ms)[ms.length+1]? =some "end":=by
 unfold wsL
 rw [List.getElem?_cons_succ,List.getElem?_append_right (by simp),List.length_map,Nat.sub_self]
 rfl
theorem qLi (m:Im):m.wd≠"begin"∧m.wd≠"end"∧m.wd≠"":=by
 cases m with
 | clip=>exact⟨(by decide+kernel:("clip":Str)≠"begin"),(by decide+kernel:("clip":Str)≠"end"),(by decide+kernel:("clip":Str)≠"")⟩
 | nest=>exact⟨(by decide+kernel:("nest":Str)≠"begin"),(by decide+kernel:("nest":Str)≠"end"),(by decide+kernel:("nest":Str)≠"")⟩
 | gap=>exact⟨(by decide+kernel:("gap":Str)≠"begin"),(by decide+kernel:("gap":Str)≠"end"),(by decide+kernel:("gap":Str)≠"")⟩
 | mix=>exact⟨(by decide+kernel:("mix":Str)≠"begin"),(by decide+kernel:("mix":Str)≠"end"),(by decide+kernel:("mix":Str)≠"")⟩
theorem wp {ms:List Im}{k:Int}(h:k < 0∨(ms.length:Int)≤k):jY ms k="":=by
 unfold jY
 rcases h with h | h
 · rw [if_pos h]
 · rw [if_neg (by omega),List.getElem?_eq_none (by omega)]
def okK (ms:List Im)(i:Nat):Prop:=(∀ l,1≤i→ms[i - 1]? =some (.gap l)→∃ m:Im,ms[i]? =some m∧m.wd≠"gap")∧(∀ l,ms[i]? =some (.mix l)→jY ms ((i:Int) - 1)="clip"∧jY ms ((i:Int)+1)="clip")
theorem qIo {ms:List Im}(h:∀ j,j≤ms.length→okK ms j):ke ms:=
 ⟨fun i l hi=>(h (i+1) (glt hi)).1 l (by omega) hi,fun i l hi=>(h i (Nat.le_of_lt (glt hi))).2 l hi⟩
theorem qHx {ms:List Im}(h:ke ms)(i:Nat):okK ms i:=
 ⟨fun l h1 hi=>by have:=h.1 (i - 1) l hi;rwa [show i - 1+1=i by omega] at this,fun l hi=>h.2 i l hi⟩
theorem qLe {ms:List Im}{i:Nat}(h:i≤ms.length):∃ x:Str,(wsL ms)[i]? =some x∧(x="gap"↔1≤i∧∃ l,ms[i - 1]? =some (.gap l))∧(x="clip"↔jY ms ((i:Int) - 1)="clip"):=by
 cases i with
 | zero=>
  refine⟨"begin",rfl,⟨fun e=>absurd e (by decide+kernel),fun e=>by omega⟩,?_⟩
  rw [wp (.inl (by omega))]
  exact⟨fun e=>absurd e (by decide+kernel),fun e=>absurd e (by decide+kernel)⟩
 | succ j=>
  have hj:ms[j]? =some ms[j]:=List.getElem?_eq_getElem (by omega)
  refine⟨_,qIf hj,⟨fun e=>⟨by omega,?_⟩,fun⟨_,l,e⟩=>?_⟩,?_⟩
  · obtain⟨l,e'⟩:=qE5 e
    exact⟨l,by rw [Nat.add_sub_cancel,hj,e']⟩
  · rw [Nat.add_sub_cancel,hj] at e
    have:ms[j]= .gap l:=Option.some.inj e
    rw [this];rfl
  · rw [xH hj (by omega)]
theorem qLp {ms:List Im}{i:Nat}(h:i≤ms.length):∃ y:Str,(wsL ms)[i+1]? =some y∧((y="gap"∨y="end")↔¬ ∃ m:Im,ms[i]? =some m∧m.wd≠"gap")∧(y="mix"↔∃ l,ms[i]? =some (.mix l)):=by
 by_cases hi:i < ms.length
 · have hj:ms[i]? =some ms[i]:=List.getElem?_eq_getElem hi
   refine⟨_,qIf hj,⟨fun e ⟨m,h1,h2⟩=>?_,fun e=>?_⟩,⟨fun e=>?_,fun⟨l,e⟩=>?_⟩⟩
   · rw [hj] at h1
     cases h1
     rcases e with e | e
     · exact h2 e
     · exact(qLi _).2.1 e
   · exact .inl (Classical.byContradiction fun z=>e ⟨_,hj,z⟩)
   · obtain⟨l,e'⟩:=qD6 e
     exact⟨l,by rw [hj,e']⟩
   · rw [hj] at e
     have:ms[i]= .mix l:=Option.some.inj e
     rw [this];rfl
 · have e:i=ms.length:=by omega
   subst e
   refine⟨"end",qG9 ms,⟨fun _ ⟨m,h1,_⟩=>?_,fun _=>.inr rfl⟩,⟨fun e=>absurd e (by decide+kernel),fun⟨l,e⟩=>?_⟩⟩
   · simp at h1
   · simp at e
theorem qMy {ms:List Im}{i:Nat}(h:i < ms.length):∃ y:Str,(wsL ms)[i+2]? =some y∧(y="clip"↔jY ms ((i:Int)+1)="clip"):=by
 by_cases hi:i+1 < ms.length
 · have hj:ms[i+1]? =some ms[i+1]:=List.getElem?_eq_getElem hi
   exact⟨_,qIf hj,by rw [xH hj (by omega)]⟩
 · have e:i+1=ms.length:=by omega
   refine⟨"end",by have:=qG9 ms;rw [← e] at this;exact this,?_⟩
   rw [wp (.inr (by omega))]
   exact⟨fun e=>absurd e (by decide+kernel),fun e=>absurd e (by decide+kernel)⟩
inductive kx (vs:List V)(H:Hp)(Q:VK)(_:XK):Prop
| mk (z:Addr) (ms:List Im) (_:vs=[.ref z]) (_:Tr H z ms) (_:ms.length≤75000) (_:∀ H',Same H H'→(ke ms→Q (.bl true) H')∧(¬ ke ms→Q (.bl false) H'))
theorem vB (T:Tx K mg a):FnOk P w K mg base CX0 1 a.A34 a.B34 ["_law_track_here"] kx:=by
 refine T.D34.F.ok jn (fun vs H Q E h=>?_) (fun cdv A outer s H vs Q E hr h=>?_)
 · obtain⟨z,ms,rfl,_⟩:=h
   rfl
 refine qO fun _ Y=>?_
 obtain⟨z,ms,rfl,⟨xs,hz,his⟩,hl,kk⟩:=h
 apply Y
 refine⟨_,(qD (qg 1 jn.nd (qP kj (qP kj (jH (qA qJ qB)) (jp [] [] rfl (xC (pv 0)) (fun _ _ _ _=>(qj (qFj (K:=K) rfl) (pv 0) qF (fun _ _=>rfl))))) (jH (qA qJ qB))))
  (qD (vn PassesOwn.never rfl (qEl rfl T.b_range (qA qF (qA (qN qX rfl T.b_len rfl (qA (pv 1) qB)) qB))) (jo (i:=2) jn.nd rfl (Or.inl rfl)) (qD (jP (qd (PW.pt (j1 (qH jC (qj qR (pv 1) (qP qFq (pv 2) qF) (fun _ _=>rfl)) qJ (qM _)) (j2 (qH qBm (qj qR (pv 1) (pv 2) (fun _ _=>rfl)) (jH (qA qJ (qA qJ qB))) rfl)))) (qG (qK zQ)) qL))
  (qG (qd (PW.pt (j1 (qH jC (qj qR (pv 1) (pv 2) (fun _ _=>rfl)) qJ (qM _)) (j2 (PW.pt (xM (qH kD (qj qR (pv 1) (qP qFq (pv 2) qF) (fun _ _=>rfl)) qJ (qM _)) (je (qH kD (qj qR (pv 1) (qP jJ (pv 2) qF) (fun _ _=>rfl)) qJ (qM _)))))))) (qG (qK zQ)) qL))))
  (qG (qK zQ)))),?_⟩
 try dsimp only [xU,qz]
 have hxl:=his.len
 refine⟨sL1,fun b1 hb1=>?_⟩
 have w1:=qE hb1 (.lst [.str "begin"])
 refine⟨_,rfl,z,rfl,⟨_,SqL.of (w1 _ _ hz)⟩,jy (K:=K) (a:=z) (xs:=xs) (fun i acc H'=>H'=upd H b1 (.lst [.str "begin"])∧acc=((ms.take i).map Im.wd).map V.str) ⟨rfl,rfl⟩ ?_ ?_ ?_⟩
 · rintro i acc H' hi ⟨rfl,rfl⟩
   exact⟨SqL.of (w1 _ _ hz),qV (by simp;omega)⟩
 · rintro i x acc H' hi hx ⟨rfl,rfl⟩
   refine qO fun _ Y=>?_
   obtain⟨m,hm,hI⟩:=his.get hx
   obtain⟨zi,xi,rfl,hzi,h0,_⟩:=(hI.ts (qh w1)).opn
   apply Y
   refine⟨_,rfl,zi,xi,_,_,rfl,rfl,SqT.of hzi,h0,Nxt.mk hi ⟨rfl,?_⟩⟩
   rw [List.take_add_one,hm,List.map_append,List.map_append]
   rfl
 rintro acc H' ⟨rfl,rfl⟩ b2 hb2
 rw [hxl,List.take_length]
 have w2:=qE hb2 (.lst ((ms.map Im.wd).map V.str))
 refine⟨b1,b2,_,_,rfl,rfl,w2 _ _ qC,qC,Nat.le_of_lt (qV (by simp;omega)),fun b3 hb3=>?_⟩
 have w3:=qE hb3 (.lst ([.str "begin"]++(ms.map Im.wd).map V.str))
 have h3:(upd (upd (upd H b1 (.lst [.str "begin"])) b2 (.lst ((ms.map Im.wd).map V.str))) b3 (.lst ([.str "begin"]++(ms.map Im.wd).map V.str))) b3=some (.lst ([.str "begin"]++(ms.map Im.wd).map V.str)):=qC
 have s3:=(w1.trans w2).trans w3
 generalize upd (upd (upd H b1 (.lst [.str "begin"])) b2 (.lst ((ms.map Im.wd).map V.str))) b3 (.lst ([.str "begin"]++(ms.map Im.wd).map V.str))=H3 at h3 s3 ⊢
 refine⟨sL1,fun b4 hb4=>?_⟩
 have w4:=qE hb4 (.lst [.str "end"])
 refine⟨b3,b4,_,_,rfl,rfl,w4 _ _ h3,qC,Nat.le_of_lt (qV (by simp;omega)),fun wd hwd=>?_⟩
 have w5:=qE hwd (.lst ([.str "begin"]++(ms.map Im.wd).map V.str++[.str "end"]))
 have ew:([.str "begin"]++(ms.map Im.wd).map V.str++[.str "end"]:List V)=(wsL ms).map V.str:=by unfold wsL;simp
 rw [ew] at w5 ⊢
 have h5:(upd (upd H3 b4 (.lst [.str "end"])) wd (.lst ((wsL ms).map V.str))) wd=some (.lst ((wsL ms).map V.str)):=qC
 have s5:=(s3.trans w4).trans w5
 generalize upd (upd H3 b4 (.lst [.str "end"])) wd (.lst ((wsL ms).map V.str))=H5 at h5 s5 ⊢
 have hwl:((wsL ms).map V.str).length=ms.length+2:=by rw [List.length_map,qKm]
 have atW:∀ {j:Nat} {x:Str} {k:Int},(wsL ms)[j]? =some x→k=(j:Int)→atI ((wsL ms).map V.str) k=some (.str x):=fun {j x k} h e=>by
  subst e
  exact j3 (by rw [List.getElem?_map,h];rfl)
 refine⟨_,rfl,wd,_,rfl,.inl (SqL.of h5),1,_,rfl,⟨by omega,by omega,by omega,by omega⟩,?_⟩
 have en:(((((wsL ms).map V.str).length:Nat):Int) - 1).toNat=ms.length+1:=by omega
 rw [en]
 refine kF (lo:=1) (n:=ms.length+1) (fun i σ H'=>∃ o,σ=[some (.ref z),some (.ref wd),o]∧Same H5 H'∧∀ j,j < i→okK ms j) ⟨none,rfl,Same.refl _,fun j h=>by omega⟩ ?_ ?_
 rotate_left
 · rintro σ H' ⟨o,rfl,s6,hok⟩
   exact(kk H' (s5.trans s6)).1 (qIo fun j hj=>hok j (by omega))
 rintro i σ H' hi ⟨o,rfl,s6,hok⟩
 have hi':i≤ms.length:=by omega
 refine qO fun _ Y=>?_
 obtain⟨x,hx,xg,xc⟩:=qLe hi'
 obtain⟨y,hy,yg,ym⟩:=qLp hi'
 apply Y
 have hq:∀ {H2},Same H' H2→SqL K H2 wd ((wsL ms).map V.str):=fun s=>SqL.of (s _ _ (s6 _ _ h5))
 have bad:∀ {H2},Same H' H2→¬ okK ms i→Q (.bl false) H2:=fun s h=>(kk _ ((s5.trans s6).trans s)).2 fun f=>h (qHx f i)
 have ax:atI ((wsL ms).map V.str) (1+(i:Int) - 1)=some (.str x):=atW hx (by omega)
 have ay:atI ((wsL ms).map V.str) (1+(i:Int))=some (.str y):=atW hy (by omega)
 refine⟨fun σ H2=>σ=[some (.ref z),some (.ref wd),some (.int (1+(i:Int)))]∧Same H' H2∧(∀ l,1≤i→ms[i - 1]? =some (.gap l)→∃ m:Im,ms[i]? =some m∧m.wd≠"gap"),?_,?_⟩
 · refine⟨_,rfl,_,rfl,_,_,rfl,rfl,wd,_,_,_,rfl,rfl,hq (Same.refl _),ax,rfl,_,rfl,?_⟩
   rw [qAh]
   by_cases hg:x="gap"
   rotate_left
   · rw [decide_eq_false hg]
     exact ql (ql ⟨rfl,Same.refl _,fun l h1 h2=>absurd (xg.mpr ⟨h1,l,h2⟩) hg⟩)
   rw [decide_eq_true hg]
   refine qt ⟨_,rfl,_,rfl,wd,_,_,_,rfl,rfl,hq (Same.refl _),ay,sL2,fun gl hgl=>?_⟩
   have w6:=qE hgl (.lst [.str "gap",.str "end"])
   have hin:inV (.str y) [.str "gap",.str "end"]=decide (y="gap"∨y="end"):=by
    rw [Bool.eq_iff_iff,decide_eq_true_eq]
    simp only [inV,eqV,List.any_cons,List.any_nil,Bool.or_false,Bool.or_eq_true,beq_iff_eq]
    exact or_congr eq_comm eq_comm
   refine⟨gl,_,rfl,.inl (SqL.of qC),rfl,rfl,_,rfl,?_⟩
   rw [if_neg Bool.false_ne_true,hin]
   by_cases hy2:y="gap"∨y="end"
   · rw [decide_eq_true hy2]
     refine qO fun _ Y=>?_
     obtain⟨h1,l,h2⟩:=xg.mp hg
     apply Y
     exact qt (bad w6 fun ok=>yg.mp hy2 (ok.1 l h1 h2))
   · rw [decide_eq_false hy2]
     exact ql ⟨rfl,w6,fun l h1 h2=>Classical.byContradiction fun z=>hy2 (yg.mpr z)⟩
 rintro σ H2 ⟨rfl,s7,hgp⟩
 refine⟨_,rfl,_,rfl,wd,_,_,_,rfl,rfl,hq s7,ay,rfl,_,rfl,?_⟩
 rw [qAh]
 have fin:∀ b,(∀ l,ms[i]? =some (.mix l)→jY ms ((i:Int) - 1)="clip"∧jY ms ((i:Int)+1)="clip")→(∃ o,[some (V.ref z),some (.ref wd),some (.int (1+(i:Int)))]=[some (.ref z),some (.ref wd),o]∧Same H5 H2∧∀ j,j < i+1→okK ms j)∨b=false:=fun b hmx=>.inl ⟨_,rfl,s6.trans s7,fun j hj=>by
  by_cases e:j=i
  · subst e;exact⟨hgp,hmx⟩
  · exact hok j (by omega)⟩
 by_cases hm:y="mix"
 rotate_left
 · rw [decide_eq_false hm]
   exact ql (ql ((fin true fun l h=>absurd (ym.mpr ⟨l,h⟩) hm).resolve_right (by decide)))
 rw [decide_eq_true hm]
 obtain⟨l,hl'⟩:=ym.mp hm
 refine qt ⟨_,rfl,_,rfl,_,_,rfl,rfl,wd,_,_,_,rfl,rfl,hq s7,ax,rfl,_,rfl,?_⟩
 rw [qAh]
 by_cases hc:x="clip"
 rotate_left
 · rw [decide_eq_false hc]
   exact qt (qt (bad s7 fun ok=>hc (xc.mpr (ok.2 l hl').1)))
 rw [decide_eq_true hc]
 refine qO fun _ Y=>?_
 obtain⟨u,hu',uc⟩:=qMy (glt hl')
 apply Y
 have au:atI ((wsL ms).map V.str) (1+(i:Int)+1)=some (.str u):=atW hu' (by omega)
 refine ql ⟨_,rfl,_,rfl,_,_,rfl,rfl,wd,_,_,_,rfl,rfl,hq s7,au,rfl,_,rfl,?_⟩
 rw [qAh]
 by_cases hc2:u="clip"
 · rw [decide_eq_true hc2]
   exact ql ((fin true fun _ _=>⟨xc.mp hc,uc.mp hc2⟩).resolve_right (by decide))
 · rw [decide_eq_false hc2]
   exact qt (bad s7 fun ok=>hc2 (uc.mpr (ok.2 l hl').2))
def OI (H:Hp):Option Im→V→Prop
 | none,v=>v= .non
 | some m,v=>IsI H m v
theorem OI.same {H H':Hp}(s:Same H H'):∀ {o:Option Im} {v:V},OI H o v→OI H' o v
 | none,_,h=>h
 | some _,_,h=>IsI.ts (qh s) h
def OIs (H:Hp):List (Option Im)→List V→Prop
 | [],[]=>True
 | o::os,v::vs=>OI H o v∧OIs H os vs
 | _,_=>False
theorem OIs.same {H H':Hp}(s:Same H H'):∀ {os:List (Option Im)} {vs:List V},OIs H os vs→OIs H' os vs
 | [],[],_=>trivial
 | _::_,_::_,h=>⟨h.1.same s,OIs.same s h.2⟩
 | [],_::_,h=>h.elim
 | _::_,[],h=>h.elim
theorem OIs.snoc {H:Hp}:∀ {os:List (Option Im)} {vs:List V} {o:Option Im} {v:V},OIs H os vs→OI H o v→OIs H (os++[o]) (vs++[v])
 | [],[],_,_,_,h=>⟨h,trivial⟩
 | _::_,_::_,_,_,h,h'=>⟨h.1,h.2.snoc h'⟩
 | [],_::_,_,_,h,_=>h.elim
 | _::_,[],_,_,h,_=>h.elim
theorem IsI.nonB {H:Hp}{m:Im}{v:V}(h:IsI H m v):nonB v=false:=by
 obtain⟨z,_,rfl,_⟩:=h.opn
 rfl
theorem OIs.ends {H:Hp}:∀ {zs:List Str} {vs:List V},OIs H (zs.map itO) vs→((vs.map Lw.nonB).any id=true∧kJ zs=none)∨((vs.map Lw.nonB).any id=false∧∃ ms,kJ zs=some ms∧IsIs H ms vs)
 | [],[],_=>.inr ⟨rfl,[],rfl,trivial⟩
 | [],_::_,h=>h.elim
 | _::_,[],h=>h.elim
 | z::zs,v::vs,h=>by
  have ih:=OIs.ends (zs:=zs) (vs:=vs) h.2
  have h1:=h.1
  unfold kJ
  rw [List.map_cons,List.any_cons]
  cases e:itO z with
  | none=>
   rw [e] at h1
   have hv:v= .non:=h1
   subst hv
   exact .inl ⟨rfl,rfl⟩
  | some m=>
   rw [e] at h1
   have h1':IsI H m v:=h1
   rw [h1'.nonB]
   rcases ih with ⟨a,b⟩ | ⟨a,ms,b,c⟩
   · exact .inl ⟨by rw [a];rfl,by rw [b]⟩
   · exact .inr ⟨by rw [a];rfl,m::ms,by rw [b],h1',c⟩
inductive kH (vs:List V)(H:Hp)(Q:VK)(_:XK):Prop
| mk (z:Str) (_:vs=[.str z]) (_:z.length≤70000) (_:(∀ ms y H',TrO z ms→Same H H'→Tr H' y ms→Q (.ref y) H')) (_:((∀ ms,¬ TrO z ms)→∀ H',Same H H'→Q .non H'))
theorem zo (T:Tx K mg a):FnOk P w K mg base CX0 4 a.A39 a.B39 ["_law_text"] kH:=by
 refine T.D39.F.ok j6 (fun vs H Q E h=>?_) (fun cdv A outer s H vs Q E hr h=>?_)
 · obtain⟨z,rfl,_⟩:=h
   rfl
 refine qO fun _ Y=>?_
 obtain⟨z,rfl,hz,kg,kb⟩:=h
 apply Y
 refine⟨_,(qD (qd (qH jC (pv 0) qJ (qM _)) (qG (qK (jH qB))) qL)
  (qD (qHh (i:=1) [] [] j6.nd rfl rfl rfl (xC (jt F.plainAttrs_str F.slot_str_split F.type_str_split xP (pv 0) (qA qJ qB))) (fun _ _ _ _=>(qW T.D38 (kO T) hr rfl (qA (pv 0) qB))))
  (qD (qd (PW.pt (xM (jf (qN (vZ rfl) rfl T.b_any rfl (qA (jp [] [] rfl (xC (pv 1)) (fun _ _ _ _=>(qHa (wS (pv 0))))) qB))) (je (zR (jf (qW T.D34 (vB T) hr rfl (qA (pv 1) qB))))))) (qG (qK xl)) qL)
  (qG (qK (pv 1)))))),?_⟩
 try dsimp only [xU,qz]
 refine⟨_,rfl,rfl,_,rfl,?_⟩
 rw [qAh]
 by_cases h0:z=""
 · rw [decide_eq_true h0]
   exact qt ⟨sL0,fun y hy=>kg [] y _ (.inl ⟨h0,rfl⟩) (qE hy _) ⟨[],qC,trivial⟩⟩
 rw [decide_eq_false h0]
 refine ql ?_
 refine⟨_,rfl,rfl,_,_,rfl,rfl,(by decide+kernel),Nat.le_of_lt (qV (by omega)),fun zp hzp=>?_⟩
 have hm:∀ p∈Txt.split z "; ",p.length≤80000:=fun p hp=>Nat.le_trans (zz hp) (by omega)
 have hc:(Txt.split z "; ").length≤70002:=by
  have:=zA (x:=z) (y:="; ") (by decide+kernel)
  rw [qLl] at this
  omega
 have hO:∀ ms,TrO z ms↔(kJ (Txt.split z "; ")=some ms∧ke ms):=fun ms=>⟨fun h=>by
  rcases h with h | h
  · exact absurd h.1 h0
  · exact h.2,fun h=>.inr ⟨h0,h⟩⟩
 generalize Txt.split z "; "=ps at hm hc hO ⊢
 have w1:=qE hzp (.lst (ps.map V.str))
 have ep:SqL K (upd H zp (.lst (ps.map V.str))) zp (ps.map V.str):=SqL.of qC
 generalize upd H zp (.lst (ps.map V.str))=H1 at w1 ep ⊢
 have epl:(ps.map V.str).length=ps.length:=List.length_map _
 refine⟨zp,rfl,⟨_,ep⟩,jy (K:=K) (a:=zp) (xs:=ps.map V.str) (fun i acc H'=>Same H1 H'∧acc.length=i∧OIs H' ((ps.take i).map itO) acc) ⟨Same.refl _,rfl,trivial⟩ ?_ ?_ ?_⟩
 · rintro i acc H' hi ⟨s1,hal,_⟩
   exact⟨s1.seq ep,qV (by omega)⟩
 · rintro i x acc H' hi hx ⟨s1,hal,ho⟩
   rw [List.getElem?_map] at hx
   refine qO fun _ Y=>?_
   obtain⟨p,hp,rfl⟩:=Option.map_eq_some_iff.mp hx
   apply Y
   have nx:∀ v H2,Same H' H2→OI H2 (itO p) v→Nxt (ps.map V.str).length i (Same H1 H2∧(acc++[v]).length=i+1∧OIs H2 ((ps.take (i+1)).map itO) (acc++[v])):=fun v H2 s2 hv=>by
    refine Nxt.mk hi ⟨s1.trans s2,by rw [List.length_append,hal];rfl,?_⟩
    rw [List.take_add_one,hp,List.map_append]
    exact(ho.same s2).snoc hv
   refine⟨_,rfl,p,rfl,hm p (List.mem_of_getElem? hp),fun hn H2 s2=>?_,fun m v H2 hmO s2 hv=>?_⟩
   · exact nx _ H2 s2 (by rw [hn];rfl)
   · exact nx _ H2 s2 (by rw [hmO];exact hv)
 rintro acc H2 ⟨s1,hal,ho⟩ D hD
 rw [epl,List.take_length] at ho
 rw [epl] at hal
 have w2:=qE hD (.lst acc)
 have w3:=(w1.trans s1).trans w2
 have hDa:(upd H2 D (.lst acc)) D=some (.lst acc):=qC
 have ho3:=ho.same w2
 generalize upd H2 D (.lst acc)=H3 at hDa w3 ho3 ⊢
 refine⟨_,rfl,D,rfl,⟨_,SqL.of hDa⟩,jy (K:=K) (a:=D) (xs:=acc) (fun i bs H'=>H'=H3∧bs=((acc.take i).map nonB).map V.bl) ⟨rfl,rfl⟩ ?_ ?_ ?_⟩
 · rintro i bs H' hi ⟨rfl,rfl⟩
   exact⟨SqL.of hDa,qV (by simp;omega)⟩
 · rintro i x bs H' hi hx ⟨rfl,rfl⟩
   refine⟨_,rfl,Nxt.mk hi ⟨rfl,?_⟩⟩
   rw [List.take_add_one,hx,List.map_append,List.map_append]
   have e:decide (x= .non)=nonB x:=by cases x <;> rfl
   rw [e]
   rfl
 rintro bs H' ⟨rfl,rfl⟩ D2 hD2
 rw [List.take_length]
 have w4:=qE hD2 (.lst ((acc.map nonB).map V.bl))
 have w5:=w3.trans w4
 refine⟨D2,_,rfl,SqL.of qC,?_⟩
 have hDb:=w4 _ _ hDa
 have ho4:=ho3.same w4
 generalize upd H' D2 (.lst ((acc.map nonB).map V.bl))=H4 at w5 hDb ho4 ⊢
 rcases ho4.ends with ⟨e,hn⟩ | ⟨e,ms,hs,his⟩
 · rw [e]
   refine⟨_,rfl,qt (qt (kb (fun ms' h=>?_) H4 w5))⟩
   have:=((hO ms').mp h).1
   rw [hn] at this
   cases this
 · rw [e]
   have tT:Tr H4 D ms:=⟨acc,hDb,his⟩
   refine⟨_,rfl,ql ⟨_,rfl,D,ms,rfl,tT,by rw [← his.len];omega,fun H5 s5=>⟨fun hf=>⟨_,rfl,ql ?_⟩,fun hf=>⟨_,rfl,qt ?_⟩⟩⟩⟩
   · exact⟨_,rfl,kg ms D H5 ((hO ms).mpr ⟨hs,hf⟩) (w5.trans s5) (tT.same s5)⟩
   · refine kb (fun ms' h=>?_) H5 (w5.trans s5)
     have h':=(hO ms').mp h
     rw [hs] at h'
     cases h'.1
     exact hf h'.2
inductive qA2 (K:W.Frag)(vs:List V)(H:Hp)(Q:VK)(_:XK):Prop
| mk (x:V) (_:vs=[x]) (_:((∃ z:Str,x= .str z∧z.length≤70000∧(∀ ms y H',TrO z ms→Same H H'→Tr H' y ms→Q (.ref y) H')∧((∀ ms,¬ TrO z ms)→∀ H',Same H H'→Q (.bl false) H'))∨(∃ t,vq K H x t∧W.kitOne K t (.type "str")=some false∧∀ H',Same H H'→Q (.bl false) H')))
theorem km [hW:WP w a] (T:Tx K mg a):FnOk P w K mg base CX0 9 a.A33 a.B33 ["_law_text"] (qA2 K):=by
 refine T.D33.F.ok jc (fun vs H Q E h=>?_) (fun cdv A outer s H vs Q E hr h=>?_)
 · obtain⟨x,rfl,_⟩:=h
   rfl
 refine qO fun _ Y=>?_
 obtain⟨x,rfl,h⟩:=h
 obtain⟨rf,hrf⟩:∃ rf:Prop,rf=(∀ H',Same H H'→Q (.bl false) H'):=⟨_,rfl⟩
 apply Y
 refine⟨_,(qD (qg 1 jc.nd xl)
  (qD (qJp (fun B od H'=>B= .ref a.k_NoText∧od=none∧Same H H'∧rf) (.some (i:=2) rfl rfl) jc.nd rfl T.c_NoText (fun _=>(qG (qg 1 jc.nd (jN T.D24 (zS (hW:=hW) T) hr rfl (qA (pv 0) qB))))) (fun _ _=>(qG (qg 1 jc.nd (qN (qAg (K:=K) rfl) rfl T.b_isinstance rfl (qA (pv 2) (qA (zf (v:=.ref a.k_NoClip) rfl T.c_NoClip rfl) qB)))))))
  (qG (qK (pv 1))))),?_⟩
 try dsimp only [xU,qz]
 refine⟨?_,?_⟩
 · rcases h with ⟨z,rfl,hz,kg,kb⟩ | ⟨t,ty,e,kb⟩
   · refine⟨_,rfl,_,rfl,.inl ⟨z,rfl,hz,fun ms y H1 ht s1 hn tT=>⟨_,rfl,kg ms y H1 ht s1 tT⟩,fun hn H1 s1=>⟨rfl,rfl,s1,by rw [hrf];exact kb hn⟩⟩⟩
   · exact⟨_,rfl,_,rfl,.inr ⟨t,ty,e,rfl,rfl,Same.refl _,by rw [hrf];exact kb⟩⟩
 · rintro ea ⟨B,od⟩ σ' H' ⟨e1,e2,sH,hb⟩ hn hl
   dsimp only at e1 e2
   refine qO fun _ Y=>?_
   subst e1 e2
   obtain⟨o1,o2,o3,rfl⟩:∃ o1 o2 o3,σ'=[o1,o2,o3]:=by
    match σ',hl with
    | [o1,o2,o3],_=>exact⟨o1,o2,o3,rfl⟩
   apply Y
   rw [hrf] at hb
   refine⟨T.m_NoText,?_⟩
   exact⟨_,rfl,ea,_,none,_,false,rfl,qC,.inl rfl,T.e_NoText,.inr ⟨_,rfl,T.i_TK⟩,_,rfl,hb _ (sH.trans (qE hn _))⟩
theorem j7 (ps:List Str)(i:Nat):qDl (ps.map V.str) none (some (i:Int))=(ps.take i).map V.str:=by rw [qGl,List.map_take]
theorem j4 (ps:List Str)(i:Nat):qDl (ps.map V.str) (some (i:Int)) none=(ps.drop i).map V.str:=by rw [qC4,List.map_drop]
theorem fmN (x:Int){n:Nat}(h:0 < n):∃ i:Nat,x.fmod (n:Int)=(i:Int)∧i < n:=by
 have f:=fm x (show (0:Int) < (n:Int) by omega)
 exact⟨(x.fmod n).toNat,by omega,by omega⟩
def ChR (z:Str)(H:Hp)(Q:VK):Prop:=∀ (r:Str) (H':Hp),r.length≤2*z.length+4→Same H H'→Q (.str r) H'
theorem qFk {z sep:Str}{H H':Hp}{Q:VK}{l:Addr}{ss:List Str}(hs:sep.length≤2)(hz:z.length≤40000)(kk:ChR z H Q)(hl:H' l=some (.lst (ss.map V.str)))(ht:xa sep ss≤2*xa sep (Txt.split z sep))(s:Same H H'):qGn K (.str sep) [.ref l] H' Q:=by
 rw [vc] at ht
 have hB:=kI (sep:=sep) (l:=ss) (by omega)
 refine⟨sep,l,ss,rfl,rfl,SqL.of hl,hB.1,hB.2,?_⟩
 rw [zN]
 exact kk _ _ (by have:=wm sep ss;omega) s
inductive x9 (vs:List V)(H:Hp)(Q:VK)(_:XK):Prop
| mk (z:Str) (x y:Int) (_:vs=[.str z,.int x,.int y]) (_:z.length≤40000) (_:ChR z H Q)
theorem xn (T:Tx K mg a):FnOk P w K mg base CX0 1 a.A31 a.B31 ["_law_text","_law_x","_law_y"] x9:=by
 refine T.D31.F.ok qq (fun vs H Q E h=>?_) (fun cdv A outer s H vs Q E hr h=>?_)
 · obtain⟨z,x,y,rfl,_⟩:=h
   rfl
 refine qO fun _ Y=>?_
 obtain⟨z,x,y,rfl,hz,kk⟩:=h
 apply Y
 refine⟨_,(qD (qg 3 qq.nd (jt F.plainAttrs_str F.slot_str_split F.type_str_split xP (pv 0) (qA qJ qB)))
  (qD (qg 4 qq.nd (qP qc (qP qv (pv 1) qF) (qN qX rfl T.b_len rfl (qA (pv 3) qB))))
  (qD (qg 5 qq.nd (qP qc (pv 2) (qN qX rfl T.b_len rfl (qA (pv 3) qB))))
  (qD (qd (qH jC (qP qc (pv 1) qF) qF (qM _)) (qG (qK (jt F.plainAttrs_str F.slot_str_join F.type_str_join j9 qJ (qA (qP kj (qr xF (pv 3) jK (jD (pv 4))) (qr xF (pv 3) (jD (qP jJ (pv 4) qF)) jK)) qB)))) qL)
  (qD (qd (qH jC (qP qc (pv 1) qF) qF (qM _)) (qG (qK (jt F.plainAttrs_str F.slot_str_join F.type_str_join j9 qJ (qA (qP kj (qP kj (qr xF (pv 3) jK (jD (pv 4))) (jH (qA (qj qR (pv 3) (pv 5) (fun _ _=>rfl)) qB))) (qr xF (pv 3) (jD (pv 4)) jK)) qB)))) qL)
  (qG (qK (jt F.plainAttrs_str F.slot_str_join F.type_str_join j9 qJ (qA (qP kj (qP kj (qr xF (pv 3) jK (jD (pv 4))) (jH (qA (qj qR (pv 3) (pv 5) (fun _ _=>rfl)) qB))) (qr xF (pv 3) (jD (qP jJ (pv 4) qF)) jK)) qB))))))))),?_⟩
 try dsimp only [xU,qz]
 refine⟨_,rfl,rfl,_,_,rfl,rfl,(by decide+kernel),Nat.le_of_lt (qV (by omega)),fun zp hzp=>?_⟩
 have hlen:1≤(Txt.split z "; ").length:=List.length_pos_iff.mpr (zJ z "; ")
 have hc:(Txt.split z "; ").length≤40002:=by
  have:=zA (x:=z) (y:="; ") (by decide+kernel)
  rw [qLl] at this
  omega
 have hj:∀ {H':Hp} {l:Addr} {ss:List Str},H' l=some (.lst (ss.map V.str))→xa "; " ss≤2*xa "; " (Txt.split z "; ")→Same H H'→qGn K (.str "; ") [.ref l] H' Q:=fun hl ht s=>qFk (by decide+kernel) hz kk hl ht s
 generalize Txt.split z "; "=ps at hlen hc hj ⊢
 have w1:=qE hzp (.lst (ps.map V.str))
 have ep:(upd H zp (.lst (ps.map V.str))) zp=some (.lst (ps.map V.str)):=qC
 generalize upd H zp (.lst (ps.map V.str))=H1 at w1 ep ⊢
 have epl:(ps.map V.str).length=ps.length:=List.length_map _
 have sP:∀ {H'},Same H1 H'→SqL K H' zp (ps.map V.str):=fun s=>SqL.of (s _ _ ep)
 refine qO fun _ Y=>?_
 obtain⟨i,ei,hi⟩:=fmN (x.fdiv 3) (n:=ps.length) (by omega)
 obtain⟨o,eo,ho⟩:=fmN y (n:=ps.length) (by omega)
 apply Y
 refine⟨_,rfl,_,_,rfl,rfl,cdB (by decide) (by decide),_,rfl,zp,_,rfl,.inl (sP (Same.refl _)),_,_,rfl,rfl,by rw [epl];omega,?_⟩
 rw [epl,ei]
 refine⟨_,rfl,_,rfl,zp,_,rfl,.inl (sP (Same.refl _)),_,_,rfl,rfl,by rw [epl];omega,?_⟩
 rw [epl,eo]
 have td:=qDj "; " ps i
 have ad:((i:Int))+1=(((i+1:Nat)):Int):=by omega
 have hao:atI (ps.map V.str) (o:Int)=some (.str ps[o]):=j3 (by rw [List.getElem?_map,List.getElem?_eq_getElem ho];rfl)
 have hmo:=qAj (sep:="; ") (List.getElem_mem ho)
 refine⟨_,rfl,_,_,rfl,rfl,nz,rfl,_,rfl,qAy (fun _=>?_) (fun _=>?_)⟩
 · refine⟨rfl,_,rfl,_,rfl,_,rfl,zp,_,rfl,sP (Same.refl _),fun l1 h1=>?_⟩
   rw [j7]
   have v1:=qE h1 (.lst ((ps.take i).map V.str))
   refine⟨_,rfl,_,rfl,_,_,rfl,rfl,_,rfl,zp,_,rfl,sP v1,fun l2 h2=>?_⟩
   rw [ad,j4]
   have v2:=qE h2 (.lst ((ps.drop (i+1)).map V.str))
   refine⟨l1,l2,_,_,rfl,rfl,v2 _ _ qC,qC,Nat.le_of_lt (qV (by simp;omega)),fun l3 h3=>?_⟩
   have v3:=qE h3 (.lst ((ps.take i).map V.str++(ps.drop (i+1)).map V.str))
   refine hj (ss:=ps.take i++ps.drop (i+1)) (by rw [List.map_append];exact qC) ?_ (((w1.trans v1).trans v2).trans v3)
   rw [jv]
   have:=zW "; " ps (i:=i) (j:=i+1) (by omega)
   omega
 refine⟨_,rfl,_,_,rfl,rfl,nz,rfl,_,rfl,qAy (fun _=>?_) (fun _=>?_)⟩
 · refine⟨rfl,_,rfl,_,rfl,_,rfl,zp,_,rfl,sP (Same.refl _),fun l1 h1=>?_⟩
   rw [j7]
   have v1:=qE h1 (.lst ((ps.take i).map V.str))
   refine⟨_,rfl,_,rfl,zp,_,_,_,rfl,rfl,sP v1,hao,sL1,fun l2 h2=>?_⟩
   have v2:=qE h2 (.lst [.str ps[o]])
   refine⟨l1,l2,_,_,rfl,rfl,v2 _ _ qC,qC,Nat.le_of_lt (qV (by simp;omega)),fun l3 h3=>?_⟩
   have v3:=qE h3 (.lst ((ps.take i).map V.str++[.str ps[o]]))
   have v13:=(v1.trans v2).trans v3
   refine⟨_,rfl,_,rfl,_,rfl,zp,_,rfl,sP v13,fun l4 h4=>?_⟩
   rw [j4]
   have v4:=qE h4 (.lst ((ps.drop i).map V.str))
   refine⟨l3,l4,_,_,rfl,rfl,v4 _ _ qC,qC,Nat.le_of_lt (qV (by simp;omega)),fun l5 h5=>?_⟩
   have v5:=qE h5 (.lst ((ps.take i).map V.str++[.str ps[o]]++(ps.drop i).map V.str))
   refine hj (ss:=ps.take i++[ps[o]]++ps.drop i) (by rw [List.map_append,List.map_append];exact qC) ?_ (((w1.trans v13).trans v4).trans v5)
   rw [jv,jv,vJ]
   omega
 · refine⟨rfl,_,rfl,_,rfl,_,rfl,zp,_,rfl,sP (Same.refl _),fun l1 h1=>?_⟩
   rw [j7]
   have v1:=qE h1 (.lst ((ps.take i).map V.str))
   refine⟨_,rfl,_,rfl,zp,_,_,_,rfl,rfl,sP v1,hao,sL1,fun l2 h2=>?_⟩
   have v2:=qE h2 (.lst [.str ps[o]])
   refine⟨l1,l2,_,_,rfl,rfl,v2 _ _ qC,qC,Nat.le_of_lt (qV (by simp;omega)),fun l3 h3=>?_⟩
   have v3:=qE h3 (.lst ((ps.take i).map V.str++[.str ps[o]]))
   have v13:=(v1.trans v2).trans v3
   refine⟨_,rfl,_,rfl,_,_,rfl,rfl,_,rfl,zp,_,rfl,sP v13,fun l4 h4=>?_⟩
   rw [ad,j4]
   have v4:=qE h4 (.lst ((ps.drop (i+1)).map V.str))
   refine⟨l3,l4,_,_,rfl,rfl,v4 _ _ qC,qC,Nat.le_of_lt (qV (by simp;omega)),fun l5 h5=>?_⟩
   have v5:=qE h5 (.lst ((ps.take i).map V.str++[.str ps[o]]++(ps.drop (i+1)).map V.str))
   refine hj (ss:=ps.take i++[ps[o]]++ps.drop (i+1)) (by rw [List.map_append,List.map_append];exact qC) ?_ (((w1.trans v13).trans v4).trans v5)
   rw [jv,jv,vJ]
   have:=zW "; " ps (i:=i) (j:=i+1) (by omega)
   omega
inductive vN (vs:List V)(H:Hp)(Q:VK)(_:XK):Prop
| mk (z:Str) (x y:Int) (_:vs=[.str z,.int x,.int y]) (_:z.length≤40000) (_:ChR z H Q)
theorem ve (T:Tx K mg a):FnOk P w K mg base CX0 2 a.A32 a.B32 ["_law_text","_law_x","_law_y"] vN:=by
 refine T.D32.F.ok qy (fun vs H Q E h=>?_) (fun cdv A outer s H vs Q E hr h=>?_)
 · obtain⟨z,x,y,rfl,_⟩:=h
   rfl
 refine qO fun _ Y=>?_
 obtain⟨z,x,y,rfl,hz,kk⟩:=h
 apply Y
 refine⟨_,(qD (qg 3 qy.nd (qP qc (pv 1) qF))
  (qD (qg 4 qy.nd (qP qc (pv 2) (qP jJ (qN jF rfl T.b_len rfl (qA (pv 0) qB)) qF)))
  (qD (qd (qH qB1 (pv 3) qF (qM _)) (qG (qK (qW T.D31 (xn T) hr rfl (qA (pv 0) (qA (qP qv (pv 1) qF) (qA (pv 2) qB)))))) qL)
  (qD (qg 5 qy.nd (jt F.plainAttrs_str F.slot_str_split F.type_str_split xP (pv 0) (qA qJ qB)))
  (qD (qg 6 qy.nd (qP qc (pv 2) (qN qX rfl T.b_len rfl (qA (pv 5) qB))))
  (qD (qd (qH jC (pv 3) qF (qM _)) (qG (qK (jt F.plainAttrs_str F.slot_str_join F.type_str_join j9 qJ (qA (qP kj (qr xF (pv 5) jK (jD (pv 6))) (qr xF (pv 5) (jD (qP jJ (pv 6) qF)) jK)) qB)))) qL)
  (qD (qd (qH jC (pv 3) qF (qM _)) (qD (qJu (qj qR (pv 5) (qP qc (qP qv (pv 2) qF) (qN qX rfl T.b_len rfl (qA (pv 5) qB))) (fun _ _=>rfl)) (qIz (pv 5) (pv 6) qGv))
  (qG (qK (jt F.plainAttrs_str F.slot_str_join F.type_str_join j9 qJ (qA (pv 5) qB))))) qL)
  (qD (qd (qH jC (pv 3) qF (qM _)) (qG (qK (qP jX (qr vY (pv 0) jK (jD (pv 4))) (qr vY (pv 0) (jD (qP jJ (pv 4) qF)) jK)))) qL)
  (qD (qg 7 qy.nd qJ)
  (qG (qK (qP jX (qP jX (qr vY (pv 0) jK (jD (pv 4))) (qj qHb (pv 7) (qP qc (qP qv (pv 2) qF) qF) (fun _ _=>rfl))) (qr vY (pv 0) (jD (pv 4)) jK))))))))))))),?_⟩
 try dsimp only [xU,qz]
 have hsz:z.length≤sizeLine:=Nat.le_of_lt (qV (by omega))
 refine⟨_,rfl,_,_,rfl,rfl,nz,?_⟩
 refine⟨_,rfl,_,rfl,z,rfl,hsz,_,_,rfl,rfl,_,_,rfl,rfl,by show (z.length:Int)+1≠0;omega,?_⟩
 dsimp only
 generalize y.fmod ((z.length:Int)+1)=at_
 refine⟨_,rfl,_,_,rfl,rfl,_,rfl,qAy (fun _=>?_) (fun _=>?_)⟩
 · exact⟨_,rfl,_,rfl,_,_,rfl,rfl,cdB (by decide) (by decide),_,rfl,z,_,_,rfl,hz,kk⟩
 refine⟨_,rfl,rfl,_,_,rfl,rfl,(by decide+kernel),Nat.le_of_lt (qV (by omega)),fun zp hzp=>?_⟩
 have hlen:1≤(Txt.split z " ").length:=List.length_pos_iff.mpr (zJ z " ")
 have hc:(Txt.split z " ").length≤40002:=by
  have:=zA (x:=z) (y:=" ") (by decide+kernel)
  rw [qKx] at this
  omega
 have hj:∀ {H':Hp} {l:Addr} {ss:List Str},H' l=some (.lst (ss.map V.str))→xa " " ss≤2*xa " " (Txt.split z " ")→Same H H'→qGn K (.str " ") [.ref l] H' Q:=fun hl ht s=>qFk (by decide+kernel) hz kk hl ht s
 generalize Txt.split z " "=ps at hlen hc hj ⊢
 have w1:=qE hzp (.lst (ps.map V.str))
 have ep:(upd H zp (.lst (ps.map V.str))) zp=some (.lst (ps.map V.str)):=qC
 have epl:(ps.map V.str).length=ps.length:=List.length_map _
 refine qO fun _ Y=>?_
 obtain⟨i,ei,hi⟩:=fmN y (n:=ps.length) (by omega)
 obtain⟨o,eo,ho⟩:=fmN (y.fdiv 97) (n:=ps.length) (by omega)
 apply Y
 have hao:atI (ps.map V.str) (o:Int)=some (.str ps[o]):=j3 (by rw [List.getElem?_map,List.getElem?_eq_getElem ho];rfl)
 have hmo:=qAj (sep:=" ") (List.getElem_mem ho)
 have td:=qDj " " ps i
 have ad:((i:Int))+1=(((i+1:Nat)):Int):=by omega
 generalize upd H zp (.lst (ps.map V.str))=H1 at w1 ep ⊢
 have sP:∀ {H'},Same H1 H'→SqL K H' zp (ps.map V.str):=fun s=>SqL.of (s _ _ ep)
 refine⟨_,rfl,_,rfl,zp,_,rfl,.inl (sP (Same.refl _)),_,_,rfl,rfl,by rw [epl];omega,?_⟩
 rw [epl,ei]
 refine⟨_,rfl,rfl,_,rfl,qAy (fun _=>?_) (fun _=>?_)⟩
 · refine⟨rfl,_,rfl,_,rfl,_,rfl,zp,_,rfl,sP (Same.refl _),fun l1 h1=>?_⟩
   rw [j7]
   have v1:=qE h1 (.lst ((ps.take i).map V.str))
   refine⟨_,rfl,_,rfl,_,_,rfl,rfl,_,rfl,zp,_,rfl,sP v1,fun l2 h2=>?_⟩
   rw [ad,j4]
   have v2:=qE h2 (.lst ((ps.drop (i+1)).map V.str))
   refine⟨l1,l2,_,_,rfl,rfl,v2 _ _ qC,qC,Nat.le_of_lt (qV (by simp;omega)),fun l3 h3=>?_⟩
   have v3:=qE h3 (.lst ((ps.take i).map V.str++(ps.drop (i+1)).map V.str))
   refine hj (ss:=ps.take i++ps.drop (i+1)) (by rw [List.map_append];exact qC) ?_ (((w1.trans v1).trans v2).trans v3)
   rw [jv]
   have:=zW " " ps (i:=i) (j:=i+1) (by omega)
   omega
 refine⟨_,rfl,rfl,_,rfl,qAy (fun _=>?_) (fun _=>?_)⟩
 · refine⟨_,rfl,_,rfl,_,_,rfl,rfl,cdB (by decide) (by decide),_,rfl,zp,_,rfl,.inl (sP (Same.refl _)),_,_,rfl,rfl,by rw [epl];omega,?_⟩
   rw [epl,eo]
   have hix:ixN (ps.map V.str).length (i:Int)=some i:=by unfold ixN;rw [if_pos (by omega),if_pos (by rw [epl];omega)];rfl
   refine⟨zp,_,_,_,rfl,rfl,sP (Same.refl _),hao,_,rfl,_,rfl,zp,_,_,i,rfl,rfl,ep,hix,?_⟩
   refine⟨rfl,_,rfl,hj (ss:=ps.set i ps[o]) (by rw [List.map_set];exact qC) ?_ (xI w1 hzp)⟩
   have:=qH4 " " (x:=ps[o]) hi
   omega
 have l1:∀ lo hi,(Txt.slice z lo hi).length≤z.length:=fun lo hi=>Txt.slice_le _ _ _
 have sm:∀ {n:Nat},n≤200000→n≤sizeLine:=fun h=>Nat.le_of_lt (qV (by omega))
 refine⟨_,rfl,rfl,_,rfl,qAy (fun _=>?_) (fun _=>?_)⟩
 · have a1:=l1 none (some at_)
   have a2:=l1 (some (at_+1)) none
   exact⟨_,rfl,_,rfl,_,rfl,z,rfl,hsz,_,rfl,_,rfl,_,_,rfl,rfl,_,rfl,z,rfl,hsz,_,_,rfl,rfl,sm (by omega),kk _ _ (by rw [xX];omega) w1⟩
 have f31:=fm (y.fdiv 97) (show (0:Int) < 31 by decide)
 obtain⟨c,hcc⟩:∃ c,atI ("0123456789-/; abclipnestgapmixz":Str).cps.toList ((y.fdiv 97).fmod 31)=some c:=by
  have hl:("0123456789-/; abclipnestgapmixz":Str).cps.toList.length=31:=by decide+kernel
  have e:(y.fdiv 97).fmod 31=((((y.fdiv 97).fmod 31).toNat:Nat):Int):=by omega
  have:=j3 (List.getElem?_eq_getElem (l:=("0123456789-/; abclipnestgapmixz":Str).cps.toList) (i:=((y.fdiv 97).fmod 31).toNat) (by rw [hl];omega))
  rw [← e] at this
  exact⟨_,this⟩
 have a1:=l1 none (some at_)
 have a2:=l1 (some at_) none
 have lc:(⟨#[c]⟩:Str).length=1:=rfl
 refine⟨_,rfl,_,rfl,_,rfl,z,rfl,hsz,_,rfl,_,rfl,_,_,rfl,rfl,cdB (by decide) (by decide),_,_,rfl,rfl,nz,_,_,c,rfl,rfl,(by decide+kernel),hcc,_,_,rfl,rfl,sm (by omega),_,rfl,_,rfl,_,rfl,z,rfl,hsz,_,_,rfl,rfl,sm (by rw [xX];omega),kk _ _ (by rw [xX,xX];omega) w1⟩
def GdF (p q:Int):Prop:=1≤q∧Int.gcd p q=1∧p.natAbs < 10 ^ 60∧q.natAbs < 10 ^ 60
def GdN (n:Int):Prop:=1≤n∧n.natAbs < 10 ^ 60
def GdI:Im→Prop
 | .clip n p q r s l=>q9 n=true∧GdF p q∧GdF r s∧GdN l
 | .nest n b l=>q9 n=true∧(0≤b∧b.natAbs < 10 ^ 60)∧GdN l
 | .gap l=>GdN l
 | .mix l=>GdN l
structure FrG (H:Hp)(v:V):Prop where
 ex:∃ u p q,v= .ref u∧H u=some (.tup [.int p,.int q])∧GdF p q
theorem FrG.same {H H':Hp}{v:V}(s:Same H H')(h:FrG H v):FrG H' v:=let ⟨u,p,q,e,h1,h2⟩:=h.ex;⟨u,p,q,e,s _ _ h1,h2⟩
theorem FrG.mk' {H:Hp}{u:Addr}{p q:Int}(h:H u=some (.tup [.int p,.int q]))(g:GdF p q):FrG H (.ref u):=⟨u,p,q,rfl,h,g⟩
theorem qH2 (k:Int):Int.gcd (1+2*k) 2=1:=by
 have h1:((Int.gcd (1+2*k) 2:Nat):Int) ∣ 2:=Int.gcd_dvd_right ..
 have h2:((Int.gcd (1+2*k) 2:Nat):Int) ∣ 1+2*k:=Int.gcd_dvd_left ..
 have h3:((Int.gcd (1+2*k) 2:Nat):Int) ∣ 1:=by
  have:=Int.dvd_sub h2 (Int.dvd_mul_of_dvd_left (c:=k) h1)
  rwa [Int.add_sub_cancel] at this
 have:=Int.eq_one_of_dvd_one (by omega) h3
 omega
inductive qBv (vs:List V)(H:Hp)(Q:VK)(_:XK):Prop
| mk (x c:Int) (_:vs=[.int x,.int c]) (_:0≤x) (_:x < 2147483648) (_:∀ m v H',Same H H'→IsI H' m v→GdI m→m.wd≠"mix"→Q v H')
theorem qBd (T:Tx K mg a):FnOk P w K mg base CX0 1 a.A27 a.B27 ["_law_x","_law_cell"] qBv:=by
 refine T.D27.F.ok j5 (fun vs H Q E h=>?_) (fun cdv A outer s H vs Q E hr h=>?_)
 · obtain⟨x,c,rfl,_⟩:=h
   rfl
 refine qO fun _ Y=>?_
 obtain⟨x,c,rfl,x0,x1,kk⟩:=h
 apply Y
 refine⟨_,(qD (jP (qg 2 j5.nd (qj qR (jH (qA (jE (qA qF (qA qF qB))) (qA (jE (qA qF (qA qF qB))) (qA (jE (qA (qDq wJ qF) (qA qF qB))) (qA (jE (qA qF (qA qF qB))) (qA (jE (qA qF (qA qF qB))) (qA (jE (qA (qDq wJ qF) (qA qF qB))) qB))))))) (qP qc (qP qv (pv 0) qF) qF) (fun _ _=>rfl))))
  (qD (jP (qg 3 j5.nd (qj qR (jH (qA (jE (qA qF (qA qF qB))) (qA (jE (qA (qP qc (qP qv (pv 0) qF) qF) (qA qF qB))) (qA (jE (qA (qP jJ qF (qP kW qF (qP qc (qP qv (pv 0) qF) qF))) (qA qF qB))) (qA (jE (qA (qDq wJ qF) (qA qF qB))) qB))))) (qP qc (qP qv (pv 0) qF) qF) (fun _ _=>rfl))))
  (qD (jP (qg 4 j5.nd (qj qR (jH (qA (qP jJ qF (qP qc (qP qv (pv 0) qF) qF)) (qA (qP jJ qF (qP qc (qP qv (pv 0) qF) qF)) (qA (qP jJ qF (qP qc (pv 0) qF)) (qA (qP jJ qF (qP qc (qP jJ (qP kW (pv 1) qF) (pv 0)) (qP qJx qF qF))) qB))))) (qP qc (qP qv (pv 0) qF) qF) (fun _ _=>rfl))))
  (qD (qd (qH jC (qP qc (pv 0) qF) qF (qM _)) (qG (qK (jE (qA qJ (qA (pv 4) qB))))) qL)
  (qD (qd (qH jC (qP qc (pv 0) qF) qF (qM _)) (qG (qK (jE (qA qJ (qA (qj qR (jH (qA qJ (qA qJ (qA qJ qB)))) (qP qc (qP qv (pv 0) qF) qF) (fun _ _=>rfl)) (qA (qP qc (qP qv (pv 0) qF) qF) (qA (pv 4) qB))))))) qL)
  (qG (qK (jE (qA qJ (qA (qj qR (jH (qA qJ (qA qJ (qA qJ qB)))) (qP qc (qP qv (pv 0) qF) qF) (fun _ _=>rfl)) (qA (pv 3) (qA (pv 2) (qA (pv 4) qB))))))))))))),?_⟩
 try dsimp only [xU,qz]
 have cd:∀ n:Int,0 < n→n < 100→0≤x.fdiv n:=fun n h0 _=>Int.fdiv_nonneg x0 (by omega)
 refine⟨fun σ H'=>∃ v,σ=[some (.int x),some (.int c),some v,none,none]∧Same H H'∧FrG H' v,?_,?_⟩
 · refine⟨sL2,fun t1 h1=>⟨sL2,fun t2 h2=>⟨_,rfl,sL2,fun t3 h3=>⟨sL2,fun t4 h4=>⟨sL2,fun t5 h5=>⟨_,rfl,sL2,fun t6 h6=>⟨(by show 6≤sizeLine;decide),fun l hl=>?_⟩⟩⟩⟩⟩⟩⟩
   have w1:=qE h1 (.tup [.int 1,.int 1])
   have w2:=qE h2 (.tup [.int 1,.int 2])
   have w3:=qE h3 (.tup [.int (-1),.int 1])
   have w4:=qE h4 (.tup [.int 0,.int 1])
   have w5:=qE h5 (.tup [.int 7,.int 3])
   have w6:=qE h6 (.tup [.int (-30000),.int 1001])
   have w7:=qE hl (.lst [.ref t1,.ref t2,.ref t3,.ref t4,.ref t5,.ref t6])
   have w67:=w6.trans w7
   have w57:=w5.trans w67
   have w47:=w4.trans w57
   have w37:=w3.trans w47
   have w27:=w2.trans w37
   have g1:=w27 _ _ (qC (H:=H) (a:=t1) (o:=.tup [.int 1,.int 1]))
   have g2:=w37 _ _ (qC (a:=t2) (o:=.tup [.int 1,.int 2]))
   have g3:=w47 _ _ (qC (a:=t3) (o:=.tup [.int (-1),.int 1]))
   have g4:=w57 _ _ (qC (a:=t4) (o:=.tup [.int 0,.int 1]))
   have g5:=w67 _ _ (qC (a:=t5) (o:=.tup [.int 7,.int 3]))
   have g6:=w7 _ _ (qC (a:=t6) (o:=.tup [.int (-30000),.int 1001]))
   have f6:=fm (x.fdiv 5) (show (0:Int) < 6 by decide)
   refine qO fun _ Y=>?_
   obtain⟨v,hv,hvm⟩:=atN (xs:=[V.ref t1,.ref t2,.ref t3,.ref t4,.ref t5,.ref t6]) (n:=6) rfl f6.1 f6.2
   apply Y
   refine⟨_,rfl,_,_,rfl,rfl,cdB (by decide) (by decide),_,_,rfl,rfl,nz,l,_,_,_,rfl,rfl,SqL.of qC,hv,v,rfl,w1.trans w27,?_⟩
   simp only [List.mem_cons,List.not_mem_nil,or_false] at hvm
   rcases hvm with rfl | rfl | rfl | rfl | rfl | rfl
   · exact .mk' g1 ⟨by decide,by decide,by decide,by decide⟩
   · exact .mk' g2 ⟨by decide,by decide,by decide,by decide⟩
   · exact .mk' g3 ⟨by decide,by decide,by decide,by decide⟩
   · exact .mk' g4 ⟨by decide,by decide,by decide,by decide⟩
   · exact .mk' g5 ⟨by decide,by decide,by decide,by decide⟩
   · exact .mk' g6 ⟨by decide,by decide+kernel,by decide,by decide⟩
 rintro σ H1 ⟨vs,rfl,s1,f1⟩
 have f90:=fm (x.fdiv 30) (show (0:Int) < 90 by decide)
 refine⟨fun σ H'=>∃ v,σ=[some (.int x),some (.int c),some vs,some v,none]∧Same H1 H'∧FrG H' v,?_,?_⟩
 · refine⟨sL2,fun t1 h1=>⟨_,rfl,_,_,rfl,rfl,cdB (by decide) (by decide),_,_,rfl,rfl,nz,sL2,fun t2 h2=>⟨_,rfl,_,_,rfl,rfl,cdB (by decide) (by decide),_,_,rfl,rfl,nz,_,_,rfl,rfl,?_,_,_,rfl,rfl,sL2,fun t3 h3=>⟨_,rfl,sL2,fun t4 h4=>⟨sL4,fun l hl=>?_⟩⟩⟩⟩⟩
   · exact cmL (by omega) (by omega)
   dsimp only at h3 h4 hl ⊢
   generalize (x.fdiv 30).fmod 90=k at f90 h3 h4 hl ⊢
   have w1:=qE h1 (.tup [.int 0,.int 1])
   have w2:=qE h2 (.tup [.int k,.int 1])
   have w3:=qE h3 (.tup [.int (1+2*k),.int 2])
   have w4:=qE h4 (.tup [.int (-5),.int 3])
   have w5:=qE hl (.lst [.ref t1,.ref t2,.ref t3,.ref t4])
   have w45:=w4.trans w5
   have w35:=w3.trans w45
   have w25:=w2.trans w35
   have g1:=w25 _ _ (qC (H:=H1) (a:=t1) (o:=.tup [.int 0,.int 1]))
   have g2:=w35 _ _ (qC (a:=t2) (o:=.tup [.int k,.int 1]))
   have g3:=w45 _ _ (qC (a:=t3) (o:=.tup [.int (1+2*k),.int 2]))
   have g4:=w5 _ _ (qC (a:=t4) (o:=.tup [.int (-5),.int 3]))
   have f4:=fm (x.fdiv 30) (show (0:Int) < 4 by decide)
   refine qO fun _ Y=>?_
   obtain⟨v,hv,hvm⟩:=atN (xs:=[V.ref t1,.ref t2,.ref t3,.ref t4]) (n:=4) rfl f4.1 f4.2
   apply Y
   refine⟨_,rfl,_,_,rfl,rfl,cdB (by decide) (by decide),_,_,rfl,rfl,nz,l,_,_,_,rfl,rfl,SqL.of qC,hv,v,rfl,w1.trans w25,?_⟩
   have n60:(10 ^ 60:Nat)=1000000000000000000000000000000000000000000000000000000000000:=by decide
   simp only [List.mem_cons,List.not_mem_nil,or_false] at hvm
   rcases hvm with rfl | rfl | rfl | rfl
   · exact .mk' g1 ⟨by decide,by decide,by decide,by decide⟩
   · exact .mk' g2 ⟨by decide,by simp,by omega,by decide⟩
   · exact .mk' g3 ⟨by decide,qH2 k,by omega,by decide⟩
   · exact .mk' g4 ⟨by decide,by decide,by decide,by decide⟩
 rintro σ H2 ⟨vt,rfl,s2,f2⟩
 have s12:=s1.trans s2
 have f1:=f1.same s2
 refine⟨fun σ H'=>∃ n:Int,σ=[some (.int x),some (.int c),some vs,some vt,some (.int n)]∧Same H2 H'∧GdN n,?_,?_⟩
 · have f9:=fm (x.fdiv 17) (show (0:Int) < 9 by decide)
   have f5:=fm x (show (0:Int) < 5000 by decide)
   have fg:=fm (c*48271+x) (show (0:Int) < 10 ^ (30:Int).toNat by decide)
   have e30:(10 ^ (30:Int).toNat:Int)=1000000000000000000000000000000:=by decide
   refine⟨_,rfl,_,_,rfl,rfl,cdB (by decide) (by decide),_,_,rfl,rfl,nz,_,_,rfl,rfl,_,rfl,_,_,rfl,rfl,cdB (by decide) (by decide),_,_,rfl,rfl,nz,_,_,rfl,rfl,_,rfl,_,_,rfl,rfl,nz,_,_,rfl,rfl,_,rfl,_,_,rfl,rfl,cmR (by decide) (by decide),_,rfl,_,_,rfl,rfl,_,_,rfl,rfl,cpw (n:=30) (by decide),_,_,rfl,rfl,nz,_,_,rfl,rfl,sL4,fun l hl=>?_⟩
   dsimp only at hl ⊢
   have w1:=qE hl (.lst [.int (1+(x.fdiv 17).fmod 9),.int (1+(x.fdiv 17).fmod 9),.int (1+x.fmod 5000),.int (1+(c*48271+x).fmod (10 ^ (30:Int).toNat))])
   have f4:=fm (x.fdiv 11) (show (0:Int) < 4 by decide)
   refine qO fun _ Y=>?_
   obtain⟨v,hv,hor⟩:=at4 (x:=V.int (1+(x.fdiv 17).fmod 9)) (y:=.int (1+(x.fdiv 17).fmod 9)) (z:=.int (1+x.fmod 5000)) (u:=.int (1+(c*48271+x).fmod (10 ^ (30:Int).toNat))) f4.1 f4.2
   have n60:(10 ^ 60:Nat)=1000000000000000000000000000000000000000000000000000000000000:=by decide
   obtain⟨n,rfl,hn⟩:∃ n:Int,v= .int n∧GdN n:=by
    rcases hor with rfl | rfl | rfl | rfl
    · exact⟨_,rfl,by omega,by omega⟩
    · exact⟨_,rfl,by omega,by omega⟩
    · exact⟨_,rfl,by omega,by omega⟩
    · exact⟨_,rfl,by omega,by omega⟩
   apply Y
   exact⟨_,rfl,_,_,rfl,rfl,cdB (by decide) (by decide),_,_,rfl,rfl,nz,l,_,_,_,rfl,rfl,SqL.of qC,hv,n,rfl,w1,hn⟩
 rintro σ H3 ⟨n,rfl,s3,hn⟩
 have s13:=s12.trans s3
 have f1:=f1.same s3
 have f2:=f2.same s3
 refine⟨_,rfl,_,_,rfl,rfl,nz,rfl,_,rfl,qAy (fun _=>?_) (fun _=>?_)⟩
 · refine⟨_,rfl,sL2,fun y hy=>kk (.gap n) _ _ (s13.trans (qE hy _)) (isG qC) hn (by show ("gap":Str)≠"mix";decide+kernel)⟩
 have f3:=fm (x.fdiv 7) (show (0:Int) < 3 by decide)
 refine⟨_,rfl,_,_,rfl,rfl,nz,rfl,_,rfl,qAy (fun _=>?_) (fun _=>?_)⟩
 · refine⟨sL3,fun l hl=>?_⟩
   have w1:=qE hl (.lst [.str "t",.str "other",.str "zzzzzzzz"])
   refine qO fun _ Y=>?_
   obtain⟨v,hv,hor⟩:=at3 (x:=V.str "t") (y:=.str "other") (z:=.str "zzzzzzzz") f3.1 f3.2
   obtain⟨nm,rfl,hnm⟩:∃ nm:Str,v= .str nm∧q9 nm=true:=by
    rcases hor with rfl | rfl | rfl <;> exact⟨_,rfl,by decide+kernel⟩
   apply Y
   have f50:=fm (x.fdiv 19) (show (0:Int) < 50 by decide)
   have n60:(10 ^ 60:Nat)=1000000000000000000000000000000000000000000000000000000000000:=by decide
   refine⟨_,rfl,_,_,rfl,rfl,cdB (by decide) (by decide),_,_,rfl,rfl,nz,l,_,_,_,rfl,rfl,SqL.of qC,hv,_,rfl,_,_,rfl,rfl,cdB (by decide) (by decide),_,_,rfl,rfl,nz,_,rfl,sL4,fun y hy=>?_⟩
   exact kk (.nest nm ((x.fdiv 19).fmod 50) n) _ _ ((s13.trans w1).trans (qE hy _)) (isN qC) ⟨hnm,⟨by omega,by omega⟩,hn⟩ (by show ("nest":Str)≠"mix";decide+kernel)
 · refine⟨sL3,fun l hl=>?_⟩
   have w1:=qE hl (.lst [.str "a",.str "reel",.str "abcdefgh"])
   refine qO fun _ Y=>?_
   obtain⟨v,hv,hor⟩:=at3 (x:=V.str "a") (y:=.str "reel") (z:=.str "abcdefgh") f3.1 f3.2
   obtain⟨nm,rfl,hnm⟩:∃ nm:Str,v= .str nm∧q9 nm=true:=by
    rcases hor with rfl | rfl | rfl <;> exact⟨_,rfl,by decide+kernel⟩
   apply Y
   refine⟨_,rfl,_,_,rfl,rfl,cdB (by decide) (by decide),_,_,rfl,rfl,nz,l,_,_,_,rfl,rfl,SqL.of qC,hv,_,rfl,_,rfl,_,rfl,sL5,fun y hy=>?_⟩
   refine qO fun _ Y=>?_
   obtain⟨u1,p,q,rfl,g1,d1⟩:=f1.ex
   obtain⟨u2,r,s',rfl,g2,d2⟩:=f2.ex
   apply Y
   have w2:=qE hy (.tup [.str "clip",.str nm,.ref u2,.ref u1,.int n])
   exact kk (.clip nm r s' p q n) _ _ ((s13.trans w1).trans w2) (isC qC ((w1.trans w2) _ _ g2) ((w1.trans w2) _ _ g1)) ⟨hnm,d2,d1,hn⟩ (by show ("clip":Str)≠"mix";decide+kernel)
def qD3 (ms:List Im):Prop:=(∀ (i:Nat) (l:Int) (m:Im),ms[i]? =some (.gap l)→ms[i+1]? =some m→m.wd≠"gap")∧qJ1 ms
theorem xm {ms t:List Im}{k:Int}(h:k < ms.length):jY (ms++t) k=jY ms k:=by
 unfold jY
 by_cases h0:k < 0
 · rw [if_pos h0,if_pos h0]
 · rw [if_neg h0,if_neg h0,List.getElem?_append_left (by omega)]
theorem qEi {ms:List Im}{k:Int}{x:Str}(h:jY ms k=x)(hx:x≠""):0≤k∧k < ms.length:=by
 by_cases h0:k < 0∨(ms.length:Int)≤k
 · rw [wp h0] at h;exact absurd h.symm hx
 · omega
theorem qEt:("clip":Str)≠"":=by decide+kernel
theorem qCr {ms t:List Im}(h:qJ1 ms){i:Nat}{l:Int}(hi:i < ms.length)(e:(ms++t)[i]? =some (.mix l)):jY (ms++t) ((i:Int) - 1)="clip"∧jY (ms++t) ((i:Int)+1)="clip":=by
 rw [List.getElem?_append_left hi] at e
 obtain⟨a,b⟩:=h i l e
 rw [xm (by omega),xm (qEi b qEt).2]
 exact⟨a,b⟩
theorem qEq:qD3 []:=⟨fun i l m h=>by simp at h,fun i l h=>by simp at h⟩
theorem wb {ms:List Im}{m:Im}(h:qD3 ms)(hm:m.wd≠"mix")(hg:m.wd="gap"→∀ m',ms.getLast?=some m'→m'.wd≠"gap"):qD3 (ms++[m]):=by
 refine⟨fun i l m' h1 h2=>?_,fun i l h1=>?_⟩
 · by_cases hi:i+1 < ms.length
   · rw [List.getElem?_append_left (by omega)] at h1
     rw [List.getElem?_append_left hi] at h2
     exact h.1 i l m' h1 h2
   · have h2':=glt h2
     rw [List.length_append,List.length_singleton] at h2'
     have e:i+1=ms.length:=by omega
     rw [e,List.getElem?_concat_length] at h2
     cases h2
     intro z
     rw [List.getElem?_append_left (by omega)] at h1
     refine hg z (.gap l) ?_ rfl
     rw [List.getLast?_eq_getElem?,← h1]
     congr 1
     omega
 · by_cases hi:i < ms.length
   · exact qCr h.2 hi h1
   · have h1':=glt h1
     rw [List.length_append,List.length_singleton] at h1'
     have e:i=ms.length:=by omega
     rw [e,List.getElem?_concat_length] at h1
     cases h1
     exact absurd rfl hm
theorem qId {ms:List Im}{m m':Im}{l:Int}(h:qD3 ms)(hl:ms.getLast?=some m')(hc:m'.wd="clip")(hm:m.wd="clip"):qD3 (ms++[.mix l]++[m]):=by
 have hlen:0 < ms.length:=by
  cases ms with
  | nil=>simp at hl
  | cons=>simp
 rw [List.getLast?_eq_getElem?] at hl
 have eA:ms++[.mix l]++[m]=ms++[.mix l,m]:=by simp
 have g0:(ms++[.mix l,m])[ms.length]? =some (.mix l):=by rw [List.getElem?_append_right (Nat.le_refl _),Nat.sub_self];rfl
 have g1:(ms++[.mix l,m])[ms.length+1]? =some m:=by rw [List.getElem?_append_right (by omega),show ms.length+1 - ms.length=1 by omega];rfl
 rw [eA]
 refine⟨fun i k m2 h1 h2=>?_,fun i k h1=>?_⟩
 · by_cases hi:i+1 < ms.length
   · rw [List.getElem?_append_left (by omega)] at h1
     rw [List.getElem?_append_left hi] at h2
     exact h.1 i k m2 h1 h2
   · by_cases e:i+1=ms.length
     · rw [e,g0] at h2
       cases h2
       show ("mix":Str)≠"gap"
       decide+kernel
     · by_cases e2:i=ms.length
       · rw [e2,g0] at h1;cases h1
       · have:=glt h2
         simp at this
         omega
 · by_cases hi:i < ms.length
   · exact qCr h.2 hi h1
   · by_cases e:i=ms.length
     · subst e
       refine⟨?_,?_⟩
       · rw [xm (by omega),xH hl (by omega)];exact hc
       · rw [xH g1 (by omega)];exact hm
     · have:=glt h1
       simp at this
       have e2:i=ms.length+1:=by omega
       rw [e2,g1] at h1
       cases h1
       exact absurd (show ("mix":Str)="clip" from hm) (by decide+kernel)
theorem qIg {ms:List Im}(h:qD3 ms)(hl:∀ m,ms.getLast?=some m→m.wd≠"gap"):ke ms:=by
 refine⟨fun i l hi=>?_,h.2⟩
 have h1:=glt hi
 by_cases e:i+1 < ms.length
 · exact⟨_,List.getElem?_eq_getElem e,h.1 i l _ hi (List.getElem?_eq_getElem e)⟩
 · refine absurd rfl (hl (.gap l) ?_)
   rw [List.getLast?_eq_getElem?,← hi]
   congr 1
   omega
theorem qHr {ms:List Im}{m:Im}(h:qD3 ms)(hl:ms.getLast?=some m)(hg:m.wd="gap"):ke ms.dropLast:=by
 have hne:ms≠[]:=fun e=>by rw [e] at hl;simp at hl
 have hc:=List.dropLast_concat_getLast hne
 have em:ms.getLast hne=m:=by rw [List.getLast?_eq_some_getLast hne] at hl;exact Option.some.inj hl
 rw [em] at hc
 generalize ms.dropLast=ns at hc ⊢
 subst hc
 refine⟨fun i l hi=>?_,fun i l hi=>?_⟩
 · have h1:=glt hi
   have hi':(ns++[m])[i]? =some (.gap l):=by rw [List.getElem?_append_left h1];exact hi
   by_cases e:i+1 < ns.length
   · refine⟨_,List.getElem?_eq_getElem e,h.1 i l _ hi' ?_⟩
     rw [List.getElem?_append_left e,List.getElem?_eq_getElem e]
   · have e2:i+1=ns.length:=by omega
     exact absurd hg (h.1 i l m hi' (by rw [e2,List.getElem?_concat_length]))
 · have h1:=glt hi
   obtain⟨a,b⟩:=h.2 i l (by rw [List.getElem?_append_left h1];exact hi)
   have hb:=(qEi b qEt).2
   rw [List.length_append,List.length_singleton] at hb
   have e:(i:Int)+1≠ns.length:=fun z=>by
    rw [xH (i:=ns.length) List.getElem?_concat_length z,hg] at b
    exact absurd b (by decide+kernel)
   rw [xm (by omega)] at a
   rw [xm (by omega)] at b
   exact⟨a,b⟩
theorem qHf {ms:List Im}{m:Im}(h:ms.getLast?=some m):ms≠[]:=fun e=>by rw [e] at h;simp at h
theorem wX {α:Type}{xs:List α}{v:α}(h:xs[xs.length - 1]? =some v):atI xs (-1)=some v:=by
 have hl:0 < xs.length:=by
  have:=(glt h)
  omega
 have e:ixN xs.length (-1)=some (xs.length - 1):=by
  unfold ixN
  rw [if_neg (by decide),if_pos (by omega)]
  congr 1
  omega
 unfold atI;rw [e];exact h
structure TkS (H H':Hp)(y:Addr)(vs:List V)(ms:List Im)(n:Nat):Prop where
 hv:H' y=some (.lst vs)
 is:IsIs H' ms vs
 len:ms.length≤n
 gd:∀ m∈ms,GdI m
 sm:Same H H'
theorem TkS.same {H H1 H2:Hp}{y:Addr}{vs:List V}{ms:List Im}{n:Nat}(h:TkS H H1 y vs ms n)(s:Same H1 H2):TkS H H2 y vs ms n:=⟨s _ _ h.hv,h.is.ts (qh s),h.len,h.gd,h.sm.trans s⟩
theorem TkS.tr {H H':Hp}{y:Addr}{vs:List V}{ms:List Im}{n:Nat}(h:TkS H H' y vs ms n):Tr H' y ms:=⟨vs,h.hv,h.is⟩
theorem TkS.put {H H':Hp}{y:Addr}{vs:List V}{ms:List Im}{n:Nat}{m:Im}{v:V}(h:TkS H H' y vs ms n)(hy:H y=none)(hI:IsI H' m v)(hg:GdI m):TkS H (upd H' y (.lst (vs++[v]))) y (vs++[v]) (ms++[m]) (n+1):=by
 refine⟨qC,(h.is.app (.one hI)).ts (kf h.hv),by rw [List.length_append];have:=h.len;simp;omega,fun x hx=>?_,xI h.sm hy⟩
 rcases List.mem_append.mp hx with hx | hx
 · exact h.gd x hx
 · have:x=m:=by simpa using hx
   rw [this];exact hg
inductive w9 (K:W.Frag)(vs:List V)(H:Hp)(Q:VK)(_:XK):Prop
| mk (z:Addr) (ns:List Int) (_:vs=[.ref z]) (_:SqL K H z (ns.map V.int)) (_:ns.length≤12) (_:∀ y ms H',Same H H'→H y=none→Tr H' y ms→(∀ m∈ms,GdI m)→ms.length≤24→ke ms→Q (.ref y) H')
theorem wY (T:Tx K mg a):FnOk P w K mg base CX0 2 a.A28 a.B28 ["_law_cells"] (w9 K):=by
 refine T.D28.F.ok jR (fun vs H Q E h=>?_) (fun cdv A outer s H vs Q E hr h=>?_)
 · obtain⟨z,ns,rfl,_⟩:=h
   rfl
 refine qO fun _ Y=>?_
 obtain⟨z,ns,rfl,hS,hl,kk⟩:=h
 apply Y
 have hu:=hr.units
 refine⟨_,(qD (qg 1 jR.nd (jH qB))
  (qD (vn PassesOwn.never rfl (vi rfl T.b_range (qA (qN qX rfl T.b_len rfl (qA (pv 0) qB)) qB)) (jo (i:=2) jR.nd rfl (Or.inl rfl)) (qD (qg 3 jR.nd (qj qR (qW T.D26 (zw T) hr rfl (qA (qP jJ (qj qR (pv 0) (pv 2) (fun _ _=>rfl)) (qP kW qF (pv 2))) (qA qF qB))) qF (fun _ _=>rfl)))
  (qD (qg 4 jR.nd (qW T.D27 (qBd T) hr rfl (qA (pv 3) (qA (qj qR (pv 0) (pv 2) (fun _ _=>rfl)) qB))))
  (qD (jP (qd (qD4 (PW.pt (j1 (qH jC (jT (pv 4)) qJ (qM _)) (j1 (qH (vI hu) (pv 1) (jH qB) (qM _)) (j1 (qH jC (jT (qj qR (pv 1) (qDq wJ qF) (fun _ _=>rfl))) qJ (qM _)) (j2 (qH qB1 (qP qc (pv 3) qF) qF (qM _)))))))) (qG (xD (jt F.plainAttrs_list F.slot_list_append F.type_list_append xx (pv 1) (qA (jE (qA qJ (qA (qP jJ qF (qP qc (qP qv (pv 3) qF) qF)) qB))) qB)))) qL))
  (qG (qd (qD4 (PW.pt (xM (qH kD (jT (pv 4)) qJ (qM _)) (xM (qH (qHe hu) (pv 1) (jH qB) (qM _)) (je (qH kD (jT (qj qR (pv 1) (qDq wJ qF) (fun _ _=>rfl))) qJ (qM _))))))) (qG (xD (jt F.plainAttrs_list F.slot_list_append F.type_list_append xx (pv 1) (qA (pv 4) qB)))) qL))))))
  (qD (qd (qD4 (PW.pt (j1 (qH (vI hu) (pv 1) (jH qB) (qM _)) (j2 (qH jC (jT (qj qR (pv 1) (qDq wJ qF) (fun _ _=>rfl))) qJ (qM _)))))) (qG (xD (qJ8 F.plainAttrs_list F.slot_list_pop F.type_list_pop qJv (pv 1)))) qL)
  (qG (qK (pv 1)))))),?_⟩
 try dsimp only [xU,qz]
 have hml:(ns.map V.int).length=ns.length:=List.length_map _
 refine⟨sL0,fun y hy=>?_⟩
 have w0:=qE hy (.lst [])
 have en:((((ns.map V.int).length:Nat)):Int).toNat=ns.length:=by rw [hml];omega
 refine⟨_,rfl,z,_,rfl,.inl (w0.seq hS),_,rfl,by rw [hml];omega,by rw [hml];omega,kF (n:=((((ns.map V.int).length:Nat)):Int).toNat) (fun i σ H'=>∃ (o1 o2 o3:Option V) (vs:List V) (ms:List Im),σ=[some (.ref z),some (.ref y),o1,o2,o3]∧TkS H H' y vs ms (2*i)∧qD3 ms) ⟨none,none,none,[],[],rfl,⟨qC,trivial,by simp,(fun m hm=>by cases hm),w0⟩,qEq⟩ ?_ ?_⟩
 · rintro i σ H1 hi ⟨o1,o2,o3,vs,ms,rfl,t1,p1⟩
   rw [en] at hi
   have hvl:=t1.is.len
   have hln:=t1.len
   have hci:atI (ns.map V.int) (0+(i:Int))=some (.int ns[i]):=by rw [Int.zero_add];exact j3 (by rw [List.getElem?_map,List.getElem?_eq_getElem hi];rfl)
   refine⟨_,rfl,_,rfl,z,_,_,_,rfl,rfl,t1.sm.seq hS,hci,_,rfl,_,_,rfl,rfl,?_,_,_,rfl,rfl,_,_,rfl,by decide,by decide,fun dz xs hdz hxl hxb=>?_⟩
   · exact cmL (by decide) (by decide)
   have w1:=qE hdz (.lst (xs.map V.int))
   match xs,hxl with
   | [x0,x1,x2],_=>
    have bx:=hxb x2 (by simp)
    have t2:=t1.same w1
    refine(ixL (SqL.of qC) rfl ?_)
    refine⟨_,rfl,_,rfl,_,rfl,z,_,_,_,rfl,rfl,t2.sm.seq hS,hci,x2,_,rfl,by omega,by omega,fun m v H3 s3 hI hg hmx=>?_⟩
    have t3:=t2.same s3
    have n60:(10 ^ 60:Nat)=1000000000000000000000000000000000000000000000000000000000000:=by decide
    have f9:=fm (x2.fdiv 23) (show (0:Int) < 9 by decide)
    refine⟨fun σ H'=>∃ (vs':List V) (ms':List Im),σ=[some (.ref z),some (.ref y),some (.int (0+(i:Int))),some (.int x2),some v]∧TkS H H' y vs' ms' (2*i+1)∧IsI H' m v∧(qD3 ms'∨∃ ms0 l m0,ms'=ms0++[.mix l]∧qD3 ms0∧ms0.getLast?=some m0∧m0.wd="clip"∧m.wd="clip"),?_,?_⟩
    · refine⟨fun b H2=>Same H3 H2∧(b=true→m.wd="clip"∧∃ m0,ms.getLast?=some m0∧m0.wd="clip"),?_,?_⟩
      · obtain⟨zi,xi,rfl,hzi,h0,_⟩:=hI.opn
        refine⟨_,rfl,zi,xi,_,_,rfl,rfl,SqT.of hzi,h0,rfl,_,rfl,?_⟩
        rw [qAh]
        by_cases hc:m.wd="clip"
        rotate_left
        · rw [decide_eq_false hc]
          exact ql ⟨Same.refl _,fun z=>by cases z⟩
        rw [decide_eq_true hc]
        refine qt ⟨_,rfl,sL0,fun en hen=>qJm ((t3.same (qE hen _)).tr) qC ⟨_,rfl,?_⟩⟩
        have w3:=qE hen (.lst [])
        cases hms:ms with
        | nil=>exact ql ⟨w3,fun z=>by cases z⟩
        | cons m0 ms0=>
         refine qt ?_
         refine qO fun _ Y=>?_
         obtain⟨v',m',h1,h2,_,h4⟩:=(t3.same w3).is.last (by rw [hms];simp)
         obtain⟨zj,xj,rfl,hzj,h0',_⟩:=h4.opn
         apply Y
         refine⟨_,rfl,_,rfl,y,_,_,_,rfl,rfl,SqL.of (w3 _ _ t3.hv),wX h1,zj,xj,_,_,rfl,rfl,SqT.of hzj,h0',rfl,_,rfl,?_⟩
         rw [qAh]
         by_cases hc2:m'.wd="clip"
         rotate_left
         · rw [decide_eq_false hc2]
           exact ql ⟨w3,fun z=>by cases z⟩
         rw [decide_eq_true hc2]
         exact qt ⟨_,rfl,_,_,rfl,rfl,nz,_,_,rfl,rfl,_,rfl,w3,fun _=>⟨hc,m',by rw [← hms];exact h2,hc2⟩⟩
      rintro b H4 ⟨w4,hb⟩
      have t4:=t3.same w4
      have hI4:=hI.ts (qh w4)
      cases b with
      | false=>exact ql ⟨vs,ms,rfl,⟨t4.hv,t4.is,by omega,t4.gd,t4.sm⟩,hI4,.inl p1⟩
      | true=>
       refine qO fun _ Y=>?_
       obtain⟨hc,m0,g1,g2⟩:=hb rfl
       apply Y
       refine qt ⟨_,rfl,.inl ⟨rfl,_,SqL.of t4.hv⟩,_,rfl,_,_,rfl,rfl,cdB (by decide) (by decide),_,_,rfl,rfl,nz,_,_,rfl,rfl,sL2,fun q hq=>?_⟩
       have w5:=qE hq (.tup [.str "mix",.int (1+(x2.fdiv 23).fmod 9)])
       have t5:=t4.same w5
       refine⟨y,_,_,rfl,rfl,t5.hv,qV (by omega),?_⟩
       have t6:=t5.put (m:=.mix (1+(x2.fdiv 23).fmod 9)) hy (isM qC) ⟨by omega,by omega⟩
       exact⟨_,_,rfl,t6,(hI4.ts (qh w5)).ts (kf t5.hv),.inr ⟨ms,_,m0,rfl,p1,g1,g2,hc⟩⟩
    rintro σ H4 ⟨vs',ms',rfl,t4,hI4,hp⟩
    have hvl':=t4.is.len
    have hln':=t4.len
    refine⟨fun b H2=>Same H4 H2∧(b=true→qD3 (ms'++[m]))∧(b=false→qD3 ms'),?_,?_⟩
    · obtain⟨zi,xi,rfl,hzi,h0,_⟩:=hI4.opn
      refine⟨_,rfl,zi,xi,_,_,rfl,rfl,SqT.of hzi,h0,rfl,_,rfl,?_⟩
      rw [qAh]
      by_cases hg':m.wd="gap"
      rotate_left
      · rw [decide_eq_false hg']
        refine qt ⟨Same.refl _,fun _=>?_,fun z=>by cases z⟩
        rcases hp with hp | ⟨ms0,l,m0,rfl,q1,q2,q3,q4⟩
        · exact wb hp hmx fun e=>absurd e hg'
        · exact qId q1 q2 q3 q4
      rw [decide_eq_true hg']
      have hp:qD3 ms':=by
       rcases hp with hp | ⟨ms0,l,m0,rfl,q1,q2,q3,q4⟩
       · exact hp
       · rw [hg'] at q4;exact absurd q4 (by decide+kernel)
      refine ql ⟨_,rfl,sL0,fun en hen=>qJo ((t4.same (qE hen _)).tr) qC ⟨_,rfl,?_⟩⟩
      have w3:=qE hen (.lst [])
      cases hms:ms' with
      | nil=>exact qt ⟨w3,(fun _=>wb qEq hmx fun _ m' hm'=>by simp at hm'),fun z=>by cases z⟩
      | cons m0 ms0=>
       refine ql ?_
       refine qO fun _ Y=>?_
       obtain⟨v',m',h1,h2,_,h4⟩:=(t4.same w3).is.last (by rw [hms];simp)
       obtain⟨zj,xj,rfl,hzj,h0',_⟩:=h4.opn
       apply Y
       refine⟨_,rfl,_,rfl,y,_,_,_,rfl,rfl,SqL.of (w3 _ _ t4.hv),wX h1,zj,xj,_,_,rfl,rfl,SqT.of hzj,h0',rfl,_,rfl,w3,fun e=>?_,fun _=>by rw [← hms];exact hp⟩
       rw [qAh] at e
       rw [← hms]
       refine wb hp hmx fun _ m2 hm2=>?_
       rw [h2] at hm2
       cases hm2
       simpa using e
    rintro b H5 ⟨w5,hb,hn⟩
    have t5:=t4.same w5
    cases b with
    | false=>exact ql ⟨_,_,_,vs',ms',rfl,⟨t5.hv,t5.is,by omega,t5.gd,t5.sm⟩,hn rfl⟩
    | true=>
     refine qt ⟨_,rfl,.inl ⟨rfl,_,SqL.of t5.hv⟩,_,rfl,y,_,_,rfl,rfl,t5.hv,qV (by omega),?_⟩
     have t6:=t5.put hy (hI4.ts (qh w5)) hg
     exact⟨_,_,_,_,_,rfl,⟨t6.hv,t6.is,by have:=t6.len;omega,t6.gd,t6.sm⟩,hb rfl⟩
 · rintro σ H1 ⟨o1,o2,o3,vs,ms,rfl,t1,p1⟩
   rw [en] at t1
   have hln:=t1.len
   refine⟨fun b H2=>Same H1 H2∧(b=true→∃ m,ms.getLast?=some m∧m.wd="gap")∧(b=false→∀ m,ms.getLast?=some m→m.wd≠"gap"),?_,?_⟩
   · refine⟨_,rfl,sL0,fun en hen=>qJm ((t1.same (qE hen _)).tr) qC ⟨_,rfl,?_⟩⟩
     have w3:=qE hen (.lst [])
     cases hms:ms with
     | nil=>exact ql ⟨w3,(fun z=>by cases z),fun _ m hm=>by simp at hm⟩
     | cons m0 ms0=>
      refine qt ?_
      refine qO fun _ Y=>?_
      obtain⟨v,m,h1,h2,_,h4⟩:=(t1.same w3).is.last (by rw [hms];simp)
      obtain⟨zi,xi,rfl,hzi,h0,_⟩:=h4.opn
      apply Y
      refine⟨_,rfl,_,rfl,y,_,_,_,rfl,rfl,SqL.of (w3 _ _ t1.hv),wX h1,zi,xi,_,_,rfl,rfl,SqT.of hzi,h0,rfl,_,rfl,w3,fun e=>⟨m,by rw [← hms];exact h2,by simpa using e⟩,fun e m' hm'=>?_⟩
      rw [← hms,h2] at hm'
      cases hm'
      simpa using e
   rintro b H2 ⟨w2,hb,hn⟩
   have t2:=t1.same w2
   cases b with
   | true=>
    refine qO fun _ Y=>?_
    obtain⟨m,h1,h2⟩:=hb rfl
    obtain⟨v,m',g1,g2,_,g4⟩:=t2.is.last (qHf h1)
    apply Y
    refine qt ⟨_,rfl,.inl ⟨rfl,_,SqL.of t2.hv⟩,y,_,v,rfl,rfl,t2.hv,g1,_,rfl,?_⟩
    exact kk y ms.dropLast _ (xI t2.sm hy) hy ⟨_,qC,t2.is.dl.ts (kf t2.hv)⟩ (fun m hm=>t2.gd m (List.dropLast_subset _ hm)) (by rw [List.length_dropLast];omega) (qHr p1 h1 h2)
   | false=>exact ql ⟨_,rfl,kk y ms _ t2.sm hy t2.tr t2.gd (by omega) (qIg p1 (hn rfl))⟩
theorem zC {p:Int}(h:p.natAbs < 10 ^ 60):zd (Str.ofString (toString p)).cps.toList=some p:=by
 obtain⟨F,e,z⟩:=zI h
 rw [qAt F z,e]
theorem qL3 {p:Int}(h:p.natAbs < 10 ^ 60):47 ∉ (Str.ofString (toString p)).cps.toList:=fun z=>by
 have:=zC h
 rw [vj z] at this
 cases this
theorem qBh {p q:Int}(hq:1≤q)(bp:p.natAbs < 10 ^ 60)(bq:q.natAbs < 10 ^ 60)(g:Int.gcd p q=1):jd (shF p q).cps.toList=some (p,q)∧(shF p q).length≤130:=by
 have l1:=qAs bp
 have l2:=qAs bq
 have ls:("/":Str).length=1:=by decide+kernel
 have es:("/":Str).cps.toList=[47]:=by decide+kernel
 unfold shF
 by_cases h1:q=1
 · rw [if_pos h1]
   refine⟨?_,by show (Str.ofString (toString p)).length≤130;omega⟩
   show jd (Str.ofString (toString p)).cps.toList=_
   rw [vK (qL3 bp),zC bp,h1]
   rfl
 · rw [if_neg h1]
   refine⟨?_,by rw [xX,xX];omega⟩
   rw [qx,qx,es,List.append_assoc]
   show jd ((Str.ofString (toString p)).cps.toList++47::(Str.ofString (toString q)).cps.toList)=_
   rw [zq (qL3 bp),zC bp,zC bq]
   dsimp only
   rw [if_neg (by omega)]
theorem qGp {l:List Nat}{c:Nat}(h:c∈l):c=45∨c∈jq l:=by
 unfold jq
 split
 · rename_i hd
   cases l with
   | nil=>cases h
   | cons d t=>
    have:d=45:=by simpa using hd
    rcases List.mem_cons.mp h with z | z
    · left;rw [z,this]
    · right;exact z
 · exact .inr h
theorem vG {p:Int}(h:p.natAbs < 10 ^ 60){c:Nat}(h1:c≠45)(h2:qAp c=false):c ∉ (Str.ofString (toString p)).cps.toList:=fun z=>by
 rcases qGp z with e | e
 · exact h1 e
 · have:=List.all_eq_true.mp (zI h).1.all c e
   rw [h2] at this
   cases this
structure Odd (c:Nat):Prop where
 d:c≠45
 s:c≠47
 f:qAp c=false
 l:qIx c=false
theorem qKv:Odd 32:=⟨by decide,by decide,by decide+kernel,by decide+kernel⟩
theorem qKy:Odd 59:=⟨by decide,by decide,by decide+kernel,by decide+kernel⟩
theorem qIi {p q:Int}(hp:p.natAbs < 10 ^ 60)(hq:q.natAbs < 10 ^ 60){c:Nat}(h:Odd c):c ∉ (shF p q).cps.toList:=by
 unfold shF
 split
 · exact vG hp h.d h.f
 · rw [qx,qx]
   have es:("/":Str).cps.toList=[47]:=by decide+kernel
   intro z
   rcases List.mem_append.mp z with z | z
   · rcases List.mem_append.mp z with z | z
     · exact vG hp h.d h.f z
     · rw [es] at z
       exact h.s (by simpa using z)
   · exact vG hq h.d h.f z
theorem qHy {z:Str}(hz:q9 z=true){c:Nat}(h:Odd c):c ∉ z.cps.toList:=fun e=>by
 unfold q9 at hz
 rw [Bool.and_eq_true] at hz
 have:=List.all_eq_true.mp hz.2 c e
 rw [h.l] at this
 cases this
theorem qJj {z:Str}(hz:q9 z=true):z.length≤130:=by
 unfold q9 at hz
 rw [Bool.and_eq_true,decide_eq_true_eq] at hz
 omega
def GdW:Wd→Prop
 | .nm z=>q9 z=true
 | .fr p q=>p.natAbs < 10 ^ 60∧q.natAbs < 10 ^ 60
 | .nu n=>n.natAbs < 10 ^ 60
theorem qFg {m:Im}(h:GdI m):∀ d∈imW m,GdW d:=by
 have n1:q9 "clip"=true:=by decide+kernel
 have n2:q9 "nest"=true:=by decide+kernel
 have n3:q9 "gap"=true:=by decide+kernel
 have n4:q9 "mix"=true:=by decide+kernel
 cases m with
 | clip n p q r s l=>
  obtain⟨a1,a2,a3,a4⟩:=h
  intro d hd
  simp only [imW,List.mem_cons,List.not_mem_nil,or_false] at hd
  rcases hd with rfl | rfl | rfl | rfl | rfl
  · exact n1
  · exact a1
  · exact a2.2.2
  · exact a3.2.2
  · exact a4.2
 | nest n b l=>
  obtain⟨a1,a2,a3⟩:=h
  intro d hd
  simp only [imW,List.mem_cons,List.not_mem_nil,or_false] at hd
  rcases hd with rfl | rfl | rfl | rfl
  · exact n2
  · exact a1
  · exact a2.2
  · exact a3.2
 | gap l=>
  intro d hd
  simp only [imW,List.mem_cons,List.not_mem_nil,or_false] at hd
  rcases hd with rfl | rfl
  · exact n3
  · exact h.2
 | mix l=>
  intro d hd
  simp only [imW,List.mem_cons,List.not_mem_nil,or_false] at hd
  rcases hd with rfl | rfl
  · exact n4
  · exact h.2
theorem qLg:∀ {d:Wd},GdW d→WdB d
 | .nm _,h=>qJj h
 | .fr _ _,h=>h
 | .nu _,h=>h
theorem qC6 {c:Nat}(hc:Odd c):∀ {d:Wd},GdW d→c ∉ (wdS d).cps.toList
 | .nm _,h=>qHy h hc
 | .fr _ _,h=>qIi h.1 h.2 hc
 | .nu _,h=>vG h hc.d hc.f
theorem qL7 {m:Im}(h:GdI m):ImB m:=fun d hd=>qLg (qFg h d hd)
theorem qJq:Builtin.Str.strKind (" ":Str)=1:=by decide+kernel
theorem qI2:Builtin.Str.strKind ("; ":Str)=1:=by decide+kernel
theorem qKb:(" ":Str).cps.toList.head?=some 32:=by decide+kernel
theorem qI1:("; ":Str).cps.toList.head?=some 59:=by decide+kernel
theorem qG0 (m:Im):(imW m).map wdS≠[]:=by cases m <;> simp [imW]
theorem qGh {m:Im}(h:GdI m):Txt.split (itS m) " "=(imW m).map wdS:=wK qKb qJq (qG0 m) fun q hq=>by
 obtain⟨d,h1,rfl⟩:=List.mem_map.mp hq
 exact qC6 qKv (qFg h d h1)
theorem xq {m n:Int}(hn:n.natAbs < 10 ^ 60)(h:m≤n):jI m (Str.ofString (toString n)).cps.toList=some n:=by
 unfold jI
 rw [zC hn]
 exact if_neg (by omega)
theorem qEn {m:Im}(h:GdI m):itO (itS m)=some m:=by
 unfold itO
 rw [qGh h]
 cases m with
 | clip n p q r s l=>
  obtain⟨a1,⟨b1,b2,b3,b4⟩,⟨c1,c2,c3,c4⟩,a4⟩:=h
  show itW "clip" [n,shF p q,shF r s,Str.ofString (toString l)]=_
  rw [qC7,a1,if_pos rfl,(qBh b1 b3 b4 b2).1,(qBh c1 c3 c4 c2).1,xq a4.2 a4.1]
 | nest n b l=>
  obtain⟨a1,a2,a3⟩:=h
  show itW "nest" [n,Str.ofString (toString b),Str.ofString (toString l)]=_
  rw [qCz,a1,if_pos rfl,xq a2.2 a2.1,xq a3.2 a3.1]
 | gap l=>
  show itW "gap" [Str.ofString (toString l)]=_
  rw [wW,xq h.2 h.1]
 | mix l=>
  show itW "mix" [Str.ofString (toString l)]=_
  rw [wl,xq h.2 h.1]
theorem qCw {sep:Str}{c:Nat}:∀ {l:List Str},c∈(Str.join sep l).cps.toList→c∈sep.cps.toList∨∃ x∈l,c∈x.cps.toList
 | [],h=>by
  have e:(Str.join sep []).cps.toList=[]:=rfl
  rw [e] at h;cases h
 | [x],h=>.inr ⟨x,by simp,h⟩
 | x::y::r,h=>by
  have e:Str.join sep (x::y::r)=x++sep++Str.join sep (y::r):=rfl
  rw [e,qx,qx] at h
  rcases List.mem_append.mp h with h | h
  · rcases List.mem_append.mp h with h | h
    · exact .inr ⟨x,by simp,h⟩
    · exact .inl h
  · rcases qCw h with h | ⟨u,hu,h⟩
    · exact .inl h
    · exact .inr ⟨u,List.mem_cons_of_mem _ hu,h⟩
theorem qIn {m:Im}(h:GdI m):59 ∉ (itS m).cps.toList:=fun z=>by
 unfold itS at z
 rcases qCw z with z | ⟨x,hx,z⟩
 · have e:(" ":Str).cps.toList=[32]:=by decide+kernel
   rw [e] at z
   simp at z
 · obtain⟨d,h1,rfl⟩:=List.mem_map.mp hx
   exact qC6 qKy (qFg h d h1) z
theorem qCn:∀ {ms:List Im},(∀ m∈ms,GdI m)→kJ (ms.map itS)=some ms
 | [],_=>rfl
 | m::ms,h=>by
  rw [List.map_cons]
  unfold kJ
  rw [qEn (h m List.mem_cons_self),qCn fun x hx=>h x (List.mem_cons_of_mem _ hx)]
theorem qF9 {ms:List Im}(hg:∀ m∈ms,GdI m)(h0:ms≠[]):Txt.split (trS ms) "; "=ms.map itS:=wK qI1 qI2 (by simpa using h0) fun q hq=>by
 obtain⟨m,h1,rfl⟩:=List.mem_map.mp hq
 exact qIn (hg m h1)
theorem qJt (m:Im):1≤(itS m).length:=by
 have h:=zO " " ((imW m).map wdS) (qG0 m)
 unfold xa at h
 rw [qKx,List.length_map] at h
 have:2≤(imW m).length:=by cases m <;> simp [imW]
 unfold itS
 omega
theorem qHu {ms:List Im}(hg:∀ m∈ms,GdI m)(hf:ke ms):TrO (trS ms) ms:=by
 by_cases h0:ms=[]
 · subst h0
   exact .inl ⟨by decide+kernel,rfl⟩
 refine .inr ⟨fun e=>?_,?_,hf⟩
 · obtain⟨m,t,rfl⟩:∃ m t,ms=m::t:=by
    cases ms with
    | nil=>exact absurd rfl h0
    | cons m t=>exact⟨m,t,rfl⟩
   have h:=zO "; " ((m::t).map itS) (by simp)
   have h2:=qAj (sep:="; ") (l:=(m::t).map itS) (p:=itS m) (by simp)
   have e':(Str.join "; " ((m::t).map itS)).length=0:=by
    have:Str.join "; " ((m::t).map itS)="":=e
    rw [this];decide+kernel
   have:=qJt m
   omega
 · rw [qF9 hg h0,qCn hg]
theorem qJ0 {ms:List Im}(hg:∀ m∈ms,GdI m)(hl:ms.length≤24):(trS ms).length≤15800:=by
 have h1:=wm "; " (ms.map itS)
 have h2:=qCg (ms:=ms) fun m hm=>qL7 (hg m hm)
 have:ms.length*657≤24*657:=Nat.mul_le_mul_right _ hl
 unfold trS
 omega
inductive wI (K:W.Frag)(vs:List V)(H:Hp)(Q:VK)(_:XK):Prop
| mk z ms (_:vs=[.str z]) (_:z.length≤70000) (_:TrO z ms) (_:∀ y H',Same H H'→Tr H' y ms→Q (.ref y) H')
theorem TrO.inj {z:Str}{ms ns:List Im}(h:TrO z ms)(h':TrO z ns):ms=ns:=by
 rcases h with ⟨a,b⟩ | ⟨a,b,_⟩
 · rcases h' with ⟨_,d⟩ | ⟨c,_⟩
   · rw [b,d]
   · exact absurd a c
 · rcases h' with ⟨c,_⟩ | ⟨_,d,_⟩
   · exact absurd c a
   · rw [b] at d;exact Option.some.inj d
theorem zv [hW:WP w a] (T:Tx K mg a):FnOk P w K mg base CX0 8 a.A24 a.B24 ["text"] (wI K):=
 (noX (zS (hW:=hW) T)).imp fun vs H Q E h=>by
   refine qO fun _ Y=>?_
   obtain⟨z,ms,rfl,hz,ht,kk⟩:=h
   apply Y
   exact⟨_,rfl,.inl ⟨z,rfl,hz,fun ms' y H' ht' s1 _ tT=>kk y H' s1 (by rw [ht.inj ht'];exact tT),fun hn=>absurd ht (hn ms)⟩⟩
inductive qAq (K:W.Frag)(vs:List V)(H:Hp)(Q:VK)(_:XK):Prop
| mk z m (_:vs=[.str z]) (_:z.length≤80000) (_:itO z=some m) (_:∀ v H',Same H H'→IsI H' m v→Q v H')
theorem qA3 [hW:WP w a] (T:Tx K mg a):FnOk P w K mg base CX0 7 a.A23 a.B23 ["text"] (qAq K):=
 (noX (zx (hW:=hW) T)).imp fun vs H Q E h=>by
   refine qO fun _ Y=>?_
   obtain⟨z,m,rfl,hz,ht,kk⟩:=h
   apply Y
   exact⟨_,rfl,.inl ⟨z,rfl,hz,fun m' v H' hm s1 hI=>kk v H' s1 (by rw [ht] at hm;cases hm;exact hI),fun hn=>by rw [ht] at hn;cases hn⟩⟩
theorem neI {H:Hp}{x y:V}{m:Im}{Q:VK}(h1:IsI H m x)(h2:IsI H m y)(q:Q (.bl false) H):qH3 K true x y H Q:=by
 refine⟨_,_,h1.rep,h2.rep,by cases m <;> rfl,by have:=qKj m;omega,?_⟩
 rw [qCt]
 exact q
theorem qJl [hW:WP w a] (T:Tx K mg a):FnOk P w K mg base CX0 10 a.A40 a.B40 ["_law_script"] (qGa K):=by
 refine T.D40.F.ok xp (fun vs H Q E h=>?_) (fun cdv A outer s H vs Q E hr h=>?_)
 · obtain⟨a,ns,rfl,_⟩:=h
   rfl
 refine qO fun _ Y=>?_
 obtain⟨z,ns,rfl,hS,hlen,k⟩:=h
 apply Y
 have hu:=hr.units
 refine⟨_,(qD (qg 1 xp.nd (qW T.D28 (wY T) hr rfl (qA (qr xF (pv 0) (jD qF) (jD qF)) qB)))
  (qD (qg 2 xp.nd (jt F.plainAttrs_str F.slot_str_join F.type_str_join j9 qJ (qA (jp [] [] rfl (xC (pv 1)) (fun _ _ _ _=>(qW T.D30 (xK T) hr rfl (qA (pv 0) qB)))) qB)))
  (qD (qg 3 xp.nd (qf qBn rfl T.b_list rfl (qA (pv 1) qB)))
  (qD (qd (PW.pt (xM (qH kD (qW T.D13 (wj T) hr rfl (qA (pv 3) qB)) (pv 2) (qM _)) (xM (qH (vI hu) (pv 3) (pv 1) (qM _)) (je (qH (vI hu) (qW T.D24 (zv (hW:=hW) T) hr rfl (qA (pv 2) qB)) (pv 1) (qM _)))))) (qG (qK zQ)) qL)
  (qD (vn PassesOwn.never rfl (xC (pv 1)) (jo (i:=4) xp.nd rfl (Or.inl rfl)) (qG (qd (PW.pt (xM (qH kD (qW T.D12 (x8 T) hr rfl (qA (pv 4) qB)) (qW T.D30 (xK T) hr rfl (qA (pv 4) qB)) (qM _)) (je (qH (vI hu) (qW T.D23 (qA3 (hW:=hW) T) hr rfl (qA (qW T.D12 (x8 T) hr rfl (qA (pv 4) qB)) qB)) (pv 4) (qM _))))) (qG (qK zQ)) qL)))
  (qD (qg 5 xp.nd (qW T.D26 (zw T) hr rfl (qA (qW T.D25 (vO T) hr rfl (qA (pv 0) (qA qF qB))) (qA qF qB))))
  (qD (vn PassesOwn.never rfl (vi rfl T.b_range (qA (qP jJ qF (qP qc (qj qR (pv 5) qF (fun _ _=>rfl)) qF)) qB)) (jo (i:=6) xp.nd rfl (Or.inl rfl)) (qG (qg 2 xp.nd (qW T.D32 (ve T) hr rfl (qA (pv 2) (qA (qj qR (pv 5) (qP jJ qF (pv 6)) (fun _ _=>rfl)) (qA (qj qR (pv 5) (qP jJ qF (pv 6)) (fun _ _=>rfl)) qB)))))))
  (qD (jP (qg 7 xp.nd (qW T.D39 (zo T) hr rfl (qA (pv 2) qB))))
  (qD (jP (qg 8 xp.nd (qW T.D33 (km (hW:=hW) T) hr rfl (qA (pv 2) qB))))
  (qD (jP (qd (PW.pt (xM (PW.pt (j1 (vm (wS (pv 7))) (j2 (qH qBf (pv 8) zQ (qM _))))) (je (PW.pt (j1 (vm (qEp (pv 7))) (j2 (qH (vI hu) (pv 8) (pv 7) (qM _)))))))) (qG (qK zQ)) qL))
  (qD (vn PassesOwn.never rfl (xC (jH (qA xl (qA qF (qA (pv 1) (qA (jE (qA qJ (qA qF qB))) (qA zQ qB))))))) (jo (i:=9) xp.nd rfl (Or.inl rfl)) (qG (qd (qH qBf (qW T.D33 (km (hW:=hW) T) hr rfl (qA (pv 9) qB)) zQ (qM _)) (qG (qK zQ)) qL)))
  (qG (qK (xR (qHe hu) (qW T.D24 (zv (hW:=hW) T) hr rfl (qA qJ qB)) (jH qB) (qM _))))))))))))))),?_⟩
 try dsimp only [xU,qz]
 have hml:(ns.map V.int).length=ns.length:=List.length_map _
 refine qO fun _ Y=>?_
 obtain⟨cs,ec,hcl⟩:∃ cs:List Int,qDl (ns.map V.int) (some 1) (some 13)=cs.map V.int∧cs.length≤12:=by
  refine⟨(ns.drop (HT.sIx (ns.map V.int).length 0 (some 1))).take (HT.sIx (ns.map V.int).length (ns.map V.int).length (some 13) - HT.sIx (ns.map V.int).length 0 (some 1)),?_,?_⟩
  · unfold qDl
    rw [List.map_take,List.map_drop]
  · rw [List.length_take]
    have e1:HT.sIx (ns.map V.int).length 0 (some 1)=min 1 (ns.map V.int).length:=HT.sIx_nat ..
    have e2:HT.sIx (ns.map V.int).length (ns.map V.int).length (some 13)=min 13 (ns.map V.int).length:=HT.sIx_nat ..
    rw [e1,e2]
    omega
 apply Y
 refine⟨_,rfl,_,rfl,_,rfl,z,_,rfl,hS,fun sl hsl=>?_⟩
 rw [ec]
 have w0:=qE hsl (.lst (cs.map V.int))
 refine⟨sl,cs,rfl,SqL.of qC,hcl,fun y ms H1 s1 _ tT hg hl hf=>?_⟩
 have s1:=w0.trans s1
 have hb:∀ m∈ms,ImB m:=fun m hm=>qL7 (hg m hm)
 refine qO fun _ Y=>?_
 obtain⟨xs,hy,his⟩:=tT
 apply Y
 have hxl:=his.len
 refine⟨rfl,_,rfl,y,rfl,⟨_,SqL.of hy⟩,jy (K:=K) (a:=y) (xs:=xs) (fun i acc H'=>Same H1 H'∧acc=((ms.take i).map itS).map V.str) ⟨Same.refl _,rfl⟩ ?_ ?_ ?_⟩
 · rintro i acc H' hi ⟨s2,rfl⟩
   exact⟨SqL.of (s2 _ _ hy),qV (by simp;omega)⟩
 · rintro i x acc H' hi hx ⟨s2,rfl⟩
   refine qO fun _ Y=>?_
   obtain⟨m,hm,hI⟩:=his.get hx
   apply Y
   refine⟨_,rfl,x,m,rfl,hI.ts (qh s2),hb m (List.mem_of_getElem? hm),fun H2 s3=>Nxt.mk hi ⟨s2.trans s3,?_⟩⟩
   rw [List.take_add_one,hm,List.map_append,List.map_append]
   rfl
 rintro acc H2 ⟨s2,rfl⟩ D hD
 rw [hxl,List.take_length]
 have w3:=qE hD (.lst ((ms.map itS).map V.str))
 have hB:=kI (sep:="; ") (l:=ms.map itS) (by have:=qCg hb;omega)
 refine⟨_,D,_,rfl,rfl,SqL.of qC,hB.1,hB.2,?_⟩
 rw [zN]
 show _
 have s13:=s2.trans w3
 have tT3:Tr (upd H2 D (.lst ((ms.map itS).map V.str))) y ms:=⟨xs,s13 _ _ hy,his.ts (qh s13)⟩
 have s03:=s1.trans s13
 have hy3:=s13 _ _ hy
 have his3:=his.ts (qh s13)
 generalize upd H2 D (.lst ((ms.map itS).map V.str))=H3 at tT3 s03 hy3 his3 ⊢
 rw [show Str.join "; " (ms.map itS)=trS ms from rfl]
 have htl:=qJ0 hg hl
 refine⟨_,rfl,y,_,rfl,.inl (SqL.of hy3),fun hd hhd=>?_⟩
 have w4:=qE hhd (.lst xs)
 have tT4:=tT3.same w4
 have tD4:Tr (upd H3 hd (.lst xs)) hd ms:=⟨xs,qC,his3.ts (qh w4)⟩
 have s04:=s03.trans w4
 generalize upd H3 hd (.lst xs)=H4 at tT4 tD4 s04 ⊢
 refine⟨_,rfl,hd,ms,rfl,tD4,hb,by omega,fun H5 s5=>⟨_,rfl,rfl,_,rfl,?_⟩⟩
 refine kd (by simp) ?_
 have tT5:=tT4.same s5
 have s05:=s04.trans s5
 refine⟨_,rfl,_,rfl,qKo (tD4.same s5) tT5 ⟨_,rfl,ql ?_⟩⟩
 refine⟨_,rfl,_,ms,rfl,by omega,qHu hg hf,fun y2 H6 s6 tR=>⟨_,rfl,qKo tR (tT5.same s6) ⟨_,rfl,ql ?_⟩⟩⟩
 have s06:=s05.trans s6
 refine qO fun _ Y=>?_
 obtain⟨xs6,hy6,his6⟩:=tT5.same s6
 apply Y
 have hx6:=his6.len
 refine⟨_,rfl,y,rfl,⟨_,SqL.of hy6⟩,qAv (K:=K) (a:=y) (xs:=xs6) (fun i σ H'=>∃ o,σ=[some (.ref z),some (.ref y),some (.str (trS ms)),some (.ref hd),o,none,none,none,none,none]∧Same H6 H') ⟨none,rfl,Same.refl _⟩ ?_ ?_ ?_⟩
 · rintro i σ H' hi ⟨o,rfl,s7⟩
   exact SqL.of (s7 _ _ hy6)
 · rintro i x σ H' hx ⟨o,rfl,s7⟩
   refine qO fun _ Y=>?_
   obtain⟨m,hm,hIx⟩:=his6.get hx
   apply Y
   have hmm:=List.mem_of_getElem? hm
   have hI:=hIx.ts (qh s7)
   refine⟨_,rfl,x,m,rfl,hI,hb m hmm,fun H8 s8=>⟨_,rfl,x,m,rfl,hI.ts (qh s8),hb m hmm,fun H9 s9=>⟨rfl,_,rfl,kd (by simp) ?_⟩⟩⟩
   have hI9:=hI.ts (qh (s8.trans s9))
   refine⟨_,rfl,x,m,rfl,hI9,hb m hmm,fun H10 s10=>⟨_,m,rfl,by have:=qE0 (hb m hmm);omega,qEn (hg m hmm),fun v H11 s11 hIv=>⟨_,rfl,neI hIv (hI9.ts (qh (s10.trans s11))) ⟨_,rfl,ql ⟨_,rfl,(((s7.trans s8).trans s9).trans s10).trans s11⟩⟩⟩⟩⟩
 rintro σ H7 ⟨o,rfl,s7⟩
 have s07:=s06.trans s7
 refine⟨_,rfl,z,ns,0,rfl,s07.seq hS,hlen,by decide,fun c=>?_⟩
 refine⟨c,8,rfl,by decide,by decide,fun dz ds hdz hdl hdb=>?_⟩
 have w8:=qE hdz (.lst (ds.map V.int))
 match ds,hdl with
 | [x0,x1,x2,x3,x4,x5,x6,x7],_=>
  have hz8:(upd H7 dz (.lst ([x0,x1,x2,x3,x4,x5,x6,x7].map V.int))) dz=some (.lst [.int x0,.int x1,.int x2,.int x3,.int x4,.int x5,.int x6,.int x7]):=qC
  have s08:=s07.trans w8
  have s68:=s7.trans w8
  generalize upd H7 dz (.lst ([x0,x1,x2,x3,x4,x5,x6,x7].map V.int))=H8 at hz8 s08 s68 ⊢
  have f2:=fm x2 (show (0:Int) < 2 by decide)
  refine(qL5 rfl (SqL.of hz8) rfl ⟨_,_,rfl,rfl,nz,_,_,rfl,rfl,_,rfl,by omega,by omega,kF (n:=(1+x2.fmod 2).toNat) (fun i σ H'=>∃ (o1 o2:Option V) (r:Str),σ=[some (.ref z),some (.ref y),some (.str r),some (.ref hd),o1,some (.ref dz),o2,none,none,none]∧Same H8 H'∧r.length+4≤15804*2 ^ i) ⟨_,none,trS ms,rfl,Same.refl _,by omega⟩ ?_ ?_⟩)
  · rintro i σ H' hi ⟨o1,o2,r,rfl,s9,hr⟩
    have hi2:i < 2:=by omega
    have hp:2 ^ i≤2:=by
     match i,hi2 with
     | 0,_=>decide
     | 1,_=>decide
    have hr':r.length≤40000:=by
     have:15804*2 ^ i≤15804*2:=Nat.mul_le_mul_left _ hp
     omega
    have nat:∀ j:Int,0≤j→j < 8→∃ c:Int,atI [V.int x0,.int x1,.int x2,.int x3,.int x4,.int x5,.int x6,.int x7] j=some (.int c):=fun j h0 h1=>by
     obtain⟨v,hv,hvm⟩:=atN (xs:=[V.int x0,.int x1,.int x2,.int x3,.int x4,.int x5,.int x6,.int x7]) (n:=8) rfl h0 h1
     simp only [List.mem_cons,List.not_mem_nil,or_false] at hvm
     rcases hvm with rfl | rfl | rfl | rfl | rfl | rfl | rfl | rfl <;> exact⟨_,hv⟩
    refine qO fun _ Y=>?_
    obtain⟨c1,h1⟩:=nat (3+(0+(i:Int))) (by omega) (by omega)
    obtain⟨c2,h2⟩:=nat (5+(0+(i:Int))) (by omega) (by omega)
    apply Y
    have sz:=SqL.of (K:=K) (s9 _ _ hz8)
    refine⟨_,rfl,_,rfl,_,rfl,_,_,rfl,rfl,dz,_,_,_,rfl,rfl,sz,h1,_,rfl,_,rfl,_,_,rfl,rfl,dz,_,_,_,rfl,rfl,sz,h2,r,c1,c2,rfl,hr',fun r' H2 hl' s2=>?_⟩
    exact⟨_,_,r',rfl,s9.trans s2,by rw [Nat.pow_succ];omega⟩
  rintro σ H9 ⟨o1,o2,r,rfl,s9,hrl⟩
  have hr7:r.length≤70000:=by
   have hp:2 ^ (1+x2.fmod 2).toNat≤4:=by
    rcases (by omega:(1+x2.fmod 2).toNat=1∨(1+x2.fmod 2).toNat=2) with e | e <;> rw [e] <;> decide
   have:15804*2 ^ (1+x2.fmod 2).toNat≤15804*4:=Nat.mul_le_mul_left _ hp
   omega
  have s69:=s68.trans s9
  have tT9:Tr H9 y ms:=⟨xs6,s69 _ _ hy6,his6.ts (qh s69)⟩
  refine⟨fun σ H'=>∃ v7,σ=[some (.ref z),some (.ref y),some (.str r),some (.ref hd),o1,some (.ref dz),o2,some v7,none,none]∧Same H9 H'∧((v7= .non∧∀ ns,¬ TrO r ns)∨∃ du ns,v7= .ref du∧TrO r ns∧Tr H' du ns),?_,?_⟩
  · refine⟨_,rfl,r,rfl,hr7,fun ns2 du H10 ht s10 tD=>⟨_,rfl,s10,.inr ⟨du,ns2,rfl,ht,tD⟩⟩,fun hn H10 s10=>⟨_,rfl,s10,.inl ⟨rfl,hn⟩⟩⟩
  rintro σ H10 ⟨v7,rfl,s10,h7⟩
  refine⟨fun σ H'=>∃ v8,σ=[some (.ref z),some (.ref y),some (.str r),some (.ref hd),o1,some (.ref dz),o2,some v7,some v8,none]∧Same H9 H'∧((v7= .non∧v8= .bl false)∨∃ du fo ns,v7= .ref du∧v8= .ref fo∧Tr H' du ns∧Tr H' fo ns),?_,?_⟩
  · rcases h7 with ⟨rfl,hno⟩ | ⟨du,ns2,rfl,hns,tD⟩
    · exact⟨_,rfl,_,rfl,.inl ⟨r,rfl,hr7,fun ns3 fo H11 ht'=>absurd ht' (hno _),fun _ H11 s11=>⟨_,rfl,s10.trans s11,.inl ⟨rfl,rfl⟩⟩⟩⟩
    · exact⟨_,rfl,_,rfl,.inl ⟨r,rfl,hr7,fun ns3 fo H11 ht' s11 tF=>⟨_,rfl,s10.trans s11,.inr ⟨du,fo,ns2,rfl,rfl,tD.same s11,by rw [hns.inj ht'];exact tF⟩⟩,fun hn=>absurd hns (hn _)⟩⟩
  rintro σ H11 ⟨v8,rfl,s11,h8⟩
  refine⟨fun σ H'=>σ=[some (.ref z),some (.ref y),some (.str r),some (.ref hd),o1,some (.ref dz),o2,some v7,some v8,none]∧H'=H11,?_,?_⟩
  · rcases h8 with ⟨rfl,rfl⟩ | ⟨du,fo,ns2,rfl,rfl,tD,tF⟩
    · exact⟨_,rfl,_,rfl,qt ⟨_,rfl,false,rfl,.inl ⟨false,rfl,_,rfl,ql ⟨_,rfl,_,rfl,ql (ql ⟨rfl,rfl⟩)⟩⟩⟩⟩
    · exact⟨_,rfl,_,rfl,ql (ql ⟨_,rfl,_,rfl,qt ⟨_,rfl,_,rfl,qKo tF tD ⟨_,rfl,ql ⟨rfl,rfl⟩⟩⟩⟩)⟩
  rintro σ H12 ⟨rfl,rfl⟩
  have tT12:=tT9.same s11
  refine⟨_,rfl,sL2,fun gp hgp=>⟨sL5,fun ol hol=>?_⟩⟩
  have w13:=qE hgp (.tup [.str "gap",.int 3])
  have w14:=qE hol (.lst [.non,.int 7,.ref y,.ref gp,.bl true])
  have s12:=w13.trans w14
  have hol2:(upd (upd H12 gp (.tup [.str "gap",.int 3])) ol (.lst [.non,.int 7,.ref y,.ref gp,.bl true])) ol=some (.lst [.non,.int 7,.ref y,.ref gp,.bl true]):=qC
  have hgp2:=w14 _ _ (qC (H:=H12) (a:=gp) (o:=.tup [.str "gap",.int 3]))
  refine qO fun _ Y=>?_
  obtain⟨xt,hyt,_⟩:=tT12.same s12
  apply Y
  generalize upd (upd H12 gp (.tup [.str "gap",.int 3])) ol (.lst [.non,.int 7,.ref y,.ref gp,.bl true])=H14 at hol2 hgp2 hyt s12 ⊢
  refine⟨ol,rfl,⟨_,SqL.of hol2⟩,qAv (K:=K) (a:=ol) (xs:=[.non,.int 7,.ref y,.ref gp,.bl true]) (fun i σ H'=>∃ o,σ=[some (.ref z),some (.ref y),some (.str r),some (.ref hd),o1,some (.ref dz),o2,some v7,some v8,o]∧Same H14 H') ⟨none,rfl,Same.refl _⟩ ?_ ?_ ?_⟩
  · rintro i σ H' hi ⟨o,rfl,s15⟩
    exact SqL.of (s15 _ _ hol2)
  · rintro i x σ H' hx ⟨o,rfl,s15⟩
    have hm:=List.mem_of_getElem? hx
    have ty:∃ t,vq K H' x t∧W.kitOne K t (.type "str")=some false:=by
     simp only [List.mem_cons,List.not_mem_nil,or_false] at hm
     rcases hm with rfl | rfl | rfl | rfl | rfl
     · exact⟨_,.non,by kernel_rfl⟩
     · exact⟨_,.int 7,by kernel_rfl⟩
     · exact⟨_,.lst (s15 _ _ hyt),by kernel_rfl⟩
     · exact⟨_,.tup (s15 _ _ hgp2),by kernel_rfl⟩
     · exact⟨_,.bl true,by kernel_rfl⟩
    refine qO fun _ Y=>?_
    obtain⟨t,ty,hk⟩:=ty
    apply Y
    exact⟨_,rfl,x,rfl,.inr ⟨t,ty,hk,fun H16 s16=>⟨false,rfl,.inl ⟨false,rfl,_,rfl,ql ⟨_,rfl,s15.trans s16⟩⟩⟩⟩⟩
  rintro σ H15 ⟨o,rfl,s15⟩
  refine⟨_,[],rfl,by decide+kernel,.inl ⟨rfl,rfl⟩,fun ye H16 s16 tE=>⟨sL0,fun en hen=>?_⟩⟩
  exact qJo (tE.same (qE hen _)) qC (k _)
end
structure DF (K:W.Frag)(x:Str)(st:Stmt)(f:Addr)(fd:FuncData):Prop where
 n:W.nsIn K mainGlobals x=some (some (.ref f))
 F:Fun K x x st f fd
theorem df_mk {K:W.Frag}{x:Str}{st:Stmt}{f:Addr}{oc:Value}{od an:Option Addr}{osl:Array (Option Value)}{kV doc pm cdv ct:Value}(n:W.nsIn K mainGlobals x=some (some (.ref f)))(l:K.lookup f=some ⟨oc,od,.func (W.fnOf x x (zc st) (xY st) (qI st) .none kV doc pm an cdv ct),osl⟩)(c:W.codeIn K cdv x=true)(k:W.keepIn K (.ref f)=true):DF K x st f (W.fnOf x x (zc st) (xY st) (qI st) .none kV doc pm an cdv ct):=⟨n,qJg l c k⟩
def GL (K:W.Frag)(x:Str)(v:Option Value):Prop:=W.nsIn K mainGlobals x=some v
theorem gl_mk {K:W.Frag}{x:Str}{v:Option Value}(h:W.nsIn K mainGlobals x=some v):GL K x v:=h
theorem dG {K:W.Frag}{x:Str}{st:Stmt}{f:Addr}{fd:FuncData}{h:Heap}{mg:Str→Option Value}{ps:List Str}(X:K.In h)(G:h.Ns mainGlobals mg)(d:DF K x st f fd)
 (b:∀ (kV doc pm:Value) (an:Option Addr) (cdv ct:Value) (us:List Value),us.length=ps.length→bindArgs (W.fnOf x x (zc st) (xY st) (qI st) .none kV doc pm an cdv ct) ⟨us,[]⟩=pure (ps.zip us):=by
   first | exact(fun _ _ _ _ _ _ us hl=>match us,hl with | [_],_=>rfl) | exact(fun _ _ _ _ _ _ us hl=>match us,hl with | [_,_],_=>rfl) | exact(fun _ _ _ _ _ _ us hl=>match us,hl with | [_,_,_],_=>rfl)):L3.Def K mg x st ps f fd:=⟨d.F,d.F.binds b,W.mg_of X G d.n⟩
theorem all_mk {l:W.OpenLaw}{w:World}{K:W.Frag}{h:Heap}{mg:Str→Option Value}{fa f0 f1 f2 f3 f4 f5 f6 f7 f8 f9 f10 f11 f12 f13 f14 f15 f16 f17 f18 f19 f20 f21 f22 f23 f24 f25 f26 f27 f28 f29 f30 f31 f32 f33 f34 f35 f36 f37 f38 f39 f40 C0 C1 C2 nNOUGHT nITEMS nITEMS_0 nITEMS_1 nITEMS_2 nITEMS_3:Addr}{g0 g1 g2 g3 g4 g5 g6 g7 g8 g9 g10 g11 g12 g13 g14 g15 g16 g17 g18 g19 g20 g21 g22 g23 g24 g25 g26 g27 g28 g29 g30 g31 g32 g33 g34 g35 g36 g37 g38 g39 g40:FuncData}(X:K.In h)(G:h.Ns mainGlobals mg)(hfa:mg "law"=some (.ref fa))
 {odNOUGHT odITEMS_0 odITEMS_1 odITEMS_2 odITEMS_3:Option Addr} {slNOUGHT slITEMS_0 slITEMS_1 slITEMS_2 slITEMS_3:Array (Option Value)} {tLETTERS tLONGEST_NAME tNOUGHT_0 tNOUGHT_1 tFIGURES tMOST_FIGURES tITEMS_0 tITEMS_0_0 tITEMS_0_1 tITEMS_0_2 tITEMS_0_3 tITEMS_1 tITEMS_1_0 tITEMS_1_1 tITEMS_1_2 tITEMS_2 tITEMS_2_0 tITEMS_3 tITEMS_3_0:Tok} {nnNOUGHT nnITEMS nnITEMS_0 nnITEMS_1 nnITEMS_2 nnITEMS_3:Nat}
 (h0:DF K "is_whole" kM f0 g0)
 (h1:DF K "common_divisor" ji f1 g1)
 (h2:DF K "is_fraction" xW f2 g2)
 (h3:DF K "is_before" vW f3 g3)
 (h4:DF K "is_name" vH f4 g4)
 (h5:DF K "one_form" kK f5 g5)
 (h6:DF K "kind_at" vR f6 g6)
 (h7:DF K "is_in_one_form" jm f7 g7)
 (h8:DF K "show_number" xV f8 g8)
 (h9:DF K "show_fraction" jz f9 g9)
 (h10:DF K "show_word" zg f10 g10)
 (h11:DF K "show_words" xy f11 g11)
 (h12:DF K "show_item" za f12 g12)
 (h13:DF K "show_track" xw f13 g13)
 (h14:DF K "check_text" xz f14 g14)
 (h15:DF K "are_figures" xQ f15 g15)
 (h16:DF K "read_number" xT f16 g16)
 (h17:DF K "read_fraction" ju f17 g17)
 (h18:DF K "read_name" zb f18 g18)
 (h19:DF K "read_from" zh f19 g19)
 (h20:DF K "read_rate" vX f20 g20)
 (h21:DF K "read_word" zY f21 g21)
 (h22:DF K "read_words" xr f22 g22)
 (h23:DF K "read_item" zV f23 g23)
 (h24:DF K "read_track" xv f24 g24)
 (h25:DF K "_law_cell_at" xE f25 g25)
 (h26:DF K "_law_drawn" xo f26 g26)
 (h27:DF K "_law_part" zl f27 g27)
 (h28:DF K "_law_track" xu f28 g28)
 (h29:DF K "_law_shown" xk f29 g29)
 (h30:DF K "_law_item_text" jj f30 g30)
 (h31:DF K "_law_items_changed" jL f31 g31)
 (h32:DF K "_law_changed" xA f32 g32)
 (h33:DF K "_law_read" zU f33 g33)
 (h34:DF K "_law_one_form" jw f34 g34)
 (h35:DF K "_law_number" xS f35 g35)
 (h36:DF K "_law_fraction" j0 f36 g36)
 (h37:DF K "_law_is_name" xG f37 g37)
 (h38:DF K "_law_item_read" jk f38 g38)
 (h39:DF K "_law_track_read" jU f39 g39)
 (h40:DF K "law" qH1 f40 g40)
 (xg0:GL K "CutError" (some (.ref C0)))
 (xg1:GL K "NoClip" (some (.ref C1)))
 (xg2:GL K "NoText" (some (.ref C2)))
 (x_NoText:L3.OwnX K C2)
 (e_NoText:L3.ExcK K C2)
 (m_NoText:W.exmOne K (.ref C2) (.ref C2)=some true)
 (i_TK:W.kitOne K (.ref C2) (.ref C1)=some false)
 (xz0:GL K "isinstance" none)
 (xz1:GL K "int" none)
 (xz2:GL K "bool" none)
 (xz3:GL K "abs" none)
 (xz4:GL K "tuple" none)
 (xz5:GL K "len" none)
 (xz6:GL K "all" none)
 (xz7:GL K "str" none)
 (xz8:GL K "enumerate" none)
 (xz9:GL K "zip" none)
 (xz10:GL K "range" none)
 (xz11:GL K "any" none)
 (xz12:GL K "list" none)
 (xcLETTERS:GL K "LETTERS" (some (.str "abcdefghijklmnopqrstuvwxyz" tLETTERS)))
 (xcLONGEST_NAME:GL K "LONGEST_NAME" (some (.int 8 tLONGEST_NAME)))
 (xcNOUGHT:GL K "NOUGHT" (some (.ref nNOUGHT))) (xlNOUGHT:K.lookup nNOUGHT=some ⟨.type "tuple",odNOUGHT,.seq #[.int 0 tNOUGHT_0,.int 1 tNOUGHT_1] nnNOUGHT,slNOUGHT⟩)
 (xcFIGURES:GL K "FIGURES" (some (.str "0123456789" tFIGURES)))
 (xcMOST_FIGURES:GL K "MOST_FIGURES" (some (.int 60 tMOST_FIGURES)))
 (xcITEMS:GL K "ITEMS" (some (.ref nITEMS))) (xlITEMS:K.lookup nITEMS=some ⟨.type "dict",none,.dict #[⟨PyData.keyHash w.params "clip",.str "clip" tITEMS_0,.ref nITEMS_0⟩,⟨PyData.keyHash w.params "nest",.str "nest" tITEMS_1,.ref nITEMS_1⟩,⟨PyData.keyHash w.params "gap",.str "gap" tITEMS_2,.ref nITEMS_2⟩,⟨PyData.keyHash w.params "mix",.str "mix" tITEMS_3,.ref nITEMS_3⟩] nnITEMS,#[]⟩)
 (xlITEMS_0:K.lookup nITEMS_0=some ⟨.type "tuple",odITEMS_0,.seq #[.str "name" tITEMS_0_0,.str "fraction" tITEMS_0_1,.str "fraction" tITEMS_0_2,.str "length" tITEMS_0_3] nnITEMS_0,slITEMS_0⟩)
 (xlITEMS_1:K.lookup nITEMS_1=some ⟨.type "tuple",odITEMS_1,.seq #[.str "name" tITEMS_1_0,.str "count" tITEMS_1_1,.str "length" tITEMS_1_2] nnITEMS_1,slITEMS_1⟩)
 (xlITEMS_2:K.lookup nITEMS_2=some ⟨.type "tuple",odITEMS_2,.seq #[.str "length" tITEMS_2_0] nnITEMS_2,slITEMS_2⟩)
 (xlITEMS_3:K.lookup nITEMS_3=some ⟨.type "tuple",odITEMS_3,.seq #[.str "length" tITEMS_3_0] nnITEMS_3,slITEMS_3⟩)
 (xsITEMS:(nITEMS == sysModules)=false)
 :∃ fd:FuncData,(∀ (s:Shared) (v:Value),BindsTo s fd ⟨[v],[]⟩ [("_law_script",v)])∧∀ base:Heap,K.In base→base.Ns mainGlobals mg→FnOk l.prog w K mg base CX0 10 fa fd ["_law_script"] (qGa K):=by
 have e:=hfa.symm.trans (W.mg_of X G h40.n)
 obtain rfl:f40=fa:=by cases e;rfl
 obtain⟨_,_,_,_,_,_,_,_,_,rfl,_,_⟩:=h40.F.ex
 have T:Tx K mg ⟨f0,_,f1,_,f2,_,f3,_,f4,_,f5,_,f6,_,f7,_,f8,_,f9,_,f10,_,f11,_,f12,_,f13,_,f14,_,f15,_,f16,_,f17,_,f18,_,f19,_,f20,_,f21,_,f22,_,f23,_,f24,_,f25,_,f26,_,f27,_,f28,_,f29,_,f30,_,f31,_,f32,_,f33,_,f34,_,f35,_,f36,_,f37,_,f38,_,f39,_,f40,_,C0,C1,C2,tLETTERS,tLONGEST_NAME,nNOUGHT,tFIGURES,tMOST_FIGURES,nITEMS,nITEMS_0,nITEMS_1,nITEMS_2,nITEMS_3,w.params⟩:=⟨dG X G h0,dG X G h1,dG X G h2,dG X G h3,dG X G h4,dG X G h5,dG X G h6,dG X G h7,dG X G h8,dG X G h9,dG X G h10,dG X G h11,dG X G h12,dG X G h13,dG X G h14,dG X G h15,dG X G h16,dG X G h17,dG X G h18,dG X G h19,dG X G h20,dG X G h21,dG X G h22,dG X G h23,dG X G h24,dG X G h25,dG X G h26,dG X G h27,dG X G h28,dG X G h29,dG X G h30,dG X G h31,dG X G h32,dG X G h33,dG X G h34,dG X G h35,dG X G h36,dG X G h37,dG X G h38,dG X G h39,dG X G h40,W.mg_of X G xg0,W.mg_of X G xg1,W.mg_of X G xg2,W.mg_none_of X G xz0,W.mg_none_of X G xz1,W.mg_none_of X G xz2,W.mg_none_of X G xz3,W.mg_none_of X G xz4,W.mg_none_of X G xz5,W.mg_none_of X G xz6,W.mg_none_of X G xz7,W.mg_none_of X G xz8,W.mg_none_of X G xz9,W.mg_none_of X G xz10,W.mg_none_of X G xz11,W.mg_none_of X G xz12,W.mg_of X G xcLETTERS,W.mg_of X G xcLONGEST_NAME,W.mg_of X G xcNOUGHT,fun H=>.inr ⟨_,_,_,xlNOUGHT,rfl,rfl,by show 2≤sizeLine;decide,.cons ⟨_,rfl⟩ (.cons ⟨_,rfl⟩ (.nil))⟩,W.mg_of X G xcFIGURES,W.mg_of X G xcMOST_FIGURES,W.mg_of X G xcITEMS,⟨⟨_,_,xlITEMS,.cons rfl (.cons rfl (.cons rfl (.cons rfl (.nil))))⟩,xsITEMS⟩,fun H=>.inr ⟨_,_,_,xlITEMS_0,rfl,rfl,by show 4≤sizeLine;decide,.cons ⟨_,rfl⟩ (.cons ⟨_,rfl⟩ (.cons ⟨_,rfl⟩ (.cons ⟨_,rfl⟩ (.nil))))⟩,fun H=>.inr ⟨_,_,_,xlITEMS_1,rfl,rfl,by show 3≤sizeLine;decide,.cons ⟨_,rfl⟩ (.cons ⟨_,rfl⟩ (.cons ⟨_,rfl⟩ (.nil)))⟩,fun H=>.inr ⟨_,_,_,xlITEMS_2,rfl,rfl,by show 1≤sizeLine;decide,.cons ⟨_,rfl⟩ (.nil)⟩,fun H=>.inr ⟨_,_,_,xlITEMS_3,rfl,rfl,by show 1≤sizeLine;decide,.cons ⟨_,rfl⟩ (.nil)⟩,x_NoText,e_NoText,m_NoText,i_TK⟩
 exact⟨_,fun s v=>.of_eq rfl,fun base _ _=>qJl (hW:=⟨rfl⟩) T⟩
theorem walk {l:W.OpenLaw}{q:Program}{loose:List Str}{XP:(Str→Option Value)→Heap→Prop}{YP:World→Heap→Prop}{d:DefRec}{K:Params→W.Frag}(hn:l.most=some 63)(hdf:d.params.defaults=[])
 (hY:∀ (w:World) (h:Heap),YP w h→(K w.params).In h)
 (F:∀ (w:World) (mg:Str→Option Value) (fa:Addr) (h:Heap),(K w.params).In h→h.Ns mainGlobals mg→mg d.name=some (.ref fa)→
   ∃ fd:FuncData,(∀ (s:Shared) (u:Value),BindsTo s fd ⟨[u],[]⟩ [("_law_script",u)])∧∀ base:Heap,(K w.params).In base→base.Ns mainGlobals mg→FnOk l.prog w (K w.params) mg base CX0 10 fa fd ["_law_script"] (qGa (K w.params))):
 W.WalkO q loose XP YP l.row.toRowW d [] (fun f vs=>PySem.call f vs):=
 L2.walk_of (n:=63) (k:=10) (x:="_law_script") (CX:=fun _=>CX0) (sp:=fun w=>qGa (K w.params)) hn (by decide) hdf ⟨rfl,by decide,by decide⟩ hY F (fun _ _ a ns hl _ hS=>⟨a,ns,rfl,hS,hl,fun _=>rfl⟩) fun _ _ _ _ _ z=>z
end Lw
namespace PySem.W.Fast
def tw4087439426828052418 := ()
def tw1188155196098021987 := ()
def tw8269420574897431590 := ()
def tw211996896301843558 := ()
def tw1913006255165543 := ()
def tw8232855484656255848 := ()
def tw8698738246180820362 := ()
def tw6642738063176942671 := ()
def tw7140540277025906480 := ()
def tw6678051774090636530 := ()
def tw1305167222470852627 := ()
def tw18364290737179847956 := ()
def tw12647163085374062646 := ()
def tw12694413261003703063 := ()
def tw11379212375003681848 := ()
def tw13308279699437783353 := ()
def tw1139716401779607932 := ()
def tw2950088557722149789 := ()
def tw4717275821382332671 := ()
def tw2099586351378351851 := ()
def tw18309847252558539940 := ()
def tw1712154153630714801 := ()
def tw15679930581402678920 := ()
def tw8353727335528136489 := ()
def tw9390186171574783697 := ()
def tw13078170691737824999 := ()
def tw12398083765219100778 := ()
def tw13161986395837384536 := ()
def tw5735749630673971255 := ()
def tw1554566621579334548 := ()
def tw15916358334967582936 := ()
def tw15063170427229867475 := ()
def tw7022756983692658643 := ()
def tw949109591325577093 := ()
def tw8372905739385807881 := ()
def tw17843318498281846915 := ()
def tw9342625505433696991 := ()
def tw1211453869097232625 := ()
def tw14032063982601877393 := ()
def tw14946080976161281676 := ()
def tw4179973059713169595 := ()
def tw8710991296212538502 := ()
def tw17223000127033620311 := ()
def tw17462412883185092818 := ()
def tw13407056859989390834 := ()
def tw1063179530344841230 := ()
def tw15574228228823896142 := ()
def tw17274047923717378348 := ()
def tw2716662783703761503 := ()
def tw3629266354457955292 := ()
def tw8928447418978382864 := ()
def tw1512125856033169322 := ()
def tw10954479690307539597 := ()
def tw3307379214878846834 := ()
def tw3624556761019984267 := ()
def tw5614688935859782971 := ()
def tw13355699861631808411 := ()
def tw9399052447067581555 := ()
def tw3232870642072831594 := ()
def tw6859954196880413867 := ()
def tw12821861261920586499 := ()
def tw6165363756500163351 := ()
def tw13389955717557728400 := ()
def tw751547900849241468 := ()
def tw610108995392441833 := ()
def tw963023695967835660 := ()
def tw7235564939556230359 := ()
def tw12162675176454296998 := ()
def tw11895792791144858101 := ()
def tw15549261069630073894 := ()
def tw17442371999907585595 := ()
def tw6834089344478201740 := ()
def tw7142028129837332835 := ()
def tw2571952577665318758 := ()
def tw12629756920291165112 := ()
def tw11348357241787414585 := ()
def tw14004642000916931206 := ()
def tw16466493965081268838 := ()
def tw13375306017041287265 := ()
def tw8765796859077797497 := ()
def tw15158746783919231480 := ()
def tw10684542137521966812 := ()
def tw15853316443756468940 := ()
def tw7625940000803052985 := ()
def tw13631642883123502228 := ()
def tw3629084563721906098 := ()
def tw3538584325252202827 := ()
def tw12857865760915671306 := ()
def tw11233652350764733509 := ()
def tw5060849343111556368 := ()
def tw14193631531326302694 := ()
def tw6122598203030035912 := ()
def tw8963599199299984173 := ()
def tw4993863545312312415 := ()
def tw12814741247216289159 := ()
def tw14698314754462353248 := ()
def tw3807537189916109686 := ()
def tw1417746976505727379 := ()
def tw10909592614815475331 := ()
def tw5340416903158117436 := ()
def tw15842953539488270283 := ()
def tw420822485928044763 := ()
def tw7140384708185246064 := ()
def tw16628890171585209733 := ()
def tw14227508538111775415 := ()
def tw17196763506042437924 := ()
def tw11276875035234871469 := ()
def tw14324499845407800979 := ()
def tw6035746139453342666 := ()
def tw5819928379749701247 := ()
def tw9197450368098498557 := ()
def tw9340001238755985201 := ()
def tw7367503778249709290 := ()
def tw707170803955476108 := ()
def tw15290796283701484530 := ()
def tw14987542210102316300 := ()
def tw17898480736182564120 := ()
def tw6307902278221001656 := ()
def tw6037916025827179345 := ()
def tw8679649810555393988 := ()
def tw12958318083796980508 := ()
def tw9188848629030741913 := ()
def tw12156586859017379620 := ()
def tw4402596278432122831 := ()
def tw16949895927212820166 := ()
def tw16797284198325553389 := ()
def tw1131409622270169122 := ()
def tw10928544238947210772 := ()
def tw11007055584455246875 := ()
def tw2815224736459375737 := ()
def tw4948816879029101080 := ()
def tw9897790054390912588 := ()
def tw2002991777801924696 := ()
def tw9337128287217582193 := ()
def tw5750214092678876868 := ()
def tw1312353984215385549 := ()
def tw6186947145281165762 := ()
def tw15460526242645747150 := ()
def tw6214024613224956082 := ()
def tw11263840921888468679 := ()
def tw2299659233805519238 := ()
end PySem.W.Fast
open PySem PySem.W PyProof.Rows
set_option maxRecDepth 100000 in
set_option maxHeartbeats 0 in
theorem PySem.Challenge.cw_reelcut_k85_tracks_in_texts_holds : PySem.Challenge.rw_reelcut_k85_tracks_in_texts.Holds := by
 w_on;o_law;k_head;(case hw=>w_witness2)
 k_fill
 refine Lw.walk (l:=PySem.Challenge.rw_reelcut_k85_tracks_in_texts) rfl rfl (fun w h Y=>PySem.W.kIn_of Y) ?F
 case F=>
  intro w mg fa h KX G hmg
  refine' Lw.all_mk KX G hmg (Lw.df_mk ?a0 ?l0 ?c0 ?k0) (Lw.df_mk ?a1 ?l1 ?c1 ?k1) (Lw.df_mk ?a2 ?l2 ?c2 ?k2) (Lw.df_mk ?a3 ?l3 ?c3 ?k3) (Lw.df_mk ?a4 ?l4 ?c4 ?k4) (Lw.df_mk ?a5 ?l5 ?c5 ?k5) (Lw.df_mk ?a6 ?l6 ?c6 ?k6) (Lw.df_mk ?a7 ?l7 ?c7 ?k7) (Lw.df_mk ?a8 ?l8 ?c8 ?k8) (Lw.df_mk ?a9 ?l9 ?c9 ?k9) (Lw.df_mk ?a10 ?l10 ?c10 ?k10) (Lw.df_mk ?a11 ?l11 ?c11 ?k11) (Lw.df_mk ?a12 ?l12 ?c12 ?k12) (Lw.df_mk ?a13 ?l13 ?c13 ?k13) (Lw.df_mk ?a14 ?l14 ?c14 ?k14) (Lw.df_mk ?a15 ?l15 ?c15 ?k15) (Lw.df_mk ?a16 ?l16 ?c16 ?k16) (Lw.df_mk ?a17 ?l17 ?c17 ?k17) (Lw.df_mk ?a18 ?l18 ?c18 ?k18) (Lw.df_mk ?a19 ?l19 ?c19 ?k19) (Lw.df_mk ?a20 ?l20 ?c20 ?k20) (Lw.df_mk ?a21 ?l21 ?c21 ?k21) (Lw.df_mk ?a22 ?l22 ?c22 ?k22) (Lw.df_mk ?a23 ?l23 ?c23 ?k23) (Lw.df_mk ?a24 ?l24 ?c24 ?k24) (Lw.df_mk ?a25 ?l25 ?c25 ?k25) (Lw.df_mk ?a26 ?l26 ?c26 ?k26) (Lw.df_mk ?a27 ?l27 ?c27 ?k27) (Lw.df_mk ?a28 ?l28 ?c28 ?k28) (Lw.df_mk ?a29 ?l29 ?c29 ?k29) (Lw.df_mk ?a30 ?l30 ?c30 ?k30) (Lw.df_mk ?a31 ?l31 ?c31 ?k31) (Lw.df_mk ?a32 ?l32 ?c32 ?k32) (Lw.df_mk ?a33 ?l33 ?c33 ?k33) (Lw.df_mk ?a34 ?l34 ?c34 ?k34) (Lw.df_mk ?a35 ?l35 ?c35 ?k35) (Lw.df_mk ?a36 ?l36 ?c36 ?k36) (Lw.df_mk ?a37 ?l37 ?c37 ?k37) (Lw.df_mk ?a38 ?l38 ?c38 ?k38) (Lw.df_mk ?a39 ?l39 ?c39 ?k39) (Lw.df_mk ?a40 ?l40 ?c40 ?k40) (Lw.gl_mk ?xg0) (Lw.gl_mk ?xg1) (Lw.gl_mk ?xg2) ?x_NoText ?e_NoText ?m_NoText ?i_TK (Lw.gl_mk ?xz0) (Lw.gl_mk ?xz1) (Lw.gl_mk ?xz2) (Lw.gl_mk ?xz3) (Lw.gl_mk ?xz4) (Lw.gl_mk ?xz5) (Lw.gl_mk ?xz6) (Lw.gl_mk ?xz7) (Lw.gl_mk ?xz8) (Lw.gl_mk ?xz9) (Lw.gl_mk ?xz10) (Lw.gl_mk ?xz11) (Lw.gl_mk ?xz12) (Lw.gl_mk ?xcLETTERS) (Lw.gl_mk ?xcLONGEST_NAME) (Lw.gl_mk ?xcNOUGHT) ?xlNOUGHT (Lw.gl_mk ?xcFIGURES) (Lw.gl_mk ?xcMOST_FIGURES) (Lw.gl_mk ?xcITEMS) ?xlITEMS ?xlITEMS_0 ?xlITEMS_1 ?xlITEMS_2 ?xlITEMS_3 ?xsITEMS
  (case a0 | l0 | c0 | k0 | a1 | l1 | c1 | k1 | a2 | l2 | c2 | k2 | a3 | l3 | c3 | k3 | a4 | l4 | c4 | k4 | a5 | l5 | c5 | k5 | a6 | l6 | c6 | k6 | a7 | l7 | c7 | k7 | a8 | l8 | c8 | k8 | a9 | l9 | c9 | k9 | a10 | l10 | c10 | k10 | a11 | l11 | c11 | k11 | a12 | l12 | c12 | k12 | a13 | l13 | c13 | k13 | a14 | l14 | c14 | k14 | a15 | l15 | c15 | k15 | a16 | l16 | c16 | k16 | a17 | l17 | c17 | k17 | a18 | l18 | c18 | k18 | a19 | l19 | c19 | k19 | a20 | l20 | c20 | k20 | a21 | l21 | c21 | k21 | a22 | l22 | c22 | k22 | a23 | l23 | c23 | k23 | a24 | l24 | c24 | k24 | a25 | l25 | c25 | k25 | a26 | l26 | c26 | k26 | a27 | l27 | c27 | k27 | a28 | l28 | c28 | k28 | a29 | l29 | c29 | k29 | a30 | l30 | c30 | k30 | a31 | l31 | c31 | k31 | a32 | l32 | c32 | k32 | a33 | l33 | c33 | k33 | a34 | l34 | c34 | k34 | a35 | l35 | c35 | k35 | a36 | l36 | c36 | k36 | a37 | l37 | c37 | k37 | a38 | l38 | c38 | k38 | a39 | l39 | c39 | k39 | a40 | l40 | c40 | k40 | xg0 | xg1 | xg2=>k_is)
  (case x_NoText=>(unfold L3.OwnX;kernel_rfl))
  (case e_NoText=>exact⟨by k_is,by k_is,by k_is,by k_is,by k_is,by k_is,by k_is⟩)
  (case m_NoText=>kernel_rfl)
  (case i_TK=>kernel_rfl)
  (case xz0 | xz1 | xz2 | xz3 | xz4 | xz5 | xz6 | xz7 | xz8 | xz9 | xz10 | xz11 | xz12 | xcLETTERS | xcLONGEST_NAME | xcNOUGHT | xlNOUGHT | xcFIGURES | xcMOST_FIGURES | xcITEMS | xlITEMS | xlITEMS_0 | xlITEMS_1 | xlITEMS_2 | xlITEMS_3=>k_is)
  (case xsITEMS=>decide+kernel)

import PyProof.Rows.All
import Wide.All
import OpenK.AllK
import Wide.FinOn
import Lean
import PyProof.EqAt
import PyProof.EqKinds
import PyProof.TupleCall
import PyProof.StrLawsTight
import KE.KIntText
import KE.KxPart
import KE.KDictLaws
import KE.KMinKey
import PySem.Challenge.RW_reelcut_k49_tables_stay_good
set_option maxHeartbeats 4000000
set_option Elab.async false
set_option linter.all false
set_option maxRecDepth 100000
theorem O.{u}{α:Sort u}{a:α}:a=a:=rfl
namespace L2
open PySem PySem.Spec PyProof.Rows
abbrev Key:=Sum Int Str
def qLi:Key->Value->Bool
 |.inl k,v=>Value.isInt k v
 |.inr x,v=>Value.isStrOf x v
def qYv(w:World):Key->Int
 |.inl k=>hashInt k
 |.inr x=>hashStr w x
theorem jZ:∀{k:Key} {v:Value},qLi k v=true->(∃i t,k=Sum.inl i/\v=Value.int i t)\/(∃x t,k=Sum.inr x/\v=Value.str x t)
 |.inl i,v,h=>by obtain⟨t,e⟩:=Value.isInt_shape (k:=i) (v:=v) h;exact .inl ⟨i,t,O,e⟩
 |.inr x,v,h=>by obtain⟨t,e⟩:=Value.isStrOf_shape (x:=x) (v:=v) h;exact .inr ⟨x,t,O,e⟩
theorem qOt(i:Int)(t:Tok):qLi (.inl i) (.int i t)=true:=by simp[qLi,Value.isInt]
theorem qPf(x:Str)(t:Tok):qLi (.inr x) (.str x t)=true:=by simp[qLi,Value.isStrOf]
theorem qVl(a b:Int):decide ((Sum.inl a:Key)=Sum.inl b)=(a==b):=by
 by_cases e:a=b
 . subst e;simp
 . have h:¬(Sum.inl a:Key)=Sum.inl b:=fun q=>e (Sum.inl.inj q)
   rw[decide_eq_false h];exact(beq_eq_false_iff_ne.mpr e).symm
theorem qVr(a b:Str):decide ((Sum.inr a:Key)=Sum.inr b)=decide (a=b):=by
 by_cases e:a=b
 . subst e;simp
 . have h:¬(Sum.inr a:Key)=Sum.inr b:=fun q=>e (Sum.inr.inj q)
   rw[decide_eq_false h,decide_eq_false e]
theorem qVw(a:Int)(b:Str):decide ((Sum.inl a:Key)=Sum.inr b)=false:=decide_eq_false (fun q=>nomatch q)
theorem qUo(a:Str)(b:Int):decide ((Sum.inr a:Key)=Sum.inl b)=false:=decide_eq_false (fun q=>nomatch q)
def jP(prog:Program)(w:World):PySem.KeyKind prog w Key where
 is:=qLi
 hash:=qYv w
 inj:=fun v a b ha hb=>by
  rcases jZ ha with ⟨i,t,rfl,rfl⟩|⟨x,t,rfl,rfl⟩
  . rcases jZ hb with ⟨j,u,rfl,e⟩|⟨y,u,rfl,e⟩
    . injection e with e1 _;rw[e1]
    . exact nomatch e
  . rcases jZ hb with ⟨j,u,rfl,e⟩|⟨y,u,rfl,e⟩
    . exact nomatch e
    . injection e with e1 _;rw[e1]
 byValue:=fun k v h=>by rcases jZ h with ⟨i,t,rfl,rfl⟩|⟨x,t,rfl,rfl⟩ <;> rfl
 pyHash:=fun hv h=>by
  rcases jZ hv with ⟨i,t,rfl,rfl⟩|⟨x,t,rfl,rfl⟩
  . exact wpAny_pyHash_int h
  . exact wpAny_pyHash_str h
 eqBool:=fun hu hv h=>by
  rcases jZ hu with ⟨i,t,rfl,rfl⟩|⟨x,t,rfl,rfl⟩
  . rcases jZ hv with ⟨j,u,rfl,rfl⟩|⟨y,u,rfl,rfl⟩
    . rw[qVl]at h;exact wpAny_eqBool_int h
    . rw[qVw]at h;exact SeqAt.EqAt.int_str i t y u _ _ _ _ h
  . rcases jZ hv with ⟨j,u,rfl,rfl⟩|⟨y,u,rfl,rfl⟩
    . rw[qUo]at h;exact SeqAt.EqAt.str_int x t j u _ _ _ _ h
    . rw[qVr]at h;exact wpAny_eqBool_str h
 «strs»:=fun k x t v h=>by
  rcases jZ h with ⟨i,u,rfl,e⟩|⟨y,u,rfl,e⟩
  . exact nomatch e
  . injection e with e1 _
    subst e1;cases v <;> rfl
theorem qJ7(prog:Program)(w:World)(i:Int)(t:Tok):(jP prog w).is (.inl i) (.int i t)=true:=qOt i t
theorem qKz(prog:Program)(w:World)(x:Str)(t:Tok):(jP prog w).is (.inr x) (.str x t)=true:=qPf x t
inductive V where
 |non|bl (b:Bool)|int (i:Int)|str (x:Str)|byt (b:Array UInt8)|flt (b:UInt64)|ref (a:Addr)|ty (n:String)
 deriving DecidableEq
def RelV:V->Value->Prop
 |.non,u=>u=Value.none
 |.bl b,u=>u=Value.bool b
 |.int i,u=> ∃t,u=Value.int i t
 |.str x,u=> ∃t,u=Value.str x t
 |.byt b,u=> ∃t,u=Value.bytes b t
 |.flt b,u=> ∃t,u=Value.float b t
 |.ref a,u=>u=Value.ref a
 |.ty n,u=>u=Value.type n
abbrev Vals:List V->List Value->Prop:=Paired RelV
theorem Vals.length{xs:List V}{us:List Value}(r:Vals xs us):xs.length=us.length:=Paired.length r
theorem Vals.get:∀{xs:List V} {us:List Value} {i:Nat} {x:V},Vals xs us->xs[i]?=some x->∃u,us[i]?=some u/\RelV x u
 |_,_,_,_,.nil,e=>by simp at e
 |_,_,0,_,.cons r _,e=>by simp at e;subst e;exact⟨_,rfl,r⟩
 |_,_,i+1,x,.cons _ t,e=>by obtain⟨u,h1,h2⟩:=Vals.get (i:=i) (x:=x) t (by simpa using e);exact⟨u,by simpa using h1,h2⟩
theorem Vals.set{x:V}{u:Value}(r:RelV x u):∀{xs:List V} {us:List Value} (i:Nat),Vals xs us->Vals (xs.set i x) (us.set i u)
 |_,_,_,.nil=>.nil
 |_,_,0,.cons _ t=>.cons r t
 |_,_,i+1,.cons q t=>.cons q (Vals.set r i t)
theorem Vals.append:∀{xs ys:List V} {us ws:List Value},Vals xs us->Vals ys ws->Vals (xs++ys) (us++ws)
 |_,_,_,_,.nil,s=>s
 |_,_,_,_,.cons r t,s=>.cons r (Vals.append t s)
theorem Vals.take:∀{xs:List V} {us:List Value} (n:Nat),Vals xs us->Vals (xs.take n) (us.take n)
 |_,_,0,_=>.nil
 |_,_,_+1,.nil=>.nil
 |_,_,n+1,.cons r t=>.cons r (Vals.take n t)
theorem Vals.drop:∀{xs:List V} {us:List Value} (n:Nat),Vals xs us->Vals (xs.drop n) (us.drop n)
 |_,_,0,r=>r
 |_,_,_+1,.nil=>.nil
 |_,_,n+1,.cons _ t=>Vals.drop n t
def RelO:Option V->Option Value->Prop
 |some v,some u=>RelV v u
 |none,none=>True
 |_,_=>False
def KV{κ:Type}:List (κ×V)->List (κ×Value)->Prop:=Paired fun(p:κ×V) (q:κ×Value)=>p.1=q.1/\RelV p.2 q.2
def kV:Key->V
 |.inl i=>.int i
 |.inr x=>.str x
inductive HO where
 |lst (xs:List V)
 |tup (xs:List V)
 |dK (kvs:List (Key×V))|dT (kvs:List (List Key×V))
 |set (S:Int->Bool) (n:Nat)
 |ins (C dx:Addr) (fs:List (Str×V))
 |own (x:Addr)
 |xd (fs:List (Str×V))
 |met (f x:Addr)
 |rng (lo hi:Int)
 |frz (o:Obj) (u:HO)
 |tbl (ps:Array Value)
 |ext (φ:Heap->Prop)
abbrev Hp:=Addr->Option HO
def upd(H:Hp)(a:Addr)(o:HO):Hp:=fun b=>if b=a then some o else H b
theorem qD{H:Hp}{a:Addr}{o:HO}:upd H a o a=some o:=by unfold upd;rw[if_pos rfl]
theorem qX{H:Hp}{a b:Addr}{o:HO}(h:b≠a):upd H a o b=H b:=by unfold upd;rw[if_neg h]
theorem qBh{H:Hp}{a:Addr}{o u:HO}:upd (upd H a o) a u=upd H a u:=by funext b;unfold upd;split <;> rfl
theorem qM3{H:Hp}{a b:Addr}{o u:HO}(h:H a=some o)(h':H b=some u)(d:o≠u):a≠b:=by intro e;subst e;rw[h]at h';exact d (Option.some.inj h')
theorem qV{H:Hp}{a b:Addr}{o:HO}(h:H a=some o)(h':H b=none):a≠b:=by intro e;subst e;rw[h]at h';cases h'
section
variable(P:Program)(w:World)
def ObjOk(H:Hp)(h:Heap)(a:Addr):HO->Prop
 |.lst xs=>xs.length<=sizeLine/\∃(its:List Value) (n:Nat),Vals xs its/\h.get? a=some {cls:=.type "list",data:=.seq its.toArray n}
 |.tup xs=>xs.length<=sizeLine/\∃its:List Value,Vals xs its/\IsTup h a its.toArray
 |.dK kvs=>kvs.length<=sizeLine/\(a==sysModules)=false/\∃vs,KV kvs vs/\h.DictOf (jP P w) a vs
 |.dT kvs=>kvs.length<=sizeLine/\(a==sysModules)=false/\∃xs:List (List Key×Addr×Value),
  Paired (fun(p:List Key×V) (q:List Key×Addr×Value)=>p.1=q.1/\H q.2.1=some (.tup (p.1.map kV))/\RelV p.2 q.2.2) kvs xs/\
  ∃o es ep,h.get? a=some o/\o.ExactDict/\o.data=.dict es ep/\es.toList=xs.map (entryOfKey (tupleKind (jP P w)))/\(xs.map (·.1)).Nodup
 |.set S n=>h.SetOf (intKind P w) a S n
 |.ins C dx fs=>H dx=some (.own a)/\fs.length<=1000/\dx≠a/\h.get? a=some (PySem.W.instObj C dx)/\
  ∃mA,h.Ns1 dx mA/\(∀f,RelO (fs.lookup f) (mA f))/\PySem.Within mA (fs.map (·.1))
 |.own _=> ∃o,h.get? a=some o
 |.xd fs=> ∃mA,h.Ns1 a mA/\∀f,RelO (fs.lookup f) (mA f)
 |.rng lo hi=> ∃t u v,h.get? a=some {cls:=.type "range",data:=.fields #[.int lo t,.int hi u,.int 1 v]}
 |.frz o u=>h.get? a=some o/\ObjOk H h a u
 |.tbl ps=>h.get? a=some {cls:=.none,data:=.fields ps}
 |.met f x=>h.get? a=some (PySem.W.methodObj (.ref f) (.ref x))
 |.ext φ=>φ h/\(∃o,h.get? a=some o)/\∀h1 h2:Heap,φ h1->(∀o,h1.get? a=some o->h2.get? a=some o)->φ h2
def HOk(H:Hp)(h:Heap):Prop:= ∀a o,H a=some o->ObjOk P w H h a o
end
section
variable{P:Program}{w:World}{H H':Hp}{h h':Heap}{a:Addr}{o:HO}
theorem ObjOk.lt(x:ObjOk P w H h a o):a<h.objs.size:=by
 cases o with
 |lst xs=>obtain⟨_,_,_,_,e⟩:=x;exact Heap.lt_size e
 |tup xs=>obtain⟨_,_,_,p⟩:=x;exact p.lt
 |dK kvs=>obtain⟨_,_,_,_,o,_,_,e,_⟩:=x;exact Heap.lt_size e
 |dT kvs=>obtain⟨_,_,_,_,o,_,_,e,_⟩:=x;exact Heap.lt_size e
 |set S n=>obtain⟨o,_,_,_,e,_⟩:=x;exact Heap.lt_size e
 |ins C dx fs=>obtain⟨_,_,_,e,_⟩:=x;exact Heap.lt_size e
 |own y=>obtain⟨_,e⟩:=x;exact Heap.lt_size e
 |xd fs=>obtain⟨_,⟨_,_,_,e,_⟩,_⟩:=x;exact Heap.lt_size e
 |rng lo hi=>obtain⟨_,_,_,e⟩:=x;exact Heap.lt_size e
 |frz ob u=>obtain⟨e,_⟩:=x;exact Heap.lt_size e
 |tbl ps=>exact Heap.lt_size (show h.get? a=some _ from x)
 |met f y=>exact Heap.lt_size (show h.get? a=some _ from x)
 |ext φ=>obtain⟨_,⟨_,e⟩,_⟩:=x;exact Heap.lt_size e
theorem Paired.mapP{α β:Type}{F G:α->β->Prop}:∀{l₁:List α} {l₂:List β},Paired F l₁ l₂->(∀a b,F a b->G a b)->Paired G l₁ l₂
 |_,_,.nil,_=>.nil
 |_,_,.cons r t,f=>.cons (f _ _ r) (Paired.mapP t f)
theorem ObjOk.stay(x:ObjOk P w H h a o)(k:∀b u,(b=a\/H b=some (.own a))->h.get? b=some u->h'.get? b=some u)
 (ho:∀b,H b=some (.own a)->H' b=some (.own a)) (ht:∀b xs,H b=some (.tup xs)->H' b=some (.tup xs)):ObjOk P w H' h' a o:=by
 induction o with
 |lst xs=>obtain⟨z,its,n,r,e⟩:=x;exact⟨z,its,n,r,k _ _ (.inl rfl) e⟩
 |tup xs=>obtain⟨z,its,r,ob,e,c⟩:=x;exact⟨z,its,r,ob,k _ _ (.inl rfl) e,c⟩
 |dK kvs=>obtain⟨z,y,vs,r,ob,es,ep,e,c⟩:=x;exact⟨z,y,vs,r,ob,es,ep,k _ _ (.inl rfl) e,c⟩
 |dT kvs=>
  obtain⟨z,y,xs,r,ob,es,ep,e,c⟩:=x;exact⟨z,y,xs,Paired.mapP r fun p q z=>⟨z.1,ht _ _ z.2.1,z.2.2⟩,ob,es,ep,k _ _ (.inl rfl) e,c⟩
 |set S n=>obtain⟨ob,es,ep,t,e,c⟩:=x;exact⟨ob,es,ep,t,k _ _ (.inl rfl) e,c⟩
 |ins C dx fs=>
  obtain⟨d,z,ne,e,mA,⟨od,es,ep,e2,c⟩,r⟩:=x;exact⟨ho _ d,z,ne,k _ _ (.inl rfl) e,mA,⟨od,es,ep,k _ _ (.inr d) e2,c⟩,r⟩
 |own y=>obtain⟨ob,e⟩:=x;exact⟨ob,k _ _ (.inl rfl) e⟩
 |xd fs=>obtain⟨mA,⟨od,es,ep,e,c⟩,r⟩:=x;exact⟨mA,⟨od,es,ep,k _ _ (.inl rfl) e,c⟩,r⟩
 |rng lo hi=>obtain⟨t,u,v,e⟩:=x;exact⟨t,u,v,k _ _ (.inl rfl) e⟩
 |frz ob u ih=>obtain⟨e,q⟩:=x;exact⟨k _ _ (.inl rfl) e,ih q⟩
 |tbl ps=>
  have e:h.get? a=some {cls:=.none,data:=.fields ps}:=x;show h'.get? a=some {cls:=.none,data:=.fields ps};exact k a _ (.inl rfl) e
 |met f y=>
  have e:h.get? a=some (PySem.W.methodObj (.ref f) (.ref y)):=x;show h'.get? a=some (PySem.W.methodObj (.ref f) (.ref y));exact k a _ (.inl rfl) e
 |ext φ=>obtain⟨p,⟨o,e⟩,st⟩:=x;exact⟨st _ _ p fun o q=>k _ _ (.inl rfl) q,⟨o,k _ _ (.inl rfl) e⟩,st⟩
theorem HOk.lt(x:HOk P w H h)(e:H a=some o):a<h.objs.size:=(x a o e).lt
theorem HOk.fresh(x:HOk P w H h)(e:h.objs.size<=a):H a=none:=by
 cases q:H a with
 |none=>rfl
 |some u=>exact absurd (Nat.lt_of_lt_of_le (x.lt q) e) (Nat.lt_irrefl _)
theorem HOk.kept(x:HOk P w H h)(k:∀b u,h.get? b=some u->h'.get? b=some u):HOk P w H h':=fun a o e=>
 (x a o e).stay (fun b u _ q=>k b u q) (fun _ q=>q) fun _ _ q=>q
theorem HOk.laid(x:HOk P w H h)(k:∀b u,h.get? b=some u->h'.get? b=some u)(hp:h.objs.size<=a)(new:ObjOk P w (upd H a o) h' a o):HOk P w (upd H a o) h':=fun b u e=>by
 have hn:=x.fresh hp;by_cases hb:b=a
 . subst hb;rw[qD]at e;cases e;exact new
 . rw[qX hb]at e
   exact(x b u e).stay (fun c v _ q=>k c v q) (fun c q=>by rw[qX (qV q hn)];exact q) fun c xs q=>by rw[qX (qV q hn)];exact q
end
def Rd(H:Hp)(a:Addr)(u:HO):Prop:=H a=some u\/∃o,H a=some (.frz o u)
theorem Rd.ok{P:Program}{w:World}{H:Hp}{h:Heap}{a:Addr}{u:HO}(r:Rd H a u)(x:HOk P w H h):ObjOk P w H h a u:=by
 rcases r with r|⟨o,r⟩
 . exact x a u r
 . obtain⟨_,q⟩:=x a _ r
   exact q
def Mut:Option HO->Prop
 |some (.lst _)=>True
 |some (.dK _)=>True
 |some (.dT _)=>True
 |some (.set _ _)=>True
 |some (.ins _ _ _)=>True
 |some (.ext _)=>True
 |_=>False
section
variable{P:Program}{w:World}{H:Hp}{h h':Heap}{x e:Addr}{o':HO}
theorem HOk.write(ok:HOk P w H h)(mu:Mut (H x))(he:e=x\/H e=some (.own x))(k:∀b u,b≠e->h.get? b=some u->h'.get? b=some u)(heo:∃u,h'.get? e=some u)
 (new:ObjOk P w (upd H x o') h' x o'):HOk P w (upd H x o') h':=fun b u q=>by
 have nown:∀c y,H c=some (.own y)->c≠x:=fun c y r z=>by subst z;rw[r]at mu;exact mu
 have ntup:∀c xs,H c=some (.tup xs)->c≠x:=fun c xs r z=>by subst z;rw[r]at mu;exact mu
 by_cases hb:b=x
 . subst hb;rw[qD]at q;cases q;exact new
 . rw[qX hb]at q
   by_cases hbe:b=e
   . have q':H b=some (.own x):=by
      rcases he with z|z
      . exact absurd (hbe.trans z) hb
      . rw[hbe];exact z
     rw[q]at q';cases q';obtain⟨v,hv⟩:=heo;exact⟨v,by rw[hbe];exact hv⟩
   . refine(ok b u q).stay (fun c v hc r=>k c v ?_ r) (fun c r=>by rw[qX (nown c b r)];exact r) fun c xs r=>by rw[qX (ntup c xs r)];exact r
     rcases hc with rfl|hc
     . exact hbe
     . rintro rfl
       rcases he with z|z
       . exact nown c b hc z
       . rw[hc]at z;cases z;exact hb rfl
end
structure Un(fs ex:List Addr)(H H':Hp)(h h':Heap):Prop where
 keep:∀b o,h.get? b=some o->H b=none->b∉fs->b∉ex->h'.get? b=some o
 slot:∀b o,h.get? b=some o->H b=none->b∈fs->b∉ex->∃sl,h'.get? b=some {o with slots:=sl}
 free:∀b o,h.get? b=some o->H b=none->b∉ex->H' b=none
 there:∀b o,h.get? b=some o->b∉ex->∃o',h'.get? b=some o'
 tups:∀b xs,H b=some (.tup xs)->H' b=some (.tup xs)
 frzs:∀b o u,H b=some (.frz o u)->H' b=some (.frz o u)
 tbls:∀b ps,H b=some (.tbl ps)->∃more,H' b=some (.tbl (ps++more))
section
variable{fs fs' ex ex':List Addr}{H H1 H2:Hp}{h h1 h2 h':Heap}{a x e:Addr}{o:HO}
theorem Un.any(u:Un fs ex H H1 h h1){b:Addr}{ob:Obj}(q:h.get? b=some ob)(n:H b=none)(hx:b∉ex):∃sl,h1.get? b=some {ob with slots:=sl}:=by
 by_cases hb:b∈fs
 . exact u.slot b ob q n hb hx
 . exact⟨ob.slots,u.keep b ob q n hb hx⟩
theorem Un.trans(a:Un fs ex H H1 h h1)(b:Un fs ex H1 H2 h1 h2):Un fs ex H H2 h h2 where
 keep:=fun c ob q n hc hx=>b.keep c ob (a.keep c ob q n hc hx) (a.free c ob q n hx) hc hx
 slot:=fun c ob q n hc hx=>by obtain⟨sl,e1⟩:=a.slot c ob q n hc hx;obtain⟨sl',e2⟩:=b.slot c _ e1 (a.free c ob q n hx) hc hx;exact⟨sl',e2⟩
 free:=fun c ob q n hx=>by obtain⟨o',e1⟩:=a.there c ob q hx;exact b.free c o' e1 (a.free c ob q n hx) hx
 there:=fun c ob q hx=>by obtain⟨o',e1⟩:=a.there c ob q hx;exact b.there c o' e1 hx
 tups:=fun c xs q=>b.tups c xs (a.tups c xs q)
 frzs:=fun c ob xs q=>b.frzs c ob xs (a.frzs c ob xs q)
 tbls:=fun c ps q=>by obtain⟨m1,e1⟩:=a.tbls c ps q;obtain⟨m2,e2⟩:=b.tbls c _ e1;exact⟨m1++m2,by rw[e2,Array.append_assoc]⟩
theorem Un.kept(k:∀b u,h.get? b=some u->h'.get? b=some u):Un fs ex H H h h':=
 ⟨fun b ob q _ _ _=>k b ob q,fun b ob q _ _ _=>⟨ob.slots,k b ob q⟩,fun _ _ _ n _=>n,fun b ob q _=>⟨ob,k b ob q⟩,fun _ _ q=>q,fun _ _ _ q=>q,fun _ ps q=>⟨#[],by rw[q];simp⟩⟩
theorem Un.refl:Un fs ex H H h h:=Un.kept fun _ _ q=>q
theorem Un.laid(k:∀b u,h.get? b=some u->h'.get? b=some u)(hp:h.objs.size<=a)(hn:H a=none):Un fs ex H (upd H a o) h h' where
 keep:=fun b u q _ _ _=>k b u q
 slot:=fun b u q _ _ _=>⟨u.slots,k b u q⟩
 free:=fun b u q n _=>by rw[qX (Nat.ne_of_lt (Nat.lt_of_lt_of_le (Heap.lt_size q) hp))];exact n
 there:=fun b u q _=>⟨u,k b u q⟩
 tups:=fun b xs q=>by rw[qX (qV q hn)];exact q
 frzs:=fun b u xs q=>by rw[qX (qV q hn)];exact q
 tbls:=fun b ps q=>⟨#[],by rw[qX (qV q hn),q];simp⟩
theorem Un.write(mu:Mut (H x))(he:e=x\/H e=some (.own x))(k:∀b u,b≠e->h.get? b=some u->h'.get? b=some u)(heo:∃u,h'.get? e=some u):Un fs ex H (upd H x o) h h':=by
 have hx:∀b,H b=none->b≠x:=fun b n z=>by subst z;rw[n]at mu;exact mu
 have hb:∀b,H b=none->b≠e:=fun b n z=>by
  subst z;rcases he with r|r
  . exact hx b n r
  . rw[n]at r;cases r
 have hm:∀b u,H b=some u->¬Mut (some u)->b≠x:=fun b u q nm z=>by subst z;rw[q]at mu;exact nm mu
 refine⟨fun b u q n _ _=>k b u (hb b n) q,fun b u q n _ _=>⟨u.slots,k b u (hb b n) q⟩,fun b u q n _=>by rw[qX (hx b n)];exact n,fun b u q _=>?_,
  fun b xs q=>by rw[qX (hm b _ q fun z=>z)];exact q,fun b u xs q=>by rw[qX (hm b _ q fun z=>z)];exact q,fun b ps q=>⟨#[],by rw[qX (hm b _ q fun z=>z),q];simp⟩⟩
 by_cases hbe:b=e
 . subst hbe;exact heo
 . exact⟨u,k b u hbe q⟩
end
def trk(h:Heap)(H:Hp):List Addr:=(List.range h.objs.size).filter fun a=>(H a).isSome
def qRa(h:Heap)(H:Hp):Heap:=PySem.W.hideAll h (trk h H)
theorem qPz(h:Heap)(H:Hp):(qRa h H).objs.size=h.objs.size:=PySem.W.hideAll_size _ _
theorem qRn{h:Heap}{H:Hp}{b:Addr}{o:Obj}(e:h.get? b=some o)(n:H b=none):(qRa h H).get? b=some o:=
 PySem.W.hideAll_get _ e fun hm=>by have q:(H b).isSome=true:=(List.mem_filter.mp hm).2;rw[n]at q;simp at q
theorem qUd{h:Heap}{H:Hp}{b:Addr}{o:Obj}(e:(qRa h H).get? b=some o):h.get? b=some o/\H b=none:=by
 have e':h.get? b=some o:=PySem.W.of_hideAll (trk h H) e;refine⟨e',?_⟩;cases q:H b with
 |none=>rfl
 |some x=>
  have hm:b∈trk h H:=List.mem_filter.mpr ⟨List.mem_range.mpr (Heap.lt_size e'),by simp[q]⟩;have z:(qRa h H).get? b=none:=PySem.W.hideAll_none (trk h H) hm;rw[z]at e;cases e
def qTz(g h:Heap)(L:Addr):List (Addr×Obj):=(List.range h.objs.size).filterMap fun a=>if a=L\/(g.get? a).isSome=true then none else (h.get? a).map fun o=>(a,o)
def rest(g h:Heap)(L d:Addr):List (Addr×Obj):=(qTz g h L).filter fun p=>decide (p.1≠d)
structure Mod(K:PySem.W.Frag)(mg:Str->Option Value)(base:Heap):Prop where
 kin:K.In base
 glob:base.Ns mainGlobals mg
 blt:∃mb,base.Ns builtinsNs mb/\∀x:Str,x≠"__name__"->mb x=bootBuiltins x
 nolimit:base.NoLimit
structure Cx where
 prog:Program
 w:World
 K:PySem.W.Frag
 mg:Str->Option Value
 base:Heap
 A:Around
 N:List Str
 s₀:Shared
 H₀:Hp
 env:Env
 outer:List Env
 stack:List Env
 ex:List Addr
 fn:Str->Bool
 calm:Bool
 pn:List (Addr×Obj)
 xe:Value->Shared->Prop
def frs(l:List Env):List Addr:=l.filterMap (·.frame)
abbrev Cx.fs(X:Cx):List Addr:=frs X.outer
def Vis(sc:Scope)(x:Str):Prop:=sc.names.lookup x=some .local\/sc.names.lookup x=some .cell\/sc.names.lookup x=some .free
def Loc(sc:Scope)(x:Str):Prop:=sc.names.lookup x=some .local\/sc.names.lookup x=some .cell
def qYr(env:Env)(h:Heap)(m:Str->Option Value)(x:Str)(u:Value):Prop:=
 (env.kindOf x=some .local/\m x=some u)\/((env.kindOf x=some .cell\/env.kindOf x=some .free)/\∃c,env.cells.lookup x=some c/\h.IsCell c (some u))
structure Cx.Ok(X:Cx):Prop where
 mod:Mod X.K X.mg X.base
 kind:X.env.scope.kind=.function
 glob:X.env.globals=mainGlobals
 blt:X.env.builtins=builtinsNs
 above:X.s₀.heap.objs.size<=X.env.locals
 inj:∀x y c,X.env.cells.lookup x=some c->X.env.cells.lookup y=some c->x=y
 has:∀x,(X.env.kindOf x=some .cell\/X.env.kindOf x=some .free)->∃c,X.env.cells.lookup x=some c
 cab:∀x c,X.fn x=true->X.env.cells.lookup x=some c->X.s₀.heap.objs.size<=c
 hd:X.calm=true->X.A.handled=none
 frames:X.A.frames=some X.stack
 stk:X.stack=X.outer\/(X.stack=X.env::X.outer/\X.env.frame=some X.env.locals)
 exf:∀b∈X.ex,b≠X.env.locals/\∀x c,X.env.cells.lookup x=some c->c≠b
 bs:∀b o,X.base.get? b=some o->X.s₀.heap.get? b=some o/\X.H₀ b=none
 bsz:X.base.objs.size<=X.s₀.heap.objs.size
 noex:∀b o,X.base.get? b=some o->b∉X.ex
 exfs:∀b∈X.ex,b∉X.fs
 funs:X.s₀.heap.FunFrames X.base X.outer
 frf:∀b∈X.fs,X.H₀ b=none
structure Inv(X:Cx)(pins:List (Addr×Obj))(σ:List (Option V))(H:Hp)(s:Shared):Prop where
 ok:X.Ok
 os:s.os=X.s₀.os
 bare:AllBare s.gens
 base:Un X.fs X.ex X.H₀ H X.s₀.heap s.heap
 loc:∃m,s.heap.Ns X.env.locals m/\∀(i:Nat) (x:Str) (v:V),X.N[i]?=some x->σ[i]?=some (some v)->Vis X.env.scope x->∃u,RelV v u/\qYr X.env s.heap m x u
 cell:∀x c,X.env.cells.lookup x=some c->∃v,s.heap.IsCell c v
 free:H X.env.locals=none
 freeC:∀x c,X.env.cells.lookup x=some c->H c=none
 pin:∀p∈X.pn++pins,s.heap.get? p.1=some p.2/\H p.1=none/\p.1≠X.env.locals/\p.1∉X.fs/\∀v,p.2.data≠ .cell v
 hok:HOk X.prog X.w H s.heap
 len:σ.length=X.N.length
section
variable{X:Cx}{pins:List (Addr×Obj)}{σ:List (Option V)}{H H':Hp}{s:Shared}{h':Heap}
theorem Cx.Ok.nofr(ok:X.Ok){b:Addr}{o:Obj}(e:X.base.get? b=some o):b∉X.fs:=fun hb=>by have:=(ok.funs.mem hb).1;rw[e]at this;cases this
theorem Inv.bs(I:Inv X pins σ H s):∀b o,X.base.get? b=some o->s.heap.get? b=some o/\H b=none:=fun b o e=>
 ⟨I.base.keep b o (I.ok.bs b o e).1 (I.ok.bs b o e).2 (I.ok.nofr e) (I.ok.noex b o e),I.base.free b o (I.ok.bs b o e).1 (I.ok.bs b o e).2 (I.ok.noex b o e)⟩
theorem Inv.bk(I:Inv X pins σ H s):∀b o,X.base.get? b=some o->s.heap.get? b=some o:=fun b o e=>(I.bs b o e).1
theorem Inv.mod(I:Inv X pins σ H s):Mod X.K X.mg X.base:=I.ok.mod
theorem Inv.kIn(I:Inv X pins σ H s):X.K.In s.heap:=I.ok.mod.kin.keeps I.bk
theorem Inv.nolimit(I:Inv X pins σ H s):s.heap.NoLimit:=I.ok.mod.nolimit.keeps I.bk
theorem Inv.fr(I:Inv X pins σ H s):∃m,Fr X.base X.env.locals s.heap m:=
 let ⟨m,hn,_⟩:=I.loc
 ⟨m,hn,I.bk,Nat.le_trans I.ok.bsz I.ok.above⟩
theorem Inv.lt(I:Inv X pins σ H s):X.env.locals<s.heap.objs.size:=let ⟨_,hn,_⟩:=I.loc;hn.lt
theorem Inv.sz(I:Inv X pins σ H s):X.s₀.heap.objs.size<=s.heap.objs.size:=Nat.le_trans I.ok.above (Nat.le_of_lt I.lt)
theorem Inv.nofs(I:Inv X pins σ H s){a:Addr}(h:s.heap.objs.size<=a):a∉X.fs:=fun hb=>by obtain⟨_,o,ho,_⟩:=I.ok.funs.mem hb;exact absurd (Nat.lt_of_lt_of_le (Heap.lt_size ho) (Nat.le_trans I.sz h)) (Nat.lt_irrefl _)
theorem Inv.cne(I:Inv X pins σ H s):∀x c,X.env.cells.lookup x=some c->c≠X.env.locals:=fun x c e z=>by obtain⟨v,o,ho,hd⟩:=I.cell x c e;obtain⟨m,⟨o',es,ep,ho',hd',_⟩,_⟩:=I.loc;rw[z,ho']at ho;cases ho;rw[hd']at hd;cases hd
theorem Inv.funs(I:Inv X pins σ H s):s.heap.FunFrames X.base X.outer:=by
 have all:∀(l:List Env),(∀b∈frs l,b∈X.fs)->X.s₀.heap.FunFrames X.base l->s.heap.FunFrames X.base l:=by
  intro l
  induction l with
  |nil=>intro _ _;trivial
  |cons env r ih=>
   intro hs hl;obtain⟨hk,⟨L,o,hf,hn,ho,hd⟩,hr⟩:=hl;have hL:L∈X.fs:=hs L (by unfold frs;rw[List.filterMap_cons,hf];exact List.mem_cons_self);obtain⟨sl,e⟩:=I.base.slot L o ho (I.ok.frf L hL) hL fun z=>I.ok.exfs L z hL;exact⟨hk,⟨L,_,hf,hn,e,hd⟩,ih (fun b hb=>hs b (by unfold frs;rw[List.filterMap_cons,hf];exact List.mem_cons_of_mem _ hb)) hr⟩
 exact all X.outer (fun _ hb=>hb) I.ok.funs
theorem Inv.stack(I:Inv X pins σ H s):s.heap.FunFrames X.base X.stack:=by
 rcases I.ok.stk with e|⟨e,hf⟩
 . rw[e];exact I.funs
 . rw[e]
   obtain⟨m,hn,_⟩:=I.loc;refine .cons (by rw[I.ok.kind];decide) hf hn ?_ I.funs;exact Heap.get?_none_of_le (Nat.le_trans I.ok.bsz I.ok.above)
theorem Inv.stkSub(I:Inv X pins σ H s):∀b∈frs X.stack,b∈X.env.locals::X.fs:=fun b hb=>by
 rcases I.ok.stk with e|⟨e,hf⟩
 . rw[e]at hb;exact List.mem_cons_of_mem _ hb
 . rw[e]at hb
   unfold frs at hb;rw[List.filterMap_cons,hf]at hb;exact hb
theorem Inv.stkFree(I:Inv X pins σ H s):∀b∈frs X.stack,H b=none:=fun b hb=>by
 rcases List.mem_cons.mp (I.stkSub b hb)with e|hb
 . rw[e];exact I.free
 . obtain⟨_,o,ho,_⟩:=I.ok.funs.mem hb
   exact I.base.free b o ho (I.ok.frf b hb) fun z=>I.ok.exfs b z hb
theorem Inv.step{g':Array GenState}{t':Nat}{d':Drawn}{ch:List Addr}(I:Inv X pins σ H s)
 (hch:∀b∈ch,(b∈X.ex\/X.s₀.heap.objs.size<=b)/\b≠X.env.locals/\(∀x c,X.env.cells.lookup x=some c->c≠b)/\∀p∈X.pn++pins,p.1≠b)
 (keep:∀b o,b≠X.env.locals->b∉X.fs->b∉ch->s.heap.get? b=some o->H b=none->h'.get? b=some o)
 (slot:∀b o,b≠X.env.locals->b∈X.fs->b∉ch->s.heap.get? b=some o->H b=none->∃sl,h'.get? b=some {o with slots:=sl}) (free:∀b o,b∉ch->s.heap.get? b=some o->H b=none->H' b=none)
 (there:∀b o,b∉ch->s.heap.get? b=some o->∃o',h'.get? b=some o')
 (tups:∀b xs,H b=some (.tup xs)->H' b=some (.tup xs)) (frzs:∀b o u,H b=some (.frz o u)->H' b=some (.frz o u)) (tbls:∀b ps,H b=some (.tbl ps)->∃more,H' b=some (.tbl (ps++more)))
 (ns:∀m,s.heap.Ns X.env.locals m->h'.Ns X.env.locals m) (hok:HOk X.prog X.w H' h') (hg:AllBare g'):
 Inv X pins σ H' {s with heap:=h',gens:=g',drawn:=d',toks:=t'}:=by
 have neL:∀b o,X.s₀.heap.get? b=some o->b≠X.env.locals:=fun b o e=>Nat.ne_of_lt (Nat.lt_of_lt_of_le (Heap.lt_size e) I.ok.above);have neC:∀b o,X.s₀.heap.get? b=some o->b∉X.ex->b∉ch:=fun b o e hx hb=>by
  rcases (hch b hb).1 with z|z
  . exact hx z
  . exact absurd (Nat.lt_of_lt_of_le (Heap.lt_size e) z) (Nat.lt_irrefl _)
 have cellK:∀x c,X.env.cells.lookup x=some c->∀v,s.heap.IsCell c v->h'.IsCell c v:=fun x c e v ⟨o,ho,hd⟩=>by
  have nch:c∉ch:=fun z=>(hch c z).2.2.1 x c e rfl;by_cases hc:c∈X.fs
  . obtain⟨sl,q⟩:=slot c o (I.cne x c e) hc nch ho (I.freeC x c e)
    exact⟨_,q,hd⟩
  . exact⟨o,keep c o (I.cne x c e) hc nch ho (I.freeC x c e),hd⟩
 refine⟨I.ok,I.os,hg,⟨fun b o e n hb hx=>?_,fun b o e n hb hx=>?_,fun b o e n hx=>?_,fun b o e hx=>?_,fun b xs e=>tups b xs (I.base.tups b xs e),fun b o xs e=>frzs b o xs (I.base.frzs b o xs e),fun b ps e=>?_⟩,?_,fun x c e=>?_,?_,fun x c e=>?_,fun p hp=>?_,hok,I.len⟩
 . exact keep b o (neL b o e) hb (neC b o e hx) (I.base.keep b o e n hb hx) (I.base.free b o e n hx)
 . obtain⟨sl,e1⟩:=I.base.slot b o e n hb hx
   obtain⟨sl',e2⟩:=slot b _ (neL b o e) hb (neC b o e hx) e1 (I.base.free b o e n hx);exact⟨sl',e2⟩
 . obtain⟨o',e1⟩:=I.base.there b o e hx
   exact free b o' (neC b o e hx) e1 (I.base.free b o e n hx)
 . obtain⟨o',e1⟩:=I.base.there b o e hx
   exact there b o' (neC b o e hx) e1
 . obtain⟨m1,e1⟩:=I.base.tbls b ps e
   obtain⟨m2,e2⟩:=tbls b _ e1;exact⟨m1++m2,by rw[e2,Array.append_assoc]⟩
 . obtain⟨m,hn,hl⟩:=I.loc
   refine⟨m,ns m hn,fun i x v e1 e2 e3=>?_⟩;obtain⟨u,r,l⟩:=hl i x v e1 e2 e3;refine⟨u,r,?_⟩;rcases l with l|⟨k,c,e,z⟩
   . exact .inl l
   . exact .inr ⟨k,c,e,cellK x c e _ z⟩
 . obtain⟨v,z⟩:=I.cell x c e
   exact⟨v,cellK x c e v z⟩
 . obtain⟨m,⟨o,_,_,ho,_⟩,_⟩:=I.loc
   exact free _ o (fun z=>(hch _ z).2.1 rfl) ho I.free
 . obtain⟨v,o,ho,hd⟩:=I.cell x c e
   exact free c o (fun z=>(hch c z).2.2.1 x c e rfl) ho (I.freeC x c e)
 . obtain⟨e,n,ne,nf,d⟩:=I.pin p hp
   have nch:p.1∉ch:=fun z=>(hch p.1 z).2.2.2 p hp rfl;exact⟨keep p.1 p.2 ne nf nch e n,free p.1 p.2 nch e n,ne,nf,d⟩
theorem Inv.un{t':Nat}(I:Inv X pins σ H s)(u:Un X.fs [] H H' s.heap h')(hok:HOk X.prog X.w H' h'):Inv X pins σ H' {s with heap:=h',toks:=t'}:=by
 obtain⟨m,⟨o,es,ep,ho,r⟩,_⟩:=id I.loc;obtain⟨sl,hL⟩:=u.any ho I.free (by simp);exact I.step (g':=s.gens) (d':=s.drawn) (ch:=[]) (fun _ z=>nomatch z) (fun b o _ hb _ e n=>u.keep b o e n hb (by simp)) (fun b o _ hb _ e n=>u.slot b o e n hb (by simp)) (fun b o _ e n=>u.free b o e n (by simp)) (fun b o _ e=>u.there b o e (by simp)) u.tups u.frzs u.tbls (fun m' hm=>by obtain⟨o',es',ep',ho',r'⟩:=hm;rw[ho]at ho';cases ho';exact⟨_,es',ep',hL,r'⟩) hok I.bare
theorem Inv.call{g':Array GenState}{t':Nat}{d':Drawn}{ch:List Addr}(I:Inv X pins σ H s)(u:Un (frs X.stack) ch H H' s.heap h')(hok:HOk X.prog X.w H' h')(hg:AllBare g')
 (hch:∀b∈ch,(b∈X.ex\/X.s₀.heap.objs.size<=b)/\b≠X.env.locals/\(∀x c,X.env.cells.lookup x=some c->c≠b)/\∀p∈X.pn++pins,p.1≠b):
 Inv X pins σ H' {s with heap:=h',gens:=g',drawn:=d',toks:=t'}:=by
 obtain⟨m,⟨o,es,ep,ho,r⟩,_⟩:=id I.loc;obtain⟨sl,hL⟩:=u.any ho I.free fun z=>(hch _ z).2.1 rfl;exact I.step (ch:=ch) hch (fun b o hL hb hc e n=>u.keep b o e n (fun z=>(List.mem_cons.mp (I.stkSub b z)).elim hL hb) hc) (fun b o _ _ hc e n=>u.any e n hc) (fun b o hc e n=>u.free b o e n hc) (fun b o hc e=>u.there b o e hc) u.tups u.frzs u.tbls (fun m' hm=>by obtain⟨o',es',ep',ho',r'⟩:=hm;rw[ho]at ho';cases ho';exact⟨_,es',ep',hL,r'⟩) hok hg
theorem Inv.turned{t':Nat}{it:Addr}(I:Inv X pins σ H s)(k:∀b o,b≠it->s.heap.get? b=some o->h'.get? b=some o)(hn:H it=none)(hL:it≠X.env.locals)
 (h1:it∈X.ex\/X.s₀.heap.objs.size<=it) (h2:∀x c,X.env.cells.lookup x=some c->c≠it) (h3:∀p∈X.pn++pins,p.1≠it):Inv X pins σ H {s with heap:=h',toks:=t'}:=by
 have nit:∀b u,H b=some u->b≠it:=fun b u e z=>by rw[z,hn]at e;cases e
 refine I.step (g':=s.gens) (d':=s.drawn) (ch:=[it]) (fun b hb=>?_) (fun b o _ _ hc e _=>k b o (fun z=>hc (by simp[z])) e) (fun b o _ _ hc e _=>⟨o.slots,k b o (fun z=>hc (by simp[z])) e⟩) (fun _ _ _ _ n=>n)
  (fun b o hc e=>⟨o,k b o (fun z=>hc (by simp[z])) e⟩) (fun _ _ e=>e) (fun _ _ _ e=>e) (fun b ps e=>⟨#[],by rw[e];simp⟩) (fun m hm=>?_) (fun b u e=>?_) I.bare
 . have e:b=it:=by simpa using hb
   subst e;exact⟨h1,hL,h2,h3⟩
 . obtain⟨o,es,ep,ho,r⟩:=hm
   exact⟨o,es,ep,k _ o (Ne.symm hL) ho,r⟩
 . refine(I.hok b u e).stay (fun c v hc q=>k c v ?_ q) (fun _ q=>q) fun _ _ q=>q
   rcases hc with z|z
   . rw[z];exact nit b u e
   . exact nit c _ z
theorem Inv.tok(I:Inv X pins σ H s)(t:Nat):Inv X pins σ H {s with toks:=t}:=I.un (h':=s.heap) (t':=t) Un.refl I.hok
theorem Inv.kept{t':Nat}(I:Inv X pins σ H s)(k:∀b u,s.heap.get? b=some u->h'.get? b=some u):Inv X pins σ H {s with heap:=h',toks:=t'}:=I.un (Un.kept k) (I.hok.kept k)
theorem Inv.laid{a:Addr}{o:HO}{t':Nat}(I:Inv X pins σ H s)(k:∀b u,s.heap.get? b=some u->h'.get? b=some u)(hp:s.heap.objs.size<=a)(new:ObjOk X.prog X.w (upd H a o) h' a o):
 Inv X pins σ (upd H a o) {s with heap:=h',toks:=t'}:=I.un (Un.laid k hp (I.hok.fresh hp)) (I.hok.laid k hp new)
theorem Inv.write{x e:Addr}{o:HO}{t':Nat}(I:Inv X pins σ H s)(mu:Mut (H x))(he:e=x\/H e=some (.own x))(k:∀b u,b≠e->s.heap.get? b=some u->h'.get? b=some u)(heo:∃u,h'.get? e=some u)
 (new:ObjOk X.prog X.w (upd H x o) h' x o):Inv X pins σ (upd H x o) {s with heap:=h',toks:=t'}:=I.un (Un.write mu he k heo) (I.hok.write mu he k heo new)
theorem Inv.weak{σ':List (Option V)}(I:Inv X pins σ H s)(hl:σ'.length=σ.length)(w:∀(i:Nat) v,σ'[i]?=some (some v)->σ[i]?=some (some v)):Inv X pins σ' H s:=
 ⟨I.ok,I.os,I.bare,I.base,let ⟨m,hn,hl'⟩:=I.loc;⟨m,hn,fun i x v e1 e2 e3=>hl' i x v e1 (w i v e2) e3⟩,I.cell,I.free,I.freeC,I.pin,I.hok,hl.trans I.len⟩
theorem Inv.pins_of{pins':List (Addr×Obj)}(I:Inv X pins σ H s)(h:∀p∈pins',s.heap.get? p.1=some p.2/\H p.1=none/\p.1≠X.env.locals/\p.1∉X.fs/\∀v,p.2.data≠ .cell v):Inv X pins' σ H s:=
 ⟨I.ok,I.os,I.bare,I.base,I.loc,I.cell,I.free,I.freeC,fun p hp=>(List.mem_append.mp hp).elim (fun z=>I.pin p (List.mem_append_left _ z)) (h p),I.hok,I.len⟩
theorem qG5{N:List Str}(hN:N.Nodup){i j:Nat}{x:Str}(a:N[i]?=some x)(b:N[j]?=some x):i=j:=by obtain⟨h1,e1⟩:=List.getElem?_eq_some_iff.mp a;obtain⟨h2,e2⟩:=List.getElem?_eq_some_iff.mp b;exact(List.getElem_inj hN).mp (e1.trans e2.symm)
theorem qI9{M:Model}{A:Around}{E:Value->Shared->Prop}{i:Nat}{x:Str}{v:V}{u:Value}{Q:Unit->Shared->Prop}(I:Inv X pins σ H s)(hN:X.N.Nodup)(hi:X.N[i]?=some x)(hx:Loc X.env.scope x)(r:RelV v u)
 (h:∀s',Inv X pins (σ.set i (some v)) H s'->(∃a,Heap.SameBut a s.heap s'.heap/\(a=X.env.locals\/X.env.cells.lookup x=some a))->Q () s') (hf:X.fn x=true\/X.env.scope.names.lookup x=some .local:=by first|exact .inl rfl|exact .inr rfl|assumption):wpAny M A (storeName X.env x u) Q E s:=by
 obtain⟨m,hn,hl⟩:=id I.loc;have hcls:(X.env.scope.kind== .class || (X.env.scope.kind== .module && X.env.locals != X.env.globals))=false:=by rw[I.ok.kind];rfl
 have hiσ:i<σ.length:=by rw[I.len];exact(List.getElem?_eq_some_iff.mp hi).1
 have cne:=I.cne;have tracked:∀{a:Addr} {h':Heap},(∃o,s.heap.get? a=some o/\H a=none)->Heap.SameBut a s.heap h'->HOk X.prog X.w H h':=fun{a h'} ha hs b ob e=>by
  obtain⟨_,_,hfree⟩:=ha;refine(I.hok b ob e).stay (fun c w' hc q=>(hs.2 c ?_).trans q) (fun _ q=>q) fun _ _ q=>q;rintro rfl;rcases hc with rfl|hc
  . rw[hfree]at e;cases e
  . rw[hfree]at hc;cases hc
 rcases hx with hk|hk
 . refine wpAny_storeName_local hk hn (fun h' hn' hs=>?_) hcls
   obtain⟨oL,_,_,hoL,_⟩:=id hn;refine h _ ⟨I.ok,I.os,I.bare,⟨fun b o e n hb hx=>?_,fun b o e n hb hx=>?_,I.base.free,fun b o e hx=>?_,I.base.tups,I.base.frzs,I.base.tbls⟩,⟨_,hn',fun j y v' e1 e2 e3=>?_⟩,fun y c e=>?_,I.free,I.freeC,fun p hp=>?_,tracked ⟨oL,hoL,I.free⟩ hs,by simpa using I.len⟩ ⟨_,hs,.inl rfl⟩
   . exact(hs.2 b (Nat.ne_of_lt (Nat.lt_of_lt_of_le (Heap.lt_size e) I.ok.above))).trans (I.base.keep b o e n hb hx)
   . obtain⟨sl,e1⟩:=I.base.slot b o e n hb hx
     exact⟨sl,(hs.2 b (Nat.ne_of_lt (Nat.lt_of_lt_of_le (Heap.lt_size e) I.ok.above))).trans e1⟩
   . obtain⟨o',e1⟩:=I.base.there b o e hx
     exact⟨o',(hs.2 b (Nat.ne_of_lt (Nat.lt_of_lt_of_le (Heap.lt_size e) I.ok.above))).trans e1⟩
   . by_cases hj:j=i
     . subst hj
       rw[hi]at e1;cases e1;rw[List.getElem?_set_self hiσ]at e2;cases e2;exact⟨u,r,.inl ⟨hk,by simp⟩⟩
     . rw[List.getElem?_set_ne (Ne.symm hj)]at e2
       obtain⟨u',r',q⟩:=hl j y v' e1 e2 e3;refine⟨u',r',?_⟩;rcases q with ⟨k,e⟩|⟨k,c,e,z⟩
       . refine .inl ⟨k,?_⟩
         have:y≠x:=fun e=>hj (qG5 hN e1 (e ▸ hi));simp[this,e]
       . exact .inr ⟨k,c,e,z.sameBut hs (cne y c e)⟩
   . obtain⟨w',z⟩:=I.cell y c e
     exact⟨w',z.sameBut hs (cne y c e)⟩
   . obtain⟨e,n,ne,nf,d⟩:=I.pin p hp
     exact⟨(hs.2 p.1 ne).trans e,n,ne,nf,d⟩
 . have hfn:X.fn x=true:=by
    rcases hf with z|z
    . exact z
    . rw[z]at hk;cases hk
   obtain⟨c,hc⟩:=I.ok.has x (.inl hk);obtain⟨w',z⟩:=I.cell x c hc;refine wpAny_storeName_cell I.ok.kind hk hc z (fun h' hc' hs=>?_);obtain⟨oc,hoc,hocd⟩:=id z;refine h {s with heap:=h'} ⟨I.ok,I.os,I.bare,⟨fun b o e n hb hx=>?_,fun b o e n hb hx=>?_,I.base.free,fun b o e hx=>?_,I.base.tups,I.base.frzs,I.base.tbls⟩,⟨m,hn.sameBut hs (Ne.symm (cne x c hc)),fun j y v' e1 e2 e3=>?_⟩,fun y c' e=>?_,I.free,I.freeC,fun p hp=>?_,tracked ⟨oc,hoc,I.freeC x c hc⟩ hs,by simpa using I.len⟩ ⟨c,hs,.inr hc⟩
   . exact(hs.2 b (Nat.ne_of_lt (Nat.lt_of_lt_of_le (Heap.lt_size e) (I.ok.cab x c hfn hc)))).trans (I.base.keep b o e n hb hx)
   . obtain⟨sl,e1⟩:=I.base.slot b o e n hb hx
     exact⟨sl,(hs.2 b (Nat.ne_of_lt (Nat.lt_of_lt_of_le (Heap.lt_size e) (I.ok.cab x c hfn hc)))).trans e1⟩
   . obtain⟨o',e1⟩:=I.base.there b o e hx
     exact⟨o',(hs.2 b (Nat.ne_of_lt (Nat.lt_of_lt_of_le (Heap.lt_size e) (I.ok.cab x c hfn hc)))).trans e1⟩
   . by_cases hj:j=i
     . subst hj
       rw[hi]at e1;cases e1;rw[List.getElem?_set_self hiσ]at e2;cases e2;exact⟨u,r,.inr ⟨.inl hk,c,hc,hc'⟩⟩
     . rw[List.getElem?_set_ne (Ne.symm hj)]at e2
       obtain⟨u',r',q⟩:=hl j y v' e1 e2 e3;refine⟨u',r',?_⟩;rcases q with q|⟨k,c',e,z'⟩
       . exact .inl q
       . refine .inr ⟨k,c',e,z'.sameBut hs ?_⟩
         rintro rfl;exact hj (qG5 hN e1 (I.ok.inj _ _ _ e hc ▸ hi))
   . by_cases hcc:c'=c
     . subst hcc;exact⟨_,hc'⟩
     . obtain⟨w2,z2⟩:=I.cell y c' e
       exact⟨w2,z2.sameBut hs hcc⟩
   . obtain⟨e,n,ne,nf,d⟩:=I.pin p hp
     refine⟨(hs.2 p.1 ?_).trans e,n,ne,nf,d⟩;intro q;rw[q,hoc]at e;have q':oc=p.2:=Option.some.inj e;exact d w' (by rw[<-q'];exact hocd)
theorem kZ{M:Model}{A:Around}{E:Value->Shared->Prop}{i:Nat}{x:Str}{v:V}{u:Value}{Q:Unit->Shared->Prop}(I:Inv X pins σ H s)(hN:X.N.Nodup)(hi:X.N[i]?=some x)(hx:Loc X.env.scope x)(r:RelV v u)
 (h:∀s',Inv X pins (σ.set i (some v)) H s'->Q () s') (hf:X.fn x=true\/X.env.scope.names.lookup x=some .local:=by first|exact .inl rfl|exact .inr rfl|assumption):wpAny M A (storeName X.env x u) Q E s:=
 qI9 I hN hi hx r (fun s' I' _=>h s' I') hf
theorem Inv.call'{s':Shared}{ch:List Addr}(I:Inv X pins σ H s)(ho:s'.os=s.os)(u:Un (frs X.stack) ch H H' s.heap s'.heap)(hok:HOk X.prog X.w H' s'.heap)(hg:AllBare s'.gens)
 (hch:∀b∈ch,(b∈X.ex\/X.s₀.heap.objs.size<=b)/\b≠X.env.locals/\(∀x c,X.env.cells.lookup x=some c->c≠b)/\∀p∈X.pn++pins,p.1≠b):Inv X pins σ H' s':=by
 obtain⟨h',g',d',t',o'⟩:=s';have e:o'=s.os:=ho;subst e;exact I.call (g':=g') (t':=t') (d':=d') u hok hg hch
end
abbrev XK:=Value->Option Addr->Hp->Prop
abbrev St:=List (Option V)
abbrev VK:=V->Hp->Prop
abbrev TE:=St->Hp->VK->Prop
abbrev TT:=St->Hp->(Bool->Hp->Prop)->Prop
abbrev TA:=St->Hp->(List V->Hp->Prop)->Prop
structure qMm where
 nx:St->Hp->Prop
 rt:VK
 bk:St->Hp->Prop:=fun _ _=>False
 ct:St->Hp->Prop:=fun _ _=>False
abbrev TS:=qMm->St->Hp->Prop
def EP(X:Cx)(pins:List (Addr×Obj))(σ:St)(Q:VK)(u:Value)(s':Shared):Prop:= ∃v H',Inv X pins σ H' s'/\RelV v u/\Q v H'
def TP(X:Cx)(pins:List (Addr×Obj))(σ:St)(Q:Bool->Hp->Prop)(b:Bool)(s':Shared):Prop:= ∃H',Inv X pins σ H' s'/\Q b H'
def AP(X:Cx)(pins:List (Addr×Obj))(σ:St)(Q:List V->Hp->Prop)(us:List Value)(s':Shared):Prop:= ∃vs H',Inv X pins σ H' s'/\Vals vs us/\Q vs H'
def SP(X:Cx)(pins:List (Addr×Obj))(D:qMm)(f:Flow)(s':Shared):Prop:=
 match f with
 |.next=> ∃σ' H',Inv X pins σ' H' s'/\D.nx σ' H'
 |.brk=> ∃σ' H',Inv X pins σ' H' s'/\D.bk σ' H'
 |.cont=> ∃σ' H',Inv X pins σ' H' s'/\D.ct σ' H'
 |.ret u=> ∃v σ' H',Inv X pins σ' H' s'/\RelV v u/\D.rt v H'
def PE(X:Cx)(e:Expr)(t:TE):Prop:=
 ∀(pins:List (Addr×Obj)) (s:Shared) (σ:St) (H:Hp) (Q:VK),Inv X pins σ H s->t σ H Q->wpAny (model X.prog X.w) X.A (eval e X.env) (EP X pins σ Q) X.xe s
def PT(X:Cx)(e:Expr)(t:TT):Prop:=
 ∀(pins:List (Addr×Obj)) (s:Shared) (σ:St) (H:Hp) (Q:Bool->Hp->Prop),Inv X pins σ H s->t σ H Q->wpAny (model X.prog X.w) X.A (isTrue e X.env (eval e X.env)) (TP X pins σ Q) X.xe s
def PW(X:Cx)(e:Expr)(t:TT):Prop:=
 ∀(whole:Sem Value) (pins:List (Addr×Obj)) (s:Shared) (σ:St) (H:Hp) (Q:Bool->Hp->Prop),Inv X pins σ H s->t σ H Q->wpAny (model X.prog X.w) X.A (isTrue e X.env whole) (TP X pins σ Q) X.xe s
theorem PW.pt{X:Cx}{e:Expr}{t:TT}(h:PW X e t):PT X e t:=h _
def PA(X:Cx)(es:List Expr)(t:TA):Prop:=
 ∀(pos:Pos) (pins:List (Addr×Obj)) (s:Shared) (σ:St) (H:Hp) (Q:List V->Hp->Prop),Inv X pins σ H s->t σ H Q->wpAny (model X.prog X.w) X.A (spliced (backTo pos (starEach es X.env))) (AP X pins σ Q) X.xe s
def PS(X:Cx)(st:Stmt)(t:TS):Prop:=
 ∀(pins:List (Addr×Obj)) (s:Shared) (σ:St) (H:Hp) (D:qMm),Inv X pins σ H s->t D σ H->wpAny (model X.prog X.w) X.A (exec st X.env) (SP X pins D) X.xe s
def PSs(X:Cx)(st:List Stmt)(t:TS):Prop:=
 ∀(pins:List (Addr×Obj)) (s:Shared) (σ:St) (H:Hp) (D:qMm),Inv X pins σ H s->t D σ H->wpAny (model X.prog X.w) X.A (execs st X.env) (SP X pins D) X.xe s
theorem thn{α:Type}{t:Sem α}{Q Q':α->Shared->Prop}{M:Model}{A:Around}{E:Value->Shared->Prop}{s:Shared}(h:wpAny M A t Q E s)(hQ:∀a s,Q a s->Q' a s):wpAny M A t Q' E s:=wpAny_mono h hQ fun _ _ x=>x
section
variable{X:Cx}
theorem bin{a b:Expr}{ta tb:TE}(ha:PE X a ta)(hb:PE X b tb){pins:List (Addr×Obj)}{s:Shared}{σ:St}{H:Hp}{R:V->V->Hp->Prop}(I:Inv X pins σ H s)(h:ta σ H fun x H1=>tb σ H1 fun y H2=>R x y H2)
 {α:Type} {Q:α->Shared->Prop} {f:Value->Value->Sem α}
 (hf:∀v u s2 x y H2,Inv X pins σ H2 s2->RelV x v->RelV y u->R x y H2->wpAny (model X.prog X.w) X.A (f v u) Q X.xe s2):
 wpAny (model X.prog X.w) X.A (eval a X.env) (fun v s₁=>wpAny (model X.prog X.w) X.A (eval b X.env) (fun u s₂=>wpAny (model X.prog X.w) X.A (f v u) Q X.xe s₂) X.xe s₁) X.xe s:=by
 refine thn (ha pins s σ H _ I h) fun v s1 ⟨x,H1,I1,r1,q1⟩=>?_;refine thn (hb pins s1 σ H1 _ I1 q1) fun u s2 ⟨y,H2,I2,r2,q2⟩=>?_;exact hf v u s2 x y H2 I2 r1 r2 q2
inductive qUl(i:Nat)(σ:L2.St)(H:Hp)(Q:VK):Prop
|mk v (_:σ[i]?=some (some v)) (_:Q v H)
def tC(v:V):TE:=fun _ H Q=>Q v H
theorem qV0{i:Nat}{x:Str}{pos:Pos}(hN:X.N[i]?=some x)(hv:Vis X.env.scope x)(hd:(x==("__debug__":Str))=false:=by decide)(hcd:(x==("__classdict__":Str))=false:=by decide):PE X (.Name x pos) (qUl i):=by
 intro pins s σ H Q I h;obtain⟨v,e,h⟩:=h;obtain⟨m,hn,hl⟩:=I.loc;obtain⟨u,r,l⟩:=hl i x v hN e hv;have fin:EP X pins σ Q u s:=⟨v,H,I,r,h⟩;rcases l with ⟨hk,hm⟩|⟨hk,c,hc,hcell⟩
 . exact wpAny_Name (wpAny_loadName_local I.ok.kind hk hn hm fin) hd
 . rcases hk with hk|hk
   . exact wpAny_Name (wpAny_loadName_cell I.ok.kind hk hc hcell fin) hd
   . exact wpAny_Name (wpAny_loadName_free I.ok.kind hk hc hcell fin hcd) hd
theorem qG{i j pos}:PE X (.Constant (.int i) j pos) (tC (.int i)):=fun _ _ _ H _ I h=>wpAny_Constant_int ⟨.int i,H,I.tok _,⟨_,rfl⟩,h⟩
theorem xk{b j pos}:PE X (.Constant (.bool b) j pos) (tC (.bl b)):=fun _ _ _ H _ I h=>Constant_bool ⟨.bl b,H,I,rfl,h⟩
theorem qBe{j pos}:PE X (.Constant .none j pos) (tC .non):=fun _ _ _ H _ I h=>Constant_none ⟨.non,H,I,rfl,h⟩
theorem qR{x j pos}:PE X (.Constant (.str x) j pos) (tC (.str x)):=fun _ _ _ H _ I h=>Calls.Constant_str ⟨.str x,H,I.tok _,⟨_,rfl⟩,h⟩
def Gl(X:Cx)(x:Str):Prop:=X.env.kindOf x=some .globalImplicit
theorem wb{E:Value->Shared->Prop}{pins:List (Addr×Obj)}{s:Shared}{σ:St}{H:Hp}{x:Str}{u:Value}{pos:Pos}{Q:Value->Shared->Prop}(I:Inv X pins σ H s)(hg:Gl X x)(hm:X.mg x=some u)(h:Q u s)
 (hd:(x==("__debug__":Str))=false:=by decide):wpAny (model X.prog X.w) X.A (eval (.Name x pos) X.env) Q E s:=
 Calls.Name_function_global I.ok.kind hg (Calls.loadGlobal_global (by rw[I.ok.glob];exact I.mod.glob.keeps I.bk) hm h) hd
theorem qHv{E:Value->Shared->Prop}{pins:List (Addr×Obj)}{s:Shared}{σ:St}{H:Hp}{x:Str}{u:Value}{pos:Pos}{Q:Value->Shared->Prop}(I:Inv X pins σ H s)(hg:Gl X x)(hm:X.mg x=none)(hv:bootBuiltins x=some u)(h:Q u s)
 (hn:x≠"__name__":=by decide) (hd:(x==("__debug__":Str))=false:=by decide):wpAny (model X.prog X.w) X.A (eval (.Name x pos) X.env) Q E s:=by
 obtain⟨mb,h1,h2⟩:=I.mod.blt;exact Calls.Name_function_global I.ok.kind hg (Calls.loadGlobal_builtin (by rw[I.ok.glob];exact I.mod.glob.keeps I.bk) hm (by rw[I.ok.blt];exact h1.keeps I.bk) ((h2 x hn).trans hv) h) hd
theorem jq{x:Str}{v:V}{u:Value}{pos:Pos}(hg:Gl X x)(hm:X.mg x=some u)(r:RelV v u)(hd:(x==("__debug__":Str))=false:=by decide):PE X (.Name x pos) (tC v):=
 fun _ _ _ H _ I h=>wb I hg hm ⟨v,H,I,r,h⟩ hd
theorem qS1{x:Str}{v:V}{u:Value}{pos:Pos}(hg:Gl X x)(hm:X.mg x=none)(hv:bootBuiltins x=some u)(r:RelV v u)(hn:x≠"__name__":=by decide)(hd:(x==("__debug__":Str))=false:=by decide):PE X (.Name x pos) (tC v):=
 fun _ _ _ H _ I h=>qHv I hg hm hv ⟨v,H,I,r,h⟩ hn hd
variable{a b:Expr}{ta tb:TE}{pos:Pos}
def PC(X:Cx)(op:CmpOp)(a b:Expr)(t:TE):Prop:=
 ∀(pins:List (Addr×Obj)) (s:Shared) (σ:St) (H:Hp) (Q:VK),Inv X pins σ H s->t σ H Q->
  wpAny (model X.prog X.w) X.A (eval a X.env) (fun v s₁=>wpAny (model X.prog X.w) X.A (eval b X.env) (fun u s₂=>wpAny (model X.prog X.w) X.A (compareOp op v u) (EP X pins σ Q) X.xe s₂) X.xe s₁) X.xe s
theorem qMl(b:Expr){op:CmpOp}(h:op≠ .In)(h2:op≠ .NotIn):behindInMarks op b=false:=by
 have e1:(op==CmpOp.In)=false:=by cases op <;> first|rfl|exact absurd rfl h
 have e2:(op==CmpOp.NotIn)=false:=by cases op <;> first|rfl|exact absurd rfl h2
 cases b <;> simp[behindInMarks,e1,e2]
def qY5(ta:TE):TE:=fun σ H Q=>ta σ H fun x H1=>Q (.bl (decide (x=.non))) H1
def qXq(ta:TE):TE:=fun σ H Q=>ta σ H fun x H1=>Q (.bl (!decide (x=.non))) H1
theorem RelV.none_iff{x:V}{v:Value}(r:RelV x v):(v==Value.none)=decide (x=.non):=by
 cases x with
 |non=>cases r;rfl
 |bl _=>cases r;rfl
 |int _=>obtain⟨t,rfl⟩:=r;rfl
 |str _=>obtain⟨t,rfl⟩:=r;rfl
 |byt _=>obtain⟨t,rfl⟩:=r;rfl
 |flt _=>obtain⟨t,rfl⟩:=r;rfl
 |ref _=>cases r;rfl
 |ty _=>cases r;rfl
theorem qBf{j pos'}(ha:PE X a ta):PC X .Is a (.Constant .none j pos') (qY5 ta):=by intro pins s σ H Q I h;refine thn (ha pins s σ H _ I h) fun v s1 ⟨x,H1,I1,r1,q1⟩=>?_;exact Constant_none (is_none_gen ⟨.bl _,H1,I1,by rw[r1.none_iff];rfl,q1⟩)
theorem qOy{j pos'}(ha:PE X a ta):PC X .IsNot a (.Constant .none j pos') (qXq ta):=by intro pins s σ H Q I h;refine thn (ha pins s σ H _ I h) fun v s1 ⟨x,H1,I1,r1,q1⟩=>?_;exact Constant_none (isnot_none_gen ⟨.bl _,H1,I1,by rw[r1.none_iff];rfl,q1⟩)
inductive tBI(Q:Bool->Hp->Prop)(x:V)(H1:Hp):Prop
|mk c (_:x=.bl c) (_:Q c H1)
def tB(t:TE):TT:=fun σ H Q=>t σ H fun x H1=>tBI Q x H1
theorem qSr{op:CmpOp}{t:TE}(h:PC X op a b t)(h1:behindInMarks op b=false:=by first|exact qMl _ (by decide) (by decide)|rfl):PE X (.Compare a [op] [b] pos) t:=fun pins s σ H Q I hw=>wpAny_Compare1 (h pins s σ H Q I hw) h1
theorem vD{op:CmpOp}{t:TE}(h:PC X op a b t)(h1:behindInMarks op b=false:=by first|exact qMl _ (by decide) (by decide)|rfl):PT X (.Compare a [op] [b] pos) (tB t):=by intro pins s σ H Q I hw;refine wpAny_isTrue_Compare1 (thn (h pins s σ H _ I hw) fun v s1 h1=>thn h1 fun u s2 h2=>thn h2 fun c s3 ⟨x,H1,I1,r1,q1⟩=>?_) h1;obtain⟨d,rfl,q⟩:=q1;cases r1;exact wpAny_truthy_bool ⟨H1,I1,q⟩
theorem qg{e:Expr}{t:TE}(h:PE X e t)(he:∀whole,isTrue e X.env whole=(do let v<-whole;standAt e.pos;holding [v] (truthy v)):=by intro _;rfl):PT X e (tB t):=by intro pins s σ H Q I hw;refine isTrue_plain (thn (h pins s σ H _ I hw) fun v s1 ⟨x,H1,I1,r1,q1⟩=>?_) (he _);obtain⟨d,rfl,q⟩:=q1;cases r1;exact wpAny_truthy_bool ⟨H1,I1,q⟩
variable{tA tB':TT}{rest:List Expr}
def qZb(t u:TT):TT:=fun σ H Q=>t σ H fun c H1=>if c=true then u σ H1 Q else Q false H1
def tOr(t u:TT):TT:=fun σ H Q=>t σ H fun c H1=>if c=true then Q true H1 else u σ H1 Q
def qYk(t:TT):TT:=fun σ H Q=>t σ H fun c H1=>Q (!c) H1
theorem xA(ha:PT X a tA):PW X (.BoolOp .And [a] pos) tA:=by
 intro wh pins s σ H Q I h;refine isTrue_and (thn (ha pins s σ H Q I h) fun c s1 e=>?_);cases c with
 |true=>exact isTrue_and_nil e
 |false=>exact e
theorem jK(ha:PT X a tA):PW X (.BoolOp .Or [a] pos) tA:=by
 intro wh pins s σ H Q I h;refine isTrue_or (thn (ha pins s σ H Q I h) fun c s1 e=>?_);cases c with
 |false=>exact isTrue_or_nil e
 |true=>exact e
theorem xW(ha:PT X a tA)(hb:PW X (.BoolOp .And (b::rest) pos) tB'):PW X (.BoolOp .And (a::b::rest) pos) (qZb tA tB'):=by
 intro wh pins s σ H Q I h;refine isTrue_and (thn (ha pins s σ H _ I h) fun c s1 ⟨H1,I1,q1⟩=>?_);cases c with
 |true=>exact hb wh pins s1 σ H1 Q I1 q1
 |false=>exact⟨H1,I1,q1⟩
theorem jd(ha:PT X a tA)(hb:PW X (.BoolOp .Or (b::rest) pos) tB'):PW X (.BoolOp .Or (a::b::rest) pos) (tOr tA tB'):=by
 intro wh pins s σ H Q I h;refine isTrue_or (thn (ha pins s σ H _ I h) fun c s1 ⟨H1,I1,q1⟩=>?_);cases c with
 |true=>exact⟨H1,I1,q1⟩
 |false=>exact hb wh pins s1 σ H1 Q I1 q1
theorem q8(ha:PT X a tA):PT X (.UnaryOp .Not a pos) (qYk tA):=by intro pins s σ H Q I h;exact isTrue_not (ha pins s σ H (fun c H1=>Q (!c) H1) I h)
inductive qUv(tb:TE)(σ:L2.St)(Q:VK)(x:V)(H1:Hp):Prop
|mk c (_:x=.bl c) (_:if c=true then tb σ H1 Q else Q (.bl false) H1)
def qW1(ta tb:TE):TE:=fun σ H Q=>ta σ H fun x H1=>qUv tb σ Q x H1
inductive qXn(tb:TE)(σ:L2.St)(Q:VK)(x:V)(H1:Hp):Prop
|mk c (_:x=.bl c) (_:if c=true then Q (.bl true) H1 else tb σ H1 Q)
def qYs(ta tb:TE):TE:=fun σ H Q=>ta σ H fun x H1=>qXn tb σ Q x H1
inductive qWc(Q:VK)(x:V)(H1:Hp):Prop
|mk c (_:x=.bl c) (_:Q (.bl (!c)) H1)
def qXh(ta:TE):TE:=fun σ H Q=>ta σ H fun x H1=>qWc Q x H1
theorem z7{op}{t:TE}(h:PE X a t):PE X (.BoolOp op [a] pos) t:=fun pins s σ H Q I hw=>BoolOp_one (h pins s σ H Q I hw)
theorem xp(ha:PE X a ta)(hb:PE X (.BoolOp .And (b::rest) pos) tb):PE X (.BoolOp .And (a::b::rest) pos) (qW1 ta tb):=by
 intro pins s σ H Q I h;refine BoolOp_and (thn (ha pins s σ H _ I h) fun v s1 ⟨x,H1,I1,r1,q1⟩=>?_);obtain⟨c,rfl,q1⟩:=q1;cases r1;refine wpAny_truthy_bool ?_;cases c with
 |true=>exact hb pins s1 σ H1 Q I1 q1
 |false=>exact⟨.bl false,H1,I1,rfl,q1⟩
theorem qXd(ha:PE X a ta)(hb:PE X (.BoolOp .Or (b::rest) pos) tb):PE X (.BoolOp .Or (a::b::rest) pos) (qYs ta tb):=by
 intro pins s σ H Q I h;refine BoolOp_or (thn (ha pins s σ H _ I h) fun v s1 ⟨x,H1,I1,r1,q1⟩=>?_);obtain⟨c,rfl,q1⟩:=q1;cases r1;refine wpAny_truthy_bool ?_;cases c with
 |false=>exact hb pins s1 σ H1 Q I1 q1
 |true=>exact⟨.bl true,H1,I1,rfl,q1⟩
theorem qUq(ha:PE X a ta):PE X (.UnaryOp .Not a pos) (qXh ta):=by intro pins s σ H Q I h;refine UnaryOp_ (thn (ha pins s σ H _ I h) fun v s1 ⟨x,H1,I1,r1,q1⟩=>?_);obtain⟨c,rfl,q1⟩:=q1;cases r1;exact not_of (wpAny_truthy_bool ⟨.bl (!c),H1,I1,O,q1⟩)
def tIf(t:TT)(ta tb:TE):TE:=fun σ H Q=>t σ H fun c H1=>if c=true then ta σ H1 Q else tb σ H1 Q
theorem vA{c:Expr}(hc:PT X c tA)(ha:PE X a ta)(hb:PE X b tb):PE X (.IfExp c a b pos) (tIf tA ta tb):=by
 intro pins s σ H Q I h;refine wpAny_IfExp (thn (hc pins s σ H _ I h) fun d s1 ⟨H1,I1,q1⟩=>?_);cases d with
 |true=>exact ha pins s1 σ H1 Q I1 q1
 |false=>exact hb pins s1 σ H1 Q I1 q1
end
def SqL(K:PySem.W.Frag)(H:Hp)(a:Addr)(xs:List V):Prop:=
 Rd H a (.lst xs)\/
  ∃(o:Obj) (its:Array Value) (n:Nat),K.lookup a=some o/\o.cls=.type "list"/\o.dict=none/\o.data=.seq its n/\its.size<=sizeLine/\Vals xs its.toList
def SqT(K:PySem.W.Frag)(H:Hp)(a:Addr)(xs:List V):Prop:=
 Rd H a (.tup xs)\/
  ∃(o:Obj) (its:Array Value) (n:Nat),K.lookup a=some o/\o.cls=.type "tuple"/\o.data=.seq its n/\its.size<=sizeLine/\Vals xs its.toList
def qZa:Value->Option V
 |.none=>some .non
 |.bool b=>some (.bl b)
 |.int i _=>some (.int i)
 |.str x _=>some (.str x)
 |.bytes b _=>some (.byt b)
 |.float b _=>some (.flt b)
 |.ref a=>some (.ref a)
 |.type n=>some (.ty n)
 |_=>none
theorem RelV.abs{x:V}{u:Value}(r:RelV x u):qZa u=some x:=by
 cases x with
 |non=>cases r;rfl
 |bl _=>cases r;rfl
 |int _=>obtain⟨t,rfl⟩:=r;rfl
 |str _=>obtain⟨t,rfl⟩:=r;rfl
 |byt _=>obtain⟨t,rfl⟩:=r;rfl
 |flt _=>obtain⟨t,rfl⟩:=r;rfl
 |ref _=>cases r;rfl
 |ty _=>cases r;rfl
theorem RelV.inj{x y:V}{u:Value}(r:RelV x u)(q:RelV y u):x=y:=Option.some.inj (r.abs.symm.trans q.abs)
theorem Vals.inj:∀{xs ys:List V} {us:List Value},Vals xs us->Vals ys us->xs=ys
 |_,_,_,.nil,.nil=>rfl
 |_,_,_,.cons r t,.cons r' t'=>by rw[r.inj r',Vals.inj t t']
section
variable{X:Cx}{pins:List (Addr×Obj)}{σ:St}{H:Hp}{s:Shared}{a:Addr}{xs ys:List V}
theorem SqL.of{K:PySem.W.Frag}(h:H a=some (.lst xs)):SqL K H a xs:=.inl (.inl h)
theorem SqT.of{K:PySem.W.Frag}(h:H a=some (.tup xs)):SqT K H a xs:=.inl (.inl h)
theorem Inv.list(I:Inv X pins σ H s)(h:SqL X.K H a xs):∃its:List Value,Vals xs its/\PlainL s.heap a its.toArray/\xs.length<=sizeLine:=by
 rcases h with h|⟨o,its,n,hk,hc,hd,hs,hz,r⟩
 . obtain⟨z,its,n,r,e⟩:=h.ok I.hok
   exact⟨its,r,⟨_,n,e,O,O,O⟩,z⟩
 . refine⟨its.toList,r,⟨o,n,I.kIn a o hk,hc,hd,by simpa using hs⟩,?_⟩
   have e:=r.length;simp only[Array.length_toList]at e;omega
theorem Inv.tuple(I:Inv X pins σ H s)(h:SqT X.K H a xs):∃its:List Value,Vals xs its/\IsTup s.heap a its.toArray/\xs.length<=sizeLine:=by
 rcases h with h|⟨o,its,n,hk,hc,hs,hz,r⟩
 . obtain⟨z,its,r,p⟩:=h.ok I.hok
   exact⟨its,r,p,z⟩
 . refine⟨its.toList,r,⟨o,I.kIn a o hk,hc,n,by simpa using hs⟩,?_⟩
   have e:=r.length;simp only[Array.length_toList]at e;omega
theorem Inv.list_inj(I:Inv X pins σ H s)(h:SqL X.K H a xs)(h':SqL X.K H a ys):xs=ys:=by
 obtain⟨its,r,⟨o,n,e,_,_,d⟩,_⟩:=I.list h;obtain⟨its',r',⟨o',n',e',_,_,d'⟩,_⟩:=I.list h';rw[e]at e';cases e';rw[d]at d';injection d' with d1 _
 have:its=its':=by simpa using congrArg Array.toList d1
 subst this;exact r.inj r'
theorem Inv.tuple_inj(I:Inv X pins σ H s)(h:SqT X.K H a xs)(h':SqT X.K H a ys):xs=ys:=by
 obtain⟨its,r,⟨o,e,_,n,d⟩,_⟩:=I.tuple h;obtain⟨its',r',⟨o',e',_,n',d'⟩,_⟩:=I.tuple h';rw[e]at e';cases e';rw[d]at d';injection d' with d1 _
 have:its=its':=by simpa using congrArg Array.toList d1
 subst this;exact r.inj r'
end
abbrev Cx.wish(X:Cx)(E:Value->Shared->Prop):Cx:={X with xe:=E}
abbrev Cx.nox(X:Cx):Cx:=X.wish fun _ _=>False
theorem Cx.Ok.wish{X:Cx}(ok:X.Ok)(E:Value->Shared->Prop):(X.wish E).Ok:=
 ⟨ok.mod,ok.kind,ok.glob,ok.blt,ok.above,ok.inj,ok.has,ok.cab,ok.hd,ok.frames,ok.stk,ok.exf,ok.bs,ok.bsz,ok.noex,ok.exfs,ok.funs,ok.frf⟩
theorem Cx.Ok.unwish{X:Cx}{E:Value->Shared->Prop}(ok:(X.wish E).Ok):X.Ok:=
 ⟨ok.mod,ok.kind,ok.glob,ok.blt,ok.above,ok.inj,ok.has,ok.cab,ok.hd,ok.frames,ok.stk,ok.exf,ok.bs,ok.bsz,ok.noex,ok.exfs,ok.funs,ok.frf⟩
section
variable{X:Cx}{pins:List (Addr×Obj)}{σ:St}{H:Hp}{s:Shared}{E:Value->Shared->Prop}
theorem Inv.wish(I:Inv X pins σ H s)(E:Value->Shared->Prop):Inv (X.wish E) pins σ H s:=⟨I.ok.wish E,I.os,I.bare,I.base,I.loc,I.cell,I.free,I.freeC,I.pin,I.hok,I.len⟩
theorem Inv.unwish(I:Inv (X.wish E) pins σ H s):Inv X pins σ H s:=⟨I.ok.unwish,I.os,I.bare,I.base,I.loc,I.cell,I.free,I.freeC,I.pin,I.hok,I.len⟩
theorem SP.unwish{D:qMm}{f:Flow}{s':Shared}(h:SP (X.wish E) pins D f s'):SP X pins D f s':=by
 cases f with
 |next=>obtain⟨σ',H',I,q⟩:=h;exact⟨σ',H',I.unwish,q⟩
 |brk=>obtain⟨σ',H',I,q⟩:=h;exact⟨σ',H',I.unwish,q⟩
 |cont=>obtain⟨σ',H',I,q⟩:=h;exact⟨σ',H',I.unwish,q⟩
 |ret u=>obtain⟨v,σ',H',I,r,q⟩:=h;exact⟨v,σ',H',I.unwish,r,q⟩
theorem PSs.nox{st:List Stmt}{t:TS}(h:PSs X.nox st t):PSs X st t:=fun pins s σ H D I hw=>
 wpAny_mono (h pins s σ H D (I.wish _) hw) (fun _ _ q=>q.unwish) fun _ _ z=>False.elim z
end
section
variable{X:Cx}{st:Stmt}{rest:List Stmt}{t u:TS}{e:Expr}{te:TE}{pos:Pos}
def qW3:TS:=fun D σ H=>D.nx σ H
def qX9(t u:TS):TS:=fun D σ H=>t {D with nx:=u D} σ H
theorem qN:PSs X [] qW3:=fun _ _ σ H _ I h=>wpAny_execs_nil ⟨σ,H,I,h⟩
theorem qC(h1:PS X st t)(h2:PSs X rest u):PSs X (st::rest) (qX9 t u):=by
 intro pins s σ H D I h;refine wpAny_execs_cons (thn (h1 pins s σ H {D with nx:=u D} I h) fun f s1 q=>?_);cases f with
 |next=>
  obtain⟨σ',H',I',q⟩:=q;exact h2 pins s1 σ' H' D I' q
 |ret v=>exact q
 |brk=>exact q
 |cont=>exact q
theorem qE(h1:PS X st t):PSs X [st] t:=by
 intro pins s σ H D I h;refine wpAny_execs_cons (thn (h1 pins s σ H D I h) fun f s1 q=>?_);cases f with
 |next=>exact wpAny_execs_nil q
 |ret v=>exact q
 |brk=>exact q
 |cont=>exact q
theorem Inv.quiet{pins:List (Addr×Obj)}{σ:St}{H:Hp}{s:Shared}(I:Inv X pins σ H s):interactive X.env=false:=by simp[interactive,I.ok.kind]
def qW0(te:TE):TS:=fun D σ H=>te σ H fun _ H1=>D.nx σ H1
theorem q9(he:PE X e te)(hs:swapsWith e none pos.line X.env=pure false:=by rfl):PS X (.Expr e pos) (qW0 te):=by intro pins s σ H D I h;exact wpAny_Expr_any (thn (he pins s σ H _ I h) fun v s1 ⟨x,H1,I1,r1,q1⟩=>⟨σ,H1,I1,q1⟩) I.quiet hs
def qYu(te:TE):TS:=fun D σ H=>te σ H D.rt
theorem qM(he:PE X e te):PS X (.Return (some e) pos) (qYu te):=by intro pins s σ H D I h;exact wpAny_Return_some (thn (he pins s σ H _ I h) fun v s1 ⟨x,H1,I1,r1,q1⟩=>⟨x,σ,H1,I1,r1,q1⟩)
def qY8(c:TT)(t u:TS):TS:=fun D σ H=>c σ H fun b H1=>if b=true then t D σ H1 else u D σ H1
theorem qW{c:Expr}{a b:List Stmt}{tc:TT}(hc:PT X c tc)(ha:PSs X a t)(hb:PSs X b u):PS X (.If c a b pos) (qY8 tc t u):=by
 intro pins s σ H D I h;refine wpAny_If (thn (hc pins s σ H _ I h) fun d s1 ⟨H1,I1,q1⟩=>?_);cases d with
 |true=>exact ha pins s1 σ H1 D I1 q1
 |false=>exact hb pins s1 σ H1 D I1 q1
def qUx:TS:=fun _ _ _=>False
theorem qk{sts:List Stmt}:PSs X sts qUx:=fun _ _ _ _ _ _ h=>h.elim
end
abbrev TG:=V->St->Hp->(St->Hp->Prop)->Prop
abbrev TGs:=List V->St->Hp->(St->Hp->Prop)->Prop
def PG(X:Cx)(target:Expr)(t:TG):Prop:=
 ∀(pins:List (Addr×Obj)) (s:Shared) (σ:St) (H:Hp) (v:V) (u:Value) (Q:St->Hp->Prop),Inv X pins σ H s->RelV v u->t v σ H Q->
  wpAny (model X.prog X.w) X.A (assign target X.env u) (fun _ s'=> ∃σ' H',Inv X pins σ' H' s'/\Q σ' H') X.xe s
def PGs(X:Cx)(ts:List Expr)(t:TGs):Prop:=
 ∀(pins:List (Addr×Obj)) (s:Shared) (σ:St) (H:Hp) (vs:List V) (us:List Value) (Q:St->Hp->Prop),Inv X pins σ H s->Vals vs us->t vs σ H Q->
  wpAny (model X.prog X.w) X.A (assignInOrder ((assignEach ts X.env).map (·.2)) us) (fun _ s'=> ∃σ' H',Inv X pins σ' H' s'/\Q σ' H') X.xe s
abbrev qWt:=V->V->V->Hp->(Hp->Prop)->Prop
def qYg(X:Cx)(t:qWt):Prop:=
 ∀(pins:List (Addr×Obj)) (s:Shared) (σ:St) (H:Hp) (o i v:V) (ov iv u:Value) (Q:Hp->Prop),Inv X pins σ H s->RelV o ov->RelV i iv->RelV v u->t o i v H Q->
  wpAny (model X.prog X.w) X.A (setItem ov iv u) (fun _ s'=> ∃H',Inv X pins σ H' s'/\Q H') X.xe s
section
variable{X:Cx}{pos:Pos}
def vN(i:Nat):TG:=fun v σ H Q=>Q (σ.set i (some v)) H
theorem jA{i:Nat}{x:Str}(hN:X.N.Nodup)(hi:X.N[i]?=some x)(hx:Loc X.env.scope x)(hf:X.fn x=true\/X.env.scope.names.lookup x=some .local:=by first|exact .inl rfl|exact .inr rfl|assumption):PG X (.Name x pos) (vN i):=by intro pins s σ H v u Q I r h;exact wpAny_assign_Name (kZ I hN hi hx r (fun s' I'=>⟨_,H,I',h⟩) hf)
def qWg:TGs:=fun vs σ H Q=>vs=[]/\Q σ H
inductive qFq(t:TG)(u:TGs)(vs:List V)(σ:L2.St)(H:Hp)(Q:L2.St->Hp->Prop):Prop
|mk v r (_:vs=v::r) (_:t v σ H fun σ' H'=>u r σ' H' Q)
theorem qHs:PGs X [] qWg:=by intro pins s σ H vs us Q I r h;obtain⟨e,h⟩:=h;subst e;cases r;exact assignInOrder_nil ⟨σ,H,I,h⟩
theorem zZ{e:Expr}{es:List Expr}{t:TG}{u:TGs}(h1:PG X e t)(h2:PGs X es u)
 (hs:(assignEach (e::es) X.env).map (·.2)=assign e X.env::(assignEach es X.env).map (·.2):=by rfl):PGs X (e::es) (qFq t u):=by
 intro pins s σ H vs us Q I r h;obtain⟨v,vr,e1,h⟩:=h;subst e1;cases r with
 |cons r rr=>
  rw[hs];refine assignInOrder_cons (thn (h1 pins s σ H _ _ _ I r h) fun _ s1 ⟨σ1,H1,I1,q1⟩=>?_);exact h2 pins s1 σ1 H1 _ _ Q I1 rr q1
inductive qWd(K:PySem.W.Frag)(n:Nat)(t:TGs)(v:V)(σ:L2.St)(H:Hp)(Q:L2.St->Hp->Prop):Prop
|mk a xs (_:v=.ref a) (_:SqT K H a xs) (_:xs.length=n) (_:t xs σ H Q)
theorem qMo{es:List Expr}{k:Nat}{t:TGs}{n:Nat}(hc:X.calm=true)(h:PGs X es t)
 (hn:(assignEach es X.env).length=n:=by rfl) (hst:(assignEach es X.env).findIdx? (·.1)=none:=by rfl):PG X (.Tuple es k pos) (qWd X.K n t):=by
 intro pins s σ H v u Q I r hw;obtain⟨a,xs,e1,hq,hl,hw⟩:=hw;subst e1;cases r;obtain⟨its,rv,ht,hz⟩:=I.tuple hq;refine assign_Tuple_tuple (I.ok.hd hc) ht (by simp[hn,<-hl,rv.length]) hst fun h' hx=>?_;have I1:Inv X pins σ H {s with heap:=h'}:=I.kept (t':=s.toks) fun b o e=>hx b o (Nat.ne_of_lt (Heap.lt_size e)) e;exact h pins _ σ H xs _ Q I1 (by simpa using rv) hw
def qY9(to ti:TE)(t:qWt):TG:=fun v σ H Q=>to σ H fun o H1=>ti σ H1 fun i H2=>t o i v H2 fun H3=>Q σ H3
theorem qL7{o i:Expr}{to ti:TE}{t:qWt}(ho:PE X o to)(hi:PE X i ti)(hs:qYg X t)
 (ha:∀v,assign (.Subscript o i pos) X.env v=(do
   let ov<-holding [v] (eval o X.env)
   let iv<-holding [v,ov] (eval i X.env)
   standAt pos
   holding [v,ov,iv] (setItem ov iv v)
   release [v,ov,iv] []):=by intro _;rfl):PG X (.Subscript o i pos) (qY9 to ti t):=by
 intro pins s σ H v u Q I r h;rw[ha];refine wpAny_bind (wpAny_holding (thn (ho pins s σ H _ I h) fun ov s1 ⟨x,H1,I1,r1,q1⟩=>?_));refine wpAny_bind (wpAny_holding (thn (hi pins s1 σ H1 _ I1 q1) fun iv s2 ⟨y,H2,I2,r2,q2⟩=>?_));refine wpAny_bind (wpAny_standAt (wpAny_bind (wpAny_holding (thn (hs pins s2 σ H2 x y v ov iv u _ I2 r1 r2 r q2) fun _ s3 ⟨H3,I3,q3⟩=>?_))));exact wpAny_release ⟨σ,H3,I3,q3⟩
def qS8(te:TE)(g:TG):TS:=fun D σ H=>te σ H fun x H1=>g x σ H1 D.nx
theorem qMn{tg e:Expr}{te:TE}{g:TG}(he:PE X e te)(hg:PG X tg g)(hs:swapsWithSole [tg] e pos.line X.env=pure false:=by rfl)(hw:swappedStores [tg] e X.env=pure none:=by rfl)
 (h1:(assignEach [tg] X.env).map (·.2)=[assign tg X.env]:=by rfl):PS X (.Assign [tg] e pos) (qS8 te g):=by
 intro pins s σ H D I h;refine wpAny_Assign_stores (thn (he pins s σ H _ I h) fun v s1 ⟨x,H1,I1,r1,q1⟩=>?_) hs hw;rw[h1];exact thn (hg pins s1 σ H1 x v _ I1 r1 q1) fun _ s2 q=>q
theorem qLz{i:Nat}{x:Str}{e:Expr}{te:TE}{pos':Pos}(hN:X.N.Nodup)(hi:X.N[i]?=some x)(hx:Loc X.env.scope x)(he:PE X e te)(hs:swapsWith e (some (.Name x pos')) pos.line X.env=pure false:=by rfl)(hf:X.fn x=true\/X.env.scope.names.lookup x=some .local:=by first|exact .inl rfl|exact .inr rfl|assumption):
 PS X (.Assign [.Name x pos'] e pos) (qS8 te (vN i)):=by
 intro pins s σ H D I h;refine wpAny_Assign_Name (thn (he pins s σ H _ I h) fun v s1 ⟨y,H1,I1,r1,q1⟩=>?_) hs;exact kZ I1 hN hi hx r1 (fun s2 I2=>⟨_,H1,I2,q1⟩) hf
inductive qX5(i:Nat)(j:Nat)(D:qMm)(σ:L2.St)(vs:List V)(H1:Hp):Prop
|mk v w (_:vs=[v,w]) (_:D.nx ((σ.set i (some v)).set j (some w)) H1)
def qYw(i j:Nat)(ta:TA):TS:=fun D σ H=>ta σ H fun vs H1=>qX5 i j D σ vs H1
theorem qU0{i j:Nat}{x y:Str}{a b:Expr}{ta:TA}{px py pt:Pos}{kt k2 pt2}(hc:X.calm=true)(hN:X.N.Nodup)(hi:X.N[i]?=some x)(hj:X.N[j]?=some y)(hij:i≠j)
 (hx:X.env.scope.names.lookup x=some .local) (hy:X.env.scope.names.lookup y=some .local) (ha:PA X [a,b] ta)
 (hw:swappedStores [.Tuple [.Name x px,.Name y py] kt pt] (.Tuple [a,b] k2 pt2) X.env=pure (some [x,y]))
 (hs:swapsWithSole [.Tuple [.Name x px,.Name y py] kt pt] (.Tuple [a,b] k2 pt2) pos.line X.env=pure false:=by rfl):
 PS X (.Assign [.Tuple [.Name x px,.Name y py] kt pt] (.Tuple [a,b] k2 pt2) pos) (qYw i j ta):=by
 intro pins s σ H D I h;rw[exec_Assign_arm];refine wpAny_bind (wpAny_standAt ?_);rw[hs];refine wpAny_bind (wpAny_pure ?_);rw[if_neg (by decide)];refine wpAny_bind (Tuple_ (thn (ha _ pins s σ H _ I h) fun us s1 ⟨vs,H1,I1,r1,q1⟩=>?_));obtain⟨v,w,e1,q1⟩:=q1;subst e1;obtain⟨u1,u2,rfl,rv,rw'⟩:∃u1 u2,us=[u1,u2]/\RelV v u1/\RelV w u2:=by
  cases r1 with
  |cons p q=>
   cases q with
   |cons p' q'=>
    cases q';exact⟨_,_,O,p,p'⟩
 refine wpAny_newObj_type ?_ (by show 2<=sizeLine;decide);have I2:Inv X pins σ H1 {s1 with heap:=s1.heap.push {cls:=.type "tuple",data:=.seq [u1,u2].toArray}}:=I1.kept (t':=s1.toks) fun b o e=>Heap.get?_push_of_some _ e;rw[hw];refine wpAny_bind (wpAny_pure ?_);show wpAny (model X.prog X.w) X.A (do rule "assign.swapped-stores";let items<-unpackItems (.ref s1.heap.objs.size) 2 none;assignInOrder [fun v=>bindName X.env y v,fun v=>bindName X.env x v] items.reverse;pure Flow.next) _ _ _;refine wpAny_bind (wpAny_rule (wpAny_bind (unpackItems_tuple (items:= #[u1,u2]) (I.ok.hd hc) (IsTup.new s1.heap _) fun h' hx'=>?_)));have I3:=I2.kept (h':=h') (t':=s1.toks) fun b o e=>hx' b o (Nat.ne_of_lt (Heap.lt_size e)) e;show wpAny _ _ (assignInOrder [fun v=>bindName X.env y v,fun v=>bindName X.env x v] [u2,u1]>>=fun _=>pure Flow.next) _ _ _;refine wpAny_bind (assignInOrder_cons (wpAny_bindName (kZ I3 hN hj (.inl hy) rw' (fun s2 I4=>?_) (.inr hy))));refine assignInOrder_cons (wpAny_bindName (kZ I4 hN hi (.inl hx) rv (fun s3 I5=>assignInOrder_nil (wpAny_pure ?_)) (.inr hx)));rw[List.set_comm _ _ (Ne.symm hij)]at I5;exact⟨_,H1,I5,q1⟩
end
section
variable{X:Cx}{pos:Pos}
def qSp(c:TT)(tb:TS):TS:=fun D σ H=> ∃W:Nat->St->Hp->Prop,(∃m,W m σ H)/\∀m σ H,W m σ H->
 c σ H fun b H1=>if b=true then ∃N:St->Hp->Prop,(∀σ' H',N σ' H'->∃m',m'<m/\W m' σ' H')/\tb {D with nx:=N,ct:=N,bk:=D.nx} σ H1 else D.nx σ H1
theorem qMf{c:Expr}{body:List Stmt}{tc:TT}{tb:TS}(hp:PassesOwn (model X.prog X.w) X.A X.env X.xe)(hc:PT X c tc)(hb:PSs X body tb):PS X (.While c body [] pos) (qSp tc tb):=by
 intro pins s σ H D I h;obtain⟨W,⟨m0,w0⟩,turn⟩:=h;refine wpAny_While (codeAny_whileLoop (fun n s'=> ∃σ' H',Inv X pins σ' H' s'/\W n σ' H') ?_ m0 ⟨σ,H,I,w0⟩);rintro n s1 ⟨σ1,H1,I1,w1⟩;refine wpAny_passesOwn hp (thn (hc pins s1 σ1 H1 _ I1 (turn n σ1 H1 w1)) fun b s2 ⟨H2,I2,q2⟩=>?_);cases b with
 |true=>
  obtain⟨N,hN,q2⟩:=q2;rw[if_pos rfl];refine wpAny_passesOwn hp (thn (hb pins s2 σ1 H2 _ I2 q2) fun f s3 q3=>?_);cases f with
  |next=>
   obtain⟨σ3,H3,I3,n3⟩:=q3;obtain⟨m',hm,w3⟩:=hN σ3 H3 n3;exact⟨m',hm,σ3,H3,I3,w3⟩
  |cont=>
   obtain⟨σ3,H3,I3,n3⟩:=q3;obtain⟨m',hm,w3⟩:=hN σ3 H3 n3;exact⟨m',hm,σ3,H3,I3,w3⟩
  |brk=>exact q3
  |ret v=>exact q3
 |false=>
  rw[if_neg Bool.false_ne_true];exact wpAny_execs_nil ⟨σ1,H2,I2,q2⟩
end
structure It where
 go:Nat->Hp->Prop
 yld:Nat->Hp->V->Hp->Prop
 stop:Nat->Hp->Prop
def qR0(X:Cx)(pins:List (Addr×Obj))(H:Hp)(b:Addr):Prop:=
 H b=none/\b≠X.env.locals/\b∉X.fs/\(b∈X.ex\/X.s₀.heap.objs.size<=b)/\(∀x c,X.env.cells.lookup x=some c->c≠b)/\∀p∈X.pn++pins,p.1≠b
theorem Inv.fpOk{X:Cx}{pins:List (Addr×Obj)}{σ:St}{H H':Hp}{s:Shared}{b:Addr}(I:Inv X pins σ H s)(hb:s.heap.objs.size<=b)(hn:H' b=none):qR0 X pins H' b:=by
 refine⟨hn,Nat.ne_of_gt (Nat.lt_of_lt_of_le I.lt hb),I.nofs hb,.inr (Nat.le_trans I.sz hb),fun x c e z=>?_,fun p hp z=>?_⟩
 . obtain⟨v,q⟩:=I.cell x c e
   exact absurd (Nat.lt_of_lt_of_le q.lt (by rw[z];exact hb)) (Nat.lt_irrefl _)
 . exact absurd (Nat.lt_of_lt_of_le (Heap.lt_size (I.pin p hp).1) (by rw[z];exact hb)) (Nat.lt_irrefl _)
structure qSk(P:Program)(w:World)(K:PySem.W.Frag)(tg:Expr)(J:It)(fp:List Addr)(it:Addr)(tn:Nat->Heap->Prop):Prop where
 mem:it∈fp
 obj:∀i h,tn i h->∀b∈fp,∃o,h.get? b=some o/\∀v,o.data≠ .cell v
 keep:∀i h h',tn i h->(∀b∈fp,∀o,h.get? b=some o->h'.get? b=some o)->tn i h'
 item:∀(X:Cx),X.prog=P->X.w=w->X.K=K->X.calm=true->∀(i:Nat) (pins:List (Addr×Obj)) (s:Shared) (σ:St) (H:Hp) (E:Value->Shared->Prop),Inv X pins σ H s->(∀b∈fp,qR0 X pins H b)->tn i s.heap->J.go i H->
  wpAny (model P w) X.A (pyNext (.ref it)) (fun r s1=> ∃u,r=some u/\
   wpAny (model P w) X.A (letOwnedTupleGo tg (.ref it) u) (fun _ s2=> ∃x H',Inv X pins σ H' s2/\RelV x u/\J.yld i H x H'/\tn (i+1) s2.heap/\∀b∈fp,H' b=none) E s1) E s
 done:∀(X:Cx),X.prog=P->X.w=w->X.K=K->X.calm=true->∀(i:Nat) (pins:List (Addr×Obj)) (s:Shared) (σ:St) (H:Hp) (E:Value->Shared->Prop),Inv X pins σ H s->(∀b∈fp,qR0 X pins H b)->tn i s.heap->J.stop i H->
  wpAny (model P w) X.A (pyNext (.ref it)) (fun r s1=>r=none/\Inv X pins σ H s1) E s
 self:∀(A:Around) (i:Nat) (s:Shared) (Q:Value->Shared->Prop) (E:Value->Shared->Prop),tn i s.heap->Q (.ref it) s->wpAny (model P w) A (pyIter (.ref it)) Q E s
abbrev TI:=St->Hp->(It->Hp->Prop)->Prop
def PIE(X:Cx)(pins:List (Addr×Obj))(σ:St)(tg:Expr)(R:It->Hp->Prop)(itv:Value)(s2:Shared):Prop:=
 ∃(it:Addr) (fp:List Addr) (tn:Nat->Heap->Prop) (J:It) (H':Hp),itv=.ref it/\Inv X pins σ H' s2/\qSk X.prog X.w X.K tg J fp it tn/\tn 0 s2.heap/\(∀b∈fp,qR0 X pins H' b)/\R J H'
def PI(X:Cx)(tg iter:Expr)(wi:TI):Prop:=
 ∀(pins:List (Addr×Obj)) (s:Shared) (σ:St) (H:Hp) (R:It->Hp->Prop),Inv X pins σ H s->wi σ H R->
  wpAny (model X.prog X.w) X.A (eval iter X.env) (fun v s1=>wpAny (model X.prog X.w) X.A (pyIter v) (PIE X pins σ tg R) X.xe s1) X.xe s
theorem qOj{M:Model}{A:Around}{E:Value->Shared->Prop}{s:Shared}{tg:Expr}{it:Addr}{u:Value}{o:Obj}{n:String}{vs:Array Value}{Q:Unit->Shared->Prop}(ho:s.heap.get? it=some o)(hc:o.cls=.type n)(hd:o.data=.fields vs)
 (hn:["enumerate","zip","dict_itemiterator","dict_reverseitemiterator","odict_iterator","itertools.zip_longest","itertools.pairwise"].contains n=false) (hQ:Q () s):wpAny M A (letOwnedTupleGo tg (.ref it) u) Q E s:=by
 unfold letOwnedTupleGo;cases tg <;> first
  |exact wpAny_pure hQ
  |(cases u <;> first
     |exact wpAny_pure hQ
     |(refine wpAny_bind (wpAny_load ho ?_)
       rw[hc,hd];show wpAny M A (if (["enumerate","zip","dict_itemiterator","dict_reverseitemiterator","odict_iterator","itertools.zip_longest","itertools.pairwise"].contains n && vs[0]?==some (rawInt _))=true then _ else _) Q E s;rw[if_neg (by intro h;rw[hn,Bool.false_and]at h;cases h)];exact wpAny_pure hQ))
def Itl(K:PySem.W.Frag)(a:Addr):It:=
 ⟨fun i H=> ∃xs x,SqL K H a xs/\xs[i]?=some x,fun i H x H'=>H'=H/\∀xs,SqL K H a xs->xs[i]?=some x,fun i H=> ∃xs,SqL K H a xs/\xs.length<=i⟩
def Itt(K:PySem.W.Frag)(a:Addr):It:=
 ⟨fun i H=> ∃xs x,SqT K H a xs/\xs[i]?=some x,fun i H x H'=>H'=H/\∀xs,SqT K H a xs->xs[i]?=some x,fun i H=> ∃xs,SqT K H a xs/\xs.length<=i⟩
def Itr(lo:Int)(n:Nat):It:=⟨fun i _=>i<n,fun i H x H'=>H'=H/\x=.int (lo+i),fun i _=>n<=i⟩
theorem qOg{P:Program}{w:World}{K:PySem.W.Frag}{tg:Expr}(a it:Addr):qSk P w K tg (Itl K a) [it] it (fun i h=>h.IsListIter it a i) where
 mem:=by simp
 obj:=fun i h st b hb=>by
  have e:b=it:=by simpa using hb
  subst e;obtain⟨o,e,c,d⟩:=st;exact⟨o,e,fun v z=>by rw[d]at z;cases z⟩
 keep:=fun i h h' st k=>st.at fun o e=>k it (by simp) o e
 item:=by intro X hP hw hK hc i pins s σ H E I hf st hg;subst hP hw hK;obtain⟨xs,x,hq,hx⟩:=hg;obtain⟨its,rv,p,hz⟩:=I.list hq;obtain⟨u,hu,ru⟩:=rv.get hx;obtain⟨f0,f1,f2,f3,f4,f5⟩:=hf it (by simp);refine wpAny_pyNext_list_item st p.isList (x:=u) (by simpa using hu) fun h' st' sb=>?_;have I1:Inv X pins σ H {s with heap:=h'}:=I.turned (t':=s.toks) (fun b o hb e=>(sb.2 b hb).trans e) f0 f1 f3 f4 f5;obtain⟨o,e,c,d⟩:=id st';exact⟨u,O,qOj (s:={s with heap:=h'}) e c d (by decide) ⟨x,H,I1,ru,⟨O,fun ys hy=>by rw[I.list_inj hy hq];exact hx⟩,st',fun b hb=>(hf b hb).1⟩⟩
 done:=by intro X hP hw hK hc i pins s σ H E I hf st hg;subst hP hw hK;obtain⟨xs,hq,hx⟩:=hg;obtain⟨its,rv,p,hz⟩:=I.list hq;obtain⟨f0,f1,f2,f3,f4,f5⟩:=hf it (by simp);have hl:=rv.length;exact wpAny_pyNext_list_end (I.ok.hd hc) st p.isList (by simp;omega) fun h' eb=>⟨O,I.turned (t':=s.toks) (fun b o hb e=>eb b o hb e) f0 f1 f3 f4 f5⟩
 self:=fun _ _ _ _ _ st h=>wpAny_pyIter_listiter st h
theorem qNq{P:Program}{w:World}{K:PySem.W.Frag}{tg:Expr}(a it:Addr):qSk P w K tg (Itt K a) [it] it (fun i h=>h.IsTupleIter it a i) where
 mem:=by simp
 obj:=fun i h st b hb=>by
  have e:b=it:=by simpa using hb
  subst e;obtain⟨o,e,c,d⟩:=st;exact⟨o,e,fun v z=>by rw[d]at z;cases z⟩
 keep:=fun i h h' st k=>st.at fun o e=>k it (by simp) o e
 item:=by intro X hP hw hK hc i pins s σ H E I hf st hg;subst hP hw hK;obtain⟨xs,x,hq,hx⟩:=hg;obtain⟨its,rv,p,hz⟩:=I.tuple hq;obtain⟨u,hu,ru⟩:=rv.get hx;obtain⟨f0,f1,f2,f3,f4,f5⟩:=hf it (by simp);refine wpAny_pyNext_tuple_item st (show s.heap.IsTuple a its.toArray from p) (x:=u) (by simpa using hu) fun h' st' sb=>?_;have I1:Inv X pins σ H {s with heap:=h'}:=I.turned (t':=s.toks) (fun b o hb e=>(sb.2 b hb).trans e) f0 f1 f3 f4 f5;obtain⟨o,e,c,d⟩:=id st';exact⟨u,O,qOj (s:={s with heap:=h'}) e c d (by decide) ⟨x,H,I1,ru,⟨O,fun ys hy=>by rw[I.tuple_inj hy hq];exact hx⟩,st',fun b hb=>(hf b hb).1⟩⟩
 done:=by intro X hP hw hK hc i pins s σ H E I hf st hg;subst hP hw hK;obtain⟨xs,hq,hx⟩:=hg;obtain⟨its,rv,p,hz⟩:=I.tuple hq;obtain⟨f0,f1,f2,f3,f4,f5⟩:=hf it (by simp);have hl:=rv.length;exact wpAny_pyNext_tuple_end (I.ok.hd hc) st (show s.heap.IsTuple a its.toArray from p) (by simp;omega) fun h' eb=>⟨O,I.turned (t':=s.toks) (fun b o hb e=>eb b o hb e) f0 f1 f3 f4 f5⟩
 self:=fun _ _ _ _ _ st h=>wpAny_pyIter_tupleiter st h
theorem qNo{P:Program}{w:World}{K:PySem.W.Frag}{tg:Expr}(it:Addr)(lo:Int)(n:Nat):qSk P w K tg (Itr lo n) [it] it (fun i h=>IsRangeIter h it (lo+(i:Nat)*1) ((n:Int)-(i:Nat)) 1) where
 mem:=by simp
 obj:=fun i h st b hb=>by
  have e:b=it:=by simpa using hb
  subst e;exact⟨_,st,fun v z=>by have z':Data.fields _=Data.cell v:=z;cases z'⟩
 keep:=fun i h h' st k=>k it (by simp) _ st
 item:=by intro X hP hw hK hc i pins s σ H E I hf st hg;subst hP hw hK;obtain⟨f0,f1,f2,f3,f4,f5⟩:=hf it (by simp);have W:=Walks.range (prog:=X.prog) (w:=X.w) (I.ok.hd hc) it lo 1 n;refine W.item i s _ _ hg st fun v h' tk hv st' kk=>?_;obtain⟨t,rfl⟩:=hv;have I1:Inv X pins σ H {s with heap:=h',toks:=tk}:=I.turned (fun b o hb e=>kk b o (by simpa using hb) e) f0 f1 f3 f4 f5;refine⟨_,O,qOj (s:={s with heap:=h',toks:=tk}) (n:="range_iterator") st' rfl rfl (by decide) ⟨.int (lo+i),H,I1,⟨t,?_⟩,⟨O,O⟩,st',fun b hb=>(hf b hb).1⟩⟩;rw[Int.mul_one]
 done:=by intro X hP hw hK hc i pins s σ H E I hf st hg;subst hP hw hK;obtain⟨f0,f1,f2,f3,f4,f5⟩:=hf it (by simp);exact wpAny_pyNext_range_end (I.ok.hd hc) st (by have:n<=i:=hg;omega) fun h' eb=>⟨rfl,I.turned (t':=s.toks) (fun b o hb e=>eb b o hb e) f0 f1 f3 f4 f5⟩
 self:=fun _ _ _ _ _ st h=>wpAny_pyIter_rangeiter st h
section
variable{X:Cx}{tg:Expr}
inductive qUy(K:PySem.W.Frag)(R:It->Hp->Prop)(x:V)(H1:Hp):Prop
|mk a (_:x=.ref a) (_:(∃xs,SqL K H1 a xs)) (_:R (Itl K a) H1)
def qW4(K:PySem.W.Frag)(tl:TE):TI:=fun σ H R=>tl σ H fun x H1=>qUy K R x H1
inductive qXr(K:PySem.W.Frag)(R:It->Hp->Prop)(x:V)(H1:Hp):Prop
|mk a (_:x=.ref a) (_:(∃xs,SqT K H1 a xs)) (_:R (Itt K a) H1)
def qY1(K:PySem.W.Frag)(tl:TE):TI:=fun σ H R=>tl σ H fun x H1=>qXr K R x H1
theorem jM{l:Expr}{tl:TE}(hl:PE X l tl):PI X tg l (qW4 X.K tl):=by
 intro pins s σ H R I h;refine thn (hl pins s σ H _ I h) fun v s1 ⟨x,H1,I1,r1,q1⟩=>?_;obtain⟨a,e,⟨xs,hq⟩,q⟩:=q1;subst e;cases r1;obtain⟨its,rv,p,hz⟩:=I1.list hq;refine wpAny_pyIter_list p.isList ?_;refine⟨s1.heap.objs.size,[s1.heap.objs.size],_,_,H1,O,I1.kept (t':=s1.toks) fun b o e=>Heap.get?_push_of_some _ e,qOg a _,⟨_,Heap.get?_push_size _ rfl,O,O⟩,fun b hb=>?_,q⟩;have e:b=s1.heap.objs.size:=by simpa using hb
 subst e;exact I1.fpOk (Nat.le_refl _) (I1.hok.fresh (Nat.le_refl _))
theorem qVp{l:Expr}{tl:TE}(hl:PE X l tl):PI X tg l (qY1 X.K tl):=by
 intro pins s σ H R I h;refine thn (hl pins s σ H _ I h) fun v s1 ⟨x,H1,I1,r1,q1⟩=>?_;obtain⟨a,e,⟨xs,hq⟩,q⟩:=q1;subst e;cases r1;obtain⟨its,rv,p,hz⟩:=I1.tuple hq;refine wpAny_pyIter_tuple (show s1.heap.IsTuple a its.toArray from p) ?_;refine⟨s1.heap.objs.size,[s1.heap.objs.size],_,_,H1,O,I1.kept (t':=s1.toks) fun b o e=>Heap.get?_push_of_some _ e,qNq a _,⟨_,Heap.get?_push_size _ rfl,O,O⟩,fun b hb=>?_,q⟩;have e:b=s1.heap.objs.size:=by simpa using hb
 subst e;exact I1.fpOk (Nat.le_refl _) (I1.hok.fresh (Nat.le_refl _))
theorem qRg{pins:List (Addr×Obj)}{σ:St}{H:Hp}{s:Shared}{R:It->Hp->Prop}{E:Value->Shared->Prop}{lo hi:Int}{t u v:Tok}{tk:Nat}(I:Inv X pins σ H s)(h1: -(2 ^ 62)<=lo)(h2:lo<2 ^ 62)(h3: -(2 ^ 62)<=hi)(h4:hi<2 ^ 62)
 (q:R (Itr lo (hi-lo).toNat) H):wpAny (model X.prog X.w) X.A (pyIter (.ref s.heap.objs.size)) (PIE X pins σ tg R) E {s with heap:=s.heap.push {cls:=.type "range",data:=.fields #[.int lo t,.int hi u,.int 1 v]},toks:=tk}:=by
 refine wpAny_pyIter_range (IsRange.new ..) (small_one h1 h2 h3 h4) ?_;have I1:Inv X pins σ H {s with heap:=s.heap.push {cls:=.type "range",data:=.fields #[.int lo t,.int hi u,.int 1 v]},toks:=tk}:=I.kept fun b o e=>Heap.get?_push_of_some _ e;refine⟨(s.heap.push {cls:=.type "range",data:=.fields #[.int lo t,.int hi u,.int 1 v]}).objs.size,[(s.heap.push {cls:=.type "range",data:=.fields #[.int lo t,.int hi u,.int 1 v]}).objs.size],_,_,H,O,
  I1.kept (t':=tk) fun b o e=>Heap.get?_push_of_some _ e,qNo _ lo (hi-lo).toNat,?_,fun b hb=>?_,q⟩
 . have e1:lo+((0:Nat):Int)*1=lo:=by simp
   have e2:(((hi-lo).toNat:Nat):Int)-((0:Nat):Int)=Builtin.Range.rangeSize lo hi 1:=by rw[rangeSize_one];split <;> omega
   show IsRangeIter _ _ (lo+((0:Nat):Int)*1) ((((hi-lo).toNat:Nat):Int)-((0:Nat):Int)) 1;rw[e1,e2];exact Heap.get?_push_size _ rfl
 . have e:b=(s.heap.push {cls:=.type "range",data:=.fields #[.int lo t,.int hi u,.int 1 v]}).objs.size:=by simpa using hb
   subst e;exact I1.fpOk (Nat.le_refl _) (I1.hok.fresh (Nat.le_refl _))
def qXg(ta:TA):TI:=fun σ H R=>ta σ H fun vs H1=> ∃j:Int,vs=[.int j]/\ -(2 ^ 62)<=j/\j<2 ^ 62/\R (Itr 0 j.toNat) H1
theorem kA{a:Expr}{ta:TA}{p pos:Pos}(hg:Gl X "range")(hm:X.mg "range"=none)(ha:PA X [a] ta)(hs:starEach [a] X.env=[(false,eval a X.env)]:=by rfl):PI X tg (.Call (.Name "range" p) [a] [] pos) (qXg ta):=by
 intro pins s σ H R I h;refine Call_ (qHv I hg hm boot_range (PyProof.Rows.callWith_type1 (thn (ha pos pins s σ H _ I h) fun us s1 ⟨vs,H1,I1,r1,q1⟩=>?_) hs rfl));obtain⟨j,e,q1,q2,q⟩:=q1;subst e;cases r1 with
 |cons r rr=>
  cases rr;obtain⟨t,rfl⟩:=r;exact call_range_1 (qRg I1 (by omega) (by omega) q1 q2 (by simpa using q))
def qY6(wi:TI)(g:TG)(tb:TS):TS:=fun D σ H=>wi σ H fun J H1=> ∃W:Nat->Nat->St->Hp->Prop,(∃m,W 0 m σ H1)/\∀i m σ H,W i m σ H->
 (J.stop i H/\D.nx σ H)\/(J.go i H/\∃N:St->Hp->Prop,(∀σ' H',N σ' H'->∃m',m'<m/\W (i+1) m' σ' H')/\∀x H',J.yld i H x H'->g x σ H' fun σ2 H2=>tb {D with nx:=N,ct:=N,bk:=D.nx} σ2 H2)
def qIe(fp:List Addr)(h:Heap):List (Addr×Obj):=fp.filterMap fun b=>(h.get? b).map fun o=>(b,o)
theorem qBj{fp:List Addr}{h:Heap}{b:Addr}{o:Obj}(hb:b∈fp)(e:h.get? b=some o):(b,o)∈qIe fp h:=List.mem_filterMap.mpr ⟨b,hb,by rw[e];rfl⟩
theorem qPq{fp:List Addr}{h:Heap}{p:Addr×Obj}(hp:p∈qIe fp h):p.1∈fp/\h.get? p.1=some p.2:=by
 obtain⟨b,hb,e⟩:=List.mem_filterMap.mp hp;cases q:h.get? b with
 |none=>rw[q]at e;cases e
 |some o=>
  rw[q]at e;have e':(b,o)=p:=Option.some.inj e;subst e';exact⟨hb,q⟩
theorem Inv.pinned{pins:List (Addr×Obj)}{σ:St}{H:Hp}{s:Shared}{fp:List Addr}(I:Inv X pins σ H s)(hf:∀b∈fp,qR0 X pins H b)(ho:∀b∈fp,∃o,s.heap.get? b=some o/\∀v,o.data≠ .cell v):Inv X (pins++qIe fp s.heap) σ H s:=
 I.pins_of fun p hp=>(List.mem_append.mp hp).elim (fun z=>I.pin p (List.mem_append_right _ z)) fun z=>by obtain⟨hb,e⟩:=qPq z;obtain⟨f0,f1,f2,_⟩:=hf p.1 hb;obtain⟨o,e',d⟩:=ho p.1 hb;rw[e]at e';cases e';exact⟨e,f0,f1,f2,d⟩
theorem Inv.unpinned{pins pl:List (Addr×Obj)}{σ:St}{H:Hp}{s:Shared}(I:Inv X (pins++pl) σ H s):Inv X pins σ H s:=I.pins_of fun p hp=>I.pin p (List.mem_append_right _ (List.mem_append_left _ hp))
theorem j6{iter:Expr}{body:List Stmt}{wi:TI}{g:TG}{tb:TS}{pos:Pos}(hp:PassesOwn (model X.prog X.w) X.A X.env X.xe)(hc:X.calm=true)(hi:PI X tg iter wi)(hg:PG X tg g)(hb:PSs X body tb)
 (hs:∀x,foldedSetIterable iter X.env x=pure x:=by intro _;rfl):PS X (.For tg iter body [] pos) (qY6 wi g tb):=by
 intro pins s σ H D I h;refine wpAny_For (thn (hi pins s σ H _ I h) fun v s1 h1=>thn h1 fun itv s2 h2=>?_) hs;obtain⟨it,fp,tn,J,H2,e,I2,T,st2,f2,W,⟨m0,w0⟩,turn⟩:=h2;subst e;have stat:∀{H':Hp},(∀b∈fp,H' b=none)->∀b∈fp,qR0 X pins H' b:=fun hn b hb=>⟨hn b hb,(f2 b hb).2⟩;refine codeAny_forLoop_any (fun n s'=> ∃i σ' H',Inv X pins σ' H' s'/\tn i s'.heap/\(∀b∈fp,H' b=none)/\W i n σ' H') ?_ m0 ⟨0,σ,H2,I2,st2,fun b hb=>(f2 b hb).1,w0⟩;rintro n s3 ⟨i,σ3,H3,I3,st3,fr3,w3⟩;rcases turn i n σ3 H3 w3 with ⟨stop,qn⟩|⟨go,N,hN,step⟩
 . refine wpAny_passesOwn hp (thn (T.done X rfl rfl rfl hc i pins s3 σ3 H3 X.xe I3 (stat fr3) st3 stop) fun r s4 ⟨hr,I4⟩=>?_)
   subst hr;exact wpAny_execs_nil ⟨σ3,H3,I4,qn⟩
 . refine wpAny_passesOwn hp (thn (T.item X rfl rfl rfl hc i pins s3 σ3 H3 X.xe I3 (stat fr3) st3 go) fun r s4 ⟨u,hr,h4⟩=>?_)
   subst hr;refine wpAny_passesOwn hp (thn h4 fun _ s5 ⟨x,H5,I5,r5,y5,st5,fr5⟩=>?_);have I5':=I5.pinned (stat fr5) (T.obj _ _ st5);refine wpAny_passesOwn hp (thn (hg _ s5 σ3 H5 x u _ I5' r5 (step x H5 y5)) fun _ s6 ⟨σ6,H6,I6,q6⟩=>?_);refine wpAny_passesOwn hp (thn (hb _ s6 σ6 H6 _ I6 q6) fun f s7 q7=>?_);have again:∀{σ7:St} {H7:Hp},Inv X (pins++qIe fp s5.heap) σ7 H7 s7->N σ7 H7->∃m,m<n/\∃i σ' H',Inv X pins σ' H' s7/\tn i s7.heap/\(∀b∈fp,H' b=none)/\W i m σ' H':=fun{σ7 H7} I7 n7=>by obtain⟨m',hm,w7⟩:=hN σ7 H7 n7;refine⟨m',hm,i+1,σ7,H7,I7.unpinned,T.keep _ _ _ st5 fun b hb o e=>(I7.pin (b,o) (List.mem_append_right _ (List.mem_append_right _ (qBj hb e)))).1,fun b hb=>?_,w7⟩;obtain⟨o,e,d⟩:=T.obj _ _ st5 b hb;exact(I7.pin (b,o) (List.mem_append_right _ (List.mem_append_right _ (qBj hb e)))).2.1
   cases f with
   |next=>obtain⟨σ7,H7,I7,n7⟩:=q7;exact again I7 n7
   |cont=>obtain⟨σ7,H7,I7,n7⟩:=q7;exact again I7 n7
   |brk=>obtain⟨σ7,H7,I7,q7⟩:=q7;exact⟨σ7,H7,I7.unpinned,q7⟩
   |ret v=>obtain⟨x7,σ7,H7,I7,r7,q7⟩:=q7;exact⟨x7,σ7,H7,I7.unpinned,r7,q7⟩
end
theorem jn{K:PySem.W.Frag}{a:Addr}{xs:List V}{g:TG}{tb:TS}{D:qMm}{σ:St}{H:Hp}(Pv:Nat->St->Hp->Prop)(h0:Pv 0 σ H)(hl:∀i σ H,i<=xs.length->Pv i σ H->SqL K H a xs)
 (hs:∀i x σ H,xs[i]?=some x->Pv i σ H->g x σ H fun σ2 H2=>tb {D with nx:=Pv (i+1),ct:=Pv (i+1),bk:=D.nx} σ2 H2) (hd:∀σ H,Pv xs.length σ H->D.nx σ H):
 ∃W:Nat->Nat->St->Hp->Prop,(∃m,W 0 m σ H)/\∀i m σ H,W i m σ H->
  ((Itl K a).stop i H/\D.nx σ H)\/((Itl K a).go i H/\∃N:St->Hp->Prop,(∀σ' H',N σ' H'->∃m',m'<m/\W (i+1) m' σ' H')/\∀x H',(Itl K a).yld i H x H'->g x σ H' fun σ2 H2=>tb {D with nx:=N,ct:=N,bk:=D.nx} σ2 H2):=by
 refine⟨fun i m σ H=>m=xs.length-i/\i<=xs.length/\Pv i σ H,⟨xs.length,by simp,Nat.zero_le _,h0⟩,?_⟩;rintro i m σ H ⟨rfl,hi,p⟩;have q:=hl i σ H hi p;by_cases hlt:i<xs.length
 . refine .inr ⟨⟨xs,xs[i],q,by simp[hlt]⟩,Pv (i+1),fun σ' H' p'=>⟨xs.length-(i+1),by omega,O,hlt,p'⟩,fun x H' y=>?_⟩
   obtain⟨e,y⟩:=y;subst e;exact hs i x σ _ (y xs q) p
 . have e:i=xs.length:=by omega
   subst e;exact .inl ⟨⟨xs,q,Nat.le_refl _⟩,hd σ H p⟩
theorem vw{lo:Int}{n:Nat}{g:TG}{tb:TS}{D:qMm}{σ:St}{H:Hp}(Pv:Nat->St->Hp->Prop)(h0:Pv 0 σ H)
 (hs:∀i σ H,i<n->Pv i σ H->g (.int (lo+i)) σ H fun σ2 H2=>tb {D with nx:=Pv (i+1),ct:=Pv (i+1),bk:=D.nx} σ2 H2) (hd:∀σ H,Pv n σ H->D.nx σ H):
 ∃W:Nat->Nat->St->Hp->Prop,(∃m,W 0 m σ H)/\∀i m σ H,W i m σ H->
  ((Itr lo n).stop i H/\D.nx σ H)\/((Itr lo n).go i H/\∃N:St->Hp->Prop,(∀σ' H',N σ' H'->∃m',m'<m/\W (i+1) m' σ' H')/\∀x H',(Itr lo n).yld i H x H'->g x σ H' fun σ2 H2=>tb {D with nx:=N,ct:=N,bk:=D.nx} σ2 H2):=by
 refine⟨fun i m σ H=>m=n-i/\i<=n/\Pv i σ H,⟨n,by simp,Nat.zero_le _,h0⟩,?_⟩;rintro i m σ H ⟨rfl,hi,p⟩;by_cases hlt:i<n
 . refine .inr ⟨hlt,Pv (i+1),fun σ' H' p'=>⟨n-(i+1),by omega,O,hlt,p'⟩,fun x H' y=>?_⟩
   obtain⟨e,y⟩:=y;subst e y;exact hs i σ _ hlt p
 . have e:i=n:=by omega
   subst e;exact .inl ⟨Nat.le_refl _,hd σ H p⟩
theorem qMc{c:TT}{tb:TS}{D:qMm}{σ:St}{H:Hp}(Pv:St->Hp->Prop)(μ:St->Hp->Nat)(h0:Pv σ H)
 (hs:∀σ H,Pv σ H->c σ H fun b H1=>if b=true then tb {D with nx:=fun σ' H'=>Pv σ' H'/\μ σ' H'<μ σ H,ct:=fun σ' H'=>Pv σ' H'/\μ σ' H'<μ σ H,bk:=D.nx} σ H1 else D.nx σ H1)
 (mono:∀σ H Q Q',(∀b H1,Q b H1->Q' b H1)->c σ H Q->c σ H Q'):qSp c tb D σ H:=by
 refine⟨fun m σ H=>m=μ σ H/\Pv σ H,⟨_,O,h0⟩,?_⟩;rintro m σ H ⟨rfl,p⟩;refine mono σ H _ _ (fun b H1 q=>?_) (hs σ H p);cases b with
 |true=>exact⟨_,fun σ' H' ⟨p',l⟩=>⟨_,l,rfl,p'⟩,q⟩
 |false=>exact q
abbrev R2:=V->V->Hp->VK->Prop
def OpR(X:Cx)(f:Value->Value->Sem Value)(r:R2):Prop:=
 ∀(pins:List (Addr×Obj)) (s:Shared) (σ:St) (H:Hp) (x y:V) (v u:Value) (Q:VK),Inv X pins σ H s->RelV x v->RelV y u->r x y H Q->
  wpAny (model X.prog X.w) X.A (f v u) (EP X pins σ Q) X.xe s
def UnR(X:Cx)(f:Value->Sem Value)(r:V->Hp->VK->Prop):Prop:=
 ∀(pins:List (Addr×Obj)) (s:Shared) (σ:St) (H:Hp) (x:V) (v:Value) (Q:VK),Inv X pins σ H s->RelV x v->r x H Q->
  wpAny (model X.prog X.w) X.A (f v) (EP X pins σ Q) X.xe s
def wc(X:Cx)(f:Value)(r:List V->Hp->VK->Prop):Prop:=
 ∀(pins:List (Addr×Obj)) (s:Shared) (σ:St) (H:Hp) (xs:List V) (us:List Value) (Q:VK),Inv X pins σ H s->Vals xs us->r xs H Q->
  wpAny (model X.prog X.w) X.A (call f us) (EP X pins σ Q) X.xe s
def tOp(r:R2)(ta tb:TE):TE:=fun σ H Q=>ta σ H fun x H1=>tb σ H1 fun y H2=>r x y H2 Q
def tUn(r:V->Hp->VK->Prop)(ta:TE):TE:=fun σ H Q=>ta σ H fun x H1=>r x H1 Q
inductive rI(C:Int->Int->Prop)(g:Int->Int->V)(x:V)(y:V)(H:Hp)(Q:VK):Prop
|mk i j (_:x=.int i) (_:y=.int j) (_:C i j) (_:Q (g i j) H)
inductive rI0(g:Int->Int->V)(x:V)(y:V)(H:Hp)(Q:VK):Prop
|mk i j (_:x=.int i) (_:y=.int j) (_:Q (g i j) H)
inductive rU(g:Int->V)(x:V)(H:Hp)(Q:VK):Prop
|mk i (_:x=.int i) (_:Q (g i) H)
section
variable{X:Cx}{a b c:Expr}{ta tb tc:TE}{pos:Pos}
theorem qW6(ha:PE X a ta)(hb:PE X b tb){pins:List (Addr×Obj)}{s:Shared}{σ:St}{H:Hp}{R:V->V->Hp->Prop}(I:Inv X pins σ H s)
 (h:ta σ H fun x H1=>tb σ H1 fun y H2=>R x y H2) {Q:Value->Shared->Prop} {f:Value->Value->Sem Value}
 (hf:∀v u s2 x y H2,Inv X pins σ H2 s2->RelV x v->RelV y u->R x y H2->wpAny (model X.prog X.w) X.A (f v u) Q X.xe s2):
 wpAny (model X.prog X.w) X.A (eval a X.env) (fun v s₁=>wpAny (model X.prog X.w) X.A (eval b X.env) (fun u s₂=>wpAny (model X.prog X.w) X.A (f v u) Q X.xe s₂) X.xe s₁) X.xe s:=by
 refine thn (ha pins s σ H _ I h) fun v s1 ⟨x,H1,I1,r1,q1⟩=>?_;refine thn (hb pins s1 σ H1 _ I1 q1) fun u s2 ⟨y,H2,I2,r2,q2⟩=>?_;exact hf v u s2 x y H2 I2 r1 r2 q2
theorem qQ{op:Operator}{r:R2}(ho:OpR X (binaryOp op) r)(ha:PE X a ta)(hb:PE X b tb):PE X (.BinOp a op b pos) (tOp r ta tb):=by intro pins s σ H Q I h;exact wpAny_BinOp (qW6 ha hb I h fun v u s2 x y H2 I2 rx ry q=>ho pins s2 σ H2 x y v u Q I2 rx ry q)
theorem qAs{op:UnaryOp}{r:V->Hp->VK->Prop}(ho:UnR X (unaryOp op) r)(ha:PE X a ta):PE X (.UnaryOp op a pos) (tUn r ta):=by intro pins s σ H Q I h;exact UnaryOp_ (thn (ha pins s σ H _ I h) fun v s1 ⟨x,H1,I1,r1,q1⟩=>ho pins s1 σ H1 x v Q I1 r1 q1)
theorem opI{f:Value->Value->Sem Value}{C:Int->Int->Prop}{g:Int->Int->Int}
 (rule:∀(i j:Int) (t u:Tok) (s:Shared) (Q:Value->Shared->Prop) (E:Value->Shared->Prop),C i j->Q (.int (g i j) s.toks) {s with toks:=s.toks+1}->wpAny (model X.prog X.w) X.A (f (.int i t) (.int j u)) Q E s):
 OpR X f (rI C fun i j=>.int (g i j)):=by
 intro pins s σ H x y v u Q I rx ry h;obtain⟨i,j,rfl,rfl,hc,q⟩:=h;obtain⟨t,rfl⟩:=rx;obtain⟨t',rfl⟩:=ry;exact rule i j t t' s _ _ hc ⟨.int (g i j),H,I.tok _,⟨_,O⟩,q⟩
theorem qYe{f:Value->Value->Sem Value}{g:Int->Int->Int}
 (rule:∀(i j:Int) (t u:Tok) (s:Shared) (Q:Value->Shared->Prop) (E:Value->Shared->Prop),Q (.int (g i j) s.toks) {s with toks:=s.toks+1}->wpAny (model X.prog X.w) X.A (f (.int i t) (.int j u)) Q E s):
 OpR X f (rI0 fun i j=>.int (g i j)):=by
 intro pins s σ H x y v u Q I rx ry h;obtain⟨i,j,rfl,rfl,q⟩:=h;obtain⟨t,rfl⟩:=rx;obtain⟨t',rfl⟩:=ry;exact rule i j t t' s _ _ ⟨.int (g i j),H,I.tok _,⟨_,O⟩,q⟩
theorem qWf{f:Value->Value->Sem Value}{g:Int->Int->Bool}
 (rule:∀(i j:Int) (t u:Tok) (s:Shared) (Q:Value->Shared->Prop) (E:Value->Shared->Prop),Q (.bool (g i j)) s->wpAny (model X.prog X.w) X.A (f (.int i t) (.int j u)) Q E s):
 OpR X f (rI0 fun i j=>.bl (g i j)):=by
 intro pins s σ H x y v u Q I rx ry h;obtain⟨i,j,rfl,rfl,q⟩:=h;obtain⟨t,rfl⟩:=rx;obtain⟨t',rfl⟩:=ry;exact rule i j t t' s _ _ ⟨.bl (g i j),H,I,O,q⟩
def qYf(i j:Int):Prop:=0<=j/\j<=1000000/\i.natAbs<2 ^ 64
def CMul(i j:Int):Prop:=(-(2 ^ 64)<i/\i<2 ^ 64)\/(-(2 ^ 64)<j/\j<2 ^ 64)
theorem CMul.ok{i j:Int}(h:CMul i j):IntMulOk i j:=by
 rcases h with ⟨h1,h2⟩|⟨h1,h2⟩
 . exact .of_left (intBits_le_64 h1 h2)
 . exact .of_right (intBits_le_64 h1 h2)
theorem qr:OpR X (binaryOp .Add) (rI0 fun i j=>.int (i+j)):=qYe fun _ _ _ _ _ _ _ q=>add_int q
theorem jS:OpR X (binaryOp .Sub) (rI0 fun i j=>.int (i-j)):=qYe fun _ _ _ _ _ _ _ q=>sub_int q
theorem qm:OpR X (binaryOp .Mod) (rI (fun _ j=>j≠0) fun i j=>.int (i.fmod j)):=opI fun _ _ _ _ _ _ _ hc q=>mod_int' hc q
theorem qSi:OpR X (binaryOp .Pow) (rI qYf fun i j=>.int (i ^ j.toNat)):=opI fun _ _ _ _ _ _ _ hc q=>pow_int_small hc.1 hc.2.1 hc.2.2 q
theorem unI{f:Value->Sem Value}{g:Int->Int}
 (rule:∀(i:Int) (t:Tok) (s:Shared) (Q:Value->Shared->Prop) (E:Value->Shared->Prop),Q (.int (g i) s.toks) {s with toks:=s.toks+1}->wpAny (model X.prog X.w) X.A (f (.int i t)) Q E s):
 UnR X f (rU fun i=>.int (g i)):=by
 intro pins s σ H x v Q I rx h;obtain⟨i,rfl,q⟩:=h;obtain⟨t,rfl⟩:=rx;exact rule i t s _ _ ⟨.int (g i),H,I.tok _,⟨_,O⟩,q⟩
theorem ze:UnR X (unaryOp .USub) (rU fun i=>.int (-i)):=unI fun _ _ _ _ _ q=>neg_int q
end
def qX7:V->V->Bool
 |.non,.non=>true|.non,.int _=>true|.int _,.non=>true|.non,.bl _=>true|.bl _,.non=>true|.non,.str _=>true|.str _,.non=>true
 |.int _,.int _=>true|.bl _,.bl _=>true|.str _,.str _=>true|.byt _,.byt _=>true
 |.int _,.str _=>true|.str _,.int _=>true|.bl _,.str _=>true|.str _,.bl _=>true
 |_,_=>false
inductive rEq(x:V)(y:V)(H:Hp)(Q:VK):Prop
|mk (_:qX7 x y=true) (_:Q (.bl (decide (x=y))) H)
inductive rNe(x:V)(y:V)(H:Hp)(Q:VK):Prop
|mk (_:qX7 x y=true) (_:Q (.bl (!decide (x=y))) H)
theorem qO0{i j:Int}:decide (V.int i=V.int j)=(i==j):=by rw[Bool.eq_iff_iff];simp
theorem qSn{i j:Bool}:decide (V.bl i=V.bl j)=(i==j):=by rw[Bool.eq_iff_iff];simp
theorem qOq{i j:Str}:decide (V.str i=V.str j)=(i==j):=by rw[Bool.eq_iff_iff];simp
theorem qO9{i j:Array UInt8}:decide (V.byt i=V.byt j)=(i.toList==j.toList):=by rw[Bool.eq_iff_iff];cases i;cases j;simp
section
variable{X:Cx}{a b c:Expr}{ta tb tc:TE}{pos:Pos}
theorem jT{pins:List (Addr×Obj)}{σ:St}{H:Hp}{s:Shared}{Q:VK}{k k':Bool}(I:Inv X pins σ H s)(q:Q (.bl k) H)(e:k=k'):EP X pins σ Q (.bool k') s:=by subst e;exact⟨.bl k,H,I,O,q⟩
theorem ja:OpR X (compareOp .Eq) rEq:=by
 intro pins s σ H x y v u Q I rx ry h;obtain⟨hs,q⟩:=h;cases x with
 |non=>
  cases rx;cases y with
  |non=>cases ry;exact PySem.EqNone.eq_none_none (jT I q (by simp))
  |bl j=>cases ry;exact PySem.EqNone.eq_none_bool (jT I q (by simp))
  |int j=>obtain⟨t',rfl⟩:=ry;exact PySem.EqNone.eq_none_int (jT I q (by simp))
  |str j=>obtain⟨t',rfl⟩:=ry;exact PySem.EqNone.eq_none_str (jT I q (by simp))
  |_=>exact absurd (show false=true from hs) Bool.false_ne_true
 |bl i=>
  cases rx;cases y with
  |non=>cases ry;exact PySem.EqNone.eq_bool_none (jT I q (by simp))
  |bl j=>cases ry;exact eq_bool (jT I q qSn)
  |str j=>obtain⟨t',rfl⟩:=ry;exact PySem.EqMixed.eq_bool_str (jT I q (by simp))
  |_=>exact absurd (show false=true from hs) Bool.false_ne_true
 |int i=>
  obtain⟨t,rfl⟩:=rx;cases y with
  |non=>cases ry;exact PySem.EqNone.eq_int_none (jT I q (by simp))
  |int j=>obtain⟨t',rfl⟩:=ry;exact eq_int (jT I q qO0)
  |str j=>obtain⟨t',rfl⟩:=ry;exact PySem.EqMixed.eq_int_str (jT I q (by simp))
  |_=>exact absurd (show false=true from hs) Bool.false_ne_true
 |str i=>
  obtain⟨t,rfl⟩:=rx;cases y with
  |non=>cases ry;exact PySem.EqNone.eq_str_none (jT I q (by simp))
  |bl j=>cases ry;exact PySem.EqMixed.eq_str_bool (jT I q (by simp))
  |int j=>obtain⟨t',rfl⟩:=ry;exact PySem.EqMixed.eq_str_int (jT I q (by simp))
  |str j=>obtain⟨t',rfl⟩:=ry;exact eq_str (jT I q qOq)
  |_=>exact absurd (show false=true from hs) Bool.false_ne_true
 |byt i=>
  obtain⟨t,rfl⟩:=rx;cases y with
  |byt j=>obtain⟨t',rfl⟩:=ry;exact PySem.W.eq_bytes (jT I q qO9)
  |_=>exact absurd (show false=true from hs) Bool.false_ne_true
 |_=>cases y <;> exact absurd (show false=true from hs) Bool.false_ne_true
theorem zD:OpR X (compareOp .NotEq) rNe:=by
 intro pins s σ H x y v u Q I rx ry h;obtain⟨hs,q⟩:=h;cases x with
 |non=>
  cases rx;cases y with
  |non=>cases ry;exact PySem.EqNone.ne_none_none (jT I q (by simp))
  |bl j=>cases ry;exact PySem.EqNone.ne_none_bool (jT I q (by simp))
  |int j=>obtain⟨t',rfl⟩:=ry;exact PySem.EqNone.ne_none_int (jT I q (by simp))
  |str j=>obtain⟨t',rfl⟩:=ry;exact PySem.EqNone.ne_none_str (jT I q (by simp))
  |_=>exact absurd (show false=true from hs) Bool.false_ne_true
 |bl i=>
  cases rx;cases y with
  |non=>cases ry;exact PySem.EqNone.ne_bool_none (jT I q (by simp))
  |bl j=>cases ry;exact ne_bool (jT I q (congrArg not qSn))
  |str j=>obtain⟨t',rfl⟩:=ry;exact PySem.EqMixed.ne_bool_str (jT I q (by simp))
  |_=>exact absurd (show false=true from hs) Bool.false_ne_true
 |int i=>
  obtain⟨t,rfl⟩:=rx;cases y with
  |non=>cases ry;exact PySem.EqNone.ne_int_none (jT I q (by simp))
  |int j=>obtain⟨t',rfl⟩:=ry;exact ne_int (jT I q (congrArg not qO0))
  |str j=>obtain⟨t',rfl⟩:=ry;exact PySem.EqMixed.ne_int_str (jT I q (by simp))
  |_=>exact absurd (show false=true from hs) Bool.false_ne_true
 |str i=>
  obtain⟨t,rfl⟩:=rx;cases y with
  |non=>cases ry;exact PySem.EqNone.ne_str_none (jT I q (by simp))
  |bl j=>cases ry;exact PySem.EqMixed.ne_str_bool (jT I q (by simp))
  |int j=>obtain⟨t',rfl⟩:=ry;exact PySem.EqMixed.ne_str_int (jT I q (by simp))
  |str j=>obtain⟨t',rfl⟩:=ry;exact ne_str (jT I q (congrArg not qOq))
  |_=>exact absurd (show false=true from hs) Bool.false_ne_true
 |byt i=>
  obtain⟨t,rfl⟩:=rx;cases y with
  |byt j=>obtain⟨t',rfl⟩:=ry;exact PySem.W.ne_bytes (jT I q (congrArg not qO9))
  |_=>exact absurd (show false=true from hs) Bool.false_ne_true
 |_=>cases y <;> exact absurd (show false=true from hs) Bool.false_ne_true
theorem zy:OpR X (compareOp .Lt) (rI0 fun i j=>.bl (decide (i<j))):=qWf fun _ _ _ _ _ _ _ q=>lt_int q
theorem qNa:OpR X (compareOp .LtE) (rI0 fun i j=>.bl (decide (i<=j))):=qWf fun _ _ _ _ _ _ _ q=>le_int q
theorem wL:OpR X (compareOp .Gt) (rI0 fun i j=>.bl (decide (j<i))):=qWf fun _ _ _ _ _ _ _ q=>gt_int q
theorem qCr:OpR X (compareOp .GtE) (rI0 fun i j=>.bl (decide (j<=i))):=qWf fun _ _ _ _ _ _ _ q=>ge_int q
theorem OpR.or{f:Value->Value->Sem Value}{r r':R2}(h:OpR X f r)(h':OpR X f r'):OpR X f (fun x y H Q=>r x y H Q\/r' x y H Q):=by
 intro pins s σ H x y v u Q I rx ry q;rcases q with q|q
 . exact h pins s σ H x y v u Q I rx ry q
 . exact h' pins s σ H x y v u Q I rx ry q
theorem qP(b:Expr){op:CmpOp}(h:op≠ .In:=by decide)(h2:op≠ .NotIn:=by decide):behindInMarks op b=false:=by
 have e1:(op==CmpOp.In)=false:=by cases op <;> first|rfl|exact absurd rfl h
 have e2:(op==CmpOp.NotIn)=false:=by cases op <;> first|rfl|exact absurd rfl h2
 cases b <;> simp[behindInMarks,e1,e2]
theorem jL{op:CmpOp}{r:R2}(ho:OpR X (compareOp op) r)(ha:PE X a ta)(hb:PE X b tb)(hm:behindInMarks op b=false):PE X (.Compare a [op] [b] pos) (tOp r ta tb):=by intro pins s σ H Q I h;exact wpAny_Compare1 (qW6 ha hb I h fun v u s2 x y H2 I2 rx ry q=>ho pins s2 σ H2 x y v u Q I2 rx ry q) hm
inductive qVv(Q:Bool->Hp->Prop)(x:V)(H':Hp):Prop
|mk k (_:x=.bl k) (_:Q k H')
def qXy(t:TE):TT:=fun σ H Q=>t σ H fun x H'=>qVv Q x H'
theorem qJ{op:CmpOp}{r:R2}(ho:OpR X (compareOp op) r)(ha:PE X a ta)(hb:PE X b tb)(hm:behindInMarks op b=false):PT X (.Compare a [op] [b] pos) (qXy (tOp r ta tb)):=by
 intro pins s σ H Q I h;refine wpAny_isTrue_Compare1 (thn (ha pins s σ H _ I h) fun v s1 ⟨x,H1,I1,r1,q1⟩=>thn (hb pins s1 σ H1 _ I1 q1) fun u s2 ⟨y,H2,I2,r2,q2⟩=>
  thn (ho pins s2 σ H2 x y v u _ I2 r1 r2 q2) fun c s3 ⟨z,H3,I3,r3,k,e,q3⟩=>?_) hm
 subst e;cases r3;exact wpAny_truthy_bool ⟨H3,I3,q3⟩
theorem qId:(sizeLine:Nat)<2 ^ 63:=by rw[sizeLine_eq];decide
theorem qJl{x:V}{us:List Value}(r:Vals [x] us):∃u,us=[u]/\RelV x u:=by
 cases r with
 |cons r1 r2=>cases r2;exact⟨_,rfl,r1⟩
theorem qRp{x y:V}{us:List Value}(r:Vals [x,y] us):∃u w',us=[u,w']/\RelV x u/\RelV y w':=by
 cases r with
 |cons r1 r2=>
  cases r2 with
  |cons r3 r4=>cases r4;exact⟨_,_,rfl,r1,r3⟩
theorem vB:wc X (.builtin "abs") (fun xs H Q=> ∃i,xs=[.int i]/\Q (.int (if i<0 then-i else i)) H):=by intro pins s σ H xs us Q I r h;obtain⟨i,rfl,q⟩:=h;obtain⟨u,rfl,t,rfl⟩:=qJl r;exact call_abs_int fun u tk=>⟨.int (if i<0 then-i else i),H,I.tok _,⟨_,O⟩,q⟩
theorem qA1(hc:X.calm=true):wc X (.builtin "max") (fun xs H Q=> ∃i j,xs=[.int i,.int j]/\Q (.int (if j>i then j else i)) H):=by
 intro pins s σ H xs us Q I r h;obtain⟨i,j,rfl,q⟩:=h;obtain⟨u,w',rfl,⟨t,rfl⟩,⟨t',rfl⟩⟩:=qRp r;refine max_two_ints (I.ok.hd hc) fun h' tk k=>⟨_,H,I.kept k,?_,q⟩;by_cases hj:j>i
 . rw[if_pos hj,if_pos hj];exact⟨_,rfl⟩
 . rw[if_neg hj,if_neg hj];exact⟨_,rfl⟩
theorem zQ(hc:X.calm=true):wc X (.builtin "min") (fun xs H Q=> ∃i j,xs=[.int i,.int j]/\Q (.int (if j<i then j else i)) H):=by
 intro pins s σ H xs us Q I r h;obtain⟨i,j,rfl,q⟩:=h;obtain⟨u,w',rfl,⟨t,rfl⟩,⟨t',rfl⟩⟩:=qRp r;refine min_two_ints (I.ok.hd hc) fun h' tk k=>⟨_,H,I.kept k,?_,q⟩;by_cases hj:j<i
 . rw[if_pos hj,if_pos hj];exact⟨_,rfl⟩
 . rw[if_neg hj,if_neg hj];exact⟨_,rfl⟩
end
structure ObjM(h:Heap)(x dx C:Addr)(mA:Str->Option Value):Prop where
 obj:h.get? x=some (PySem.W.instObj C dx)
 ns:h.Ns1 dx mA
 ne:dx≠x
theorem qOz{h:Heap}{dx:Addr}{mA:Str->Option Value}(n:h.Ns1 dx mA):∃od,h.get? dx=some od/\∀name,PySem.W.lookIn name od=some (mA name):=by
 obtain⟨o,es,ep,ho,hd,hk,_,hm⟩:=n;refine⟨o,ho,fun name=>?_⟩;have e:=hm name;unfold nsFind findBy at e;rw[<-Array.find?_toList]at e;unfold PySem.W.lookIn;rw[hd];dsimp only;split
 . rename_i y q
   rw[q]at e;exact congrArg some e
 . rename_i q
   rw[q]at e;have a:es.toList.any (·.refKey)=false:=by rw[List.any_eq_false];intro y hy;obtain⟨z,t,hkey⟩:=hk y (Array.mem_toList_iff.mp hy);simp[DictEntry.refKey,hkey]
   have a':¬es.toList.any (·.refKey)=true:=by rw[a];exact Bool.false_ne_true
   rw[if_neg a'];exact congrArg some e
theorem ObjM.look{h:Heap}{x dx C:Addr}{mA:Str->Option Value}(I:ObjM h x dx C mA):∃od,PySem.W.InstAt h x (PySem.W.instObj C dx) C (some od)/\∀name,PySem.W.lookIn name od=some (mA name):=
 let ⟨od,ho,hl⟩:=qOz I.ns
 ⟨od,⟨I.obj,rfl,rfl,ho⟩,hl⟩
theorem RelO.some_of{v:V}{o:Option Value}(r:RelO (some v) o):∃u,o=some u/\RelV v u:=by
 cases o with
 |none=>exact(show False from r).elim
 |some u=>exact⟨u,rfl,r⟩
section
variable{P:Program}{w:World}{H H':Hp}{h h':Heap}{a C dx:Addr}{fs fs':List (Str×V)}
theorem qSy(hok:HOk P w H h)(e:H a=some (.ins C dx fs)):∃mA,ObjM h a dx C mA/\(∀f,RelO (fs.lookup f) (mA f))/\PySem.Within mA (fs.map (·.1))/\fs.length<=1000/\H dx=some (.own a):=by obtain⟨d,z,ne,ob,mA,n,r,q⟩:=(show ObjOk P w H h a (.ins C dx fs)from hok a _ e);exact⟨mA,⟨ob,n,ne⟩,r,q,z,d⟩
end
structure Cls(K:PySem.W.Frag)(C:Addr):Prop where
 pg:PySem.W.plainGet K C Str.empty=true
 hd:PySem.W.hasDictIn K C=true
 po:PySem.W.plainOver K C=true
 sa:PySem.W.findIn K (.ref C) "__setattr__"=some (some (.builtin "object.__setattr__"))
theorem Cls.get{K:PySem.W.Frag}{C:Addr}(c:Cls K C)(f:Str):PySem.W.plainGet K C f=true:=c.pg
section
variable{X:Cx}{pins:List (Addr×Obj)}{σ:St}{H:Hp}{s:Shared}{a C dx:Addr}{fs:List (Str×V)}{f:Str}{v:V}{A:Around}{E:Value->Shared->Prop}
theorem Inv.made(I:Inv X pins σ H s):Inv X pins σ (upd (upd H s.heap.objs.size (.own (s.heap.objs.size+1))) (s.heap.objs.size+1) (.ins C s.heap.objs.size []))
 {s with heap:=(s.heap.push PySem.W.emptyDict).push (PySem.W.instObj C s.heap.objs.size)}:=by
 have e1:(s.heap.push PySem.W.emptyDict).get? s.heap.objs.size=some PySem.W.emptyDict:=Heap.get?_push_size s.heap rfl;have e2:((s.heap.push PySem.W.emptyDict).push (PySem.W.instObj C s.heap.objs.size)).get? (s.heap.objs.size+1)=some (PySem.W.instObj C s.heap.objs.size):=by
  have:=Heap.get?_push_size (s.heap.push PySem.W.emptyDict) (o:=PySem.W.instObj C s.heap.objs.size) rfl
  rwa [Heap.size_push]at this
 have e3:(s.heap.push PySem.W.emptyDict).Ns s.heap.objs.size (fun _=>none):=⟨PySem.W.emptyDict,#[],_,e1,rfl,(fun e he=>absurd he (by simp)),fun _=>rfl⟩;have I1:=I.laid (a:=s.heap.objs.size) (o:=.own (s.heap.objs.size+1)) (h':=s.heap.push PySem.W.emptyDict) (t':=s.toks) (fun b u q=>Heap.get?_push_of_some _ q) (Nat.le_refl _) ⟨_,e1⟩;refine I1.laid (a:=s.heap.objs.size+1) (o:=.ins C s.heap.objs.size []) (t':=s.toks) (fun b u q=>Heap.get?_push_of_some _ q) (Nat.le_of_eq (Heap.size_push _ _)) ?_;have ne:s.heap.objs.size≠s.heap.objs.size+1:=Nat.ne_of_lt (Nat.lt_succ_self _);refine⟨by rw[qX ne,qD],Nat.zero_le _,ne,e2,fun _=>none,(Heap.Ns1.of_empty e3).at fun o q=>Heap.get?_push_of_some _ q,fun _=>True.intro,fun y hy=>absurd rfl hy⟩
theorem qTn{prog:Program}{w:World}{env:Env}{e:Expr}{f:Str}{pos:Pos}{s:Shared}{Q:Value->Shared->Prop}(hb:attributeBase e f env (eval e env)=eval e env)
 (h:wpAny (model prog w) A (eval e env) (fun o s₁=>wpAny (model prog w) A (getAttr o f true) Q E s₁) E s):wpAny (model prog w) A (eval (.Attribute e f pos) env) Q E s:=
 Attribute_any_ h (by rw[arm_eval_Attribute,hb])
end
section
variable{X:Cx}{pins:List (Addr×Obj)}{σ:St}{H:Hp}{s:Shared}{A:Around}{E:Value->Shared->Prop}{Q:Value->Shared->Prop}{c:Value}{b:Bool}
inductive qNj(K:PySem.W.Frag)(H:Hp):V->Value->Prop where
 |non:qNj K H .non (.type "NoneType")
 |bl (x:Bool):qNj K H (.bl x) (.type "bool")
 |int (i:Int):qNj K H (.int i) (.type "int")
 |str (x:Str):qNj K H (.str x) (.type "str")
 |flt (x:UInt64):qNj K H (.flt x) (.type "float")
 |lst {a:Addr} {xs:List V} (e:H a=some (.lst xs)):qNj K H (.ref a) (.type "list")
 |frz {a:Addr} {o:Obj} {xs:List V} (e:H a=some (.frz o (.lst xs))):qNj K H (.ref a) (.type "list")
 |tup {a:Addr} {xs:List V} (e:H a=some (.tup xs)):qNj K H (.ref a) (.type "tuple")
 |dK {a:Addr} {kvs:List (Key×V)} (e:H a=some (.dK kvs)):qNj K H (.ref a) (.type "dict")
 |dT {a:Addr} {kvs:List (List Key×V)} (e:H a=some (.dT kvs)):qNj K H (.ref a) (.type "dict")
 |ins {a C dx:Addr} {fs:List (Str×V)} (e:H a=some (.ins C dx fs)) (cl:Cls K C) (ha:PySem.W.findIn K (.ref C) "__class__"=some (some (.builtin "object.__class__")))
  (hn:PySem.W.specialIn K (.builtin "object.__class__") "__get__"=some (some (.builtin "getset_descriptor.__get__"))) (htk:PySem.W.takesIn K (.builtin "object.__class__")=some true)
  (hm:PySem.W.mroIn K C (.type "object")=some true):qNj K H (.ref a) (.ref C)
theorem qJv{x:V}{u t:Value}(I:Inv X pins σ H s)(rx:RelV x u)(ty:qNj X.K H x t)(e:PySem.W.kitOne X.K t c=some b)(h:∀tk,Q (.bool b) {s with toks:=tk}):
 wpAny (model X.prog X.w) A (call (.builtin "isinstance") [u,c]) Q E s:=by
 cases ty with
 |non=>cases (show u=Value.none from rx);exact PySem.W.kia_one PySem.W.kitx_none I.kIn True.intro e (fun z=>nomatch z) h
 |bl y=>cases (show u=Value.bool y from rx);exact PySem.W.kia_one PySem.W.kitx_bool I.kIn True.intro e (fun z=>nomatch z) h
 |int i=>obtain⟨t,q⟩:=(show ∃t,u=Value.int i t from rx);cases q;exact PySem.W.kia_one PySem.W.kitx_int I.kIn True.intro e (fun z=>nomatch z) h
 |str y=>obtain⟨t,q⟩:=(show ∃t,u=Value.str y t from rx);cases q;exact PySem.W.kia_one PySem.W.kitx_str I.kIn True.intro e (fun z=>nomatch z) h
 |flt y=>obtain⟨t,q⟩:=(show ∃t,u=Value.float y t from rx);cases q;exact PySem.W.kia_one PySem.W.kitx_float I.kIn True.intro e (fun z=>nomatch z) h
 | @lst a xs ea=>
  cases (show u=Value.ref a from rx);obtain⟨_,_,n,_,h1⟩:=(show ObjOk X.prog X.w H s.heap a (.lst xs)from I.hok a _ ea);exact PySem.W.kia_one PySem.W.kitx_list I.kIn ⟨_,h1,O⟩ e (fun z=>nomatch z) h
 | @frz a ob xs ea=>
  cases (show u=Value.ref a from rx);obtain⟨_,_,_,n,_,h1⟩:=(show ObjOk X.prog X.w H s.heap a (.frz ob (.lst xs))from I.hok a _ ea);exact PySem.W.kia_one PySem.W.kitx_list I.kIn ⟨_,h1,O⟩ e (fun z=>nomatch z) h
 | @tup a xs ea=>
  cases (show u=Value.ref a from rx);obtain⟨_,_,_,p⟩:=(show ObjOk X.prog X.w H s.heap a (.tup xs)from I.hok a _ ea);obtain⟨o,h1,h2,_⟩:=p;exact PySem.W.kia_one PySem.W.kitx_tuple I.kIn ⟨o,h1,h2⟩ e (fun z=>nomatch z) h
 | @dK a kvs ea=>
  cases (show u=Value.ref a from rx);obtain⟨_,_,vs,_,p⟩:=(show ObjOk X.prog X.w H s.heap a (.dK kvs)from I.hok a _ ea);obtain⟨o,es,ep,h1,h2,_⟩:=p;exact PySem.W.kia_one PySem.W.kitx_dict I.kIn ⟨o,h1,h2.1⟩ e (fun z=>nomatch z) h
 | @dT a kvs ea=>
  cases (show u=Value.ref a from rx);obtain⟨_,_,xs,_,o,es,ep,h1,h2,_⟩:=(show ObjOk X.prog X.w H s.heap a (.dT kvs)from I.hok a _ ea);exact PySem.W.kia_one PySem.W.kitx_dict I.kIn ⟨o,h1,h2.1⟩ e (fun z=>nomatch z) h
 | @ins a C dx fs ea cl ha hn htk hm=>
  cases (show u=Value.ref a from rx);obtain⟨mA,O9,_⟩:=qSy I.hok ea;obtain⟨od,J,_⟩:=O9.look;exact PySem.W.kia_one (PySem.W.kitx_own (cl.get _) cl.hd ha hn htk hm) I.kIn J e (fun z=>nomatch z) h
end
structure Room(k:Nat)(A:Around):Prop where
 hd:A.handled=none
 dp:A.depth+3*k+5<recursionLimit
 un:A.units+16*k+200<cLine
theorem Room.mono{j k:Nat}{A:Around}(r:Room k A)(h:j<=k):Room j A:=⟨r.hd,by have:=r.dp;omega,by have:=r.un;omega⟩
theorem Room.deeper{k:Nat}{A:Around}(r:Room (k+1) A)(env:Env):Room k (A.deeper env):=
 ⟨r.hd,by have:=r.dp;show A.depth+1+3*k+5<_;omega,by have:=r.un;show A.units+3+16*k+200<_;omega⟩
theorem Room.in1{k:Nat}{A:Around}(r:Room (k+1) A):Room k A.in1:=
 ⟨r.hd,by have:=r.dp;show A.depth+3*k+5<_;omega,by have:=r.un;show A.units+1+16*k+200<_;omega⟩
theorem qM7{A:Around}{C:Addr}{us:List Value}{kw:List (Str×Value)}:(A.under (.builtin "type.__call__" ⟨.ref C::us,kw⟩)).depth=A.depth+1:=by
 first|rfl|simp[Around.under,Code.weight,Code.isCreation,Code.isGuard,Code.isCaller,Code.frames,Code.isFrame,guardIds]
theorem qM5{A:Around}{C:Addr}{us:List Value}{kw:List (Str×Value)}:(A.under (.builtin "type.__call__" ⟨.ref C::us,kw⟩)).units=A.units+1:=by
 first|rfl|simp[Around.under,Code.cUnits,Code.frames,Code.isFrame]
theorem Room.make{k:Nat}{A:Around}(r:Room (k+1) A)(C:Addr)(us:List Value)(kw:List (Str×Value)):Room k (A.under (.builtin "type.__call__" ⟨.ref C::us,kw⟩)):=
 ⟨r.hd,by have:=r.dp;rw[qM7];omega,by have:=r.un;rw[qM5];omega⟩
theorem Room.depth{k:Nat}{A:Around}(r:Room k A):A.depth<recursionLimit:=by have:=r.dp;omega
theorem Room.units{k:Nat}{A:Around}(r:Room k A):A.units+64<cLine:=by have:=r.un;omega
theorem Room.units0{k:Nat}{A:Around}(r:Room k A):A.units<cLine:=by have:=r.un;omega
def qYt:TA:=fun _ H Q=>Q [] H
def qWq(ta:TE)(tr:TA):TA:=fun σ H Q=>ta σ H fun x H1=>tr σ H1 fun xs H2=>Q (x::xs) H2
section
variable{X:Cx}{e:Expr}{es:List Expr}{te:TE}{t:TA}{pos:Pos}
theorem qB:PA X [] qYt:=fun _ _ _ _ H Q I h=>Calls.spliced_nil ⟨[],H,I,.nil,h⟩
theorem qA(ha:PE X e te)(hr:PA X es t)(hs:starEach (e::es) X.env=(false,eval e X.env)::starEach es X.env:=by rfl):PA X (e::es) (qWq te t):=by intro pos pins s σ H Q I h;rw[hs];show wpAny _ _ (spliced ((false,eval e X.env)::backTo pos (starEach es X.env))) _ _ s;refine Calls.spliced_cons (thn (ha pins s σ H _ I h) fun u s1 ⟨x,H1,I1,r1,q1⟩=>?_);exact thn (hr pos pins s1 σ H1 _ I1 q1) fun us s2 ⟨xs,H2,I2,r2,q2⟩=>⟨x::xs,H2,I2,.cons r1 r2,q2⟩
inductive qX1(Q:VK)(xs:List V)(H1:Hp):Prop
|mk (_:xs.length<=sizeLine) (_:∀p,H1 p=none->Q (.ref p) (upd H1 p (.tup xs)))
def qY2(t:TA):TE:=fun σ H Q=>t σ H fun xs H1=>qX1 Q xs H1
inductive qXm(Q:VK)(xs:List V)(H1:Hp):Prop
|mk (_:xs.length<=sizeLine) (_:∀p,H1 p=none->Q (.ref p) (upd H1 p (.lst xs)))
def qY0(t:TA):TE:=fun σ H Q=>t σ H fun xs H1=>qXm Q xs H1
theorem ql{x1}(h:PA X es t):PE X (.Tuple es x1 pos) (qY2 t):=by intro pins s σ H Q I hq;refine wpAny_Tuple_spliced (thn (h pos pins s σ H _ I hq) fun us s1 ⟨xs,H1,I1,r,z,q⟩=>⟨by rw[<-r.length];exact z,?_⟩);have hf:H1 s1.heap.objs.size=none:=I1.hok.fresh (Nat.le_refl _);refine⟨.ref s1.heap.objs.size,upd H1 s1.heap.objs.size (.tup xs),I1.laid (t':=s1.toks) (fun b u e=>Heap.get?_push_of_some _ e) (Nat.le_refl _) ?_,O,q _ hf⟩;exact⟨z,us,r,⟨_,Heap.get?_push_size _ rfl,O,_,O⟩⟩
theorem jR(h:PA X es t):PE X (.List es pos) (qY0 t):=by intro pins s σ H Q I hq;refine wpAny_List_spliced (thn (h pos pins s σ H _ I hq) fun us s1 ⟨xs,H1,I1,r,z,q⟩=>⟨by rw[<-r.length];exact z,?_⟩);have hf:H1 s1.heap.objs.size=none:=I1.hok.fresh (Nat.le_refl _);refine⟨.ref s1.heap.objs.size,upd H1 s1.heap.objs.size (.lst xs),I1.laid (t':=s1.toks) (fun b u e=>Heap.get?_push_of_some _ e) (Nat.le_refl _) ?_,O,q _ hf⟩;exact⟨z,us,0,r,Heap.get?_push_size _ rfl⟩
end
abbrev Sp:=List V->Hp->VK->XK->Prop
abbrev CXT:=List Env->Hp->Shared->XK->Value->Shared->Prop
structure Env0(P:Program)(w:World)(K:PySem.W.Frag)(mg:Str->Option Value)(base:Heap)(A:Around)(outer:List Env)(s:Shared)(H:Hp):Prop where
 frames:A.frames=some outer
 mod:Mod K mg base
 bs:∀b o,base.get? b=some o->s.heap.get? b=some o/\H b=none
 bsz:base.objs.size<=s.heap.objs.size
 funs:s.heap.FunFrames base outer
 frf:∀b∈frs outer,H b=none
 hok:HOk P w H s.heap
 bare:AllBare s.gens
def CE(outer:List Env)(P:Program)(w:World)(H:Hp)(s:Shared)(Q:VK)(u:Value)(s':Shared):Prop:=
 ∃v H',s'.os=s.os/\AllBare s'.gens/\Un (frs outer) [] H H' s.heap s'.heap/\HOk P w H' s'.heap/\RelV v u/\Q v H'
def CR(CX:CXT)(outer:List Env)(P:Program)(w:World)(H:Hp)(s:Shared)(Q:VK)(E:XK)(r:Result)(s':Shared):Prop:=
 match r with
 |.ok (.ret u)=>CE outer P w H s Q u s'
 |.ok _=>False
 |.error e=>CX outer H s E e s'
structure FnOk(P:Program)(w:World)(K:PySem.W.Frag)(mg:Str->Option Value)(base:Heap)(CX:CXT)(k:Nat)(f:Addr)(fd:FuncData)(ps:List Str)(sp:Sp):Prop where
 len:∀vs H Q E,sp vs H Q E->vs.length=ps.length
 run:∀(A:Around) (outer:List Env) (s:Shared) (H:Hp) (args:Args) (us:List Value) (vs:List V) (Q:VK) (E:XK),Room k A->Env0 P w K mg base A outer s H->BindsTo s fd args (ps.zip us)->Vals vs us->sp vs H Q E->
  codeAny (model P w) A (.call (.ref f) args) (CR CX outer P w H s Q E) s
theorem FnOk.imp{P:Program}{w:World}{K:PySem.W.Frag}{mg:Str->Option Value}{base:Heap}{CX:CXT}{k:Nat}{f:Addr}{fd:FuncData}{ps:List Str}{sp sp':Sp}(F:FnOk P w K mg base CX k f fd ps sp)
 (h:∀vs H Q E,sp' vs H Q E->sp vs H Q E):FnOk P w K mg base CX k f fd ps sp':=
 ⟨fun vs H Q E q=>F.len vs H Q E (h _ _ _ _ q),fun A outer s H args us vs Q E hr he hb hv hs=>F.run A outer s H args us vs Q E hr he hb hv (h _ _ _ _ hs)⟩
theorem Env0.make{P:Program}{w:World}{K:PySem.W.Frag}{mg:Str->Option Value}{base:Heap}{A:Around}{outer:List Env}{s:Shared}{H:Hp}(e:Env0 P w K mg base A outer s H)(C:Addr)(us:List Value)(kw:List (Str×Value)):
 Env0 P w K mg base (A.under (.builtin "type.__call__" ⟨.ref C::us,kw⟩)) outer s H:=⟨by first|exact e.frames|(simpa[Around.under,Code.envs,Code.isFrame,pushEnvs]using e.frames),e.mod,e.bs,e.bsz,e.funs,e.frf,e.hok,e.bare⟩
section
variable{X:Cx}{pins:List (Addr×Obj)}{σ:St}{H:Hp}{s s':Shared}
theorem Inv.env0(I:Inv X pins σ H s):Env0 X.prog X.w X.K X.mg X.base X.A X.stack s H:=
 ⟨I.ok.frames,I.ok.mod,I.bs,Nat.le_trans I.ok.bsz I.sz,I.stack,I.stkFree,I.hok,I.bare⟩
theorem Inv.after{Q:VK}{u:Value}(I:Inv X pins σ H s)(h:CE X.stack X.prog X.w H s Q u s'):EP X pins σ Q u s':=by obtain⟨v,H',os,bare,un,hok,r,q⟩:=h;obtain⟨hh,g,d,t,os'⟩:=s';obtain rfl:os'=s.os:=os;exact⟨v,H',I.call (h':=hh) (g':=g) (d':=d) (t':=t) (ch:=[]) un hok bare (fun b z=>absurd z (by simp)),r,q⟩
end
def qT3(sp:Sp)(dvs:List V)(E:XK)(t:TA):TE:=fun σ H Q=>t σ H fun vs H1=>sp (vs++dvs) H1 Q E
def Binds(K:PySem.W.Frag)(fd:FuncData)(ps:List Str)(ds:List Value):Prop:=
 ∀(s:Shared) (us:List Value),K.In s.heap->(us++ds).length=ps.length->BindsTo s fd ⟨us,[]⟩ (ps.zip (us++ds))
theorem Binds.all{K:PySem.W.Frag}{fd:FuncData}{ps:List Str}(h:∀us:List Value,us.length=ps.length->bindArgs fd ⟨us,[]⟩=pure (ps.zip us)):Binds K fd ps []:=fun s us _ hl=>by rw[List.append_nil]at hl⊢;exact .of_eq (h us hl)
def qMh(CX:CXT)(X:Cx)(E:XK):Prop:= ∀(pins:List (Addr×Obj)) (σ:St) (H:Hp) (s:Shared) (e:Value) (s':Shared),Inv X pins σ H s->CX X.stack H s E e s'->X.xe e s'
section
variable{X:Cx}{CX:CXT}{k:Nat}{f C:Addr}{fd:FuncData}{ps:List Str}{sp:Sp}{dvs:List V}{ds:List Value}{E:XK}{x m:Str}{p pos apos:Pos}{e o:Expr}{es:List Expr}{ta:TE}{t:TA}
theorem qU3{pins:List (Addr×Obj)}{σ:St}{H:Hp}{s:Shared}{Q:VK}{us:List Value}{vs:List V}(F:FnOk X.prog X.w X.K X.mg X.base CX k f fd ps sp)(hr:Room k X.A)(hb:Binds X.K fd ps ds)(hd:Vals dvs ds)(hx:qMh CX X E)
 (I:Inv X pins σ H s) (r:Vals vs us) (h:sp (vs++dvs) H Q E):wpAny (model X.prog X.w) X.A (call (.ref f) us) (EP X pins σ Q) X.xe s:=by
 have r2:Vals (vs++dvs) (us++ds):=r.append hd;have hl:(us++ds).length=ps.length:=by rw[<-r2.length];exact F.len _ _ _ _ h
 refine wpAny_call (codeAny_mono (F.run X.A X.stack s H ⟨us,[]⟩ (us++ds) (vs++dvs) Q E hr I.env0 (hb s us I.kIn hl) r2 h) fun r s' hq=>?_);cases r with
 |error e=>exact hx pins σ H s e s' I hq
 |ok fl=>
  cases fl with
  |ret u=>exact I.after hq
  |next=>exact False.elim hq
  |brk=>exact False.elim hq
  |cont=>exact False.elim hq
theorem qP3(F:FnOk X.prog X.w X.K X.mg X.base CX k f fd ps sp)(hr:Room k X.A)(hg:Gl X x)(hm:X.mg x=some (.ref f))(hk:PySem.W.keepIn X.K (.ref f)=true)(hb:Binds X.K fd ps ds)(hd:Vals dvs ds)(hx:qMh CX X E)
 (ha:PA X (e::es) t) (hdb:(x==("__debug__":Str))=false:=by decide) (he:starEach (e::es) X.env=(false,eval e X.env)::starEach es X.env:=by rfl) (hpl:(backTo pos (starEach es X.env)).any (·.1)=false:=by rfl):
 PE X (.Call (.Name x p) (e::es) [] pos) (qT3 sp dvs E t):=by
 intro pins s σ H Q I h;refine wpAny_Call_Name_kw (wb I hg hm ?_ hdb);refine PySem.W.callWith_K (h₀:=X.base) I.ok.mod.kin hk (thn (ha pos pins s σ H _ I h) fun us s1 ⟨vs,H1,I1,r,q⟩=>⟨I1.kIn,?_⟩) he hpl;exact qU3 F hr hb hd hx I1 r q
end
structure qO(N P:List Str)(sc:Scope):Prop where
 kind:sc.kind=.function
 co:sc.isCoroutine=false
 gen:sc.isGenerator=false
 nd:N.Nodup
 pre:N.take P.length=P
 par:∀x∈P,sc.names.lookup x=some .local\/sc.names.lookup x=some .cell
 nofree:∀y∈sc.names,y.2≠ .free
theorem qJm{kindOf:Str->Option NameKind}{x:Str}:∀{binds:List (Str×Value)} {m:Str->Option Value},(∀v,(x,v)∉binds)->bindL kindOf binds m x=m x
 |[],_,_=>rfl
 |(n,v)::r,m,h=>by
  unfold bindL;rw[qJm fun w hw=>h w (List.mem_cons_of_mem _ hw)];split
  . have:x≠n:=by rintro rfl;exact h v List.mem_cons_self
    simp[this]
  . rfl
theorem qIt{kindOf:Str->Option NameKind}{x:Str}:∀{binds:List (Str×Value)} {m:Str->Option Value},(∀v,(x,v)∉binds)->bindC kindOf binds m x=m x
 |[],_,_=>rfl
 |(n,v)::r,m,h=>by
  unfold bindC;rw[qIt fun w hw=>h w (List.mem_cons_of_mem _ hw)];split
  . rfl
  . have:x≠n:=by rintro rfl;exact h v List.mem_cons_self
    simp[this]
theorem qJj{kindOf:Str->Option NameKind}{x:Str}{v:Value}:∀{P:List Str} {vs:List Value} {i:Nat} {m:Str->Option Value},P.Nodup->P[i]?=some x->vs[i]?=some v->kindOf x=some .local->
 bindL kindOf (P.zip vs) m x=some v
 |[],_,_,_,_,h,_,_=>by simp at h
 |_::_,[],_,_,_,_,h,_=>by simp at h
 |p::P,w::vs,0,m,nd,h1,h2,hk=>by simp at h1 h2;subst h1;subst h2;show bindL kindOf ((p,w)::P.zip vs) m p=_;unfold bindL;rw[qJm fun v hv=>(List.nodup_cons.mp nd).1 (List.of_mem_zip hv).1,if_pos hk];simp
 |p::P,w::vs,i+1,m,nd,h1,h2,hk=>by show bindL kindOf ((p,w)::P.zip vs) m x=_;unfold bindL;exact qJj (i:=i) (List.nodup_cons.mp nd).2 (by simpa using h1) (by simpa using h2) hk
theorem qH7{kindOf:Str->Option NameKind}{x:Str}{v:Value}:∀{P:List Str} {vs:List Value} {i:Nat} {m:Str->Option Value},P.Nodup->P[i]?=some x->vs[i]?=some v->kindOf x≠some .local->
 bindC kindOf (P.zip vs) m x=some v
 |[],_,_,_,_,h,_,_=>by simp at h
 |_::_,[],_,_,_,_,h,_=>by simp at h
 |p::P,w::vs,0,m,nd,h1,h2,hk=>by simp at h1 h2;subst h1;subst h2;show bindC kindOf ((p,w)::P.zip vs) m p=_;unfold bindC;rw[qIt fun v hv=>(List.nodup_cons.mp nd).1 (List.of_mem_zip hv).1,if_neg hk];simp
 |p::P,w::vs,i+1,m,nd,h1,h2,hk=>by show bindC kindOf ((p,w)::P.zip vs) m x=_;unfold bindC;exact qH7 (i:=i) (List.nodup_cons.mp nd).2 (by simpa using h1) (by simpa using h2) hk
def qGc(N:List Str)(vs:List V):St:=vs.map some++List.replicate (N.length-vs.length) none
def qQh(CX:CXT)(P:Program)(w:World)(K:PySem.W.Frag)(mg:Str->Option Value)(base:Heap)(N:List Str)(qual:Str)(scope:Scope)(f:Addr)(cd:Value)(A:Around)(outer:List Env)(s:Shared)(H:Hp)(E:XK):Cx where
 prog:=P
 w:=w
 K:=K
 mg:=mg
 base:=base
 A:=A.deeper (envOfC qual scope s.heap.objs.size f cd)
 N:=N
 s₀:=s
 H₀:=H
 env:=envOfC qual scope s.heap.objs.size f cd
 outer:=outer
 stack:=envOfC qual scope s.heap.objs.size f cd::outer
 ex:=[]
 calm:=true
 fn:=fun _=>true
 pn:=[]
 xe:=fun e s'=>wpAny (model P w) (A.deeper (envOfC qual scope s.heap.objs.size f cd)) (leaving (envOfC qual scope s.heap.objs.size f cd) e) (fun _ s''=>CX outer H s E e s'') (fun e' s''=>CX outer H s E e' s'') s'
theorem qL6{sc:Scope}{n:Nat}{x:Str}(h:sc.names.lookup x=some .cell):∃c,(cellsFrom n sc.names []).lookup x=some c:=by have q:=PySem.W.cellsFrom_some sc.names n [] (.inl h);exact Option.isSome_iff_exists.mp q
theorem qPj{CX:CXT}{P:Program}{w:World}{K:PySem.W.Frag}{mg:Str->Option Value}{base:Heap}{N ps:List Str}{qual:Str}{scope:Scope}{f:Addr}{cd:Value}{A:Around}{outer:List Env}{s s1:Shared}{H:Hp}{E:XK}{us:List Value}{vs:List V}
 (S:qO N ps scope) (hd:A.handled=none) (e0:Env0 P w K mg base A outer s H) (hl:vs.length=ps.length) (r:Vals vs us)
 (x:InCallC s s.heap.objs.size (bindL (envOfC qual scope s.heap.objs.size f cd).kindOf (ps.zip us) fun _=>none) (cellsFrom (s.heap.objs.size+1) scope.names []) (bindC (envOfC qual scope s.heap.objs.size f cd).kindOf (ps.zip us) fun _=>none) s1):
 Inv (qQh CX P w K mg base N qual scope f cd A outer s H E) [] (qGc N vs) H s1:=by
 have hpl:ps.length<=N.length:=by have:=congrArg List.length S.pre;rw[List.length_take]at this;omega
 obtain⟨h1,tk,rfl,hk⟩:=x.done;have noA:∀b:Addr,b∉(qQh CX P w K mg base N qual scope f cd A outer s H E).ex:=fun b z=>absurd (show b∈([]:List Addr)from z) (by simp);refine⟨⟨e0.mod,S.kind,O,O,Nat.le_refl _,fun y z c h1 h2=>?_,fun y hy=>?_,fun y c _ h=>?_,fun _=>hd,Around.frames_deeper e0.frames,.inr ⟨O,O⟩,fun b z=>absurd z (noA b),e0.bs,e0.bsz,fun b _ _=>noA b,fun b z=>absurd z (noA b),e0.funs,e0.frf⟩,
  rfl,e0.bare,Un.kept hk,⟨_,x.toInCall.ns,fun i y v h1 h2 h3=>?_⟩,fun y c h=>⟨_,x.cell y c h⟩,e0.hok.fresh (Nat.le_refl _),fun y c h=>?_,fun p hp=>absurd (show p∈([]:List (Addr×Obj))from hp) (by simp),e0.hok.kept hk,?_⟩
 . exact name_of_addr x.apart (PySem.mem_of_lookup h1) (PySem.mem_of_lookup h2)
 . have hy:scope.names.lookup y=some .cell\/scope.names.lookup y=some .free:=hy
   rcases hy with hy|hy
   . exact qL6 hy
   . exact absurd rfl (S.nofree _ (PySem.mem_of_lookup hy))
 . exact Nat.le_of_lt (x.above y c (PySem.mem_of_lookup h))
 . have hi:i<vs.length:=by
    unfold qGc at h2;by_cases hi:i<vs.length
    . exact hi
    . rw[List.getElem?_append_right (by simpa using hi)]at h2
      rw[List.getElem?_replicate]at h2;split at h2 <;> cases h2
   have ha:vs[i]?=some v:=by
    unfold qGc at h2;rw[List.getElem?_append_left (by simpa using hi),List.getElem?_map]at h2;cases e:vs[i]? with
    |none=>rw[e]at h2;cases h2
    |some a=>rw[e]at h2;cases h2;rfl
   obtain⟨u,hu,rv⟩:=r.get ha;have hp:ps[i]?=some y:=by rw[<-S.pre,List.getElem?_take_of_lt (by omega)];exact h1
   have ndP:ps.Nodup:=by rw[<-S.pre];exact S.nd.sublist (List.take_sublist _ _)
   refine⟨u,rv,?_⟩;rcases S.par y (List.mem_of_getElem? hp)with k|k
   . exact .inl ⟨k,qJj ndP hp hu k⟩
   . obtain⟨c,e⟩:=qL6 (n:=s.heap.objs.size+1) k
     refine .inr ⟨.inl k,c,e,?_⟩;have q:=x.cell y c e;rw[qH7 ndP hp hu (by show scope.names.lookup y≠_;rw[k];decide)]at q;exact q
 . exact e0.hok.fresh (Nat.le_of_lt (x.above y c (PySem.mem_of_lookup h)))
 . unfold qGc
   show _=N.length;rw[List.length_append,List.length_map,List.length_replicate];omega
theorem qV9{CX:CXT}{P:Program}{w:World}{K:PySem.W.Frag}{mg:Str->Option Value}{base:Heap}{k:Nat}{f:Addr}{name qual:Str}{params:Arguments}{body:List Stmt}{scope:Scope}{dV kV doc pm cdv ct oc:Value}{an od:Option Addr}
 {osl:Array (Option Value)} {N ps:List Str} {sp:Sp} (lk:K.lookup f=some ⟨oc,od,.func (PySem.W.fnOf name qual params body scope dV kV doc pm an cdv ct),osl⟩) (hcd:PySem.W.codeIn K cdv qual=true) (S:qO N ps scope)
 (len:∀vs H Q E,sp vs H Q E->vs.length=ps.length)
 (hbody:∀(A:Around) (outer:List Env) (s:Shared) (H:Hp) (vs:List V) (Q:VK) (E:XK),Room k (A.deeper (envOfC qual scope s.heap.objs.size f cdv))->sp vs H Q E->
   ∃t,PSs (qQh CX P w K mg base N qual scope f cdv A outer s H E) body t/\t {nx:=fun _ H'=>Q .non H',rt:=Q} (qGc N vs) H):
 FnOk P w K mg base CX (k+1) f (PySem.W.fnOf name qual params body scope dV kV doc pm an cdv ct) ps sp:=by
 refine⟨len,fun A outer s H args us vs Q E hr e0 hb r hsp=>?_⟩;have hl:=len _ _ _ _ hsp;have KX:K.In s.heap:=e0.mod.kin.keeps fun b o e=>(e0.bs b o e).1;have lim:s.heap.NoLimit:=e0.mod.nolimit.keeps fun b o e=>(e0.bs b o e).1;have hkind:∀y∈ps.zip us,scope.names.lookup y.1=some .local\/(scope.names.lookup y.1=some .cell/\((cellsFrom (s.heap.objs.size+1) scope.names []).lookup y.1).isSome=true):=fun⟨n,v⟩ hy=>by
  rcases S.par n (List.of_mem_zip hy).1 with q|q
  . exact .inl q
  . exact .inr ⟨q,PySem.W.cellsFrom_some _ _ _ (.inl q)⟩
 refine codeAny_call_function hr.depth (KX _ _ lk) rfl S.co S.gen rfl (PySem.W.codeRec_of KX hcd) (hb _ _ _ _ ?_);refine wpAny_newFunctionEnv_cells S.kind hkind fun env he s1 x=>?_;subst he;refine⟨lim.keeps x.toInCall.keep,codeAny_func ?_⟩;obtain⟨t,ht,hq⟩:=hbody A outer s H vs Q E (hr.deeper _) hsp;have I:Inv (qQh CX P w K mg base N qual scope f cdv A outer s H E) [] (qGc N vs) H s1:=qPj S hr.hd e0 hl r x;refine wpAny_mono (ht [] s1 (qGc N vs) H _ I hq) (fun fl s' hs=>?_) fun e s' hs=>hs;have fin:∀{σ':St} {H':Hp} {v:V} {u:Value},Inv (qQh CX P w K mg base N qual scope f cdv A outer s H E) [] σ' H' s'->RelV v u->Q v H'->CE outer P w H s Q u s':=
  fun{σ' H' v u} J rv q=>⟨v,H',J.os,J.bare,J.base,J.hok,rv,q⟩
 cases fl with
 |ret u=>
  obtain⟨v,σ',H',J,rv,q⟩:=hs;exact fin J rv q
 |next=>
  obtain⟨σ',H',J,q⟩:=hs;exact fin (v:=V.non) (u:=Value.none) J rfl q
 |brk=>
  obtain⟨_,_,_,q⟩:=hs;exact False.elim q
 |cont=>
  obtain⟨_,_,_,q⟩:=hs;exact False.elim q
section
variable{X:Cx}{x:Str}{p pos:Pos}{e:Expr}{es:List Expr}{t:TA}{id T:String}{r:List V->Hp->VK->Prop}
def tCB(r:List V->Hp->VK->Prop)(t:TA):TE:=fun σ H Q=>t σ H fun vs H1=>r vs H1 Q
theorem qU(hc:wc X (.builtin id) r)(hg:Gl X x)(hm:X.mg x=none)(hv:bootBuiltins x=some (.builtin id))(ha:PA X (e::es) t)(hn:x≠"__name__":=by decide)(hdb:(x==("__debug__":Str))=false:=by decide)
 (he:starEach (e::es) X.env=(false,eval e X.env)::starEach es X.env:=by rfl) (hpl:(backTo pos (starEach es X.env)).any (·.1)=false:=by rfl):PE X (.Call (.Name x p) (e::es) [] pos) (tCB r t):=by
 intro pins s σ H Q I h;refine wpAny_Call_Name_kw (qHv I hg hm hv ?_ hn hdb);exact PyProof.Rows.callWith_builtin1 (thn (ha pos pins s σ H _ I h) fun us s1 ⟨vs,H1,I1,r1,q1⟩=>hc pins s1 σ H1 vs us Q I1 r1 q1) he hpl
theorem z8(hc:wc X (.type T) r)(hg:Gl X x)(hm:X.mg x=none)(hv:bootBuiltins x=some (.type T))(ha:PA X (e::es) t)(hn:x≠"__name__":=by decide)(hdb:(x==("__debug__":Str))=false:=by decide)
 (he:starEach (e::es) X.env=(false,eval e X.env)::starEach es X.env:=by rfl) (hpl:(backTo pos (starEach es X.env)).any (·.1)=false:=by rfl):PE X (.Call (.Name x p) (e::es) [] pos) (tCB r t):=by
 intro pins s σ H Q I h;refine wpAny_Call_Name_kw (qHv I hg hm hv ?_ hn hdb);exact PyProof.Rows.callWith_type1 (thn (ha pos pins s σ H _ I h) fun us s1 ⟨vs,H1,I1,r1,q1⟩=>hc pins s1 σ H1 vs us Q I1 r1 q1) he hpl
end
end L2
namespace HT
open PySem PyProof.Rows
section
variable{prog:Program}{w:World}{A:Around}{E:Value->Shared->Prop}{s:Shared}
theorem cat_tup{t b:Addr}{vs ws:List Value}{Q:Value->Shared->Prop}(ht:IsTup s.heap t vs.toArray)(hb:IsTup s.heap b ws.toArray)(hv:vs≠[])
 (h1:ws=[]->Q (.ref t) s) (h2:ws≠[]->Q (.ref s.heap.objs.size) {s with heap:=s.heap.push {cls:=.type "tuple",data:=.seq (vs++ws).toArray}})
 (hsz:vs.length+ws.length<=sizeLine):wpAny (model prog w) A (binaryOp .Add (.ref t) (.ref b)) Q E s:=by
 obtain⟨⟨cls,dd,data,sl⟩,ho,hc,n,hd⟩:=id ht;obtain⟨⟨cls2,dd2,data2,sl2⟩,ho2,hc2,n2,hd2⟩:=id hb;simp only at hc hd hc2 hd2;subst hc hd hc2 hd2;have e:vs.toArray++ws.toArray=(vs++ws).toArray:=by simp
 by_cases hw:ws=[]
 . exact concat_meets ⟨_,ho,O⟩ ⟨_,ho2,O⟩ noFill_tuple_add seq_tuple_add PySem.F.slot_tuple_add PySem.F.entry_tuple_add (PySem.F.args_tuple_add_2 _ _)
    (tuple_addW1 t b vs.toArray ws.toArray n n2 dd dd2 sl sl2 (by simpa using hv) (by simp[hw])) ⟨ho,ho2,h1 hw⟩
 . refine concat_meets ⟨_,ho,O⟩ ⟨_,ho2,O⟩ noFill_tuple_add seq_tuple_add PySem.F.slot_tuple_add PySem.F.entry_tuple_add (PySem.F.args_tuple_add_2 _ _)
    (tuple_addW2 t b vs.toArray ws.toArray n n2 dd dd2 sl sl2 (by simpa using hv) (by simpa using hw) (by rw[List.size_toArray,List.size_toArray];exact hsz)) ⟨ho,ho2,?_⟩
   rw[e];exact h2 hw
def sIx(n d:Nat):Option Int->Nat
 |none=>d
 |some v=>if v<0 then (v+(n:Int)).toNat else min v.toNat n
theorem sIx_none(n d:Nat):sIx n d none=d:=rfl
theorem sIx_nat(n d k:Nat):sIx n d (some (k:Int))=min k n:=by show (if (k:Int)<0 then ((k:Int)+(n:Int)).toNat else min (k:Int).toNat n)=min k n;rw[if_neg (by omega),Int.toNat_natCast]
theorem qWa(n d:Nat)(hd:d<=n)(o:Option Int):sIx n d o<=n:=by
 cases o with
 |none=>exact hd
 |some v=>
  show (if v<0 then (v+(n:Int)).toNat else min v.toNat n)<=n;by_cases hv:v<0
  . rw[if_pos hv];omega
  . rw[if_neg hv];exact Nat.min_le_right _ _
theorem qN6(v:Int)(n d:Nat):(if v<0 then max (v+(n:Int)) 0 else min v (n:Int))=((sIx n d (some v):Nat):Int):=by
 show (if v<0 then max (v+(n:Int)) 0 else min v (n:Int))=(((if v<0 then (v+(n:Int)).toNat else min v.toNat n):Nat):Int);by_cases hv:v<0
 . simp only[if_pos hv];omega
 . simp only[if_neg hv];omega
theorem qM9(lo hi:Option Int)(n:Nat):Builtin.Slice.sliceAdjust lo hi 1 (n:Int)=(((sIx n 0 lo:Nat):Int),((sIx n n hi:Nat):Int)):=by
 have h1:¬((1:Int)<0):=by omega
 unfold Builtin.Slice.sliceAdjust;simp only[h1,if_false];refine Prod.ext ?_ ?_
 . cases lo with
   |none=>rfl
   |some v=>exact qN6 v n 0
 . cases hi with
   |none=>rfl
   |some v=>exact qN6 v n n
theorem qNr(i j:Nat):Builtin.Slice.slicePlaces (i:Int) (j:Int) 1=j-i:=by
 unfold Builtin.Slice.slicePlaces;have h1:(1:Int)>0:=by omega
 simp only[h1,if_true,Int.ediv_one];split <;> omega
theorem qFz{v:Value}{o:Option Int}{Q:Option Int->Shared->Prop}(p:IsPart v o)(h:Q o s):wpAny (model prog w) A (Builtin.Slice.slicePartIndex v) Q E s:=by
 cases p with
 |none=>exact slicePart_none h
 |int i t=>exact slicePart_int h
theorem qCu{sl:Addr}{vl vu:Value}{lo hi:Option Int}{n:Nat}{Q:Int×Int×Nat->Shared->Prop}(hs:s.heap.IsSliceOf sl vl vu .none)(pl:IsPart vl lo)(pu:IsPart vu hi)
 (h:Q (((sIx n 0 lo:Nat):Int),1,sIx n n hi-sIx n 0 lo) s):wpAny (model prog w) A (Builtin.Slice.sliceApplied (.ref sl) (pure (n:Int))) Q E s:=by
 obtain⟨os,hos,hcs,hds⟩:=id hs;unfold Builtin.Slice.sliceApplied Builtin.Slice.sliceFields;refine wpAny_bind (wpAny_bind (wpAny_field hos hds (x:=vl) rfl (wpAny_bind (wpAny_field hos hds (x:=vu) rfl (wpAny_bind (wpAny_field hos hds (x:=.none) rfl (wpAny_pure ?_)))))));refine wpAny_bind (slicePart_none ?_);show wpAny _ _ (if ((1:Int)==0)=true then _ else _) _ _ s;rw[if_neg (by decide)];refine wpAny_bind (qFz pl (wpAny_bind (qFz pu (wpAny_bind (wpAny_pure ?_)))));show wpAny _ _ (match Builtin.Slice.sliceAdjust lo hi 1 (n:Int)with|(lo,hi)=>pure (lo,(1:Int),Builtin.Slice.slicePlaces lo hi 1)) _ _ s;rw[qM9 lo hi n];show wpAny _ _ (pure (((sIx n 0 lo:Nat):Int),(1:Int),Builtin.Slice.slicePlaces ((sIx n 0 lo:Nat):Int) ((sIx n n hi:Nat):Int) 1)) _ _ s;rw[qNr];exact wpAny_pure h
theorem qRw(xs:Array Value)(i k:Nat):((List.range k).filterMap fun(m:Nat)=>xs[((i:Int)+(m:Int)*1).toNat]?).toArray=((xs.toList.drop i).take k).toArray:=by
 have e:(fun(m:Nat)=>xs[((i:Int)+(m:Int)*1).toNat]?)=fun m=>xs[i+m]?:=by
  funext m;have:((i:Int)+(m:Int)*1).toNat=i+m:=by omega
  rw[this]
 rw[e];have:=pick_run xs i k;rw[List.filterMap_map]at this;have e2:((fun x=>xs[x]?) ∘ fun x=>i+x)=fun m=>xs[i+m]?:=rfl;rw[e2]at this;rw[this]
theorem getItem_tuple_cut{t sl:Addr}{items:Array Value}{vl vu:Value}{lo hi:Option Int}{Q:Value->Shared->Prop}(ht:IsTup s.heap t items)(hs:s.heap.IsSliceOf sl vl vu .none)(pl:IsPart vl lo)(pu:IsPart vu hi)
 (hw:¬(sIx items.size 0 lo=0/\sIx items.size items.size hi=items.size))
 (h:Q (.ref s.heap.objs.size) {s with heap:=s.heap.push {cls:=.type "tuple",data:=.seq ((items.toList.drop (sIx items.size 0 lo)).take (sIx items.size items.size hi-sIx items.size 0 lo)).toArray}})
 (hsz:items.size<=sizeLine):wpAny (model prog w) A (getItem (.ref t) (.ref sl)) Q E s:=by
 have htake:sizeOk (.seq ((items.toList.drop (sIx items.size 0 lo)).take (sIx items.size items.size hi-sIx items.size 0 lo)).toArray):=by show ((items.toList.drop (sIx items.size 0 lo)).take (sIx items.size items.size hi-sIx items.size 0 lo)).toArray.size<=sizeLine;rw[List.size_toArray,List.length_take,List.length_drop,Array.length_toList];omega
 have hj:sIx items.size items.size hi<=items.size:=qWa _ _ (Nat.le_refl _) hi;obtain⟨os,hos,hcs,hds⟩:=id hs;have hTs:s.TypeIs (.ref sl) "slice":=⟨os,hos,hcs⟩;unfold getItem
 try with_reducible refine wpAny_holding ?_
 first|refine wpAny_bind (wpAny_pure ?_)|skip
 refine wpAny_bind (wpAny_sequenceKey ht.typeIs (by decide) ?_);refine wpAny_bind (wpAny_callSpecial?_slot (name:=Str.ofString "__getitem__") ht.typeIs PyProof.Rows.slot_tuple_getitem
  (wpAny_call_entry PyProof.Rows.slot_tuple_getitem ht.typeIs entry_tuple_getitem ?_ (args_tuple_getitem _ _)))
 show wpAny _ _ (Builtin.Tuple.tupleItemsOf (.ref t)>>=_) _ _ s;refine wpAny_bind (tupleItemsOf_ ht ?_);refine wpAny_bind (wpAny_typeOf hTs ?_);rw[if_pos (by decide)];refine wpAny_bind (qCu hs pl pu ?_);have hno:¬((((sIx items.size 0 lo:Nat):Int)==0 && (1:Int)==1 && (sIx items.size items.size hi-sIx items.size 0 lo)==items.size)=true):=by intro q;rw[Bool.and_eq_true,Bool.and_eq_true]at q;have q1:((sIx items.size 0 lo:Nat):Int)=0:=eq_of_beq q.1.1;have q2:sIx items.size items.size hi-sIx items.size 0 lo=items.size:=eq_of_beq q.2;exact hw ⟨by omega,by omega⟩
 show wpAny _ _ (if (((sIx items.size 0 lo:Nat):Int)==0 && (1:Int)==1 && (sIx items.size items.size hi-sIx items.size 0 lo)==items.size)=true then _ else _) _ _ s;rw[if_neg hno,qRw]
 first
  |exact wpAny_bind (m:=Builtin.Tuple.tupleExact _) (wpAny_newObj_type (wpAny_pure ⟨_,rfl,wpAny_pure h⟩) htake)
  |exact wpAny_bind (m:=Builtin.Tuple.tupleExact _) (wpAny_newObj_type (wpAny_bind (wpAny_pure (wpAny_pure ⟨_,rfl,wpAny_pure h⟩))) htake)
  |exact wpAny_bind (wpAny_bind (m:=Builtin.Tuple.tupleExact _) (wpAny_newObj_type (wpAny_pure (wpAny_pure ⟨_,rfl,wpAny_pure h⟩)) htake))
  |exact wpAny_bind (wpAny_bind (m:=Builtin.Tuple.tupleExact _) (wpAny_newObj_type (wpAny_pure ⟨_,rfl,wpAny_pure h⟩) htake))
end
end HT
namespace L2
open PySem PySem.Spec PyProof.Rows
abbrev TO:=St->Hp->(Option Int->Hp->Prop)->Prop
def PO(X:Cx)(e:Option Expr)(t:TO):Prop:=
 ∀(pins:List (Addr×Obj)) (s:Shared) (σ:St) (H:Hp) (Q:Option Int->Hp->Prop),Inv X pins σ H s->t σ H Q->
  wpAny (model X.prog X.w) X.A (evalPart e X.env) (fun u s'=> ∃o H',Inv X pins σ H' s'/\IsPart u o/\Q o H') X.xe s
def qT2:TO:=fun _ H Q=>Q none H
inductive qVn(Q:Option Int->Hp->Prop)(x:V)(H1:Hp):Prop
|mk i (_:x=.int i) (_:Q (some i) H1)
def qW5(t:TE):TO:=fun σ H Q=>t σ H fun x H1=>qVn Q x H1
section
variable{X:Cx}{e:Expr}{te:TE}{lo hi:Option Expr}{tl th:TO}{pos p2:Pos}
theorem vX:PO X none qT2:=by intro pins s σ H Q I h;rw[evalPart_none];exact wpAny_pure ⟨none,H,I,.none,h⟩
theorem zL(h:PE X e te):PO X (some e) (qW5 te):=by intro pins s σ H Q I hw;rw[evalPart_some];refine thn (h pins s σ H _ I hw) fun u s1 ⟨x,H1,I1,r1,q1⟩=>?_;obtain⟨i,rfl,q⟩:=q1;obtain⟨t,rfl⟩:=r1;exact⟨some i,H1,I1,.int i t,q⟩
def SlR(X:Cx)(r:V->Option Int->Option Int->Hp->VK->Prop):Prop:=
 ∀(pins:List (Addr×Obj)) (s:Shared) (σ:St) (H:Hp) (x:V) (v vl vu:Value) (lo hi:Option Int) (sl:Addr) (Q:VK),Inv X pins σ H s->RelV x v->s.heap.IsSliceOf sl vl vu .none->IsPart vl lo->IsPart vu hi->r x lo hi H Q->
  ∃T id,typeLookup (.type T) "__getitem__"=pure (some (.builtin id))/\s.TypeIs v T/\wpAny (model X.prog X.w) X.A (getItem v (.ref sl)) (EP X pins σ Q) X.xe s
def tSl(r:V->Option Int->Option Int->Hp->VK->Prop)(te:TE)(tl th:TO):TE:=fun σ H Q=>te σ H fun x H1=>tl σ H1 fun l H2=>th σ H2 fun u H3=>r x l u H3 Q
theorem xx{r:V->Option Int->Option Int->Hp->VK->Prop}(hr:SlR X r)(he:PE X e te)(hl:PO X lo tl)(hu:PO X hi th):PE X (.Subscript e (.Slice lo hi none p2) pos) (tSl r te tl th):=by intro pins s σ H Q I h;refine Subscript_ (thn (he pins s σ H _ I h) fun v s1 ⟨x,H1,I1,r1,q1⟩=>?_);refine wpAny_Slice (thn (hl pins s1 σ H1 _ I1 q1) fun vl s2 ⟨l,H2,I2,pl,q2⟩=>thn (hu pins s2 σ H2 _ I2 q2) fun vu s3 ⟨u,H3,I3,pu,q3⟩=>?_);rw[evalPart_none];refine wpAny_pure ?_;have I4:Inv X pins σ H3 {s3 with heap:=s3.heap.push {cls:=.type "slice",data:=.fields #[vl,vu,.none]}}:=I3.kept (t':=s3.toks) fun b ob q=>Heap.get?_push_of_some _ q;obtain⟨T,id,hT,ht,hg⟩:=hr pins {s3 with heap:=s3.heap.push {cls:=.type "slice",data:=.fields #[vl,vu,.none]}} σ H3 x v vl vu l u s3.heap.objs.size Q I4 r1 (Heap.IsSliceOf.new ..) pl pu q3;show wpAny (model X.prog X.w) X.A (subscriptTail e (.Slice lo hi none p2) v (.ref s3.heap.objs.size)) (EP X pins σ Q) X.xe {s3 with heap:=s3.heap.push {cls:=.type "slice",data:=.fields #[vl,vu,.none]}};exact tail_any (ops:=[.ref s3.heap.objs.size,v]) ht hT hg (by with_unfolding_all rfl)
def zT(xs:List V)(lo hi:Option Int):List V:=(xs.drop (HT.sIx xs.length 0 lo)).take (HT.sIx xs.length xs.length hi-HT.sIx xs.length 0 lo)
theorem kR(xs:List V)(lo hi:Option Int):(zT xs lo hi).length<=xs.length:=by unfold zT;rw[List.length_take,List.length_drop];omega
inductive qYm(K:PySem.W.Frag)(x:V)(lo:Option Int)(hi:Option Int)(H:Hp)(Q:VK):Prop
|mk a xs (_:x=.ref a) (_:SqT K H a xs) (_:¬(HT.sIx xs.length 0 lo=0/\HT.sIx xs.length xs.length hi=xs.length)) (_:∀p,H p=none->Q (.ref p) (upd H p (.tup (zT xs lo hi))))
theorem qSj:SlR X (qYm X.K):=by
 intro pins s σ H x v vl vu lo hi sl Q I rx hs pl pu h;obtain⟨a,xs,rfl,hx,hw,q⟩:=h;cases rx;obtain⟨its,r,ht,hz⟩:=I.tuple hx;have hlen:its.toArray.size=xs.length:=by rw[List.size_toArray];exact r.length.symm
 refine⟨"tuple",_,PyProof.Rows.slot_tuple_getitem.lookup,ht.typeIs,?_⟩;refine HT.getItem_tuple_cut ht hs pl pu (by rw[hlen];exact hw) ?_ (by rw[hlen];exact hz);rw[hlen];refine⟨.ref s.heap.objs.size,_,I.laid (t':=s.toks) (o:=.tup (zT xs lo hi)) (fun b ob q=>Heap.get?_push_of_some _ q) (Nat.le_refl _) ?_,O,q _ (I.hok.fresh (Nat.le_refl _))⟩;exact⟨Nat.le_trans (kR xs lo hi) hz,_,(r.drop (HT.sIx xs.length 0 lo)).take (HT.sIx xs.length xs.length hi-HT.sIx xs.length 0 lo),IsTup.new _ _⟩
def qXe(K:PySem.W.Frag):R2:=fun x y H Q=> ∃a b xs ys,x=.ref a/\y=.ref b/\SqT K H a xs/\SqT K H b ys/\xs≠[]/\xs.length+ys.length<=sizeLine/\
 (ys=[]->Q (.ref a) H)/\(ys≠[]->∀p,H p=none->Q (.ref p) (upd H p (.tup (xs++ys))))
theorem Vals.nil_iff{xs:List V}{us:List Value}(r:Vals xs us):us=[]↔xs=[]:=by
 cases r with
 |nil=>simp
 |cons _ _=>simp
theorem qO4:OpR X (binaryOp .Add) (qXe X.K):=by intro pins s σ H x y v u Q I rx ry h;obtain⟨a,b,xs,ys,rfl,rfl,ha,hb,hx,hz,q1,q2⟩:=h;cases rx;cases ry;obtain⟨its,r1,p1,_⟩:=I.tuple ha;obtain⟨its2,r2,p2,_⟩:=I.tuple hb;refine HT.cat_tup p1 p2 (fun z=>hx (r1.nil_iff.mp z)) (fun z=>⟨.ref a,H,I,O,q1 (r2.nil_iff.mp z)⟩) (fun z=>?_) (by rw[<-r1.length,<-r2.length];exact hz);refine⟨.ref s.heap.objs.size,_,I.laid (t':=s.toks) (o:=.tup (xs++ys)) (fun b ob q=>Heap.get?_push_of_some _ q) (Nat.le_refl _) ?_,O,q2 (fun w=>z (r2.nil_iff.mpr w)) _ (I.hok.fresh (Nat.le_refl _))⟩;exact⟨by rw[List.length_append];exact hz,_,r1.append r2,IsTup.new _ _⟩
end
def ixN(n:Nat)(i:Int):Option Nat:=if 0<=i then (if i<n then some i.toNat else none)else if-(n:Int)<=i then some (i+n).toNat else none
def atI{α:Type}(xs:List α)(i:Int):Option α:=(ixN xs.length i).bind fun j=>xs[j]?
theorem qOr{n:Nat}{i:Int}{j:Nat}(h:ixN n i=some j):seqIndex? i n=some j/\j<n/\ -(n:Int)<=i/\i<n:=by
 unfold ixN at h;by_cases h0:0<=i
 . rw[if_pos h0]at h
   by_cases h1:i<n
   . rw[if_pos h1]at h
     have e:i.toNat=j:=Option.some.inj h;exact⟨by rw[seqIndex_of h0 h1,e],by omega,by omega,h1⟩
   . rw[if_neg h1]at h;cases h
 . rw[if_neg h0]at h
   by_cases h1: -(n:Int)<=i
   . rw[if_pos h1]at h
     have e:(i+n).toNat=j:=Option.some.inj h;exact⟨by rw[seqIndex_neg (by omega) h1,e],by omega,h1,by omega⟩
   . rw[if_neg h1]at h;cases h
theorem qP6{α:Type}{xs:List α}{i:Int}{v:α}(h:atI xs i=some v):∃j,seqIndex? i xs.length=some j/\xs[j]?=some v/\j<xs.length/\ -(xs.length:Int)<=i/\i<xs.length:=by
 unfold atI at h;cases e:ixN xs.length i with
 |none=>rw[e]at h;cases h
 |some j=>
  rw[e]at h;obtain⟨h1,h2,h3,h4⟩:=qOr e;exact⟨j,h1,h,h2,h3,h4⟩
theorem jI{α:Type}{xs:List α}{j:Nat}{v:α}(h:xs[j]?=some v):atI xs (j:Int)=some v:=by
 have hj:j<xs.length:=(List.getElem?_eq_some_iff.mp h).1;have e:ixN xs.length (j:Int)=some j:=by unfold ixN;rw[if_pos (by omega),if_pos (by omega)];simp
 unfold atI;rw[e];exact h
theorem qRm{α:Type}(xs:List α)(v:α):atI (xs++[v]) (-1)=some v:=by
 have hl:(xs++[v]).length=xs.length+1:=by simp
 have e:ixN (xs++[v]).length (-1)=some xs.length:=by unfold ixN;rw[hl,if_neg (by decide),if_pos (by omega)];congr 1;omega
 unfold atI;rw[e];show (xs++[v])[xs.length]?=some v;simp
def qTl(b:Expr):Prop:= ∀o i,subscripted b false o i=operate [o,i] (getItem o i)
def IxR(X:Cx)(r:R2):Prop:=
 ∀(value slice:Expr) (pins:List (Addr×Obj)) (s:Shared) (σ:St) (H:Hp) (x y:V) (v u:Value) (Q:VK),Inv X pins σ H s->RelV x v->RelV y u->r x y H Q->
  subscripted slice false v u=operate [v,u] (getItem v u)->wpAny (model X.prog X.w) X.A (subscriptTail value slice v u) (EP X pins σ Q) X.xe s
def MtR(X:Cx)(id:String)(r:V->List V->Hp->VK->Prop):Prop:=
 ∀(pins:List (Addr×Obj)) (s:Shared) (σ:St) (H:Hp) (x:V) (xs:List V) (v:Value) (us:List Value) (Q:VK),Inv X pins σ H s->RelV x v->Vals xs us->r x xs H Q->
  wpAny (model X.prog X.w) X.A (call (.builtin id) (v::us)) (EP X pins σ Q) X.xe s
section
variable{X:Cx}{a b:Expr}{ta tb:TE}{pos:Pos}
theorem jU{r:R2}(hr:IxR X r)(ha:PE X a ta)(hb:PE X b tb)(hs:qTl b):PE X (.Subscript a b pos) (tOp r ta tb):=by intro pins s σ H Q I h;exact Subscript_ (qW6 ha hb I h fun v u s2 x y H2 I2 rx ry q=>hr a b pins s2 σ H2 x y v u Q I2 rx ry q (hs _ _))
inductive qXa(K:PySem.W.Frag)(x:V)(y:V)(H:Hp)(Q:VK):Prop
|mk p xs i v (_:x=.ref p) (_:y=.int i) (_:SqL K H p xs) (_:atI xs i=some v) (_:Q v H)
inductive qUk(K:PySem.W.Frag)(x:V)(y:V)(H:Hp)(Q:VK):Prop
|mk p xs i v (_:x=.ref p) (_:y=.int i) (_:SqT K H p xs) (_:atI xs i=some v) (_:Q v H)
theorem qz:IxR X (qXa X.K):=by
 intro value slice pins s σ H x y v u Q I rx ry h hs;obtain⟨p,xs,i,z,rfl,rfl,hq,he,q⟩:=h;cases rx;obtain⟨t,rfl⟩:=ry;obtain⟨its,r,pl,hz⟩:=I.list hq;obtain⟨j,h1,h2,h3,h4,h5⟩:=qP6 he;obtain⟨w,ew,rw'⟩:=r.get h2;have hl:=r.length;have hn:=qId;have fin:EP X pins σ Q w s:=⟨z,H,I,rw',q⟩;by_cases h0:0<=i
 . have hj:i.toNat=j:=by rw[seqIndex_of h0 h5]at h1;exact Option.some.inj h1
   exact item_listR pl.isList h0 (by omega) (by rw[hj];simpa using ew) fin hs
 . have hj:(i+(its.toArray.size:Int)).toNat=j:=by rw[seqIndex_neg (by omega) h4]at h1;rw[List.size_toArray,<-hl];exact Option.some.inj h1
   exact subscriptTail_builtinR (x:=w) pl.isList.typeIs slot_list_getitem.lookup
    (wpAny_getItem_list_neg (Q:=fun r s'=>r=w/\EP X pins σ Q r s') pl.isList (by omega) (by rw[List.size_toArray] <;> omega) (by omega) (by rw[hj];simpa using ew) ⟨rfl,fin⟩) hs
theorem qF2:IxR X (qUk X.K):=by
 intro value slice pins s σ H x y v u Q I rx ry h hs;obtain⟨p,xs,i,z,rfl,rfl,hq,he,q⟩:=h;cases rx;obtain⟨t,rfl⟩:=ry;obtain⟨its,r,pl,hz⟩:=I.tuple hq;obtain⟨j,h1,h2,h3,h4,h5⟩:=qP6 he;obtain⟨w,ew,rw'⟩:=r.get h2;have hl:=r.length;have hn:=qId;have fin:EP X pins σ Q w s:=⟨z,H,I,rw',q⟩;exact subscriptTail_builtinR (x:=w) pl.typeIs slot_tuple_getitem.lookup
  (getItem_tuple (j:=j) (Q:=fun r s'=>r=w/\EP X pins σ Q r s') pl (by omega) (by omega) (by rw[List.size_toArray,<-hl];exact h1) (by simpa using ew) ⟨rfl,fin⟩) hs
theorem qMu(its:List Value)(n j:Nat)(u:Value):Obj.mapSeq (·.setIfInBounds j u) {cls:=.type "list",data:=.seq its.toArray n}={cls:=.type "list",data:=.seq (its.set j u).toArray n}:=by simp[Obj.mapSeq]
theorem Inv.lst{pins:List (Addr×Obj)}{σ:St}{H:Hp}{s:Shared}{p:Addr}{xs:List V}(I:Inv X pins σ H s)(h:H p=some (.lst xs)):
 ∃(its:List Value) (n:Nat),Vals xs its/\s.heap.get? p=some {cls:=.type "list",data:=.seq its.toArray n}/\xs.length<=sizeLine:=by
 obtain⟨z,its,n,r,e⟩:=I.hok p _ h;exact⟨its,n,r,e,z⟩
theorem Inv.lstUpd{pins:List (Addr×Obj)}{σ:St}{H:Hp}{s:Shared}{p:Addr}{xs ys:List V}{its its':List Value}{n n':Nat}{f:Obj->Obj}(I:Inv X pins σ H s)(h:H p=some (.lst xs))
 (ho:s.heap.get? p=some {cls:=.type "list",data:=.seq its.toArray n}) (hf:f {cls:=.type "list",data:=.seq its.toArray n}={cls:=.type "list",data:=.seq its'.toArray n'}) (r:Vals ys its') (hz:ys.length<=sizeLine) (t:Nat):
 Inv X pins σ (upd H p (.lst ys)) {s with heap:=s.heap.update p f,toks:=t}:=by
 have e:(s.heap.update p f).get? p=some {cls:=.type "list",data:=.seq its'.toArray n'}:=by rw[Heap.get?_update_self f ho (by rw[hf] <;> rfl),hf]
 refine I.write (x:=p) (e:=p) (by rw[h];trivial) (.inl rfl) (fun b u hb q=>(Heap.get?_update_other _ _ (Ne.symm hb)).trans q) ⟨_,e⟩ ?_;exact⟨hz,its',n',r,e⟩
def qXi:V->V->V->Hp->(Hp->Prop)->Prop:=fun o i v H Q=> ∃p xs k j,o=.ref p/\i=.int k/\H p=some (.lst xs)/\ixN xs.length k=some j/\Q (upd H p (.lst (xs.set j v)))
theorem qDd:qYg X qXi:=by
 intro pins s σ H o i v ov iv u Q I ro ri rv h;obtain⟨p,xs,k,j,rfl,rfl,hp,hj,q⟩:=h;cases ro;obtain⟨t,rfl⟩:=ri;obtain⟨its,n,r,ho,hz⟩:=I.lst hp;obtain⟨h1,h2,h3,h4⟩:=qOr hj;have hl:=r.length;have hn:=qId;have I':Inv X pins σ (upd H p (.lst (xs.set j v))) {s with heap:=s.heap.update p (Obj.mapSeq (·.setIfInBounds j u))}:=
  I.lstUpd hp ho (qMu its n j u) (r.set rv j) (by rw[List.length_set];exact hz) s.toks
 by_cases h0:0<=k
 . have hk:k.toNat=j:=by rw[seqIndex_of h0 h4]at h1;exact Option.some.inj h1
   exact PySem.W.ki_setAt ho h0 (by omega) (by rw[List.size_toArray,<-hl];exact h4) (by rw[hk];exact⟨_,I',q⟩)
 . have hk:(k+(its.toArray.size:Int)).toNat=j:=by rw[seqIndex_neg (by omega) h3]at h1;rw[List.size_toArray,<-hl];exact Option.some.inj h1
   exact PySem.W.ki_setBack ho (by omega) (by rw[List.size_toArray,<-hl];exact h3) (by omega) (by rw[hk];exact⟨_,I',q⟩)
theorem qI6(lo hi:Option Int)(n:Nat):(sliceBounds lo hi none n).1=((HT.sIx n 0 lo:Nat):Int)/\(sliceBounds lo hi none n).2.1=((HT.sIx n n hi:Nat):Int)/\(sliceBounds lo hi none n).2.2=1:=by
 refine⟨?_,?_,O⟩
 . cases lo with
   |none=>simp[sliceBounds,HT.sIx]
   |some i=>
    simp only[sliceBounds,HT.sIx,Option.getD_none,show (1:Int)>0 by decide,if_true];by_cases h:i<0
    . simp only[h,if_true] <;> omega
    . simp only[h,if_false] <;> omega
 . cases hi with
   |none=>simp[sliceBounds,HT.sIx]
   |some i=>
    simp only[sliceBounds,HT.sIx,Option.getD_none,show (1:Int)>0 by decide,if_true];by_cases h:i<0
    . simp only[h,if_true] <;> omega
    . simp only[h,if_false] <;> omega
theorem qG8(its:List Value)(lo hi:Option Int):slicePick its.toArray lo hi none=((its.drop (HT.sIx its.length 0 lo)).take (HT.sIx its.length its.length hi-HT.sIx its.length 0 lo)).toArray:=by obtain⟨h1,h2,h3⟩:=qI6 lo hi its.toArray.size;unfold slicePick;rw[h1,h2,h3];simp only[sliceRange_one,pick_run,List.size_toArray] <;> rfl
inductive qYy(K:PySem.W.Frag)(x:V)(lo:Option Int)(hi:Option Int)(H:Hp)(Q:VK):Prop
|mk a xs (_:x=.ref a) (_:SqL K H a xs) (_:∀p,H p=none->Q (.ref p) (upd H p (.lst (zT xs lo hi))))
theorem wn:SlR X (qYy X.K):=by intro pins s σ H x v vl vu lo hi sl Q I rx hs pl pu h;obtain⟨a,xs,rfl,hx,q⟩:=h;cases rx;obtain⟨its,r,ht,hz⟩:=I.list hx;have hlen:=r.length;refine⟨"list",_,slot_list_getitem.lookup,ht.isList.typeIs,?_⟩;refine wpAny_getItem_list_slice ht.isList hs pl pu .none (by simp) ?_ (by rw[List.size_toArray] <;> omega);rw[qG8,<-hlen];refine⟨.ref s.heap.objs.size,_,I.laid (t':=s.toks) (o:=.lst (zT xs lo hi)) (fun b ob q=>Heap.get?_push_of_some _ q) (Nat.le_refl _) ?_,O,q _ (I.hok.fresh (Nat.le_refl _))⟩;exact⟨Nat.le_trans (kR xs lo hi) hz,_,0,(r.drop (HT.sIx xs.length 0 lo)).take (HT.sIx xs.length xs.length hi-HT.sIx xs.length 0 lo),Heap.get?_push_size _ rfl⟩
def kj:V->Bool
 |.non=>true
 |.bl _=>true
 |.int _=>true
 |.str _=>true
 |_=>false
def eqV:V->V->Bool
 |.non,.non=>true
 |.bl a,.bl b=>a==b
 |.bl a,.int b=>(if a then 1 else 0)==b
 |.int a,.bl b=>a==(if b then 1 else 0)
 |.int a,.int b=>a==b
 |.str a,.str b=>a==b
 |_,_=>false
theorem qLl{A:Around}{s:Shared}{y x:V}{u v:Value}(ry:RelV y u)(rx:RelV x v)(fy:kj y=true)(fx:kj x=true):SeqAt.EqAt A s u v (eqV y x):=by
 cases y with
 |non=>
  cases ry;cases x with
  |non=>cases rx;exact SeqAt.EqAt.same _
  |bl b=>cases rx;exact SeqAt.EqAt.none_bool b
  |int b=>obtain⟨t,rfl⟩:=rx;exact SeqAt.EqAt.none_int b t
  |str b=>obtain⟨t,rfl⟩:=rx;exact SeqAt.EqAt.none_str b t
  |_=>exact absurd (show false=true from fx) Bool.false_ne_true
 |bl a=>
  cases ry;cases x with
  |non=>cases rx;exact SeqAt.EqAt.bool_none a
  |bl b=>cases rx;exact SeqAt.EqAt.bool_bool a b
  |int b=>obtain⟨t,rfl⟩:=rx;exact SeqAt.EqAt.bool_int a b t
  |str b=>obtain⟨t,rfl⟩:=rx;exact SeqAt.EqAt.bool_str a b t
  |_=>exact absurd (show false=true from fx) Bool.false_ne_true
 |int a=>
  obtain⟨t',rfl⟩:=ry;cases x with
  |non=>cases rx;exact SeqAt.EqAt.int_none a t'
  |bl b=>cases rx;exact SeqAt.EqAt.int_bool a t' b
  |int b=>obtain⟨t,rfl⟩:=rx;exact SeqAt.EqAt.int_int a t' b t
  |str b=>obtain⟨t,rfl⟩:=rx;exact SeqAt.EqAt.int_str a t' b t
  |_=>exact absurd (show false=true from fx) Bool.false_ne_true
 |str a=>
  obtain⟨t',rfl⟩:=ry;cases x with
  |non=>cases rx;exact SeqAt.EqAt.str_none a t'
  |bl b=>cases rx;exact SeqAt.EqAt.str_bool a t' b
  |int b=>obtain⟨t,rfl⟩:=rx;exact SeqAt.EqAt.str_int a t' b t
  |str b=>obtain⟨t,rfl⟩:=rx;exact SeqAt.EqAt.str_str a t' b t
  |_=>exact absurd (show false=true from fx) Bool.false_ne_true
 |_=>exact absurd (show false=true from fy) Bool.false_ne_true
def eqU(x:V)(u:Value):Bool:=match u with
 |.none=>eqV .non x
 |.bool b=>eqV (.bl b) x
 |.int i _=>eqV (.int i) x
 |.str z _=>eqV (.str z) x
 |_=>false
theorem qR6{x y:V}{u:Value}(r:RelV y u)(f:kj y=true):eqU x u=eqV y x:=by
 cases y with
 |non=>cases r;rfl
 |bl b=>cases r;rfl
 |int i=>obtain⟨t,rfl⟩:=r;rfl
 |str z=>obtain⟨t,rfl⟩:=r;rfl
 |_=>exact absurd (show false=true from f) Bool.false_ne_true
theorem qEs{x:V}:∀{xs:List V} {us:List Value},Vals xs us->xs.all kj=true->us.any (eqU x)=xs.any fun y=>eqV y x
 |_,_,.nil,_=>rfl
 |y::xs,u::us,.cons r t,f=>by rw[List.all_cons,Bool.and_eq_true]at f;rw[List.any_cons,List.any_cons,qR6 r f.1,qEs t f.2]
theorem qAr{A:Around}{s:Shared}{x:V}{v:Value}(rx:RelV x v)(fx:kj x=true):∀{xs:List V} {us:List Value},Vals xs us->xs.all kj=true->∀u∈us,SeqAt.EqAt A s u v (eqU x u)
 |_,_,.nil,_=>fun u hu=>by cases hu
 |y::xs,u::us,.cons r t,f=>fun u' hu=>by
  rw[List.all_cons,Bool.and_eq_true]at f;rcases List.mem_cons.mp hu with rfl|hu
  . rw[qR6 r f.1];exact qLl r rx f.1 fx
  . exact qAr rx fx t f.2 u' hu
def inV(x:V)(xs:List V):Bool:=xs.any fun y=>eqV y x
inductive rIn(K:PySem.W.Frag)(neg:Bool)(x:V)(y:V)(H:Hp)(Q:VK):Prop
|mk p xs (_:y=.ref p) (_:(SqL K H p xs\/SqT K H p xs)) (_:kj x=true) (_:xs.all kj=true) (_:Q (.bl (if neg then !inV x xs else inV x xs)) H)
theorem jc:OpR X (compareOp .In) (rIn X.K false):=by
 intro pins s σ H x y v u Q I rx ry h;obtain⟨p,xs,rfl,hq,fx,fs,q⟩:=h;cases ry;rcases hq with hq|hq
 . obtain⟨its,r,pl,hz⟩:=I.list hq
   refine SeqAt.in_listAt (eqU x) pl.isList (fun w hw=>qAr rx fx r fs w (by simpa using hw)) ⟨.bl _,H,I,O,?_⟩;rw[show its.toArray.any (eqU x)=its.any (eqU x) by simp,qEs r fs];exact q
 . obtain⟨its,r,pl,hz⟩:=I.tuple hq
   refine SeqAt.in_tupleAt (eqU x) pl (fun w hw=>qAr rx fx r fs w (by simpa using hw)) ⟨.bl _,H,I,O,?_⟩;rw[show its.toArray.any (eqU x)=its.any (eqU x) by simp,qEs r fs];exact q
theorem vR:OpR X (compareOp .NotIn) (rIn X.K true):=by
 intro pins s σ H x y v u Q I rx ry h;obtain⟨p,xs,rfl,hq,fx,fs,q⟩:=h;cases ry;rcases hq with hq|hq
 . obtain⟨its,r,pl,hz⟩:=I.list hq
   refine SeqAt.notIn_listAt (eqU x) pl.isList (fun w hw=>qAr rx fx r fs w (by simpa using hw)) ⟨.bl _,H,I,O,?_⟩;rw[show its.toArray.any (eqU x)=its.any (eqU x) by simp,qEs r fs];exact q
 . obtain⟨its,r,pl,hz⟩:=I.tuple hq
   refine SeqAt.notIn_tupleAt (eqU x) pl (fun w hw=>qAr rx fx r fs w (by simpa using hw)) ⟨.bl _,H,I,O,?_⟩;rw[show its.toArray.any (eqU x)=its.any (eqU x) by simp,qEs r fs];exact q
theorem qh:wc X (.builtin "len") (fun xs H Q=> ∃p ys,xs=[.ref p]/\(SqL X.K H p ys\/SqT X.K H p ys)/\Q (.int ys.length) H):=by
 intro pins s σ H xs us Q I r h;obtain⟨p,ys,rfl,hq,q⟩:=h;obtain⟨u,rfl,rx⟩:=qJl r;cases rx;have hn:=qId;rcases hq with hq|hq
 . obtain⟨its,r',pl,hz⟩:=I.list hq
   have hlen:=r'.length;exact Calls.call_len_list pl.isList (by simp only[List.size_toArray] <;> omega) ⟨.int ys.length,H,I.tok _,⟨s.toks+1,by rw[List.size_toArray,hlen]⟩,q⟩
 . obtain⟨its,r',pl,hz⟩:=I.tuple hq
   have hlen:=r'.length;exact len_tuple pl (by simp only[List.size_toArray] <;> omega) ⟨.int ys.length,H,I.tok _,⟨s.toks+1,by rw[List.size_toArray,hlen]⟩,q⟩
theorem qCf:wc X (.builtin "len") (fun xs H Q=> ∃z,xs=[.str z]/\z.length<=sizeLine/\Q (.int z.length) H):=by intro pins s σ H xs us Q I r h;obtain⟨z,rfl,hz,q⟩:=h;obtain⟨u,rfl,t,rfl⟩:=qJl r;have hn:=qId;exact len_str (by omega) ⟨.int z.length,H,I.tok _,⟨_,O⟩,q⟩
theorem xV:wc X (.type "list") (fun xs H Q=> ∃p ys,xs=[.ref p]/\(SqL X.K H p ys\/SqT X.K H p ys)/\∀l,H l=none->Q (.ref l) (upd H l (.lst ys))):=by
 intro pins s σ H xs us Q I r h;obtain⟨p,ys,rfl,hq,q⟩:=h;obtain⟨u,rfl,rx⟩:=qJl r;cases rx;have fin:∀(its:List Value),Vals ys its->ys.length<=sizeLine->∀(h':Heap) (c':Nat),(∀b o',s.heap.get? b=some o'->h'.get? b=some o')->
  h'.get? s.heap.objs.size=some {cls:=.type "list",dict:=none,data:=.seq its.toArray c',slots:= #[]}->EP X pins σ Q (.ref s.heap.objs.size) {s with heap:=h'}:=fun its r' hz h' c' kp e=>
  ⟨.ref s.heap.objs.size,_,I.laid (t':=s.toks) kp (Nat.le_refl _) (show ObjOk X.prog X.w _ h' _ (.lst ys)from ⟨hz,its,c',r',e⟩),rfl,q _ (I.hok.fresh (Nat.le_refl _))⟩
 rcases hq with hq|hq
 . obtain⟨its,r',pl,hz⟩:=I.list hq
   have hlen:=r'.length;obtain⟨o,ho,hc,n,hd⟩:=pl.isList;exact call_list_seq p (.inl rfl) ho hc hd (fun h' c' kp e=>fin its r' hz h' c' kp e) (by simp only[List.size_toArray] <;> omega)
 . obtain⟨its,r',pl,hz⟩:=I.tuple hq
   have hlen:=r'.length;obtain⟨o,ho,hc,n,hd⟩:=pl;exact call_list_seq p (.inr rfl) ho hc hd (fun h' c' kp e=>fin its r' hz h' c' kp e) (by simp only[List.size_toArray] <;> omega)
def tyV(K:PySem.W.Frag)(T:String)(x:V)(H:Hp):Prop:=match x with
 |.str _=>T="str"
 |.int _=>T="int"
 |.ref p=>(T="list"/\∃xs,SqL K H p xs)\/(T="tuple"/\∃o,K.lookup p=some o/\o.cls=.type "tuple"/\o.dict=none)\/
  (T="dict"/\((∃kvs,H p=some (.dK kvs))\/∃kvs,H p=some (.dT kvs)))\/(T="set"/\∃S n,H p=some (.set S n))
 |_=>False
theorem qSf{pins:List (Addr×Obj)}{σ:St}{H:Hp}{s:Shared}{T:String}{x:V}{v:Value}(I:Inv X pins σ H s)(r:RelV x v)(ty:tyV X.K T x H):
 s.TypeIs v T/\∀a,v=.ref a->∃ob,s.heap.get? a=some ob/\ob.dict=none:=by
 cases x with
 |str z=>
  obtain⟨t,rfl⟩:=r;cases (show T="str" from ty);exact⟨typeIs_str s z t,fun _ e=>nomatch e⟩
 |int i=>
  obtain⟨t,rfl⟩:=r;cases (show T="int" from ty);exact⟨typeIs_int s i t,fun _ e=>nomatch e⟩
 |ref p=>
  cases r;rcases ty with ⟨rfl,xs,hq⟩|⟨rfl,o,hk,hc,hd⟩|⟨rfl,hk⟩|⟨rfl,S,n,hk⟩
  . obtain⟨its,_,pl,_⟩:=I.list hq
    refine⟨pl.isList.typeIs,fun a e=>?_⟩;cases e;obtain⟨o,n,e,c,hd,_⟩:=pl;exact⟨o,e,hd⟩
  . refine⟨⟨o,I.kIn p o hk,hc⟩,fun a e=>?_⟩
    cases e;exact⟨o,I.kIn _ o hk,hd⟩
  . have z:∃o,s.heap.get? p=some o/\o.ExactDict:=by
     rcases hk with ⟨kvs,hk⟩|⟨kvs,hk⟩
     . obtain⟨_,_,_,_,o,_,_,e,ex,_⟩:=I.hok p _ hk
       exact⟨o,e,ex⟩
     . obtain⟨_,_,_,_,o,_,_,e,ex,_⟩:=I.hok p _ hk
       exact⟨o,e,ex⟩
    obtain⟨o,e,ex⟩:=z;refine⟨⟨o,e,ex.1⟩,fun a e2=>?_⟩;cases e2;exact⟨o,e,ex.2.1⟩
  . obtain⟨o,_,_,_,e,ex,_⟩:=I.hok p _ hk
    refine⟨⟨o,e,ex.1⟩,fun a e2=>?_⟩;cases e2;exact⟨o,e,ex.2.1⟩
 |_=>exact False.elim ty
def qZc(K:PySem.W.Frag)(T:String)(r:V->List V->Hp->VK->Prop)(to:TE):TE:=fun σ H Q=>to σ H fun x H1=>tyV K T x H1/\r x [] H1 Q
def tBM(K:PySem.W.Frag)(T:String)(r:V->List V->Hp->VK->Prop)(to:TE)(t:TA):TE:=fun σ H Q=>to σ H fun x H1=>tyV K T x H1/\t σ H1 fun xs H2=>r x xs H2 Q
variable{o e:Expr}{es:List Expr}{to:TE}{t:TA}{name:Str}{apos cpos:Pos}{T id:String}{r:V->List V->Hp->VK->Prop}
theorem ji(pa:PlainAttrs T)(slot:Slot T name id)(hty:typeOf (.builtin id)=pure (.type "method_descriptor"))(hm:MtR X id r)(ho:PE X o to)
 (hbase:attributeBase o name X.env (eval o X.env)=eval o X.env:=by rfl) (hline:(apos.endLine==cpos.line)=true:=by rfl):PE X (.Call (.Attribute o name apos) [] [] cpos) (qZc X.K T r to):=by
 intro pins s σ H Q I h;refine wpAny_Call_method0_late hbase hline (thn (ho pins s σ H _ I h) fun v s1 ⟨x,H1,I1,r1,ty,q1⟩=>?_);obtain⟨h1,h2⟩:=qSf I1 r1 ty;exact⟨T,id,pa,slot,hty,h1,h2,Calls.callWith_builtin rfl (PySem.evalArgs_none (hm pins s1 σ H1 x [] v [] Q I1 r1 .nil q1))⟩
theorem qCn(pa:PlainAttrs T)(slot:Slot T name id)(hty:typeOf (.builtin id)=pure (.type "method_descriptor"))(hm:MtR X id r)(ho:PE X o to)(ha:PA X (e::es) t)
 (hbase:attributeBase o name X.env (eval o X.env)=eval o X.env:=by rfl)
 (hfew:((backTo cpos (starEach (e::es) X.env)).all (fun x=>!x.1) && (backToKw cpos (keywordEach [] X.env)).all (fun x=>x.1.isSome)
   && decide ((e::es).length+([]:List Keyword).length+(if ([]:List Keyword).isEmpty then 0 else 1)<30))=true:=by rfl)
 (hline:(apos.endLine==cpos.line)=true:=by rfl) (hs:starEach (e::es) X.env=(false,eval e X.env)::starEach es X.env:=by rfl) (hplain:(backTo cpos (starEach es X.env)).any (·.1)=false:=by rfl):
 PE X (.Call (.Attribute o name apos) (e::es) [] cpos) (tBM X.K T r to t):=by
 intro pins s σ H Q I h;refine wpAny_Call_method_late hbase hfew hline rfl (thn (ho pins s σ H _ I h) fun v s1 ⟨x,H1,I1,r1,ty,q1⟩=>?_);obtain⟨h1,h2⟩:=qSf I1 r1 ty;refine⟨T,id,pa,slot,hty,h1,h2,?_⟩;have hA:=ha cpos pins s1 σ H1 _ I1 q1;rw[hs]at hA⊢;refine Calls.callWith_builtin (by show (false || (backTo cpos (starEach es X.env)).any (·.1))=false;rw[hplain] <;> rfl) (Calls.evalArgs_plain ?_);exact thn hA fun us s2 ⟨vs,H2,I2,r2,q2⟩=>hm pins s2 σ H2 x vs v us Q I2 r1 r2 q2
end
def MtM(X:Cx)(id:String)(r:V->List V->Hp->VK->Prop):Prop:=
 ∀(pins:List (Addr×Obj)) (s:Shared) (σ:St) (H:Hp) (x:V) (xs:List V) (v:Value) (us:List Value) (Q:VK),Inv X pins σ H s->RelV x v->Vals xs us->r x xs H Q->
  wpAny (model X.prog X.w) X.A (call (.builtin id) (v::us)) (EP X pins σ Q) X.xe s
theorem Vals.one:∀{x:V} {us:List Value},Vals [x] us->∃u,us=[u]/\RelV x u
 |_,_,.cons r .nil=>⟨_,rfl,r⟩
theorem Vals.two:∀{x y:V} {us:List Value},Vals [x,y] us->∃u v,us=[u,v]/\RelV x u/\RelV y v
 |_,_,_,.cons r (.cons q .nil)=>⟨_,_,rfl,r,q⟩
theorem Vals.zero:∀{us:List Value},Vals [] us->us=[]
 |_,.nil=>rfl
theorem Vals.dropLast{xs:List V}{us:List Value}(h:Vals xs us):Vals xs.dropLast us.dropLast:=by
 induction h with
 |nil=>exact .nil
 |cons r t ih=>
  cases t with
  |nil=>exact .nil
  |cons q t'=>exact .cons r ih
theorem Vals.eraseIdx:∀{xs:List V} {us:List Value} (i:Nat),Vals xs us->Vals (xs.eraseIdx i) (us.eraseIdx i)
 |_,_,_,.nil=>.nil
 |_,_,0,.cons _ t=>t
 |_,_,i+1,.cons r t=>.cons r (Vals.eraseIdx i t)
theorem Vals.reverse{xs:List V}{us:List Value}(h:Vals xs us):Vals xs.reverse us.reverse:=by
 induction h with
 |nil=>exact .nil
 |cons r t ih=>rw[List.reverse_cons,List.reverse_cons];exact Vals.append ih (.cons r .nil)
theorem qNb{α:Type}(l:List α):l.eraseIdx (l.length-1)=l.dropLast:=by
 induction l with
 |nil=>rfl
 |cons a r ih=>
  cases r with
  |nil=>rfl
  |cons b r=>
   have e:(a::b::r).length-1=((b::r).length-1)+1:=by have h1:(a::b::r).length=r.length+2:=rfl;have h2:(b::r).length=r.length+1:=rfl;omega
   rw[e,List.eraseIdx_cons_succ,ih]
   all_goals rfl
section
variable{X:Cx}{pins:List (Addr×Obj)}{σ:St}{H:Hp}{s:Shared}{l b:Addr}{xs ys zs:List V}
theorem Inv.lset{its its':List Value}{n:Nat}{f:Array Value->Array Value}{t':Nat}(I:Inv X pins σ H s)(hH:H l=some (.lst xs))
 (e:s.heap.get? l=some {cls:=.type "list",data:=.seq its.toArray n}) (hf:f its.toArray=its'.toArray) (hv:Vals ys its') (hz:ys.length<=sizeLine):
 Inv X pins σ (upd H l (.lst ys)) {s with heap:=s.heap.update l (Obj.mapSeq f),toks:=t'}:=by
 have q:=PySem.IsL.update e f;rw[hf]at q;refine I.write (x:=l) (e:=l) (by rw[hH];exact trivial) (.inl rfl) (fun b' u hb hu=>(Heap.get?_update_other s.heap (Obj.mapSeq f) (Ne.symm hb)).trans hu) ⟨_,q⟩ ?_;exact⟨hz,its',_,hv,q⟩
theorem Inv.lnew{its:List Value}{t':Nat}(I:Inv X pins σ H s)(hv:Vals ys its)(hz:ys.length<=sizeLine):
 Inv X pins σ (upd H s.heap.objs.size (.lst ys)) {s with heap:=s.heap.push {cls:=.type "list",data:=.seq its.toArray},toks:=t'}:=
 I.laid (fun _ _ q=>Heap.get?_push_of_some _ q) (Nat.le_refl _) ⟨hz,its,0,hv,Heap.get?_push_size _ rfl⟩
theorem Inv.fresh(I:Inv X pins σ H s):H s.heap.objs.size=none:=I.hok.fresh (Nat.le_refl _)
theorem Inv.lstM(I:Inv X pins σ H s)(hH:H l=some (.lst xs)):xs.length<=sizeLine/\∃(its:List Value) (n:Nat),Vals xs its/\xs.length=its.length/\s.heap.get? l=some {cls:=.type "list",data:=.seq its.toArray n}:=by obtain⟨z,its,n,r,e⟩:=I.hok l _ hH;exact⟨z,its,n,r,r.length,e⟩
theorem qQj{n:Nat}(h:n<=sizeLine):Builtin.List.listTooLong n=false:=by unfold Builtin.List.listTooLong;exact decide_eq_false (by omega)
end
section
variable{X:Cx}
inductive qTe(x:V)(vs:List V)(H:Hp)(Q:VK):Prop
|mk l xs y (_:x=.ref l) (_:vs=[y]) (_:H l=some (.lst xs)) (_:xs.length<sizeLine) (_:Q .non (upd H l (.lst (xs++[y]))))
theorem jv:MtM X "list.append" qTe:=by intro pins s σ H x vs v us Q I rx rv h;obtain⟨l,xs,y,rfl,rfl,hH,hz,q⟩:=h;cases rx;obtain⟨u,rfl,ru⟩:=rv.one;obtain⟨z,its,n,r,hl,e⟩:=I.lstM hH;refine call_meets F.slot_list_append ⟨_,e,O⟩ F.entry_list_append (F.args_list_append_2 _ _) (PySem.list_append l its.toArray n u (by rw[List.size_toArray];omega)) ⟨e,?_⟩;refine⟨.non,_,I.lset (its':=its++[u]) hH e (by simp) (r.append (.cons ru .nil)) ?_,O,q⟩;rw[List.length_append,List.length_singleton];omega
inductive qTw(x:V)(vs:List V)(H:Hp)(Q:VK):Prop
|mk l b xs zs (_:x=.ref l) (_:vs=[.ref b]) (_:H l=some (.lst xs)) (_:H b=some (.lst zs)) (_:xs.length+zs.length<=sizeLine) (_:Q .non (upd H l (.lst (xs++zs))))
theorem qPl:MtM X "list.extend" qTw:=by
 intro pins s σ H x vs v us Q I rx rv h;obtain⟨l,b,xs,zs,rfl,rfl,hH,hB,hz,q⟩:=h;cases rx;obtain⟨u,rfl,ru⟩:=rv.one;cases ru;obtain⟨z,its,n,r,hl,e⟩:=I.lstM hH;obtain⟨z2,its2,n2,r2,hl2,e2⟩:=I.lstM hB;have hsz:its.toArray.size+its2.toArray.size<=sizeLine:=by rw[List.size_toArray,List.size_toArray];omega
 have hlong:¬(!its.toArray.isEmpty && Builtin.List.listTooLong (its.toArray.size+its2.toArray.size))=true:=by rw[qQj hsz,Bool.and_false];exact Bool.false_ne_true
 refine call_meets F.slot_list_extend ⟨_,e,O⟩ F.entry_list_extend (F.args_list_extend_2 _ _)
  (AutoSeq1.list_extend_list_list_0 l its.toArray n b its2.toArray n2 hlong (by rw[List.size_toArray];omega) (by omega)) ⟨e,e2,?_⟩
 refine⟨.non,_,I.lset (its':=its++its2) hH e (by simp) (r.append r2) ?_,O,q⟩;rw[List.length_append];omega
def qX6:V->List V->Hp->VK->Prop:=fun x vs H Q=> ∃l xs y,x=.ref l/\vs=[]/\H l=some (.lst xs)/\xs[xs.length-1]?=some y/\Q y (upd H l (.lst xs.dropLast))
theorem jk:MtM X "list.pop" qX6:=by
 intro pins s σ H x vs v us Q I rx rv h;obtain⟨l,xs,y,rfl,rfl,hH,hy,q⟩:=h;cases rx;have hus:=rv.zero;subst hus;obtain⟨z,its,n,r,hl,e⟩:=I.lstM hH;obtain⟨u,hu,ru⟩:=r.get hy;have hy':its.toArray[its.toArray.size-1]?=some u:=by show its.toArray[its.length-1]?=some u;rw[<-Array.getElem?_toList,<-hl];exact hu
 refine call_meets F.slot_list_pop ⟨_,e,O⟩ F.entry_list_pop (F.args_list_pop_1 _) (MeetsSeq.list_pop_last l its.toArray n u hy' (by rw[List.size_toArray];omega)) ⟨e,?_⟩;refine⟨y,_,I.lset (its':=its.dropLast) hH e ?_ r.dropLast ?_,ru,q⟩
 . show its.toArray.eraseIdxIfInBounds (its.toArray.size-1)=its.dropLast.toArray
   rw[List.size_toArray,List.eraseIdxIfInBounds_toArray,qNb]
 . rw[List.length_dropLast]
   omega
inductive qYl(x:V)(y:V)(H:Hp)(Q:VK):Prop
|mk l b xs zs (_:x=.ref l) (_:y=.ref b) (_:H l=some (.lst xs)) (_:H b=some (.lst zs)) (_:xs.length+zs.length<=sizeLine) (_:∀p,H p=none->Q (.ref p) (upd H p (.lst (xs++zs))))
theorem qAt:OpR X (binaryOp .Add) qYl:=by
 intro pins s σ H x y v u Q I rx ry h;obtain⟨l,b,xs,zs,rfl,rfl,hH,hB,hz,q⟩:=h;cases rx;cases ry;obtain⟨z,its,n,r,hl,e⟩:=I.lstM hH;obtain⟨z2,its2,n2,r2,hl2,e2⟩:=I.lstM hB;refine PySem.P.add_list e e2 ?_ (by rw[List.size_toArray,List.size_toArray];omega);have ea:its.toArray++its2.toArray=(its++its2).toArray:=by simp
 rw[ea];exact⟨.ref _,_,I.lnew (t':=s.toks) (r.append r2) (by rw[List.length_append];omega),O,q _ I.fresh⟩
end
end L2
namespace Att
open PySem PySem.W PySem.Calls PyProof.Rows
theorem qEd{P:Params}{h:Heap}:∀(ns:List Int) (vs:List Value),WellAll P h vs (ns.map WData.int)->IntsAre vs ns:=by
 intro ns
 induction ns with
 |nil=>
  intro vs w;rw[List.map_nil]at w;cases w;exact .nil
 |cons n ns ih=>
  intro vs w;rw[List.map_cons]at w;cases w with
  |cons a b=>
   cases a;exact .cons _ _ (ih _ b)
theorem qQd{l:OpenLaw}{n:Nat}(hn:l.most=some n){P:Params}{h:Heap}{args:List WData}{vals:List Value}
 (hpre:l.row.toRowW.claim.pre args=true) (hwl:WellAll P h vals args):
 ∃a vs ns,vals=[Value.ref a]/\args=[WData.list (ns.map WData.int)]/\h.get? a=some {cls:=.type "list",data:=.seq vs.toArray}/\IntsAre vs ns/\ns.length<=n:=by
 have hsh:WShape.hasAll [] args [.list .int]=true:=(pre_splitW hpre).1;have hc:l.pre.holds [] {args:=args}=true:=(pre_splitW hpre).2;obtain⟨d,r,rfl,h1,h2⟩:=hasAllW_cons hsh;obtain rfl:=hasAllW_nil h2;obtain⟨xs,rfl,h3⟩:=hasW_list h1;obtain⟨ns,rfl⟩:=items_int h3;have hlen:ns.length<=n:=by
  unfold OpenLaw.pre at hc;have h4:(WTm.not (.lt (.lit (.int (n:Int))) (.len (.arg 0)))).holds [] {args:=[.list (ns.map .int)]}=true:=by have h4:=(holds_andW hc).1;rw[hn]at h4;exact h4
  have h5:=condW_of h4 (w_not (w_lt w_lit (w_len_list (w_arg rfl))));rw[List.length_map]at h5;refine Nat.le_of_not_lt fun q=>?_;have q':(n:Int)<((ns.length:Nat):Int):=by omega
  first
   |(rw[decide_eq_true q']at h5;exact absurd h5 (by decide))
   |(simp at h5;omega)
 cases hwl with
 |cons w1 w2=>
  cases w2;cases w1 with
  |list ho hall=>exact⟨_,_,ns,rfl,rfl,ho,qEd ns _ hall,hlen⟩
theorem qPo(l:OpenLaw)(args:List WData):l.row.toRowW.claim.post args (.bool true) args=true:=
 postW_of (r:=l.row.toRowW) (X:=(true==true))
  (show WShape.has [] (.bool true) .bool=true by first|rfl|decide|simp[WShape.has,WShape.arms,WShape.armsAll])
  (show (WTm.eq .res (.lit (.bool true))).value [] {args:=args,res:=some (.bool true),after:=args}=some (.bool (true==true))from w_eq_bool (w_res rfl) w_lit) rfl
theorem attach_call{l:OpenLaw}{n:Nat}{q:Program}{loose:List Str}{XP:(Str->Option Value)->Heap->Prop}{YP:World->Heap->Prop}{d:DefRec}
 (hn:l.most=some n) (hdf:d.params.defaults=[])
 (call:∀(w:World) (s₀ s₁:Shared) (mg mb:Str->Option Value) (fa:Addr) (o:Obj) (pm cd doc:Value) (a:Addr) (vs:List Value) (ns:List Int),
   Ground q loose [] XP w s₀ mg mb s₁.heap->YP w s₁.heap->
   s₁.heap.get? fa=some o->o.data=.func (docDef d.name d.params d.body d.scope pm cd doc)->s₁.heap.CodeRec cd d.name->mg d.name=some (.ref fa)->
   s₁.heap.get? a=some {cls:=.type "list",data:=.seq vs.toArray}->IntsAre vs ns->ns.length<=n->s₁.gens= #[]->
   codeAny (model l.prog w) callerA (.call (.ref fa) ⟨[.ref a],[]⟩) (fun r s'=>r=.ok (.ret (.bool true))/\OldK s₁.heap s'.heap/\s'.os=s₁.os/\AllBare s'.gens) s₁):
 WalkO q loose XP YP l.row.toRowW d [] (fun f vs=>PySem.call f vs):=by
 intro w s₀ s₁ mg mb G Y fa o pm cd doc dV kV ho hd hcd hD hmg hg args vals as hpre hlay hrd hwl hlo;obtain rfl:dV=.none:=Dflts.none hD hdf;obtain rfl:kV=.none:=Dflts.noKw hD;obtain⟨a,vs,ns,rfl,rfl,hobj,hints,hlen⟩:=qQd hn hpre hwl;refine enter_call (codeAny_mono (call w s₀ s₁ mg mb fa o pm cd doc a vs ns G Y ho (fd_plain hd) hcd hmg hobj hints hlen hg) fun r s' hq=>?_);obtain⟨rfl,h2,h3,h4⟩:=hq;exact⟨.inl ⟨.bool true,.bool true,[],O,fun _=>rfl,.bool true,qPo l _,fun _=>⟨List.Pairwise.nil,fun _ hm=>(nomatch hm)⟩⟩,h2,h3,h4⟩
section
variable{prog:Program}{w:World}{A:Around}{E:Value->Shared->Prop}{s:Shared}{K:Frag}
def ledger(h:Heap)(L d:Addr):List (Addr×Obj):=(List.range h.objs.size).filterMap fun a=>if a=L\/a=d then none else (h.get? a).map fun o=>(a,o)
end
end Att
namespace L2
open PySem PySem.Spec PyProof.Rows
theorem qIn:∀{vs:List Value} {ns:List Int},IntsAre vs ns->Vals (ns.map V.int) vs
 |_,_,.nil=>.nil
 |_,_,.cons n t h=>.cons ⟨t,rfl⟩ (qIn h)
def qWx(H:Hp):Prop:= ∀b,H b=none\/∃o xs,H b=some (.frz o (.lst xs))
theorem qR2{P:Program}{w:World}{K:PySem.W.Frag}{mg mb:Str->Option Value}{CX:CXT}{k:Nat}{fa a:Addr}{fd:FuncData}{x:Str}{sp:Sp}{s₁:Shared}{vs:List Value}{ns:List Int}
 (KX:K.In s₁.heap) (hns:s₁.heap.Ns mainGlobals mg) (hb:s₁.heap.Ns builtinsNs mb) (hbb:∀x:Str,x≠"__name__"->mb x=bootBuiltins x) (hlim:s₁.heap.NoLimit) (hg:s₁.gens= #[])
 (ha:s₁.heap.get? a=some {cls:=.type "list",data:=.seq vs.toArray}) (hi:IntsAre vs ns) (hl:ns.length<=sizeLine) (hr:Room k callerA)
 (F:∀base:Heap,K.In base->base.Ns mainGlobals mg->FnOk P w K mg base CX k fa fd [x] sp) (hbind:∀(s:Shared) (u:Value),BindsTo s fd ⟨[u],[]⟩ [(x,u)])
 (hsp:∀H:Hp,qWx H->SqL K H a (ns.map V.int)->sp [.ref a] H (fun v _=>v=.bl true) fun _ _ _=>False)
 (hCX:∀H e s',CX [] H s₁ (fun _ _ _=>False) e s'->False):
 codeAny (model P w) callerA (.call (.ref fa) ⟨[.ref a],[]⟩) (fun r s'=>r=.ok (.ret (.bool true))/\OldK s₁.heap s'.heap/\s'.os=s₁.os/\AllBare s'.gens) s₁:=by
 have rv:=qIn hi;have lenV:=hi.length;have core:∀H:Hp,qWx H->SqL K H a (ns.map V.int)->HOk P w H s₁.heap->(∀b,H b≠none->b=a)->(H a≠none->K.lookup a=none)->
  codeAny (model P w) callerA (.call (.ref fa) ⟨[.ref a],[]⟩) (fun r s'=>r=.ok (.ret (.bool true))/\OldK s₁.heap s'.heap/\s'.os=s₁.os/\AllBare s'.gens) s₁:=by
  intro H hO hS hok hA hK;have base_of:∀{b:Addr} {o:Obj},s₁.heap.get? b=some o->H b=none->(qRa s₁.heap H).get? b=some o:=fun e n=>qRn e n;have noA:∀{b:Addr} {o:Obj} {es:Array DictEntry} {ep:Nat},s₁.heap.get? b=some o->o.data=.dict es ep->H b=none:=fun{b o es ep} e d=>by
   cases q:H b with
   |none=>rfl
   |some u=>
    have e':b=a:=hA b (by rw[q];simp);subst e';rw[ha]at e;cases e;have d':Data.seq vs.toArray _=Data.dict es ep:=d;cases d'
  have nsK:∀{b:Addr} {m:Str->Option Value},s₁.heap.Ns b m->(qRa s₁.heap H).Ns b m:=fun{b m} ⟨o,es,ep,e,d,r⟩=>⟨o,es,ep,base_of e (noA e d),d,r⟩;have hKb:K.In (qRa s₁.heap H):=fun b o e=>base_of (KX b o e) (by
   cases q:H b with
   |none=>rfl
   |some u=>
    have e':b=a:=hA b (by rw[q];simp);subst e';rw[hK (by rw[q];simp)]at e;cases e)
  have hM:Mod K mg (qRa s₁.heap H):=⟨hKb,nsK hns,⟨mb,nsK hb,hbb⟩,let ⟨mc,h1,h2⟩:=hlim;⟨mc,nsK h1,h2⟩⟩;have e0:Env0 P w K mg (qRa s₁.heap H) callerA [] s₁ H:=⟨rfl,hM,fun b o e=>qUd e,Nat.le_of_eq (qPz _ _),trivial,fun b hb=>absurd (show b∈([]:List Addr)from hb) (by simp),hok,.of_eq hg⟩;refine codeAny_mono ((F _ hKb (nsK hns)).run callerA [] s₁ H ⟨[.ref a],[]⟩ [.ref a] [.ref a] _ _ hr e0 (hbind s₁ (.ref a)) (.cons rfl .nil) (hsp H hO hS)) fun r s' h=>?_;cases r with
  |error e=>exact(hCX H e s' h).elim
  |ok fl=>
   cases fl with
   |next=>exact False.elim h
   |brk=>exact False.elim h
   |cont=>exact False.elim h
   |ret u=>
    obtain⟨v,H',os,bare,un,hok',r',q⟩:=h;have q':v=.bl true:=q;subst q';obtain rfl:u=Value.bool true:=r';refine⟨O,OldK.of_keep fun b o e=>?_,os,bare⟩;cases q:H b with
    |none=>exact un.keep b o e q (by intro z;exact absurd (show b∈([]:List Addr)from z) (by simp)) (by simp)
    |some u=>
     rcases hO b with z|⟨ob,xs,z⟩
     . rw[q]at z;cases z
     . have z2:=un.frzs b ob _ z
       obtain⟨e1,_⟩:=hok b _ z;obtain⟨e2,_⟩:=hok' b _ z2;rw[e]at e1;cases e1;exact e2
 cases hk:K.lookup a with
 |some o=>
  have e:=KX a o hk;rw[ha]at e;cases e;refine core (fun _=>none) (fun _=>.inl rfl) (.inr ⟨_,vs.toArray,_,hk,rfl,rfl,rfl,by rw[List.size_toArray,lenV];exact hl,by simpa using rv⟩) (fun b u z=>by have z':(none:Option HO)=some u:=z;cases z') (fun b z=>absurd rfl z) fun z=>absurd rfl z
 |none=>
  refine core (fun b=>if b=a then some (.frz {cls:=.type "list",data:=.seq vs.toArray} (.lst (ns.map V.int)))else none) (fun b=>?_) (.inl (.inr ⟨{cls:=.type "list",data:=.seq vs.toArray},if_pos rfl⟩)) (fun b u z=>?_) (fun b z=>?_) fun _=>hk
  . by_cases hb:b=a
    . exact .inr ⟨_,_,if_pos hb⟩
    . exact .inl (if_neg hb)
  . by_cases hb:b=a
    . have z':=(if_pos hb).symm.trans z
      cases z';subst hb;exact⟨ha,by rw[List.length_map];exact hl,vs,_,rv,ha⟩
    . have z':=(if_neg hb).symm.trans z
      cases z'
  . by_cases hb:b=a
    . exact hb
    . exact absurd (if_neg hb) z
theorem walk_of{l:PySem.W.OpenLaw}{n k:Nat}{q:Program}{loose:List Str}{XP:(Str->Option Value)->Heap->Prop}{YP:World->Heap->Prop}{d:DefRec}{K:Params->PySem.W.Frag}{CX:World->CXT}{sp:World->Sp}{x:Str}
 (hn:l.most=some n) (hn2:n<=sizeLine) (hdf:d.params.defaults=[]) (hr:Room k callerA)
 (hY:∀(w:World) (h:Heap),YP w h->(K w.params).In h)
 (F:∀(w:World) (mg:Str->Option Value) (fa:Addr) (h:Heap),(K w.params).In h->h.Ns mainGlobals mg->mg d.name=some (.ref fa)->
   ∃fd:FuncData,(∀(s:Shared) (u:Value),BindsTo s fd ⟨[u],[]⟩ [(x,u)])/\
    ∀base:Heap,(K w.params).In base->base.Ns mainGlobals mg->FnOk l.prog w (K w.params) mg base (CX w) k fa fd [x] (sp w))
 (hsp:∀(w:World) (H:Hp) (a:Addr) (ns:List Int),ns.length<=n->qWx H->SqL (K w.params) H a (ns.map V.int)->sp w [.ref a] H (fun v _=>v=.bl true) fun _ _ _=>False)
 (hCX:∀(w:World) (H:Hp) (s:Shared) (e:Value) (s':Shared),CX w [] H s (fun _ _ _=>False) e s'->False):
 PySem.W.WalkO q loose XP YP l.row.toRowW d [] (fun f vs=>PySem.call f vs):=by
 refine Att.attach_call hn hdf fun w s₀ s₁ mg mb fa o pm cd doc a vs ns G Y ho hd hcd hmg hobj hints hlen hg=>?_;have KX:=hY w _ Y;obtain⟨fd,hb,hF⟩:=F w mg fa _ KX G.T.g hmg;exact qR2 KX G.T.g G.T.b G.T.builtins G.T.nolimit hg hobj hints (Nat.le_trans hlen hn2) hr hF hb (fun H hO hS=>hsp w H a ns hlen hO hS) fun H e s'=>hCX w H s₁ e s'
def qT8(s:Stmt)(j:Nat):Stmt:=match s with
 |.ClassDef _ _ _ body _ _ _ _ _ _ _=>body.getD j (.Pass ⟨0,0,0,0⟩)
 |_=>.Pass ⟨0,0,0,0⟩
def vz(s:Stmt):Arguments:=match s with
 |.FunctionDef _ a _ _ _ _ _ _ _ _=>a
 |_=>{posonlyargs:=[],args:=[],vararg:=none,kwonlyargs:=[],kw_defaults:=[],kwarg:=none,defaults:=[]}
def zo(s:Stmt):List Stmt:=match s with
 |.FunctionDef _ _ b _ _ _ _ _ _ _=>b
 |_=>[]
def qH(s:Stmt):Scope:=match s with
 |.FunctionDef _ _ _ _ _ _ sc _ _ _=>sc
 |_=>{kind:=.function,names:=[],isGenerator:=false,isCoroutine:=false}
abbrev CX0:CXT:=fun _ _ _ _ _ _=>False
abbrev E0:XK:=fun _ _ _=>False
theorem qW8{X:Cx}:qMh CX0 X E0:=fun _ _ _ _ _ _ _ h=>h.elim
structure Fun(K:PySem.W.Frag)(x qual:Str)(st:Stmt)(f:Addr)(fd:FuncData):Prop where
 ex:∃(oc:Value) (od:Option Addr) (kV doc pm:Value) (an:Option Addr) (cdv ct:Value) (osl:Array (Option Value)),
  fd=PySem.W.fnOf x qual (vz st) (zo st) (qH st) .none kV doc pm an cdv ct/\K.lookup f=some ⟨oc,od,.func fd,osl⟩/\PySem.W.codeIn K cdv qual=true
 kp:PySem.W.keepIn K (.ref f)=true
section
variable{P:Program}{w:World}{K:PySem.W.Frag}{mg:Str->Option Value}{base:Heap}
theorem Fun.ok{x qual:Str}{st:Stmt}{f:Addr}{fd:FuncData}{N ps:List Str}{k:Nat}{sp:Sp}(F:Fun K x qual st f fd)(S:qO N ps (qH st))(len:∀vs H Q E,sp vs H Q E->vs.length=ps.length)
 (hbody:∀(cdv:Value) (A:Around) (outer:List Env) (s:Shared) (H:Hp) (vs:List V) (Q:VK) (E:XK),Room k (A.deeper (envOfC qual (qH st) s.heap.objs.size f cdv))->sp vs H Q E->
   ∃t,PSs (qQh CX0 P w K mg base N qual (qH st) f cdv A outer s H E).nox (zo st) t/\t {nx:=fun _ H'=>Q .non H',rt:=Q} (qGc N vs) H):FnOk P w K mg base CX0 (k+1) f fd ps sp:=by
 obtain⟨oc,od,kV,doc,pm,an,cdv,ct,osl,rfl,lk,hcd⟩:=F.ex;refine qV9 lk hcd S len fun A outer s H vs Q E hr hsp=>?_;obtain⟨t,h,q⟩:=hbody cdv A outer s H vs Q E hr hsp;exact⟨t,h.nox,q⟩
theorem Fun.binds{x qual:Str}{st:Stmt}{f:Addr}{fd:FuncData}{ps:List Str}(F:Fun K x qual st f fd)
 (h:∀(kV doc pm:Value) (an:Option Addr) (cdv ct:Value) (us:List Value),us.length=ps.length->bindArgs (PySem.W.fnOf x qual (vz st) (zo st) (qH st) .none kV doc pm an cdv ct) ⟨us,[]⟩=pure (ps.zip us)):Binds K fd ps []:=by
 obtain⟨oc,od,kV,doc,pm,an,cdv,ct,osl,rfl,lk,hcd⟩:=F.ex;exact .all (h kV doc pm an cdv ct)
theorem qSl{x qual:Str}{st:Stmt}{f:Addr}{oc:Value}{od an:Option Addr}{osl:Array (Option Value)}{kV doc pm cdv ct:Value}(l:K.lookup f=some ⟨oc,od,.func (PySem.W.fnOf x qual (vz st) (zo st) (qH st) .none kV doc pm an cdv ct),osl⟩)
 (c:PySem.W.codeIn K cdv qual=true) (k:PySem.W.keepIn K (.ref f)=true):Fun K x qual st f (PySem.W.fnOf x qual (vz st) (zo st) (qH st) .none kV doc pm an cdv ct):=⟨⟨oc,od,kV,doc,pm,an,cdv,ct,osl,rfl,l,c⟩,k⟩
end
theorem qKp{A:Around}{k:Nat}(hr:Room k A):A.units+1<cLine:=Nat.lt_of_le_of_lt (Nat.add_le_add_left (by decide:1<=64) _) hr.units
theorem qc{n:Nat}(h:n<=1000):n<sizeLine:=Nat.lt_of_le_of_lt h (by decide)
section
variable{X:Cx}
theorem pv(i:Nat){x:Str}{pos:Pos}(hN:X.N[i]?=some x:=by rfl)(hv:Vis X.env.scope x:=by first|exact Or.inl rfl|exact Or.inr (Or.inl rfl)|exact Or.inr (Or.inr rfl))(hd:(x==("__debug__":Str))=false:=by decide)
 (hcd:(x==("__classdict__":Str))=false:=by decide):PE X (.Name x pos) (qUl i):=qV0 hN hv hd hcd
end
theorem qt{A B:Prop}(h:B):if false=true then A else B:=by rw[if_neg Bool.false_ne_true];exact h
theorem jl{A B:Prop}(h:A):if true=true then A else B:=by rw[if_pos rfl];exact h
theorem jo{c A B:Prop} [Decidable c] (h1:c->A)(h2:¬c->B):if c then A else B:=by
 by_cases h:c
 . rw[if_pos h]
   exact h1 h
 . rw[if_neg h]
   exact h2 h
theorem qU9{c A B:Prop} [Decidable c] (hc:c)(h:B):if (!decide c)=true then A else B:=by rw[decide_eq_true hc];exact qt h
def Same(H H':Hp):Prop:= ∀b o,H b=some o->H' b=some o
theorem Same.refl(H:Hp):Same H H:=fun _ _ h=>h
theorem Same.trans{H H1 H2:Hp}(a:Same H H1)(b:Same H1 H2):Same H H2:=fun c o h=>b c o (a c o h)
theorem Same.free{H H':Hp}(e:Same H H'){l:Addr}(h:H' l=Option.none):H l=Option.none:=by
 cases q:H l with
 |none=>rfl
 |some o=>
  rw[e l o q]at h;cases h
theorem Same.seq{K:PySem.W.Frag}{H H':Hp}{a:Addr}{xs:List V}(e:Same H H')(h:SqL K H a xs):SqL K H' a xs:=by
 rcases h with (h|⟨o,h⟩)|h
 . exact .inl (.inl (e _ _ h))
 . exact .inl (.inr ⟨o,e _ _ h⟩)
 . exact .inr h
section
variable{κ:Type} [DecidableEq κ]
def qBg(kvs:List (κ×V))(k:κ):Option V:=(kvs.find? fun kv=>decide (kv.1=k)).map (·.2)
def qG1(kvs:List (κ×V))(k:κ)(v:V):List (κ×V):=
 if (kvs.any fun kv=>decide (kv.1=k))=true then kvs.map (fun kv=>if kv.1=k then (kv.1,v)else kv)else kvs++[(k,v)]
theorem xI{p:κ×V}{r:List (κ×V)}{k:κ}(e:p.1=k):qBg (p::r) k=some p.2:=by simp[qBg,List.find?_cons,e]
theorem xJ{p:κ×V}{r:List (κ×V)}{k:κ}(e:¬p.1=k):qBg (p::r) k=qBg r k:=by simp[qBg,List.find?_cons,e]
theorem qC9(k:κ):∀kvs:List (κ×V),(kvs.any fun kv=>decide (kv.1=k))=(qBg kvs k).isSome
 |[]=>rfl
 |p::r=>by
  rw[List.any_cons];by_cases e:p.1=k
  . simp only[xI e,decide_eq_true e,Bool.true_or,Option.isSome_some]
  . rw[xJ e,decide_eq_false e,Bool.false_or];exact qC9 k r
theorem qMj(k j:κ)(y:V):∀kvs:List (κ×V),qBg (kvs.map fun kv=>if kv.1=k then (kv.1,y)else kv) j=(qBg kvs j).map fun x=>if j=k then y else x
 |[]=>rfl
 |p::r=>by
  have ih:=qMj k j y r;rw[List.map_cons];by_cases h:p.1=k
  . rw[if_pos h]
    by_cases e:p.1=j
    . rw[xI (p:=(p.1,y)) e,xI e,Option.map_some,if_pos (e.symm.trans h)]
    . rw[xJ (p:=(p.1,y)) e,xJ e,ih]
  . rw[if_neg h]
    by_cases e:p.1=j
    . rw[xI (p:=p) e,xI e,Option.map_some,if_neg (fun z=>h (e.trans z))]
    . rw[xJ (p:=p) e,xJ e,ih]
theorem qHx(k j:κ)(y:V):∀kvs:List (κ×V),qBg kvs k=none->qBg (kvs++[(k,y)]) j=if j=k then some y else qBg kvs j
 |[],_=>by
  by_cases e:k=j
  . rw[if_pos e.symm];exact xI (p:=(k,y)) e
  . rw[if_neg (fun z=>e z.symm)];exact xJ (p:=(k,y)) e
 |p::r,hn=>by
  rw[List.cons_append];have hk:¬p.1=k:=fun z=>by rw[xI z]at hn;cases hn
  rw[xJ hk]at hn;have ih:=qHx k j y r hn;by_cases e:p.1=j
  . rw[xI e,xI e,if_neg (fun z=>hk (e.trans z))]
  . rw[xJ e,xJ e,ih]
theorem qQ4(kvs:List (κ×V))(k j:κ)(y:V):qBg (qG1 kvs k y) j=if j=k then some y else qBg kvs j:=by
 unfold qG1;by_cases a:(kvs.any fun kv=>decide (kv.1=k))=true
 . rw[if_pos a,qMj]
   rw[qC9]at a;by_cases e:j=k
   . obtain⟨x,hx⟩:=Option.isSome_iff_exists.mp a
     rw[if_pos e,e,hx,Option.map_some,if_pos rfl]
   . rw[if_neg e]
     cases qBg kvs j with
     |none=>rfl
     |some x=>rw[Option.map_some,if_neg e]
 . rw[if_neg a]
   refine qHx k j y kvs ?_;rw[qC9]at a;cases q:qBg kvs k with
   |none=>rfl
   |some x=>rw[q]at a;exact(a rfl).elim
theorem wZ(kvs:List (κ×V))(k:κ)(v:V):(qG1 kvs k v).length<=kvs.length+1:=by
 unfold qG1;split
 . rw[List.length_map];omega
 . rw[List.length_append,List.length_cons,List.length_nil];omega
theorem RelO.isSome_eq{o:Option V}{u:Option Value}(r:RelO o u):o.isSome=u.isSome:=by
 cases o with
 |none=>cases u with
  |none=>rfl
  |some _=>exact(show False from r).elim
 |some _=>cases u with
  |none=>exact(show False from r).elim
  |some _=>rfl
theorem RelO.getD{o:Option V}{u:Option Value}{d:V}{d':Value}(r:RelO o u)(rd:RelV d d'):RelV (o.getD d) (u.getD d'):=by
 cases o with
 |none=>cases u with
  |none=>exact rd
  |some _=>exact(show False from r).elim
 |some _=>cases u with
  |none=>exact(show False from r).elim
  |some _=>exact r
theorem KV.val{kvs:List (κ×V)}{vs:List (κ×Value)}(r:KV kvs vs)(k:κ):RelO (qBg kvs k) (valueAt vs k):=by
 unfold KV at r
 induction r with
 |nil=>exact True.intro
 | @cons p q ps qs h t ih=>
  obtain⟨h1,h2⟩:=h;by_cases e:p.1=k
  . have e':q.1=k:=h1.symm.trans e
    have b:valueAt (q::qs) k=some q.2:=by simp[valueAt,List.find?_cons,e']
    rw[xI e,b];exact h2
  . have e':¬q.1=k:=fun z=>e (h1.trans z)
    have b:valueAt (q::qs) k=valueAt qs k:=by simp[valueAt,List.find?_cons,e']
    rw[xJ e,b];exact ih
theorem KV.any{kvs:List (κ×V)}{vs:List (κ×Value)}(r:KV kvs vs)(k:κ):(kvs.any fun kv=>decide (kv.1=k))=vs.any fun kv=>decide (kv.1=k):=by
 unfold KV at r
 induction r with
 |nil=>rfl
 |cons h t ih=>rw[List.any_cons,List.any_cons,ih,h.1]
theorem KV.repl{kvs:List (κ×V)}{vs:List (κ×Value)}(r:KV kvs vs)(k:κ){y:V}{u:Value}(ry:RelV y u):
 KV (kvs.map fun kv=>if kv.1=k then (kv.1,y)else kv) (vs.map fun kv=>if kv.1=k then (kv.1,u)else kv):=by
 unfold KV at r⊢
 induction r with
 |nil=>exact .nil
 | @cons p q ps qs h t ih=>
  rw[List.map_cons,List.map_cons];refine .cons ?_ ih;obtain⟨h1,h2⟩:=h;by_cases e:p.1=k
  . rw[if_pos e,if_pos (h1.symm.trans e)];exact⟨h1,ry⟩
  . rw[if_neg e,if_neg (fun z=>e (h1.trans z))];exact⟨h1,h2⟩
theorem KV.put{kvs:List (κ×V)}{vs:List (κ×Value)}(r:KV kvs vs)(k:κ){y:V}{u:Value}(ry:RelV y u):KV (qG1 kvs k y) (stored vs k u):=by
 unfold qG1 stored;rw[r.any k];by_cases e:(vs.any fun kv=>decide (kv.1=k))=true
 . rw[if_pos e,if_pos e];exact r.repl k ry
 . rw[if_neg e,if_neg e];exact Paired.snoc r ⟨rfl,ry⟩
theorem KV.keys{kvs:List (κ×V)}{vs:List (κ×Value)}(r:KV kvs vs):kvs.map (·.1)=vs.map (·.1):=by
 unfold KV at r
 induction r with
 |nil=>rfl
 |cons h t ih=>rw[List.map_cons,List.map_cons,ih,h.1]
theorem KV.length{kvs:List (κ×V)}{vs:List (κ×Value)}(r:KV kvs vs):kvs.length=vs.length:=Paired.length r
end
theorem qM6{P:Program}{w:World}{k:Key}{u:Value}(r:RelV (kV k) u):(jP P w).is k u=true:=by
 cases k with
 |inl i=>obtain⟨t,e⟩:=(show ∃t,u=Value.int i t from r);subst e;exact qJ7 P w i t
 |inr x=>obtain⟨t,e⟩:=(show ∃t,u=Value.str x t from r);subst e;exact qKz P w x t
theorem qJd{P:Program}{w:World}:∀{ks:List Key} {us:List Value},Vals (ks.map kV) us->ItemsAre (jP P w) ks us
 |[],_,r=>by rw[List.map_nil]at r;cases r;exact .nil
 |k::ks,_,r=>by
  rw[List.map_cons]at r;cases r with
  |cons h t=>exact .cons (qM6 h) (qJd t)
abbrev KT(H:Hp):List (List Key×V)->List (List Key×Addr×Value)->Prop:=Paired fun p q=>p.1=q.1/\H q.2.1=some (.tup (p.1.map kV))/\RelV p.2 q.2.2
theorem KT.val{H:Hp}{kvs:List (List Key×V)}{xs:List (List Key×Addr×Value)}(r:KT H kvs xs)(k:List Key):RelO (qBg kvs k) ((atKey xs k).map (·.2)):=by
 induction r with
 |nil=>exact True.intro
 | @cons p q ps qs h t ih=>
  obtain⟨h1,_,h2⟩:=h;by_cases e:p.1=k
  . have e':q.1=k:=h1.symm.trans e
    have b:atKey (q::qs) k=some q.2:=by simp[atKey,List.find?_cons,e']
    rw[xI e,b];exact h2
  . have e':¬q.1=k:=fun z=>e (h1.trans z)
    have b:atKey (q::qs) k=atKey qs k:=by simp[atKey,List.find?_cons,e']
    rw[xJ e,b];exact ih
theorem KT.repl{H:Hp}{kvs:List (List Key×V)}{xs:List (List Key×Addr×Value)}(r:KT H kvs xs)(k:List Key){y:V}{u:Value}(ry:RelV y u):
 KT H (kvs.map fun kv=>if kv.1=k then (kv.1,y)else kv) (xs.map (putAt k u)):=by
 induction r with
 |nil=>exact .nil
 | @cons p q ps qs h t ih=>
  rw[List.map_cons,List.map_cons];refine .cons ?_ ih;obtain⟨h1,h2,h3⟩:=h;unfold putAt;by_cases e:p.1=k
  . rw[if_pos e,if_pos (h1.symm.trans e)];exact⟨h1,h2,ry⟩
  . rw[if_neg e,if_neg (fun z=>e (h1.trans z))];exact⟨h1,h2,h3⟩
theorem KT.put{H:Hp}{kvs:List (List Key×V)}{xs:List (List Key×Addr×Value)}(r:KT H kvs xs)(k:List Key){b:Addr}{y:V}{u:Value}(hb:H b=some (.tup (k.map kV)))(ry:RelV y u):
 KT H (qG1 kvs k y) (storedH xs k b u):=by
 have e:(kvs.any fun kv=>decide (kv.1=k))=(atKey xs k).isSome:=by rw[qC9,(r.val k).isSome_eq,Option.isSome_map]
 unfold qG1 storedH;rw[e];by_cases q:(atKey xs k).isSome=true
 . rw[if_pos q,if_pos q];exact r.repl k ry
 . rw[if_neg q,if_neg q];exact Paired.snoc r ⟨rfl,hb,ry⟩
theorem KT.keeps{H H':Hp}{kvs:List (List Key×V)}{xs:List (List Key×Addr×Value)}(r:KT H kvs xs)(ht:∀b ys,H b=some (.tup ys)->H' b=some (.tup ys)):KT H' kvs xs:=
 Paired.mapP r fun _ _ z=>⟨z.1,ht _ _ z.2.1,z.2.2⟩
section
variable{P:Program}{w:World}{H:Hp}{h:Heap}{a:Addr}
theorem qUm{u:HO}(ok:HOk P w H h)(e:Rd H a u):ObjOk P w H h a u:=e.ok ok
theorem qKn{kvs:List (Key×V)}(ok:HOk P w H h)(e:Rd H a (.dK kvs)):kvs.length<=sizeLine/\(a==sysModules)=false/\∃vs,KV kvs vs/\h.DictOf (jP P w) a vs:=
 show ObjOk P w H h a (.dK kvs)from qUm ok e
theorem qUw{kvs:List (Key×V)}(ok:HOk P w H h)(e:H a=some (.dK kvs)):kvs.length<=sizeLine/\(a==sysModules)=false/\∃vs,KV kvs vs/\h.DictOf (jP P w) a vs:=qKn ok (.inl e)
theorem qJ1{ks:List Key}(ok:HOk P w H h)(e:H a=some (.tup (ks.map kV))):(tupleKind (jP P w)).is h ks a:=by obtain⟨_,its,r,o,h1,h2,n,h3⟩:=(show ObjOk P w H h a (.tup (ks.map kV))from ok a _ e);exact⟨o,its.toArray,n,h1,h2,h3,by simpa using qJd r⟩
theorem qPm{kvs:List (List Key×V)}(ok:HOk P w H h)(e:Rd H a (.dT kvs)):kvs.length<=sizeLine/\(a==sysModules)=false/\
 ∃xs,KT H kvs xs/\h.DictOfH (tupleKind (jP P w)) a xs:=by
 obtain⟨z,y,xs,r,o,es,ep,h1,h2,h3,h4,h5⟩:=(show ObjOk P w H h a (.dT kvs)from qUm ok e);refine⟨z,y,xs,r,o,es,ep,h1,h2,h3,h4,fun x hx=>?_,h5⟩;have all:∀{l:List (List Key×V)} {m:List (List Key×Addr×Value)},KT H l m->∀x∈m,(tupleKind (jP P w)).is h x.1 x.2.1:=by
  intro l m q
  induction q with
  |nil=>intro x hx;exact nomatch hx
  | @cons p q ps qs hq t ih=>
   intro x hx;rcases List.mem_cons.mp hx with e|hx
   . subst e
     exact qJ1 ok (by rw[<-hq.1];exact hq.2.1)
   . exact ih x hx
 exact all r x hx
theorem qWm{kvs:List (List Key×V)}(ok:HOk P w H h)(e:H a=some (.dT kvs)):kvs.length<=sizeLine/\(a==sysModules)=false/\
 ∃xs,KT H kvs xs/\h.DictOfH (tupleKind (jP P w)) a xs:=qPm ok (.inl e)
end
def DGet(H:Hp)(a:Addr)(y:V)(r:Option V):Prop:=
 (∃kvs k,Rd H a (.dK kvs)/\y=kV k/\r=qBg kvs k)\/∃kvs k b,Rd H a (.dT kvs)/\y=.ref b/\H b=some (.tup (k.map kV))/\r=qBg kvs k
def DPut(H:Hp)(a:Addr)(y v:V)(H':Hp):Prop:=
 (∃kvs k,H a=some (.dK kvs)/\y=kV k/\kvs.length<sizeLine/\H'=upd H a (.dK (qG1 kvs k v)))\/
 ∃kvs k b,H a=some (.dT kvs)/\y=.ref b/\H b=some (.tup (k.map kV))/\kvs.length<sizeLine/\H'=upd H a (.dT (qG1 kvs k v))
theorem DGet.k{H:Hp}{a:Addr}{kvs:List (Key×V)}{k:Key}(e:H a=some (.dK kvs)):DGet H a (kV k) (qBg kvs k):=.inl ⟨kvs,k,.inl e,rfl,rfl⟩
theorem DPut.k{H:Hp}{a:Addr}{kvs:List (Key×V)}{k:Key}{v:V}(e:H a=some (.dK kvs))(hl:kvs.length<sizeLine):DPut H a (kV k) v (upd H a (.dK (qG1 kvs k v))):=.inl ⟨kvs,k,e,rfl,hl,rfl⟩
section
variable{X:Cx}{pins:List (Addr×Obj)}{σ:St}{H:Hp}{s:Shared}{a:Addr}{y v:V}{u r:Value}{o:Option V}{A:Around}{E:Value->Shared->Prop}
theorem Inv.big(I:Inv X pins σ H s):sysModules<s.heap.objs.size:=by have h:mainGlobals<s.heap.objs.size:=(I.mod.glob.keeps I.bk).lt;exact Nat.lt_trans (by decide) h
theorem qPa{Q:Value->Shared->Prop}(hu:A.units+1<cLine)(I:Inv X pins σ H s)(g:DGet H a y (some v))(ry:RelV y u)(h:∀w' s',Inv X pins σ H s'->RelV v w'->Q w' s'):
 wpAny (model X.prog X.w) A (getItem (.ref a) u) Q E s:=by
 rcases g with ⟨kvs,k,e,ey,l⟩|⟨kvs,k,b,e,ey,eb,l⟩
 . subst ey
   obtain⟨z,hd,vs,rel,dd⟩:=qKn I.hok e;obtain⟨w',hw,rw'⟩:=RelO.some_of (v:=v) (o:=valueAt vs k) (by rw[l];exact rel.val k);exact wpAny_getItem_of (qM6 ry) dd.mapOf hw (h w' _ (I.tok _) rw')
 . subst ey
   cases (show u=Value.ref b from ry);obtain⟨z,hd,xs,rel,dd⟩:=qPm I.hok e;obtain⟨w',hw,rw'⟩:=RelO.some_of (v:=v) (o:=(atKey xs k).map (·.2)) (by rw[l];exact rel.val k);obtain⟨p,hp,hp2⟩:=Option.map_eq_some_iff.mp hw;refine wpAny_getItem_heap (tupleKind_room_in1 hu) (qJ1 I.hok eb) dd hp ?_;rw[hp2];exact h w' _ (I.tok _) rw'
theorem qY7{Q:Value->Shared->Prop}(hu:A.units+1<cLine)(I:Inv X pins σ H s)(g:DGet H a y o)(ry:RelV y u)(h:∀s',Inv X pins σ H s'->Q (.bool o.isSome) s'):
 wpAny (model X.prog X.w) A (compareOp .In u (.ref a)) Q E s:=by
 rcases g with ⟨kvs,k,e,ey,l⟩|⟨kvs,k,b,e,ey,eb,l⟩
 . subst ey
   obtain⟨z,hd,vs,rel,dd⟩:=qKn I.hok e;refine wpAny_in_of (qM6 ry) hd dd.mapOf ?_;rw[<-(rel.val k).isSome_eq,<-l];exact h _ (I.tok _)
 . subst ey
   cases (show u=Value.ref b from ry);obtain⟨z,hd,xs,rel,dd⟩:=qPm I.hok e;refine wpAny_in_heap (tupleKind_room_in1 hu) (qJ1 I.hok eb) hd dd ?_;have q:=(rel.val k).isSome_eq;rw[Option.isSome_map]at q;rw[<-q,<-l];exact h _ (I.tok _)
theorem qTp{Q:Value->Shared->Prop}(hu:A.units+1<cLine)(I:Inv X pins σ H s)(g:DGet H a y o)(ry:RelV y u)(h:∀s',Inv X pins σ H s'->Q (.bool (!o.isSome)) s'):
 wpAny (model X.prog X.w) A (compareOp .NotIn u (.ref a)) Q E s:=by
 rcases g with ⟨kvs,k,e,ey,l⟩|⟨kvs,k,b,e,ey,eb,l⟩
 . subst ey
   obtain⟨z,hd,vs,rel,dd⟩:=qKn I.hok e;refine wpAny_notIn_of (qM6 ry) hd dd.mapOf ?_;rw[<-(rel.val k).isSome_eq,<-l];exact h _ (I.tok _)
 . subst ey
   cases (show u=Value.ref b from ry);obtain⟨z,hd,xs,rel,dd⟩:=qPm I.hok e;refine wpAny_notIn_heap (tupleKind_room_in1 hu) (qJ1 I.hok eb) hd dd ?_;have q:=(rel.val k).isSome_eq;rw[Option.isSome_map]at q;rw[<-q,<-l];exact h _ (I.tok _)
theorem qKh{h':Heap}{t':Nat}{ob:HO}(I:Inv X pins σ H s)(mu:Mut (H a))(hs:Heap.SameBut a s.heap h')(he:∃q,h'.get? a=some q)(new:ObjOk X.prog X.w (upd H a ob) h' a ob):
 Inv X pins σ (upd H a ob) {s with heap:=h',toks:=t'}:=
 I.write (x:=a) (e:=a) mu (.inl rfl) (fun b q hb z=>(hs.2 b hb).trans z) he new
theorem qSh{P:Program}{w:World}{H':Hp}{h':Heap}{kvs:List (Key×V)}{vs:List (Key×Value)}(z:kvs.length<=sizeLine)(hd:(a==sysModules)=false)(rel:KV kvs vs)(dd:h'.DictOf (jP P w) a vs):
 ObjOk P w H' h' a (.dK kvs):=⟨z,hd,vs,rel,dd⟩
theorem qPy{H':Hp}{Q:Unit->Shared->Prop}(hu:A.units+1<cLine)(I:Inv X pins σ H s)(g:DPut H a y v H')(ry:RelV y u)(rv:RelV v r)(h:∀s',Inv X pins σ H' s'->Q () s'):
 wpAny (model X.prog X.w) A (setItem (.ref a) u r) Q E s:=by
 rcases g with ⟨kvs,k,e,ey,l,eH⟩|⟨kvs,k,b,e,ey,eb,l,eH⟩
 . subst ey eH
   obtain⟨z,hd,vs,rel,dd⟩:=qUw I.hok e;have hz:vs.length<=sizeLine:=by rw[<-rel.length];exact z
   have hl:(qG1 kvs k v).length<=sizeLine:=by have:=wZ kvs k v;omega
   refine wpAny_setItem_pairs (hsz:=hz) (qM6 ry) dd fun h' dd' hs=>h _ ?_;have he:∃q,h'.get? a=some q:=let ⟨q,_,_,hq,_⟩:=dd';⟨q,hq⟩
   exact qKh I (by rw[e];exact True.intro) hs he (qSh hl hd (rel.put k rv) dd')
 . subst ey eH
   cases (show u=Value.ref b from ry);obtain⟨z,hd,xs,rel,dd⟩:=qWm I.hok e;have hz:xs.length<=sizeLine:=by rw[<-Paired.length rel];exact z
   have hl:(qG1 kvs k v).length<=sizeLine:=by have:=wZ kvs k v;omega
   refine wpAny_setItem_heap (hsz:=hz) (tupleKind_room_in1 hu) (qJ1 I.hok eb) dd fun h' dd' hs=>h _ ?_;obtain⟨q,es,ep,hq,h2,h3,h4,_,h5⟩:=dd';refine qKh I (by rw[e];exact True.intro) hs ⟨q,hq⟩ ⟨hl,hd,_,(rel.put k eb rv).keeps fun c ys ec=>?_,q,es,ep,hq,h2,h3,h4,h5⟩;rw[qX (qM3 ec e (fun z=>nomatch z))];exact ec
end
section
variable{X:Cx}{pins:List (Addr×Obj)}{σ:St}{H:Hp}{s:Shared}{a:Addr}{kvs:List (Key×V)}{k:Key}{u:Value}{A:Around}{E:Value->Shared->Prop}
theorem qWv{Q:Value->Shared->Prop}(I:Inv X pins σ H s)(e:Rd H a (.dK kvs))(h:∀t s',Inv X pins σ H s'->Q (.int kvs.length t) s'):wpAny (model X.prog X.w) A (call (.builtin "len") [.ref a]) Q E s:=by obtain⟨z,hd,vs,rel,dd⟩:=qKn I.hok e;refine call_len_dict hd dd (by rw[<-rel.length];rw[sizeLine_eq]at z;omega) ?_;rw[<-rel.length];exact h _ _ (I.tok _)
end
def qYh(i:Expr):Prop:= ∀ov iv,subscripted i false ov iv=operate [ov,iv] (getItem ov iv)
theorem qS7{prog:Program}{w:World}{A:Around}{E:Value->Shared->Prop}{s:Shared}{env:Env}{value slice:Expr}{pos:Pos}{T id:String}{Q:Value->Shared->Prop}
 (hl:typeLookup (.type T) "__getitem__"=pure (some (.builtin id))) (hs:qYh slice)
 (h:wpAny (model prog w) A (eval value env) (fun o s₁=>wpAny (model prog w) A (eval slice env) (fun i s₂=>s₂.TypeIs o T/\wpAny (model prog w) A (getItem o i) Q E s₂) E s₁) E s):
 wpAny (model prog w) A (eval (.Subscript value slice pos) env) Q E s:=by
 refine Subscript_ (wpAny_mono h (fun o s₁ h₁=>wpAny_mono h₁ (fun i s₂ h₂=>?_) fun _ _ x=>x) fun _ _ x=>x);obtain⟨hT,h₂⟩:=h₂;unfold subscriptTail;refine wpAny_bind ?_;rw[getitemInPython_of_ne hT.not_modules];refine wpAny_bind (wpAny_specialOf hT hl ?_);have fin:wpAny (model prog w) A (subscripted slice false o i) (fun r s₃=>wpAny (model prog w) A (letTemporaryGo value o r>>=fun _=>pure r) Q E s₃) E s₂:=by rw[hs o i];exact wpAny_operating (wpAny_mono h₂ (fun r s₃ h₃=>wpAny_bind (wpAny_letTemporaryGo (wpAny_pure h₃))) fun _ _ x=>x)
 first
  |exact wpAny_pure (wpAny_bind fin)
  |exact wpAny_bind (wpAny_pure (wpAny_bind fin))
  |exact wpAny_bind fin
theorem qLa{X:Cx}{pins:List (Addr×Obj)}{σ:St}{H:Hp}{s:Shared}{a:Addr}{y:V}{o:Option V}(I:Inv X pins σ H s)(g:DGet H a y o):s.TypeIs (.ref a) "dict":=by
 rcases g with ⟨kvs,k,e,_,_⟩|⟨kvs,k,b,e,_,_,_⟩
 . obtain⟨_,_,vs,_,dd⟩:=qKn I.hok e
   exact dd.typeIs
 . obtain⟨_,_,xs,_,dd⟩:=qPm I.hok e
   exact dd.typeIs
def qXz(td ty:TE):TE:=fun σ H Q=>td σ H fun x H1=>ty σ H1 fun y H2=> ∃a v,x=.ref a/\DGet H2 a y (some v)/\Q v H2
def qYq(ty td:TE):TE:=fun σ H Q=>ty σ H fun y H1=>td σ H1 fun x H2=> ∃a o,x=.ref a/\DGet H2 a y o/\Q (.bl o.isSome) H2
def qTg(ty td:TE):TE:=fun σ H Q=>ty σ H fun y H1=>td σ H1 fun x H2=> ∃a o,x=.ref a/\DGet H2 a y o/\Q (.bl (!o.isSome)) H2
def qXx(td ty tv:TE):TS:=fun D σ H=>tv σ H fun v H1=>td σ H1 fun x H2=>ty σ H2 fun y H3=> ∃a H4,x=.ref a/\DPut H3 a y v H4/\D.nx σ H4
section
variable{X:Cx}{o i e value:Expr}{pos pos' tpos:Pos}{td ty tv:TE}
theorem qBk(hu:X.A.units+1<cLine)(ho:PE X o td)(hi:PE X i ty)(hs:qYh i):PE X (.Subscript o i pos) (qXz td ty):=by intro pins s σ H Q I h;refine qS7 PySem.F.slot_dict_getitem.lookup hs (thn (ho pins s σ H _ I h) fun u s1 ⟨x,H1,I1,rx,q1⟩=>thn (hi pins s1 σ H1 _ I1 q1) fun iv s2 ⟨y,H2,I2,ry,a,v,ex,g,q2⟩=>?_);subst ex;obtain rfl:u=Value.ref a:=rx;exact⟨qLa I2 g,qPa hu I2 g ry fun w' s3 I3 rw'=>⟨v,H2,I3,rw',q2⟩⟩
theorem qVj(hu:X.A.units+1<cLine)(hi:PE X i ty)(ho:PE X o td):PC X .In i o (qYq ty td):=by intro pins s σ H Q I h;refine thn (hi pins s σ H _ I h) fun iv s1 ⟨y,H1,I1,ry,q1⟩=>thn (ho pins s1 σ H1 _ I1 q1) fun u s2 ⟨x,H2,I2,rx,a,ov,ex,g,q2⟩=>?_;subst ex;obtain rfl:u=Value.ref a:=rx;exact qY7 hu I2 g ry fun s3 I3=>⟨.bl ov.isSome,H2,I3,O,q2⟩
theorem qJt(hu:X.A.units+1<cLine)(hi:PE X i ty)(ho:PE X o td):PC X .NotIn i o (qTg ty td):=by intro pins s σ H Q I h;refine thn (hi pins s σ H _ I h) fun iv s1 ⟨y,H1,I1,ry,q1⟩=>thn (ho pins s1 σ H1 _ I1 q1) fun u s2 ⟨x,H2,I2,rx,a,ov,ex,g,q2⟩=>?_;subst ex;obtain rfl:u=Value.ref a:=rx;exact qTp hu I2 g ry fun s3 I3=>⟨.bl (!ov.isSome),H2,I3,O,q2⟩
theorem qS4(hu:X.A.units+1<cLine)(ho:PE X o td)(hi:PE X i ty)(hv:PE X value tv)(hs:swapsWith value (some (.Subscript o i pos')) pos.line X.env=pure false):
 PS X (.Assign [.Subscript o i pos'] value pos) (qXx td ty tv):=by
 intro pins s σ H D I h;refine wpAny_Assign_Subscript (thn (hv pins s σ H _ I h) fun r s1 ⟨v,H1,I1,rv,q1⟩=>thn (ho pins s1 σ H1 _ I1 q1) fun u s2 ⟨x,H2,I2,rx,q2⟩=>thn (hi pins s2 σ H2 _ I2 q2) fun iv s3 ⟨y,H3,I3,ry,a,H4,ex,g,q3⟩=>?_) hs;subst ex;obtain rfl:u=Value.ref a:=rx;exact qPy hu I3 g ry rv fun s4 I4=>⟨σ,H4,I4,q3⟩
end
theorem qLk{P:Program}{w:World}{H:Hp}(h:Heap)(hb:sysModules<h.objs.size):ObjOk P w H (h.push {cls:=.type "dict",data:=.dict #[]}) h.objs.size (.dK []):=
 ⟨Nat.zero_le _,beq_eq_false_iff_ne.mpr (Ne.symm (Nat.ne_of_lt hb)),[],.nil,Heap.DictOf.new h⟩
def qU8:TE:=fun _ H Q=> ∀p,H p=none->Q (.ref p) (upd H p (.dK []))
section
variable{X:Cx}{pos:Pos}
theorem qRv:PE X (.Dict [] [] pos) qU8:=fun pins s σ H Q I h=>
 wpAny_Dict_empty ⟨.ref s.heap.objs.size,_,I.laid (a:=s.heap.objs.size) (o:=.dK []) (t':=s.toks) (fun _ _ q=>Heap.get?_push_of_some _ q) (Nat.le_refl _) (qLk s.heap I.big),rfl,h _ (I.hok.fresh (Nat.le_refl _))⟩
end
def qN7:List (TE×TE)->St->Hp->(List (V×V)->Hp->Prop)->Prop
 |[],_,H,Q=>Q [] H
 |(tk,tv)::r,σ,H,Q=>tk σ H fun x H1=>tv σ H1 fun y H2=>qN7 r σ H2 fun ps H3=>Q ((x,y)::ps) H3
abbrev VV:List (V×V)->List (Value×Value)->Prop:=Paired fun p q=>RelV p.1 q.1/\RelV p.2 q.2
def PPs(X:Cx)(pos:Pos)(keys:List (Option Expr))(values:List Expr)(trs:List (TE×TE)):Prop:=
 ∀(pins:List (Addr×Obj)) (s:Shared) (σ:St) (H:Hp) (Q:List (V×V)->Hp->Prop),Inv X pins σ H s->qN7 trs σ H Q->
  wpAny (model X.prog X.w) X.A (evalPairs (pairTrees keys values X.env pos)) (fun vs s'=> ∃ps H',Inv X pins σ H' s'/\VV ps vs/\Q ps H') X.xe s
theorem qKd{X:Cx}{pos:Pos}:PPs X pos [] [] []:=fun pins s σ H Q I h=>pairTrees_nil_walk ⟨[],H,I,.nil,h⟩
theorem wD{X:Cx}{pos:Pos}{k v:Expr}{ks:List (Option Expr)}{vs:List Expr}{tk tv:TE}{trs:List (TE×TE)}(hk:PE X k tk)(hv:PE X v tv)(hr:PPs X pos ks vs trs):
 PPs X pos (some k::ks) (v::vs) ((tk,tv)::trs):=fun pins s σ H Q I h=>
 pairTrees_cons_walk (thn (hk pins s σ H _ I h) fun u s1 ⟨x,H1,I1,rx,q1⟩=>thn (hv pins s1 σ H1 _ I1 q1) fun w2 s2 ⟨y,H2,I2,ry,q2⟩=>
  thn (hr pins s2 σ H2 _ I2 q2) fun ws s3 ⟨ps,H3,I3,rel,q3⟩=>⟨(x,y)::ps,H3,I3,.cons ⟨rx,ry⟩ rel,q3⟩)
def qEi(kvs more:List (Key×V)):List (Key×V):=more.foldl (fun acc kv=>qG1 acc kv.1 kv.2) kvs
theorem KV.merge:∀{more:List (Key×V)} {rs:List (Key×Value)} {kvs:List (Key×V)} {vs:List (Key×Value)},KV more rs->KV kvs vs->KV (qEi kvs more) (merged vs rs):=by
 intro more rs kvs vs r;unfold KV at r
 induction r generalizing kvs vs with
 |nil=>intro q;exact q
 | @cons p q ps qs h t ih=>
  intro r0;have e:KV (qG1 kvs p.1 p.2) (stored vs q.1 q.2):=by have:=r0.put p.1 h.2;rw[<-h.1];exact this
  exact ih e
theorem qAm:∀(more kvs:List (Key×V)),(qEi kvs more).length<=kvs.length+more.length
 |[],kvs=>by show kvs.length<=kvs.length+0;omega
 |p::r,kvs=>by have h1:=qAm r (qG1 kvs p.1 p.2);have h2:=wZ kvs p.1 p.2;show (qEi (qG1 kvs p.1 p.2) r).length<=_;rw[List.length_cons];omega
theorem qF1{P:Program}{w:World}:∀{kvs:List (Key×V)} {ws:List (Value×Value)},VV (kvs.map fun kv=>(kV kv.1,kv.2)) ws->∃rs,Carries (jP P w) ws rs/\KV kvs rs
 |[],_,r=>by rw[List.map_nil]at r;cases r;exact⟨[],True.intro,.nil⟩
 |p::kvs,_,r=>by
  rw[List.map_cons]at r;cases r with
  | @cons a b as bs h t=>
   obtain⟨rs,c,q⟩:=qF1 (P:=P) (w:=w) t;obtain⟨b1,b2⟩:=b;exact⟨(p.1,b2)::rs,⟨qM6 h.1,O,c⟩,.cons ⟨O,h.2⟩ q⟩
def qXv(trs:List (TE×TE)):TE:=fun σ H Q=> ∀p,H p=none->qN7 trs σ (upd H p (.dK [])) fun ps H2=>H2 p=some (.dK [])/\∃kvs:List (Key×V),ps=kvs.map (fun kv=>(kV kv.1,kv.2))/\kvs.length<=15/\Q (.ref p) (upd H2 p (.dK (qEi [] kvs)))
theorem qJ4{X:Cx}{pos:Pos}{keys:List (Option Expr)}{values:List Expr}{trs:List (TE×TE)}(h:PPs X pos keys values trs)(hall:keys.all (·.isSome)=true)(hl:keys.length=values.length)(h0:keys≠[])
 (h15:keys.length<=15):PE X (.Dict keys values pos) (qXv trs):=by
 intro pins s σ H Q I q;have hn:=I.hok.fresh (Nat.le_refl s.heap.objs.size);have I1:=I.laid (a:=s.heap.objs.size) (o:=.dK []) (h':=s.heap.push {cls:=.type "dict",data:=.dict #[]}) (t':=s.toks) (fun _ _ q=>Heap.get?_push_of_some _ q) (Nat.le_refl _) (qLk s.heap I.big);refine wpAny_Dict_walk (knd:=jP X.prog X.w) hall hl h0 h15 (thn (h pins _ σ _ _ I1 (q _ hn)) fun ws s2 ⟨ps,H2,I2,rel,e,kvs,ep,lk,q2⟩=>?_);subst ep;obtain⟨rs,c,rk⟩:=qF1 (P:=X.prog) (w:=X.w) rel;obtain⟨z,hd,vs0,r0,dd⟩:=qUw I2.hok e;cases r0;refine⟨rs,c,dd,fun h' dd' hs=>⟨.ref s.heap.objs.size,_,?_,O,q2⟩⟩;have hz:(qEi [] kvs).length<=sizeLine:=by have h1:=qAm kvs [];rw[List.length_nil]at h1;rw[sizeLine_eq];omega
 have he:∃q,h'.get? s.heap.objs.size=some q:=let ⟨q,_,_,hq,_⟩:=dd';⟨q,hq⟩
 exact qKh I2 (by rw[e];exact True.intro) hs he (qSh hz hd (rk.merge .nil) dd')
structure M1(X:Cx)(o:Expr)(m:Str)(apos:Pos)(e:Expr)(cpos:Pos):Prop where
 base:attributeBase o m X.env (eval o X.env)=eval o X.env
 few:((backTo cpos (starEach [e] X.env)).all (fun x=>!x.1) && (backToKw cpos (keywordEach [] X.env)).all (fun x=>x.1.isSome)
  && decide (([e]:List Expr).length+([]:List Keyword).length+(if ([]:List Keyword).isEmpty then 0 else 1)<30))=true
 line:(apos.endLine==cpos.line)=true
 trees:backTo cpos (starEach [e] X.env)=[(false,eval e X.env)]
structure M2(X:Cx)(o:Expr)(m:Str)(apos:Pos)(e f:Expr)(cpos:Pos):Prop where
 base:attributeBase o m X.env (eval o X.env)=eval o X.env
 few:((backTo cpos (starEach [e,f] X.env)).all (fun x=>!x.1) && (backToKw cpos (keywordEach [] X.env)).all (fun x=>x.1.isSome)
  && decide (([e,f]:List Expr).length+([]:List Keyword).length+(if ([]:List Keyword).isEmpty then 0 else 1)<30))=true
 line:(apos.endLine==cpos.line)=true
 trees:backTo cpos (starEach [e,f] X.env)=[(false,eval e X.env),(false,eval f X.env)]
end L2
namespace Att
open PySem PySem.W PySem.Calls PyProof.Rows
end Att
namespace L2
open PySem PySem.Spec PyProof.Rows
end L2
namespace Mt
theorem qTt(a b:Int):a.fmod b=a-b*a.fdiv b:=by have:=Int.fmod_add_mul_fdiv a b;omega
theorem qLj(a b:Int):Int.gcd b (a.fmod b)=Int.gcd a b:=by
 apply Nat.dvd_antisymm
 . refine Int.dvd_gcd ?_ (Int.gcd_dvd_left b (a.fmod b))
   have h1:((Int.gcd b (a.fmod b):Nat):Int)∣b:=Int.gcd_dvd_left ..;have h2:((Int.gcd b (a.fmod b):Nat):Int)∣a.fmod b:=Int.gcd_dvd_right ..;have h3:=Int.dvd_add h2 (Int.dvd_trans h1 (Int.dvd_mul_right b (a.fdiv b)));have e:a.fmod b+b*a.fdiv b=a:=Int.fmod_add_mul_fdiv a b
   rwa [e]at h3
 . refine Int.dvd_gcd (Int.gcd_dvd_right ..) ?_
   rw[qTt];exact Int.dvd_sub (Int.gcd_dvd_left ..) (Int.dvd_trans (Int.gcd_dvd_right ..) (Int.dvd_mul_right ..))
theorem qOc(a b:Int)(h:b≠0):(a.fmod b).natAbs<b.natAbs:=by
 rcases Int.lt_or_gt_of_ne h with h|h
 . have h1:=Int.fmod_lt_of_pos (-a) (show 0< -b by omega)
   have h2:=Int.fmod_nonneg_of_pos (-a) (show 0< -b by omega);rw[Int.neg_fmod_neg]at h1 h2;omega
 . have h1:=Int.fmod_lt_of_pos a h
   have h2:=Int.fmod_nonneg_of_pos a h;omega
def sg(t b:Int):Int:=if b<0 then-((Int.gcd t b:Nat):Int)else ((Int.gcd t b:Nat):Int)
def xB(t b:Int):Int:=t.fdiv (sg t b)
def jh(t b:Int):Int:=b.fdiv (sg t b)
theorem qCe{t b:Int}(h:b≠0):0<Int.gcd t b:=by
 rcases Nat.eq_zero_or_pos (Int.gcd t b)with z|z
 . rw[Int.gcd_eq_zero_iff]at z
   exact absurd z.2 h
 . exact z
theorem qX0{t b:Int}(h:b≠0):sg t b≠0:=by have:=qCe (t:=t) h;unfold sg;split <;> omega
theorem qQ6(t b:Int):sg t b∣t:=by
 unfold sg;split
 . exact Int.neg_dvd.mpr (Int.gcd_dvd_left ..)
 . exact Int.gcd_dvd_left ..
theorem qQ9(t b:Int):sg t b∣b:=by
 unfold sg;split
 . exact Int.neg_dvd.mpr (Int.gcd_dvd_right ..)
 . exact Int.gcd_dvd_right ..
theorem qLn(t b:Int):(sg t b).natAbs=Int.gcd t b:=by unfold sg;split <;> omega
theorem qQ1(t b:Int):xB t b*sg t b=t:=Int.fdiv_mul_cancel (qQ6 t b)
theorem qNh(t b:Int):jh t b*sg t b=b:=Int.fdiv_mul_cancel (qQ9 t b)
theorem j7{t b:Int}(h:b≠0):0<jh t b:=by
 have e:=qNh t b;have g:=qCe (t:=t) h;by_cases hb:b<0
 . have s:sg t b=-((Int.gcd t b:Nat):Int):=by unfold sg;rw[if_pos hb]
   rw[s]at e;rcases Int.lt_trichotomy (jh t b) 0 with z|z|z
   . have:=Int.mul_pos_of_neg_of_neg z (show-((Int.gcd t b:Nat):Int)<0 by omega)
     omega
   . rw[z]at e;omega
   . exact z
 . have s:sg t b=((Int.gcd t b:Nat):Int):=by unfold sg;rw[if_neg hb]
   rw[s]at e;rcases Int.lt_trichotomy (jh t b) 0 with z|z|z
   . have:=Int.mul_neg_of_neg_of_pos z (show 0<((Int.gcd t b:Nat):Int) by omega)
     omega
   . rw[z]at e;omega
   . exact z
theorem we{t b:Int}(h:b≠0):Int.gcd (xB t b) (jh t b)=1:=by
 have e:=Int.gcd_mul_right (xB t b) (sg t b) (jh t b);rw[qQ1,qNh,qLn]at e;have g:=qCe (t:=t) h;have e':1*Int.gcd t b=(xB t b).gcd (jh t b)*Int.gcd t b:=by omega
 exact(Nat.eq_of_mul_eq_mul_right g e').symm
theorem xS(t b:Int):xB t b*b=t*jh t b:=by
 have e1:=qQ1 t b;have e2:=qNh t b
 calc xB t b*b=xB t b*(jh t b*sg t b):=by rw[e2]
  _=(xB t b*sg t b)*jh t b:=by rw[Int.mul_comm (jh t b),Int.mul_assoc]
  _=t*jh t b:=by rw[e1]
theorem qAq{t b:Int}(h:b≠0):(xB t b).natAbs<=t.natAbs:=by have e:=congrArg Int.natAbs (qQ1 t b);rw[Int.natAbs_mul,qLn]at e;have g:=qCe (t:=t) h;rw[<-e];exact Nat.le_mul_of_pos_right _ g
theorem ku{t b:Int}(h:b≠0):(jh t b).natAbs<=b.natAbs:=by have e:=congrArg Int.natAbs (qNh t b);rw[Int.natAbs_mul,qLn]at e;have g:=qCe (t:=t) h;have:=Nat.le_mul_of_pos_right (jh t b).natAbs g;omega
theorem qUj{p q p' q':Int}(hq:0<q)(hq':0<q')(g:Int.gcd p q=1)(g':Int.gcd p' q'=1)(c:p*q'=p'*q):p=p'/\q=q':=by
 have d1:q∣q':=by
  have h:q∣p*q':=by rw[c];exact Int.dvd_mul_left ..
  have n:q.natAbs∣p.natAbs*q'.natAbs:=by
   have:=Int.natAbs_dvd_natAbs.mpr h
   rwa [Int.natAbs_mul]at this
  have co:Nat.Coprime q.natAbs p.natAbs:=by show Nat.gcd q.natAbs p.natAbs=1;rw[Nat.gcd_comm];exact g
  exact Int.natAbs_dvd_natAbs.mp (Nat.Coprime.dvd_of_dvd_mul_left co n)
 have d2:q'∣q:=by
  have h:q'∣p'*q:=by rw[<-c];exact Int.dvd_mul_left ..
  have n:q'.natAbs∣p'.natAbs*q.natAbs:=by
   have:=Int.natAbs_dvd_natAbs.mpr h
   rwa [Int.natAbs_mul]at this
  have co:Nat.Coprime q'.natAbs p'.natAbs:=by show Nat.gcd q'.natAbs p'.natAbs=1;rw[Nat.gcd_comm];exact g'
  exact Int.natAbs_dvd_natAbs.mp (Nat.Coprime.dvd_of_dvd_mul_left co n)
 have e:q=q':=by have h1:=Int.le_of_dvd hq' d1;have h2:=Int.le_of_dvd hq d2;omega
 subst e;exact⟨Int.eq_of_mul_eq_mul_right (by omega) c,O⟩
theorem qJc{t b p q:Int}(h:b≠0)(hq:0<q)(g:Int.gcd p q=1)(c:p*b=t*q):xB t b=p/\jh t b=q:=by
 have e:=xS t b;have k:xB t b*q=p*jh t b:=by
  have:(xB t b*q)*b=(p*jh t b)*b:=by
   calc (xB t b*q)*b=(xB t b*b)*q:=by rw[Int.mul_assoc,Int.mul_comm q b,<-Int.mul_assoc]
    _=(t*jh t b)*q:=by rw[e]
    _=(t*q)*jh t b:=by rw[Int.mul_assoc,Int.mul_comm (jh t b) q,<-Int.mul_assoc]
    _=(p*b)*jh t b:=by rw[c]
    _=(p*jh t b)*b:=by rw[Int.mul_assoc,Int.mul_comm b,<-Int.mul_assoc]
  exact Int.eq_of_mul_eq_mul_right h this
 exact qUj (j7 h) hq (we h) g k
theorem qLs{p q:Int}(hq:0<q)(g:Int.gcd p q=1):xB p q=p/\jh p q=q:=qJc (by omega) hq g rfl
theorem qo{p q:Int}(hq:0<q):p.fdiv q*q<=p/\p<(p.fdiv q+1)*q:=by
 have e:=Int.fmod_add_mul_fdiv p q;have h1:=Int.fmod_nonneg_of_pos p hq;have h2:=Int.fmod_lt_of_pos p hq;have c:q*p.fdiv q=p.fdiv q*q:=Int.mul_comm ..;have d:(p.fdiv q+1)*q=p.fdiv q*q+q:=by rw[Int.add_mul,Int.one_mul]
 omega
theorem qB6{A B C D:Int}(hB:0<B)(hD:0<D)(h:A*D=C*B):A.fdiv B=C.fdiv D:=by
 obtain⟨h1,h2⟩:=qo (p:=A) hB;obtain⟨h3,h4⟩:=qo (p:=C) hD;generalize A.fdiv B=f at h1 h2⊢;generalize C.fdiv D=g at h3 h4⊢;have k1:f*B*D<=A*D:=Int.mul_le_mul_of_nonneg_right h1 (by omega);have k2:C*B<(g+1)*D*B:=Int.mul_lt_mul_of_pos_right h4 hB;have k3:g*D*B<=C*B:=Int.mul_le_mul_of_nonneg_right h3 (by omega);have k4:A*D<(f+1)*B*D:=Int.mul_lt_mul_of_pos_right h2 hD;have p:=Int.mul_pos hB hD;have e1:f*(B*D)<(g+1)*(B*D):=by grind
 have e2:g*(B*D)<(f+1)*(B*D):=by grind
 have:=Int.lt_of_mul_lt_mul_right e1 (by omega);have:=Int.lt_of_mul_lt_mul_right e2 (by omega);omega
theorem qQo{A B C D:Int}(hB:B≠0)(hD:D≠0)(h:A*D=C*B):xB A B=xB C D/\jh A B=jh C D:=by
 refine qJc hB (j7 hD) (we hD) ?_;have c:=xS C D;generalize xB C D=u at c⊢;generalize jh C D=v at c⊢;refine Int.eq_of_mul_eq_mul_right hD ?_
 grind
def plP(p q r s k:Int):Int:=xB (p*s+k*r*q) (q*s)
def plQ(p q r s k:Int):Int:=jh (p*s+k*r*q) (q*s)
theorem qF5{p q r s k:Int}(hq:0<q)(hs:0<s):0<plQ p q r s k:=j7 (Int.ne_of_gt (Int.mul_pos hq hs))
theorem qOi{p q r s k:Int}(hq:0<q)(hs:0<s):Int.gcd (plP p q r s k) (plQ p q r s k)=1:=we (Int.ne_of_gt (Int.mul_pos hq hs))
theorem qDc(p q r s k:Int):plP p q r s k*(q*s)=(p*s+k*r*q)*plQ p q r s k:=xS _ _
theorem qP0{p q r s lo k:Int}(hq:0<q)(hs:0<s):plP (plP p q r s lo) (plQ p q r s lo) r s k=plP p q r s (lo+k)/\plQ (plP p q r s lo) (plQ p q r s lo) r s k=plQ p q r s (lo+k):=by
 have c:=qDc p q r s lo;have h:=qF5 (p:=p) (r:=r) (k:=lo) hq hs;generalize plP p q r s lo=u at c⊢;generalize plQ p q r s lo=v at c h⊢;refine qQo (Int.ne_of_gt (Int.mul_pos h hs)) (Int.ne_of_gt (Int.mul_pos hq hs)) ?_
 grind
theorem qEr{p q r s:Int}(hq:0<q)(hs:0<s)(g:Int.gcd p q=1):plP p q r s 0=p/\plQ p q r s 0=q:=by
 refine qJc (Int.ne_of_gt (Int.mul_pos hq hs)) hq g ?_
 grind
theorem qTk{p q r s k:Int}(hq:0<q)(hs:0<s):(plP p q r s k).natAbs<=(p*s+k*r*q).natAbs:=qAq (Int.ne_of_gt (Int.mul_pos hq hs))
theorem qUh{p q r s k:Int}(hq:0<q)(hs:0<s):(plQ p q r s k).natAbs<=(q*s).natAbs:=ku (Int.ne_of_gt (Int.mul_pos hq hs))
def InR(N D m:Int):Prop:=0<=N/\N<m*D
theorem qDn{N D m:Int}(hD:0<D):InR N D m↔(0<=N.fdiv D/\N.fdiv D<m):=by
 obtain⟨h1,h2⟩:=qo (p:=N) hD;generalize N.fdiv D=f at h1 h2⊢;unfold InR;constructor
 . rintro⟨a,b⟩
   constructor
   . have:0*D<(f+1)*D:=by rw[Int.zero_mul];omega
     have:=Int.lt_of_mul_lt_mul_right this (by omega);omega
   . exact Int.lt_of_mul_lt_mul_right (a:=D) (by omega) (by omega)
 . rintro⟨a,b⟩
   constructor
   . have:=Int.mul_nonneg a (by omega:0<=D)
     omega
   . have:(f+1)*D<=m*D:=Int.mul_le_mul_of_nonneg_right (by omega) (by omega)
     omega
theorem qEt{X Y E D m:Int}(hE:0<E)(hD:0<D)(h:X*D=Y*E):InR X E m↔InR Y D m:=by rw[qDn hE,qDn hD,qB6 hE hD h]
def zp(N R D m:Int):Int:=
 if R=0 then 1000000 else if ¬(0<=N.fdiv D/\N.fdiv D<m)then 0
 else if 1000000<(if R<0 then N.fdiv (-R)+1 else-((N-m*D).fdiv R))then 1000000 else (if R<0 then N.fdiv (-R)+1 else-((N-m*D).fdiv R))
theorem qQk{N R D m:Int}(hR:R<0)(h:InR N D m):1<=N.fdiv (-R)+1/\(∀j,0<=j->j<N.fdiv (-R)+1->InR (N+j*R) D m)/\¬InR (N+(N.fdiv (-R)+1)*R) D m:=by
 obtain⟨h1,h2⟩:=qo (p:=N) (q:= -R) (by omega);have f0:0<=N.fdiv (-R):=Int.fdiv_nonneg h.1 (by omega);generalize N.fdiv (-R)=f at h1 h2 f0⊢;refine⟨by omega,fun j j0 j1=>?_,?_⟩
 . have k1:j*(-R)<=f*(-R):=Int.mul_le_mul_of_nonneg_right (by omega) (by omega)
   have k2:0<=j*(-R):=Int.mul_nonneg j0 (by omega);have e:j*R=-(j*(-R)):=by grind
   obtain⟨a,b⟩:=h;exact⟨by omega,by omega⟩
 . intro z
   have e:(f+1)*R=-((f+1)*(-R)):=by grind
   have:=z.1;omega
theorem qRr{N R D m:Int}(hR:0<R)(h:InR N D m):1<=-((N-m*D).fdiv R)/\(∀j,0<=j->j< -((N-m*D).fdiv R)->InR (N+j*R) D m)/\¬InR (N+ -((N-m*D).fdiv R)*R) D m:=by
 obtain⟨h1,h2⟩:=qo (p:=N-m*D) hR;obtain⟨a,b⟩:=h;generalize (N-m*D).fdiv R=f at h1 h2⊢;have f0:f<0:=by
  have:f*R<0*R:=by rw[Int.zero_mul];omega
  exact Int.lt_of_mul_lt_mul_right this (by omega)
 refine⟨by omega,fun j j0 j1=>?_,?_⟩
 . have k1:(j+f+1)*R<=0*R:=Int.mul_le_mul_of_nonneg_right (by omega) (by omega)
   have k2:0<=j*R:=Int.mul_nonneg j0 (by omega);have e:(j+f+1)*R=j*R+(f+1)*R:=by grind
   rw[Int.zero_mul]at k1;exact⟨by omega,by omega⟩
 . intro z
   have:=z.2;have e: -f*R=-(f*R):=by grind
   omega
theorem qTx{N R D m:Int}(hD:0<D)(h0:R=0->InR N D m):0<=zp N R D m/\zp N R D m<=1000000/\(∀j,0<=j->j<zp N R D m->InR (N+j*R) D m)/\(zp N R D m<1000000->¬InR (N+zp N R D m*R) D m)/\(R=0->zp N R D m=1000000):=by
 unfold zp;by_cases hR:R=0
 . rw[if_pos hR]
   refine⟨by decide,by decide,fun j _ _=>?_,fun z=>absurd z (by decide),fun _=>rfl⟩;rw[hR,Int.mul_zero,Int.add_zero];exact h0 hR
 rw[if_neg hR];by_cases hi:InR N D m
 . rw[if_neg (by rw[Classical.not_not];exact(qDn hD).mp hi)]
   have key:∀g:Int,1<=g->(∀j,0<=j->j<g->InR (N+j*R) D m)->¬InR (N+g*R) D m->
    0<=(if 1000000<g then 1000000 else g)/\(if 1000000<g then 1000000 else g)<=1000000/\(∀j,0<=j->j<(if 1000000<g then 1000000 else g)->InR (N+j*R) D m)/\((if 1000000<g then 1000000 else g)<1000000->¬InR (N+(if 1000000<g then 1000000 else g)*R) D m):=by
    intro g g1 g2 g3;by_cases hg:1000000<g
    . rw[if_pos hg]
      exact⟨by decide,by decide,fun j a b=>g2 j a (by omega),fun z=>absurd z (by decide)⟩
    . rw[if_neg hg]
      exact⟨by omega,by omega,g2,fun _=>g3⟩
   have fin:∀{A B C D':Prop},A/\B/\C/\D'->A/\B/\C/\D'/\(R=0->(if 1000000<(if R<0 then N.fdiv (-R)+1 else-((N-m*D).fdiv R))then (1000000:Int)else (if R<0 then N.fdiv (-R)+1 else-((N-m*D).fdiv R)))=1000000):=fun⟨a,b,c,d⟩=>⟨a,b,c,d,fun z=>absurd z hR⟩;refine fin ?_;by_cases hn:R<0
   . rw[if_pos hn]
     obtain⟨a,b,c⟩:=qQk hn hi;exact key _ a b c
   . rw[if_neg hn]
     obtain⟨a,b,c⟩:=qRr (by omega:0<R) hi;exact key _ a b c
 . rw[if_pos (by rw[<-qDn hD];exact hi)]
   refine⟨by decide,by decide,fun j a b=>absurd b (by omega),fun _=>?_,fun z=>absurd z hR⟩;rw[Int.zero_mul,Int.add_zero];exact hi
end Mt
namespace L3
open PySem PySem.Spec PyProof.Rows L2
def CMulB(i j:Int):Prop:=CMul i j\/(i.natAbs<2 ^ 60000/\j.natAbs<2 ^ 60000)
theorem qA4{i:Int}(h:i.natAbs<2 ^ 60000):Builtin.Int.intBits i<=2 ^ 20:=by
 unfold Builtin.Int.intBits;split
 . exact Nat.zero_le _
 . rename_i h0
   have hz:i.natAbs≠0:=by
    intro z;apply h0;have:i=0:=by omega
    rw[this];rfl
   have:=(Nat.log2_lt hz).mpr h;have e:(2:Nat) ^ 20=1048576:=by decide
   omega
theorem CMulB.ok{i j:Int}(h:CMulB i j):IntMulOk i j:=by
 rcases h with h|⟨h1,h2⟩
 . exact h.ok
 . exact IntMulOk.of_bits (qA4 h1) (qA4 h2)
def CDivB(_ j:Int):Prop:=j≠0/\j.natAbs<2 ^ 8000
theorem CDivB.ok{i j:Int}(h:CDivB i j):Builtin.divisionGoesByPylong i j=false:=by
 refine PyProof.noPylong_of_log2 ?_;have hz:j.natAbs≠0:=by have:=h.1;omega
 have:=(Nat.log2_lt hz).mpr h.2;omega
section
variable{X:Cx}
theorem jJ:OpR X (binaryOp .Mult) (rI CMulB fun i j=>.int (i*j)):=opI fun _ _ _ _ _ _ _ hc q=>mul_int q hc.ok
theorem qf:OpR X (binaryOp .FloorDiv) (rI CDivB fun i j=>.int (i.fdiv j)):=opI fun _ _ _ _ _ _ _ hc q=>floordiv_int hc.1 q (.inl hc.ok)
theorem qi:wc X (.builtin "isinstance") (fun xs H Q=> ∃x c t b,xs=[x,c]/\qNj X.K H x t/\
 (∃n,c=.ty n/\PySem.W.kitOne X.K t (.type n)=some b\/∃a,c=.ref a/\PySem.W.kitOne X.K t (.ref a)=some b)/\Q (.bl b) H):=by
 intro pins s σ H xs us Q I r h;obtain⟨x,c,t,b,rfl,ty,hk,q⟩:=h;obtain⟨u,u',rfl,rx,rc⟩:=qRp r;obtain⟨n,⟨rfl,e⟩|⟨a,rfl,e⟩⟩:=hk
 . cases rc
   exact qJv I rx ty e fun tk=>⟨.bl b,H,I.tok _,O,q⟩
 . cases rc
   exact qJv I rx ty e fun tk=>⟨.bl b,H,I.tok _,O,q⟩
def qIy(xs ys:List V):Bool:=(List.range (min xs.length ys.length)).all (fun j=>eqV (xs.getD j .non) (ys.getD j .non)) && xs.length==ys.length
theorem qFx{A:Around}{s:Shared}{xs ys:List V}{us ws:List Value}(r1:Vals xs us)(r2:Vals ys ws)(f1:xs.all kj=true)(f2:ys.all kj=true):
 ∀j (h1:j<us.toArray.size) (h2:j<ws.toArray.size),SeqAt.EqAt A s us.toArray[j] ws.toArray[j] (eqV (xs.getD j .non) (ys.getD j .non)):=by
 intro j h1 h2;have l1:=r1.length;have l2:=r2.length;rw[List.size_toArray]at h1 h2;have g1:xs[j]?=some xs[j]:=List.getElem?_eq_getElem (by omega);have g2:ys[j]?=some ys[j]:=List.getElem?_eq_getElem (by omega);obtain⟨u,e1,q1⟩:=r1.get g1;obtain⟨w,e2,q2⟩:=r2.get g2;have d1:xs.getD j .non=xs[j]:=by rw[List.getD_eq_getElem?_getD,g1];rfl
 have d2:ys.getD j .non=ys[j]:=by rw[List.getD_eq_getElem?_getD,g2];rfl
 have c1:us.toArray[j]=u:=by have:=(List.getElem?_eq_some_iff.mp e1).2;simpa using this
 have c2:ws.toArray[j]=w:=by have:=(List.getElem?_eq_some_iff.mp e2).2;simpa using this
 rw[d1,d2,c1,c2];exact qLl q1 q2 (List.all_eq_true.mp f1 _ (List.getElem_mem _)) (List.all_eq_true.mp f2 _ (List.getElem_mem _))
inductive qYc(K:PySem.W.Frag)(neg:Bool)(x:V)(y:V)(H:Hp)(Q:VK):Prop
|mk p q xs ys (_:x=.ref p) (_:y=.ref q) (_:SqT K H p xs) (_:SqT K H q ys) (_:xs.all kj=true) (_:ys.all kj=true) (_:Q (.bl (if neg then !qIy xs ys else qIy xs ys)) H)
theorem qSg(hu:X.A.units<cLine):OpR X (compareOp .Eq) (qYc X.K false):=by
 intro pins s σ H x y v u Q I rx ry h;obtain⟨p,q,xs,ys,rfl,rfl,h1,h2,f1,f2,k⟩:=h;cases rx;cases ry;obtain⟨us,r1,t1,_⟩:=I.tuple h1;obtain⟨ws,r2,t2,_⟩:=I.tuple h2;have l1:us.toArray.size=xs.length:=by rw[List.size_toArray];exact r1.length.symm
 have l2:ws.toArray.size=ys.length:=by rw[List.size_toArray];exact r2.length.symm
 refine SeqAt.eq_tupleAt t1 t2 hu (qFx r1 r2 f1 f2) ?_;rw[l1,l2];exact⟨.bl (qIy xs ys),H,I,O,k⟩
theorem qV8(hu:X.A.units<cLine):OpR X (compareOp .NotEq) (qYc X.K true):=by
 intro pins s σ H x y v u Q I rx ry h;obtain⟨p,q,xs,ys,rfl,rfl,h1,h2,f1,f2,k⟩:=h;cases rx;cases ry;obtain⟨us,r1,t1,_⟩:=I.tuple h1;obtain⟨ws,r2,t2,_⟩:=I.tuple h2;have l1:us.toArray.size=xs.length:=by rw[List.size_toArray];exact r1.length.symm
 have l2:ws.toArray.size=ys.length:=by rw[List.size_toArray];exact r2.length.symm
 refine SeqAt.RcNeAt.tuples t1 t2 hu (qFx r1 r2 f1 f2) _ _ _ _ ?_;rw[l1,l2];exact⟨.bl (!qIy xs ys),H,I,O,k⟩
end
def jQ(X:Cx)(scope:Scope)(cl:List (Str×Addr))(C:Addr)(N:List Str)(s:Shared)(H:Hp)(fp:List Addr):Cx:=
 {X with N:=N,s₀:=s,H₀:=H,env:=compEnvC scope cl C X.env,outer:=X.stack,stack:=X.stack,ex:=fp,fn:=fun _=>false,pn:=[]}
def qAi(js:List Nat)(σ:L2.St):L2.St:=js.map fun j=>(σ[j]?).join
theorem qNg{prog:Program}{w:World}{A:Around}{R:Result->Shared->Prop}{s0:Shared}{el tg src:Expr}{cs:List Expr}{sco:Scope}{po:Pos}{itv lst:Value}{en:Env}(J:Nat->Shared->Prop)
 (step:∀k st,J k st->wpAny (model prog w) A (pyNext itv) (fun got s1=>match got with
   |none=>R (.ok .next) s1
   |some u=>wpAny (model prog w) A (letOwnedTupleGo tg itv u) (fun _ s1'=>wpAny (model prog w) A (assign tg en u) (fun _ s2=>
    wpAny (model prog w) A (forIn cs true fun c r=>if r=true then do let ok<-isTrue c en (eval c en);pure (ForInStep.yield ok)else pure (ForInStep.yield r)) (fun good s3=>
     if good=true then wpAny (model prog w) A (eval el en) (fun y s4=>
      wpAny (model prog w) A (call (.builtin "list.append") [lst,y]) (fun _ s5=> ∃j,j<k/\J j s5) (notedBy (model prog w) A en fun x z=>R (.error x) z) s4) (notedBy (model prog w) A en fun x z=>R (.error x) z) s3
     else ∃j,j<k/\J j s3) (notedBy (model prog w) A en fun x z=>R (.error x) z) s2) (notedBy (model prog w) A en fun x z=>R (.error x) z) s1') (notedBy (model prog w) A en fun x z=>R (.error x) z) s1) (notedBy (model prog w) A en fun x z=>R (.error x) z) st)
 (k:Nat) (hJ:J k s0):codeAny (model prog w) A (.compLoop (.ListComp el [⟨tg,src,cs,0⟩] sco po) 0 itv lst en) R s0:=by
 refine codeAny_loop rfl J (fun k st hk=>?_) k hJ;show wpAny _ A ((compTurn (.ListComp el [⟨tg,src,cs,0⟩] sco po) 0 itv lst en).onRaise (fun x=>do noteFrame x en;theTreesLotGoes x)) _ _ st;refine wpAny_noted ?_;rw[compTurn_list];refine wpAny_bind (wpAny_standAt (wpAny_bind (wpAny_mono (step k st hk) (fun got s1 g1=>?_) fun _ _ q=>q)))
 match got with
 |none=>exact wpAny_pure g1
 |some u=>
  refine wpAny_bind (wpAny_mono g1 (fun _ s1' g2=>?_) fun _ _ q=>q);refine wpAny_bind (wpAny_mono g2 (fun _ s2 g3=>wpAny_bind (wpAny_mono g3 (fun good s3 g4=>?_) fun _ _ q=>q)) fun _ _ q=>q)
  match good with
  |false=>exact wpAny_pure ⟨rfl,g4⟩
  |true=>
   refine wpAny_bind (wpAny_bind (wpAny_mono g4 (fun y s4 g5=>?_) fun _ _ q=>q));exact wpAny_bind (wpAny_mono g5 (fun _ s5 g6=>wpAny_pure (wpAny_pure ⟨O,g6⟩)) fun _ _ q=>q)
structure COk(X:Cx)(scope:Scope)(cl:List (Str×Addr))(iter:Expr)(xs ys:List Str)(js:List Nat):Prop where
 clos:closureFor scope X.env=pure cl
 cls:cl.map (fun p=>X.env.cells.lookup p.1)=cl.map (fun p=>some p.2)
 cell:(scope.names.all fun p=>p.2 != .cell)=true
 kind:scope.kind=.function
 names:(scope.names.all fun p=>p.2 != .local || scope.names.lookup p.1==some .local)=true
 has:((relabel scope X.env).names.all fun p=>(p.2 != .cell && p.2 != .free) || (cl.lookup p.1).isSome)=true
 hjs:js.map (fun j=>X.N[j]?)=ys.map some
 hys:(ys.all fun y=>((relabel scope X.env).names.lookup y==some .cell || (relabel scope X.env).names.lookup y==some .free) && (X.env.scope.names.lookup y==some .cell || X.env.scope.names.lookup y==some .free))=true
 set:∀x,foldedSetIterable iter X.env x=pure x
 nd:(xs++ys).Nodup
def PTs(X:Cx)(cs:List Expr)(t:TT):Prop:=
 ∀(pins:List (Addr×Obj)) (s:Shared) (σ:L2.St) (H:Hp) (Q:Bool->Hp->Prop),Inv X pins σ H s->t σ H Q->wpAny (model X.prog X.w) X.A (forIn cs true fun c r=>if r=true then do let ok<-isTrue c X.env (eval c X.env);pure (ForInStep.yield ok)else pure (ForInStep.yield r)) (TP X pins σ Q) X.xe s
theorem qOb{X:Cx}:PTs X [] fun _ H Q=>Q true H:=fun _ _ _ H _ I h=>wpAny_pure ⟨H,I,h⟩
theorem qJ6{X:Cx}{c:Expr}{t:TT}(hc:PT X c t):PTs X [c] t:=fun pins s σ H Q I h=>by simp only[List.forIn_cons,List.forIn_nil,if_true];exact wpAny_bind (wpAny_bind (thn (hc pins s σ H Q I h) fun _ _ q=>wpAny_pure (wpAny_pure q)))
def wC(n:Nat)(js:List Nat)(g:TG)(tc:TT)(te:TE)(σ:L2.St)(Q:VK)(J:It)(H1:Hp):Prop:= ∃W:Nat->Nat->List V->Hp->Prop,(∃m,W 0 m [] H1)/\∀i m acc H2,W i m acc H2->
 acc.length<sizeLine/\((J.stop i H2/\∀D,H2 D=none->Q (.ref D) (upd H2 D (.lst acc)))\/
  (J.go i H2/\∀x H3,J.yld i H2 x H3->g x (List.replicate n none++qAi js σ) H3 fun σ' H4=> ∃vs:L2.St,σ'=vs++qAi js σ/\vs.length=n/\tc σ' H4 fun ok H5=>if ok=true then te σ' H5 fun v H6=> ∃m',m'<m/\W (i+1) m' (acc++[v]) H6 else ∃m',m'<m/\W (i+1) m' acc H5))
theorem qF3{X:Cx}{elt iter tg:Expr}{cs:List Expr}{scope:Scope}{cl:List (Str×Addr)}{pos:Pos}{wi:TI}{g:TG}{tc:TT}{te:TE}{xs ys:List Str}{js:List Nat}{E:It->Hp->Prop}
 (hcm:X.calm=true) (hi:PI X tg iter wi) (hg:∀C s H fp,PG (jQ X scope cl C (xs++ys) s H fp).nox tg g) (hc:∀C s H fp,PTs (jQ X scope cl C (xs++ys) s H fp).nox cs tc) (he:∀C s H fp,PE (jQ X scope cl C (xs++ys) s H fp).nox elt te)
 (hC:COk X scope cl iter xs ys js)
 {pins:List (Addr×Obj)} {s:Shared} {σ:L2.St} {H:Hp} (R:V->Hp->Prop) (use:Option (Value->Sem Unit)) (Q:Value->Shared->Prop) (I:Inv X pins σ H s) (h:wi σ H E) (hE:∀J H1,E J H1->wC xs.length js g tc te σ R J H1)
 (fin:∀(v:V) (u:Value) (H':Hp) (s':Shared) (C:Addr),Inv X pins σ H' s'->RelV v u->R v H'->(∃m,s'.heap.Ns C m)->H' C=none->C≠X.env.locals->X.s₀.heap.objs.size<=C->(∀y c,X.env.cells.lookup y=some c->c≠C)->(∀p∈X.pn++pins,p.1≠C)->
   compPost (model X.prog X.w) X.A X.xe use Q u C (.ok .next) s'):
 wpAny (model X.prog X.w) X.A (comprehension (.ListComp elt [⟨tg,iter,cs,0⟩] scope pos) scope X.env (firstIterPos [⟨tg,iter,cs,0⟩] pos) (newList []) false (eval iter X.env) use) Q X.xe s:=by
 obtain⟨hclos,hcl,hcell,hkind,hnames,hhas,hjs,hys,hs,hnd⟩:=hC;have hcell':∀y∈scope.names,y.2≠ .cell:=fun y hy=>by have:=List.all_eq_true.mp hcell y hy;simpa using this
 have hnm:∀y∈scope.names,y.2=.local->scope.names.lookup y.1=some .local:=fun y hy e=>by have:=List.all_eq_true.mp hnames y hy;rw[e]at this;simpa using this
 have clX:∀y c,cl.lookup y=some c->X.env.cells.lookup y=some c:=fun y c e=>by have hm:=PySem.mem_of_lookup e;obtain⟨k,hk,e2⟩:=List.mem_iff_getElem.mp hm;have:=congrArg (fun l=>l[k]?) hcl;simp only[List.getElem?_map,List.getElem?_eq_getElem hk,Option.map_some,e2]at this;exact Option.some.inj this
 have has:∀y,((relabel scope X.env).names.lookup y=some .cell\/(relabel scope X.env).names.lookup y=some .free)->∃c,cl.lookup y=some c:=fun y hy=>by
  have key:∀k:NameKind,(k=.cell\/k=.free)->(relabel scope X.env).names.lookup y=some k->∃c,cl.lookup y=some c:=fun k hk e=>by have:=List.all_eq_true.mp hhas _ (PySem.mem_of_lookup e);rcases hk with rfl|rfl <;> exact Option.isSome_iff_exists.mp (by simpa using this)
  rcases hy with e|e
  . exact key _ (.inl rfl) e
  . exact key _ (.inr rfl) e
 refine wpAny_comprehension_free (use:=use) rfl hs hclos hkind hnm (thn (hi pins s σ H _ I h) fun v s1 h1=>thn h1 fun itv s2 h2=>?_);obtain⟨it,fp,tn,J,H2,e,I2,T,st2,f2,hw⟩:=h2;obtain⟨W,⟨m0,w0⟩,turn⟩:=hE J H2 hw;subst e;refine wpAny_newObj_type (wpAny_newFunctionEnv hcell' (by intro y hy;simp at hy) (fun h₁ hns hsb=>?_) hkind);dsimp only at hns hsb⊢;generalize hG:s2.heap.push {cls:=.type "list",dict:=none,data:=.seq ([]:List Value).toArray}=G at hns hsb⊢;have szG:G.objs.size=s2.heap.objs.size+1:=by rw[<-hG,Heap.size_push]
 have inG:∀b o,s2.heap.get? b=some o->G.get? b=some o:=fun b o e=>hG ▸ Heap.get?_push_of_some _ e;have ltC:∀b o,s2.heap.get? b=some o->b≠G.objs.size:=fun b o e=>by rw[szG];exact Nat.ne_of_lt (Nat.lt_succ_of_lt (Heap.lt_size e))
 have ltD:∀b o,s2.heap.get? b=some o->b≠s2.heap.objs.size:=fun b o e=>Nat.ne_of_lt (Heap.lt_size e);have DC:s2.heap.objs.size≠G.objs.size:=by rw[szG];omega
 have old:∀b o,s2.heap.get? b=some o->h₁.get? b=some o:=fun b o e=>hsb.extBut b o (ltC b o e) (Heap.get?_push_of_some _ (inG b o e));have hacc:h₁.PlainList s2.heap.objs.size #[]:=⟨_,hsb.extBut _ _ DC (Heap.get?_push_of_some _ (hG ▸ Heap.get?_push_size _ rfl))⟩;have fpO:∀b∈fp,∃o,s2.heap.get? b=some o:=fun b hb=>let ⟨o,e,_⟩:=T.obj 0 _ st2 b hb;⟨o,e⟩
 have stkO:∀b∈frs X.stack,∃o,s2.heap.get? b=some o:=fun b hb=>by obtain⟨_,o,ho,_⟩:=I2.stack.mem hb;exact⟨o,ho⟩
 have freshH:∀a,s2.heap.objs.size<=a->H2 a=none:=fun a ha=>I2.hok.fresh ha;have stkFp:∀b∈fp,b∉frs X.stack:=fun b hb z=>by
  rcases List.mem_cons.mp (I2.stkSub b z)with q|q
  . exact(f2 b hb).2.1 q
  . exact(f2 b hb).2.2.1 q
 have okX:(jQ X scope cl G.objs.size (xs++ys) s2 H2 fp).Ok:={
  mod:=I2.ok.mod
  kind:=hkind
  glob:=I2.ok.glob
  blt:=I2.ok.blt
  above:=by show s2.heap.objs.size<=G.objs.size;rw[szG];omega
  inj:=fun y z c e1 e2=>I2.ok.inj y z c (clX y c e1) (clX z c e2)
  has:=fun y hy=>has y hy
  cab:=fun y c e _=>absurd (show false=true from e) Bool.false_ne_true
  hd:=I2.ok.hd
  frames:=I2.ok.frames
  stk:=.inl rfl
  exf:=fun b hb=>by obtain⟨o,e⟩:=fpO b hb;exact⟨ltC b o e,fun y c e1=>(f2 b hb).2.2.2.2.1 y c (clX y c e1)⟩
  bs:=I2.bs
  bsz:=Nat.le_trans I2.ok.bsz I2.sz
  noex:=fun b o e hb=>by
   rcases (f2 b hb).2.2.2.1 with q|q
   . exact I2.ok.noex b o e q
   . exact Nat.lt_irrefl _ (Nat.lt_of_lt_of_le (Nat.lt_of_lt_of_le (Heap.lt_size e) I2.ok.bsz) q)
  exfs:=stkFp
  funs:=I2.stack
  frf:=I2.stkFree}
 have lenY:js.length=ys.length:=by have:=congrArg List.length hjs;simpa using this
 have I0:Inv (jQ X scope cl G.objs.size (xs++ys) s2 H2 fp) [] (List.replicate xs.length none++qAi js σ) H2 {s2 with heap:=h₁,toks:=s2.toks+([]:List (Str×Value)).length}:=by
  refine⟨okX,O,I2.bare,Un.kept old,⟨_,hns,fun k y v e1 e2 e3=>?_⟩,fun y c e=>?_,freshH _ (by show s2.heap.objs.size<=G.objs.size;rw[szG];omega),fun y c e=>I2.freeC y c (clX y c e),fun p hp=>absurd (show p∈([]:List (Addr×Obj))from hp) (by simp),I2.hok.kept old,?_⟩
  . obtain⟨k,e1',e2'⟩:∃k,ys[k]?=some y/\(qAi js σ)[k]?=some (some v):=by
     have e1:(xs++ys)[k]?=some y:=e1;by_cases hk:k<xs.length
     . rw[List.getElem?_append_left (by simpa using hk),List.getElem?_replicate,if_pos hk]at e2
       cases e2
     . rw[List.getElem?_append_right (by simpa using hk),List.length_replicate]at e2
       rw[List.getElem?_append_right (Nat.le_of_not_lt hk)]at e1;exact⟨_,e1,e2⟩
    unfold qAi at e2';rw[List.getElem?_map]at e2';cases ej:js[k]? with
    |none=>rw[ej]at e2';cases e2'
    |some j=>
     rw[ej]at e2';have e4:(σ[j]?).join=some v:=Option.some.inj e2';have e5:σ[j]?=some (some v):=by
      cases q:σ[j]? with
      |none=>rw[q]at e4;cases e4
      |some o=>rw[q]at e4;exact congrArg some e4
     have e6:X.N[j]?=some y:=by have:=congrArg (fun l=>l[k]?) hjs;simp only[List.getElem?_map,ej,e1',Option.map_some]at this;exact Option.some.inj this
     have hy:=List.all_eq_true.mp hys y (List.mem_of_getElem? e1');simp only[Bool.and_eq_true,Bool.or_eq_true,beq_iff_eq]at hy;obtain⟨ky,ko⟩:=hy;obtain⟨m,hn,hl⟩:=I2.loc;obtain⟨u,r,lk⟩:=hl j y v e6 e5 (.inr ko);refine⟨u,r,.inr ⟨ky,?_⟩⟩;rcases lk with ⟨kl,_⟩|⟨_,c,ec,hc⟩
     . have kl':X.env.scope.names.lookup y=some .local:=kl
       rw[kl']at ko;rcases ko with z|z <;> cases z
     . obtain⟨c',ec'⟩:=has y ky
       have:=clX y c' ec';rw[ec]at this;cases this;obtain⟨o,ho,hd⟩:=hc;exact⟨c,ec',o,old c o ho,hd⟩
  . obtain⟨v,o,ho,hd⟩:=I2.cell y c (clX y c e)
    exact⟨v,o,old c o ho,hd⟩
  . show (List.replicate xs.length none++qAi js σ).length=(xs++ys).length
    simp[qAi,lenY]
 have loop:∀s3:Shared,s3={s2 with heap:=h₁,toks:=s2.toks+([]:List (Str×Value)).length}->
  codeAny (model X.prog X.w) X.A (.compLoop (.ListComp elt [⟨tg,iter,cs,0⟩] scope pos) 0 (.ref it) (.ref s2.heap.objs.size) (compEnvC scope cl G.objs.size X.env))
   (compPost (model X.prog X.w) X.A X.xe use Q (.ref s2.heap.objs.size) G.objs.size) s3:=by
  rintro s3 rfl;have stat:∀{H':Hp} (o:Obj),(∀b∈fp,H' b=none)->∀b∈fp,qR0 (jQ X scope cl G.objs.size (xs++ys) s2 H2 fp) [(s2.heap.objs.size,o)] H' b:=fun{H'} o hn b hb=>by
   obtain⟨ob,eb⟩:=fpO b hb;refine⟨hn b hb,ltC b ob eb,stkFp b hb,.inl hb,fun y c e1=>(f2 b hb).2.2.2.2.1 y c (clX y c e1),fun p hp=>?_⟩;have hp':p=(s2.heap.objs.size,o):=by have:p∈[(s2.heap.objs.size,o)]:=hp;simpa using this
   rw[hp'];exact Ne.symm (ltD b ob eb)
  refine qNg (fun n s'=> ∃i acc its H3,Inv (jQ X scope cl G.objs.size (xs++ys) s2 H2 fp) [] (List.replicate xs.length none++qAi js σ) H3 s'/\tn i s'.heap/\(∀b∈fp,H3 b=none)/\s'.heap.PlainList s2.heap.objs.size its.toArray/\Vals acc its/\H3 s2.heap.objs.size=none/\W i n acc H3)
   ?_ m0 ⟨0,[],[],H2,I0,T.keep _ _ _ st2 fun b _ o e=>old b o e,fun b hb=>(f2 b hb).1,hacc,.nil,freshH _ (Nat.le_refl _),w0⟩
  rintro n s3 ⟨i,acc,its,H3,I3,st3,fr3,⟨nn,pl3⟩,va3,hD3,w3⟩;obtain⟨hlen,cs⟩:=turn i n acc H3 w3;have hal:acc.length=its.length:=va3.length;have nD:s2.heap.objs.size∉frs X.stack:=fun z=>by obtain⟨o,e⟩:=stkO _ z;exact ltD _ o e rfl
  have I3p:Inv (jQ X scope cl G.objs.size (xs++ys) s2 H2 fp) [(s2.heap.objs.size,{cls:=.type "list",data:=.seq its.toArray nn})] (List.replicate xs.length none++qAi js σ) H3 s3:=I3.pins_of fun p hp=>by
   have e:p=(s2.heap.objs.size,{cls:=.type "list",data:=.seq its.toArray nn}):=by simpa using hp
   subst e;exact⟨pl3,hD3,DC,nD,fun v z=>nomatch z⟩
  rcases cs with ⟨stop,q⟩|⟨go,step⟩
  . refine thn (T.done (jQ X scope cl G.objs.size (xs++ys) s2 H2 fp) rfl rfl rfl hcm i _ s3 _ H3 _ I3p (stat _ fr3) st3 stop) fun r s4 hr=>?_
    obtain⟨hr,I4⟩:=hr;subst hr;have pl4:=(I4.pin (s2.heap.objs.size,{cls:=.type "list",data:=.seq its.toArray nn}) (by simp)).1;obtain⟨m,hn,_⟩:=I4.loc;have B:=I4.base;have un':Un (frs X.stack) fp H2 (upd H3 s2.heap.objs.size (.lst acc)) s2.heap s4.heap:=by
     refine⟨fun b o e n hb hx=>B.keep b o e n hb hx,fun b o e n hb hx=>B.slot b o e n hb hx,fun b o e n hx=>?_,fun b o e hx=>B.there b o e hx,fun b xs e=>?_,fun b o u e=>?_,fun b ps e=>?_⟩
     . rw[qX (ltD b o e)]
       exact B.free b o e n hx
     . have z:=B.tups b xs e
       rw[qX (qV z hD3)];exact z
     . have z:=B.frzs b o u e
       rw[qX (qV z hD3)];exact z
     . obtain⟨more,z⟩:=B.tbls b ps e
       exact⟨more,by rw[qX (qV z hD3)];exact z⟩
    have freeC4:H3 G.objs.size=none:=I4.free;have hok':HOk X.prog X.w (upd H3 s2.heap.objs.size (.lst acc)) s4.heap:=fun b u e=>by
     by_cases hb:b=s2.heap.objs.size
     . subst hb
       rw[qD]at e;cases e;exact⟨Nat.le_of_lt hlen,its,nn,va3,pl4⟩
     . rw[qX hb]at e
       exact(I4.hok b u e).stay (fun c v hc z=>z) (fun c z=>by rw[qX (qV z hD3)];exact z) fun c xs z=>by rw[qX (qV z hD3)];exact z
    have hch:∀b∈fp,(b∈X.ex\/X.s₀.heap.objs.size<=b)/\b≠X.env.locals/\(∀y c,X.env.cells.lookup y=some c->c≠b)/\∀p∈X.pn++pins,p.1≠b:=fun b hb=>by obtain⟨_,z1,_,z3,z4,z5⟩:=f2 b hb;exact⟨z3,z1,z4,z5⟩
    have I5:=I2.call' (s':=s4) (ch:=fp) I4.os un' hok' I4.bare hch;refine fin (.ref s2.heap.objs.size) _ _ s4 G.objs.size I5 rfl (q _ hD3) ⟨m,hn⟩ ?_ ?_ ?_ (fun y c e=>?_) fun p hp=>?_
    . rw[qX (Ne.symm DC)];exact freeC4
    . rw[szG];exact Nat.ne_of_gt (Nat.lt_succ_of_lt I2.lt)
    . rw[szG];exact Nat.le_succ_of_le I2.sz
    . obtain⟨v,o,ho,_⟩:=I2.cell y c e
      exact ltC c o ho
    . exact ltC p.1 p.2 (I2.pin p hp).1
  . refine thn (T.item (jQ X scope cl G.objs.size (xs++ys) s2 H2 fp) rfl rfl rfl hcm i _ s3 _ H3 _ I3p (stat _ fr3) st3 go) fun r s4 hr=>?_
    obtain⟨u,hr,h4⟩:=hr;subst hr;refine thn h4 fun _ s5 h5=>?_;obtain⟨v,H5,I5,r5,y5,st5,fr5⟩:=h5;have I5':=I5.pinned (stat _ fr5) (T.obj _ _ st5);refine wpAny_mono (hg G.objs.size s2 H2 fp _ s5 _ H5 v u _ (I5'.wish _) r5 (step v H5 y5)) (fun _ s6 h6=>?_) fun _ _ z=>z.elim;obtain⟨σ6,H6',I6',vs,eσ,hv,q5⟩:=h6;subst eσ;have back:∀(H7:Hp) (s7:Shared) (σ7:L2.St) (h':Heap) (acc':List V) (its':List Value) (m':Nat),Inv (jQ X scope cl G.objs.size (xs++ys) s2 H2 fp) ([(s2.heap.objs.size,{cls:=.type "list",data:=.seq its.toArray nn})]++qIe fp s5.heap) (vs++qAi js σ) H7 s7->
     Heap.SameBut s2.heap.objs.size s7.heap h'->h'.PlainList s2.heap.objs.size its'.toArray->Vals acc' its'->m'<n->W (i+1) m' acc' H7->
     ∃m,m<n/\∃i acc its H3,Inv (jQ X scope cl G.objs.size (xs++ys) s2 H2 fp) [] (List.replicate xs.length none++qAi js σ) H3 {s7 with heap:=h'}/\tn i h'/\(∀b∈fp,H3 b=none)/\h'.PlainList s2.heap.objs.size its.toArray/\Vals acc its/\H3 s2.heap.objs.size=none/\W i m acc H3:=by
     intro H7 s7 _ h' acc' its' m' I7 hsb' hp' va' hm' w7;have pinD:=I7.pin (s2.heap.objs.size,{cls:=.type "list",data:=.seq its.toArray nn}) (by simp);have pf:∀b∈fp,∀o,s5.heap.get? b=some o->s7.heap.get? b=some o/\H7 b=none:=fun b hb o e=>by have z:=I7.pin (b,o) (List.mem_append_right _ (List.mem_append_right _ (qBj hb e)));exact⟨z.1,z.2.1⟩
     have I8:Inv (jQ X scope cl G.objs.size (xs++ys) s2 H2 fp) [] (List.replicate xs.length none++qAi js σ) H7 {s7 with heap:=h'}:=by
      have I7u:Inv (jQ X scope cl G.objs.size (xs++ys) s2 H2 fp) [] (List.replicate xs.length none++qAi js σ) H7 s7:=(I7.pins_of (pins':=[]) fun p hp=>absurd hp (by simp)).weak (by simp[hv]) fun k v e=>by
       by_cases hk:k<xs.length
       . rw[List.getElem?_append_left (by simpa using hk),List.getElem?_replicate,if_pos hk]at e
         cases e
       . rw[List.getElem?_append_right (by simpa using hk),List.length_replicate]at e
         rw[List.getElem?_append_right (by rw[hv];exact Nat.le_of_not_lt hk),hv];exact e
      refine I7u.turned (t':=s7.toks) (it:=s2.heap.objs.size) (fun b o hb e=>hsb'.extBut b o hb e) pinD.2.1 DC (.inr (Nat.le_refl _)) (fun y c e=>?_) fun p hp=>absurd (show p∈([]:List (Addr×Obj))from hp) (by simp);obtain⟨v,o,ho,_⟩:=I2.cell y c (clX y c e);exact ltD c o ho
     refine⟨m',hm',i+1,acc',its',H7,I8,?_,fun b hb=>?_,hp',va',pinD.2.1,w7⟩
     . refine T.keep _ _ _ st5 fun b hb o e=>hsb'.extBut b o ?_ (pf b hb o e).1
       obtain⟨ob,eb⟩:=fpO b hb;exact ltD b ob eb
     . obtain⟨o,e,_⟩:=T.obj _ _ st5 b hb
       exact(pf b hb o e).2
    refine wpAny_mono (hc G.objs.size s2 H2 fp _ s6 _ _ _ I6' q5) (fun ok s6a h6=>?_) fun _ _ z=>z.elim;obtain⟨H6,I6a,q6⟩:=h6;cases ok with
    |false=>
     rw[if_neg (by decide)]at q6⊢;obtain⟨m',hm',w7⟩:=q6;have I7:=I6a.unwish;have pinD:=I7.pin (s2.heap.objs.size,{cls:=.type "list",data:=.seq its.toArray nn}) (by simp);exact back H6 s6a (List.replicate xs.length none++qAi js σ) s6a.heap acc its m' I7 (Heap.SameBut.refl _ _) ⟨nn,pinD.1⟩ va3 hm' w7
    |true=>
     rw[if_pos rfl]at q6⊢;refine wpAny_mono (he G.objs.size s2 H2 fp _ s6a _ H6 _ I6a q6) (fun y s7 h7=>?_) fun _ _ z=>z.elim;obtain⟨v7,H7,I7,r7,m',hm',w7⟩:=h7;have I7:=I7.unwish;have pinD:=I7.pin (s2.heap.objs.size,{cls:=.type "list",data:=.seq its.toArray nn}) (by simp);refine wpAny_list_append_plain (items:=its.toArray) ⟨nn,pinD.1⟩ (fun h' hp' hsb'=>?_) (by rw[List.size_toArray,<-hal];exact Nat.le_of_lt hlen);have e8:its.toArray.push y=(its++[y]).toArray:=by simp
     rw[e8]at hp';exact back H7 s7 (List.replicate xs.length none++qAi js σ) h' (acc++[v7]) (its++[y]) m' I7 hsb' hp' (va3.append (.cons r7 .nil)) hm' w7
 exact codeAny_compStart_list (loop _ rfl) (T.self _ 0 _ _ _ (T.keep _ _ _ st2 fun b _ o e=>old b o e) (loop _ rfl))
theorem qMp{X:Cx}{pins:List (Addr×Obj)}{σ:L2.St}{H:Hp}{s:Shared}{C:Addr}{h':Heap}(I:Inv X pins σ H s)(hsb:Heap.SameBut C s.heap h')(h0:H C=none)(h1:C≠X.env.locals)(h2:X.s₀.heap.objs.size<=C)
 (h3:∀y c,X.env.cells.lookup y=some c->c≠C) (h4:∀p∈X.pn++pins,p.1≠C):Inv X pins σ H {s with heap:=h'}:=
 I.turned (t':=s.toks) (it:=C) (fun b o hb e=>hsb.extBut b o hb e) h0 h1 (.inr h2) h3 h4
theorem qLp{X:Cx}{elt iter tg:Expr}{cs:List Expr}{scope:Scope}{cl:List (Str×Addr)}{pos:Pos}{wi:TI}{g:TG}{tc:TT}{te:TE}{xs ys:List Str}{js:List Nat}{T:L2.St->VK->It->Hp->Prop}
 (hcm:X.calm=true) (hi:PI X tg iter wi) (hg:∀C s H fp,PG (jQ X scope cl C (xs++ys) s H fp).nox tg g) (hc:∀C s H fp,PTs (jQ X scope cl C (xs++ys) s H fp).nox cs tc) (he:∀C s H fp,PE (jQ X scope cl C (xs++ys) s H fp).nox elt te) (hC:COk X scope cl iter xs ys js) (hE:∀σ Q J H1,T σ Q J H1->wC xs.length js g tc te σ Q J H1):PE X (.ListComp elt [⟨tg,iter,cs,0⟩] scope pos) (fun σ H Q=>wi σ H (T σ Q)):=by
 intro pins s σ H Q I h;rw[eval_ListComp];refine qF3 hcm hi hg hc he hC Q none (EP X pins σ Q) I h (hE σ Q) fun v u H' s' C I' r q hm h0 h1 h2 h3 h4=>?_;obtain⟨m,hm⟩:=hm;exact⟨m,hm,fun h' hsb=>⟨v,H',qMp I' hsb h0 h1 h2 h3 h4,r,q⟩⟩
theorem qGl{X:Cx}{elt iter tg:Expr}{cs:List Expr}{scope:Scope}{cl:List (Str×Addr)}{pos:Pos}{wi:TI}{g:TG}{tc:TT}{te:TE}{xs ys:List Str}{js:List Nat}{T:L2.St->VK->It->Hp->Prop}{i:Nat}{y:Str}{py spos:Pos}(hN:X.N.Nodup)(hi':X.N[i]?=some y)(hy:X.env.kindOf y=some .local)
 (hcm:X.calm=true) (hi:PI X tg iter wi) (hg:∀C s H fp,PG (jQ X scope cl C (xs++ys) s H fp).nox tg g) (hc:∀C s H fp,PTs (jQ X scope cl C (xs++ys) s H fp).nox cs tc) (he:∀C s H fp,PE (jQ X scope cl C (xs++ys) s H fp).nox elt te) (hC:COk X scope cl iter xs ys js) (hE:∀σ Q J H1,T σ Q J H1->wC xs.length js g tc te σ Q J H1) (hsw:swapsWith (.ListComp elt [⟨tg,iter,cs,0⟩] scope pos) (some (.Name y py)) spos.line X.env=pure true):PS X (.Assign [.Name y py] (.ListComp elt [⟨tg,iter,cs,0⟩] scope pos) spos) (qS8 (fun σ H Q=>wi σ H (T σ Q)) (vN i)):=by
 intro pins s σ H D I h;rw[exec_Assign_Name_used _ _ _ _ hsw];refine wpAny_bind (wpAny_standAt (wpAny_bind ?_));have key:=qF3 (pos:=pos) hcm hi hg hc he hC (fun v H'=>D.nx (σ.set i (some v)) H') (some (assign (.Name y py) X.env)) (fun _ s'=>SP X pins D .next s') I h (hE σ _) fun v u H' s' C I' r q hm h0 h1 h2 h3 h4=>?_
 . exact wpAny_bind (thn key fun _ s' hq=>wpAny_pure (wpAny_pure hq))
 . refine wpAny_assign_Name (qI9 I' hN hi' (.inl hy) r (fun s2 I2 ch=>?_) (.inr hy))
   obtain⟨b,sb,hb⟩:=ch;obtain⟨m,hm⟩:=hm;have nb:C≠b:=by
    rcases hb with rfl|hb
    . exact h1
    . exact Ne.symm (h3 y b hb)
   exact⟨m,hm.sameBut sb nb,fun h' hsb=>⟨_,H',qMp I2 hsb h0 h1 h2 h3 h4,q⟩⟩
def CompEnd(js:List Nat)(te:TE)(σ:L2.St)(Q:VK)(J:It)(H1:Hp):Prop:= ∃W:Nat->Nat->List V->Hp->Prop,(∃m,W 0 m [] H1)/\∀i m acc H2,W i m acc H2->
 acc.length<sizeLine/\((J.stop i H2/\∀D,H2 D=none->Q (.ref D) (upd H2 D (.lst acc)))\/
  (J.go i H2/\∀x H3,J.yld i H2 x H3->te (some x::qAi js σ) H3 fun v H4=> ∃m',m'<m/\W (i+1) m' (acc++[v]) H4))
def qVe(js:List Nat)(wi:TI)(te:TE):TE:=fun σ H Q=>wi σ H (CompEnd js te σ Q)
theorem CompEnd.g{js:List Nat}{te:TE}(σ:L2.St)(Q:VK)(J:It)(H1:Hp):CompEnd js te σ Q J H1->wC 1 js (vN 0) (fun _ H Q=>Q true H) te σ Q J H1:=fun⟨W,w0,st⟩=>
 ⟨W,w0,fun i m acc H2 w=>⟨(st i m acc H2 w).1,(st i m acc H2 w).2.imp id fun⟨go,y⟩=>⟨go,fun x H3 z=>⟨[some x],rfl,rfl,(if_pos rfl).mpr (y x H3 z)⟩⟩⟩⟩
theorem kf{X:Cx}{elt iter:Expr}{x:Str}{px:Pos}{scope:Scope}{cl:List (Str×Addr)}{pos:Pos}{wi:TI}{te:TE}(ys:List Str)(js:List Nat)
 (hcm:X.calm=true) (hi:PI X (.Name x px) iter wi) (he:∀C s H fp,PE (jQ X scope cl C (x::ys) s H fp).nox elt te) (hx:scope.names.lookup x=some .local:=by rfl) (hC:COk X scope cl iter [x] ys js:=by exact⟨rfl,rfl,rfl,rfl,rfl,rfl,rfl,rfl,fun _=>rfl,by decide⟩):PE X (.ListComp elt [⟨.Name x px,iter,[],0⟩] scope pos) (qVe js wi te):=
 qLp (xs:=[x]) (T:=CompEnd js te) hcm hi (fun _ _ _ _=>jA (i:=0) hC.nd rfl (.inl (lookup_relabel_local hx)) (.inr (lookup_relabel_local hx))) (fun _ _ _ _=>qOb) he hC CompEnd.g
theorem qTd{X:Cx}{elt iter:Expr}{x:Str}{px:Pos}{scope:Scope}{cl:List (Str×Addr)}{pos:Pos}{wi:TI}{te:TE}(ys:List Str)(js:List Nat){i:Nat}{y:Str}{py spos:Pos}(hN:X.N.Nodup)(hi':X.N[i]?=some y)(hy:X.env.kindOf y=some .local)
 (hcm:X.calm=true) (hi:PI X (.Name x px) iter wi) (he:∀C s H fp,PE (jQ X scope cl C (x::ys) s H fp).nox elt te) (hx:scope.names.lookup x=some .local:=by rfl) (hC:COk X scope cl iter [x] ys js:=by exact⟨rfl,rfl,rfl,rfl,rfl,rfl,rfl,rfl,fun _=>rfl,by decide⟩) (hsw:swapsWith (.ListComp elt [⟨.Name x px,iter,[],0⟩] scope pos) (some (.Name y py)) spos.line X.env=pure true:=by rfl):PS X (.Assign [.Name y py] (.ListComp elt [⟨.Name x px,iter,[],0⟩] scope pos) spos) (qS8 (qVe js wi te) (vN i)):=
 qGl (xs:=[x]) (T:=CompEnd js te) hN hi' hy hcm hi (fun _ _ _ _=>jA (i:=0) hC.nd rfl (.inl (lookup_relabel_local hx)) (.inr (lookup_relabel_local hx))) (fun _ _ _ _=>qOb) he hC CompEnd.g hsw
def Nxt(n i:Nat)(P:Prop):Prop:= ∃m',m'<n-i/\m'=n-(i+1)/\i+1<=n/\P
theorem Nxt.mk{n i:Nat}{P:Prop}(h:i<n)(p:P):Nxt n i P:=⟨n-(i+1),by omega,rfl,h,p⟩
theorem zB{K:PySem.W.Frag}{a:Addr}{xs:List V}{js:List Nat}{te:TE}{σ:L2.St}{H:Hp}{Q:VK}(Pv:Nat->List V->Hp->Prop)(h0:Pv 0 [] H)(hl:∀i acc H,i<=xs.length->Pv i acc H->SqL K H a xs/\acc.length<sizeLine)
 (hs:∀i x acc H,i<xs.length->xs[i]?=some x->Pv i acc H->te (some x::qAi js σ) H fun v H'=>Nxt xs.length i (Pv (i+1) (acc++[v]) H')) (hd:∀acc H,Pv xs.length acc H->∀D,H D=none->Q (.ref D) (upd H D (.lst acc))):CompEnd js te σ Q (Itl K a) H:=by
 refine⟨fun i m acc H=>m=xs.length-i/\i<=xs.length/\Pv i acc H,⟨xs.length,by simp,Nat.zero_le _,h0⟩,?_⟩;rintro i m acc H2 ⟨rfl,hi,p⟩;obtain⟨q,hz⟩:=hl i acc H2 hi p;refine⟨hz,?_⟩;by_cases hlt:i<xs.length
 . refine .inr ⟨⟨xs,xs[i],q,by simp[hlt]⟩,fun x H3 y=>?_⟩
   obtain⟨e,y⟩:=y;subst e;exact hs i x acc _ hlt (y xs q) p
 . have e:i=xs.length:=by omega
   subst e;exact .inl ⟨⟨xs,q,Nat.le_refl _⟩,hd acc H2 p⟩
theorem qNx{lo:Int}{n:Nat}{js:List Nat}{te:TE}{σ:L2.St}{H:Hp}{Q:VK}(Pv:Nat->List V->Hp->Prop)(h0:Pv 0 [] H)(hl:∀i acc H,i<=n->Pv i acc H->acc.length<sizeLine)
 (hs:∀i acc H,i<n->Pv i acc H->te (some (.int (lo+i))::qAi js σ) H fun v H'=>Nxt n i (Pv (i+1) (acc++[v]) H')) (hd:∀acc H,Pv n acc H->∀D,H D=none->Q (.ref D) (upd H D (.lst acc))):CompEnd js te σ Q (Itr lo n) H:=by
 refine⟨fun i m acc H=>m=n-i/\i<=n/\Pv i acc H,⟨n,by simp,Nat.zero_le _,h0⟩,?_⟩;rintro i m acc H2 ⟨rfl,hi,p⟩;refine⟨hl i acc H2 hi p,?_⟩;by_cases hlt:i<n
 . refine .inr ⟨hlt,fun x H3 y=>?_⟩
   obtain⟨e,y⟩:=y;subst e y;exact hs i acc _ hlt p
 . have e:i=n:=by omega
   subst e;exact .inl ⟨Nat.le_refl _,hd acc H2 p⟩
structure Def(K:PySem.W.Frag)(mg:Str->Option Value)(x:Str)(st:Stmt)(ps:List Str)(f:Addr)(fd:FuncData):Prop where
 F:Fun K x x st f fd
 b:Binds K fd ps []
 m:mg x=some (.ref f)
section
variable{X:Cx}
theorem qI{k j:Nat}{x:Str}{st:Stmt}{ps:List Str}{f:Addr}{fd:FuncData}{sp:Sp}{e:Expr}{es:List Expr}{t:TA}{p pos:Pos}(D:Def X.K X.mg x st ps f fd)(F:FnOk X.prog X.w X.K X.mg X.base CX0 j f fd ps sp)(hr:Room k X.A)(hg:Gl X x)(ha:PA X (e::es) t)(hj:j<=k:=by decide)
 (hdb:(x==("__debug__":Str))=false:=by decide) (he:starEach (e::es) X.env=(false,eval e X.env)::starEach es X.env:=by rfl) (hpl:(backTo pos (starEach es X.env)).any (·.1)=false:=by rfl):
 PE X (.Call (.Name x p) (e::es) [] pos) (qT3 sp [] E0 t):=qP3 F (hr.mono hj) hg D.m D.F.kp D.b .nil qW8 ha hdb he hpl
theorem zw{x:Str}{n:String}{pos:Pos}(hg:Gl X x)(hm:X.mg x=none)(hv:bootBuiltins x=some (.type n))(hn:x≠"__name__":=by decide)(hd:(x==("__debug__":Str))=false:=by decide):PE X (.Name x pos) (tC (.ty n)):=
 qS1 hg hm hv rfl hn hd
end
theorem qQq{X:Cx}{K:PySem.W.Frag}(h:X.K=K):IxR X (qXa K):=h ▸ qz
theorem vd{X:Cx}{K:PySem.W.Frag}(h:X.K=K):IxR X (qUk K):=h ▸ qF2
def qWw(t:TS):TS:=fun D σ H=> ∃R:L2.St->Hp->Prop,t {D with nx:=R} σ H/\∀σ' H',R σ' H'->D.nx σ' H'
theorem zC{X:Cx}{st:Stmt}{t:TS}(h:PS X st t):PS X st (qWw t):=by
 rintro pins s σ H D I ⟨R,ht,hR⟩;refine thn (h pins s σ H {D with nx:=R} I ht) fun f s' q=>?_;cases f with
 |next=>obtain⟨σ',H',I',r⟩:=q;exact⟨σ',H',I',hR _ _ r⟩
 |brk=>exact q
 |cont=>exact q
 |ret u=>exact q
theorem qF{H:Hp}{p:Addr}(h:H p=none)(o:HO):Same H (upd H p o):=fun b u q=>by rw[qX (qV q h)];exact q
theorem Same.tup{K:PySem.W.Frag}{H H':Hp}{a:Addr}{xs:List V}(e:Same H H')(h:SqT K H a xs):SqT K H' a xs:=by
 rcases h with (h|⟨o,h⟩)|h
 . exact .inl (.inl (e _ _ h))
 . exact .inl (.inr ⟨o,e _ _ h⟩)
 . exact .inr h
abbrev EC:=Value×Option Addr
def vF(h:Heap)(e:Addr)(C:EC)(hd:Option Addr):Prop:=
 ∃(vs:Array Value) (sl:Array (Option Value)),h.get? e=some {cls:=C.1,dict:=C.2,data:=.fields vs,slots:=sl}/\
  match hd with
  |none=>vs[1]?=some .none
  |some T=>vs[1]?=some (.ref T)/\T≠e/\∃oT ts m,h.get? T=some oT/\oT.data=.fields ts/\ts[3]?=some m
def qYb(h:Heap)(e:Addr)(c:Value):Prop:= ∃o vs,h.get? e=some o/\o.data=.fields vs/\vs[2]?=some c
structure Noted(fs:List Addr)(e:Addr)(hd:Option Addr)(C:EC)(h h':Heap):Prop where
 keep:∀b o,h.get? b=some o->b∉fs->b≠e->some b≠hd->h'.get? b=some o
 slot:∀b o,h.get? b=some o->b∈fs->b≠e->some b≠hd->∃sl,h'.get? b=some {o with slots:=sl}
 ent:∃T,(h.get? T=none\/hd=some T)/\vF h' e C (some T)
 c2:∀c,qYb h e c->qYb h' e c
theorem Noted.before{fs:List Addr}{e T:Addr}{C:EC}{h h1 h':Heap}(x:Noted fs e none C h1 h')(k:∀b,b≠T->h1.get? b=h.get? b)(t:∃o,h1.get? T=some o)(ne:e≠T):Noted fs e (some T) C h h':=by
 refine⟨fun b o q hf he ht=>x.keep b o ?_ hf he (by simp),fun b o q hf he ht=>x.slot b o ?_ hf he (by simp),?_,fun c ⟨o,vs,q1,q2⟩=>x.c2 c ⟨o,vs,by rw[k e ne];exact q1,q2⟩⟩
 . rw[k b (fun z=>ht (by rw[z]))];exact q
 . rw[k b (fun z=>ht (by rw[z]))];exact q
 . obtain⟨T',n|n,r⟩:=x.ent
   . refine⟨T',.inl ?_,r⟩
     rw[<-k T' (fun z=>?_)];exact n;obtain⟨o,q⟩:=t;rw[z,q]at n;cases n
   . cases n
section
variable{M:Model}{A:Around}{E:Value->Shared->Prop}{s:Shared}
theorem Noted.then{fs:List Addr}{e T:Addr}{hd:Option Addr}{C:EC}{h h1 h2:Heap}(x:Noted fs e hd C h h1)(hT:h.get? T=none\/hd=some T)(y:Noted fs e (some T) C h1 h2):Noted fs e hd C h h2:=by
 have nt:∀b o,h.get? b=some o->some b≠hd->(some b:Option Addr)≠some T:=fun b o q hb z=>by
  cases z;rcases hT with n|n
  . rw[q]at n;cases n
  . exact hb n.symm
 have n1:∀T',h1.get? T'=none->T'≠e->some T'≠hd->h.get? T'=none:=fun T' n he ht=>by
  cases q:h.get? T' with
  |none=>rfl
  |some o=>
   by_cases hs:T'∈fs
   . obtain⟨sl,z⟩:=x.slot T' o q hs he ht
     rw[n]at z;cases z
   . have z:=x.keep T' o q hs he ht
     rw[n]at z;cases z
 refine⟨fun b o q hf he ht=>y.keep b o (x.keep b o q hf he ht) hf he (nt b o q ht),fun b o q hf he ht=>?_,?_,fun c q=>y.c2 c (x.c2 c q)⟩
 . obtain⟨sl,z⟩:=x.slot b o q hf he ht
   obtain⟨sl',z'⟩:=y.slot b _ z hf he (nt b o q ht);exact⟨sl',z'⟩
 . obtain⟨T',n,r⟩:=y.ent
   refine⟨T',?_,r⟩;rcases n with n|n
   . by_cases hh:hd=some T'
     . exact .inr hh
     . refine .inl (n1 T' n (fun z=>?_) (Ne.symm hh))
       obtain⟨vs,sl,q,r1,nT,_⟩:=r;exact nT z
   . cases n
     exact hT
theorem qHw{base:Heap}{env:Env}{outer:List Env}{L e:Addr}{C:EC}{head:Value}{vs:Array Value}{sl:Array (Option Value)}{had:Bool}{Q:Unit->Shared->Prop}
 (fr:A.frames=some (env::outer)) (ff:s.heap.FunFrames base (env::outer)) (ef:env.frame=some L) (re:s.heap.get? e=some {cls:=C.1,dict:=C.2,data:=.fields vs,slots:=sl}) (v1:1<vs.size)
 (k:∀h',Noted (frs (env::outer)) e none C s.heap h'->Q () {s with heap:=h'}):
 wpAny M A (do let a<-frameOf env;let pl<-entryPlaceOf L had;let b<-EntryCells.newEntry head a .none (rawInt L) .none pl;setField (.ref e) 1 b) Q E s:=by
 have efs:e∉frs (env::outer):=fun z=>by obtain⟨_,o,q,nf⟩:=ff.mem z;rw[re]at q;cases q;exact nf vs rfl
 refine wpAny_bind (wpAny_frameOf_fun fr ff ef fun g so=>?_);refine wpAny_bind (wpAny_entryPlaceOf fun pl ip=>?_);unfold EntryCells.newEntry newFields;refine wpAny_bind (wpAny_newObj_type ?_ (ip.sizeOk5 _ _ _ _ _));generalize hN:({cls:=.type "traceback",dict:=none,data:=.fields ([head,.ref L,.none,rawInt L,.none]++(if pl.isEmpty then List.replicate 6 Value.none else pl)).toArray}:Obj)=N;have Nd:N.data=.fields ([head,.ref L,.none,rawInt L,.none]++(if pl.isEmpty then List.replicate 6 Value.none else pl)).toArray:=by rw[<-hN]
 have q1:g.get? e=some {cls:=C.1,dict:=C.2,data:=.fields vs,slots:=sl}:=(so.2.1 e efs).trans re;have q2:=Heap.get?_push_of_some (h:=g) N q1;have ne:g.objs.size≠e:=Nat.ne_of_gt (Heap.lt_size q1);refine wpAny_setField q2 rfl v1 (k _ ?_);have q3:=Heap.get?_update_self (Obj.mapFields (·.setIfInBounds 1 (Value.ref g.objs.size))) q2 rfl;have nf:N.isFreed=false:=Obj.isFreed_of_fields Nd;have t3:((g.push N).update e (Obj.mapFields (·.setIfInBounds 1 (Value.ref g.objs.size)))).get? g.objs.size=some N:=
  (Heap.get?_update_other (g.push N) _ (Ne.symm ne)).trans (Heap.get?_push_size g nf)
 have oth:∀b o,b≠e->g.get? b=some o->((g.push N).update e (Obj.mapFields (·.setIfInBounds 1 (Value.ref g.objs.size)))).get? b=some o:=fun b o hb q=>by rw[Heap.get?_update_other _ _ (Ne.symm hb)];exact Heap.get?_push_of_some _ q
 refine⟨fun b o q hf he _=>oth b o he ((so.2.1 b hf).trans q),fun b o q hf he _=>?_,⟨g.objs.size,.inl ?_,vs.setIfInBounds 1 (.ref g.objs.size),sl,q3,by simp[v1],ne,N,_,rawInt L,t3,Nd,?_⟩,fun c q=>?_⟩
 . obtain⟨sl',q'⟩:=so.2.2 b o q
   exact⟨sl',oth b _ he q'⟩
 . rw[so.1]
   exact Heap.get?_none_of_le (Nat.le_refl _)
 . simp
 . obtain⟨o,ws,z1,z2,z3⟩:=q
   rw[re]at z1;cases z1;cases z2;exact⟨_,vs.setIfInBounds 1 (.ref g.objs.size),q3,O,by rw[Array.getElem?_setIfInBounds_ne (by decide)];exact z3⟩
theorem qLo{base:Heap}{env:Env}{outer:List Env}{L e:Addr}{C:EC}{hd:Option Addr}{Q:Unit->Shared->Prop}
 (fr:A.frames=some (env::outer)) (ff:s.heap.FunFrames base (env::outer)) (ef:env.frame=some L) (re:vF s.heap e C hd)
 (k:∀h',Noted (frs (env::outer)) e hd C s.heap h'->Q () {s with heap:=h'}):wpAny M A (noteFrame (.ref e) env) Q E s:=by
 have re0:=re;obtain⟨vs,sl,q,r⟩:=re;unfold noteFrame;simp only[ef];cases hd with
 |none=>
  refine wpAny_bind (wpAny_field q rfl r ?_);rw[if_neg (by decide)];exact qHw fr ff ef q (Array.getElem?_eq_some_iff.mp r).1 k
 |some T=>
  obtain⟨r1,nT,oT,ts,m,qT,dT,r3⟩:=r;refine wpAny_bind (wpAny_field q rfl r1 ?_);rw[if_pos (by simp)];refine wpAny_bind (wpAny_field qT dT r3 ?_);by_cases hm:(m==rawInt L)=true
  . rw[if_pos hm]
    exact wpAny_pure (k s.heap ⟨fun b o q _ _ _=>q,fun b o q _ _ _=>⟨o.slots,q⟩,⟨T,.inr rfl,re0⟩,fun _ z=>z⟩)
  rw[if_neg hm];refine wpAny_bind (wpAny_setField qT dT (Array.getElem?_eq_some_iff.mp r3).1 ?_);have oth:∀b,b≠T->(s.heap.update T (Obj.mapFields (·.setIfInBounds 3 Value.none))).get? b=s.heap.get? b:=fun b z=>Heap.get?_update_other _ _ (Ne.symm z);have qT':=Heap.get?_update_self (Obj.mapFields (·.setIfInBounds 3 Value.none)) qT (Obj.isFreed_of_fields (Obj.data_mapFields dT _));have nf:∀b o,s.heap.get? b=some o->(∀vs,o.data≠ .fields vs)->b≠T:=fun b o z n w=>by rw[w,qT]at z;cases z;exact n ts dT
  refine qHw (s:={s with heap:=s.heap.update T (Obj.mapFields (·.setIfInBounds 3 Value.none))}) fr (ff.of_keeps fun b o z n=>⟨o,(oth b (nf b o z n)).trans z,O⟩) ef ((oth e (Ne.symm nT)).trans q) (Array.getElem?_eq_some_iff.mp r1).1 fun h' x=>?_;exact k h' (x.before oth ⟨_,qT'⟩ (Ne.symm nT))
theorem qFy{e T:Addr}{C:EC}{fo:Option Addr}{Q:Unit->Shared->Prop}(re:vF s.heap e C (some T))
 (k:∀h',(∀fs,Noted fs e (some T) C s.heap h')->Q () {s with heap:=h'}):wpAny M A (setFlight (.ref e) fo) Q E s:=by
 obtain⟨vs,sl,q,r1,nT,oT,ts,m,qT,dT,r3⟩:=re;unfold setFlight;refine wpAny_bind (wpAny_field q rfl r1 ?_);rw[if_pos (by simp)];have oth:∀b,b≠T->(s.heap.update T (Obj.mapFields (·.setIfInBounds 3 (fo.elim Value.none fun f=>rawInt f)))).get? b=s.heap.get? b:=fun b z=>Heap.get?_update_other _ _ (Ne.symm z);refine wpAny_setField qT dT (Array.getElem?_eq_some_iff.mp r3).1 (k _ fun fs=>⟨fun b o q _ _ z=>?_,fun b o q _ _ z=>⟨o.slots,?_⟩,⟨T,.inr rfl,?_⟩,fun c ⟨o,ws,z1,z2⟩=>⟨o,ws,(Heap.get?_update_other _ _ nT).trans z1,z2⟩⟩)
 . rw[oth b fun w=>z (by rw[w])];exact q
 . rw[oth b fun w=>z (by rw[w])];exact q
 . refine⟨vs,sl,(Heap.get?_update_other _ _ nT).trans q,r1,nT,_,_,fo.elim Value.none fun f=>rawInt f,Heap.get?_update_self _ qT (Obj.isFreed_of_fields (Obj.data_mapFields dT _)),Obj.data_mapFields dT _,?_⟩
   have h3:=(Array.getElem?_eq_some_iff.mp r3).1;simp[h3]
theorem vn{e T:Addr}{C:EC}{Q:Unit->Shared->Prop}(re:vF s.heap e C (some T))
 (k:∀h',(∀fs,Noted fs e (some T) C s.heap h')->Q () {s with heap:=h'}):wpAny M A (setFlight (.ref e) none) Q E s:=qFy re k
theorem qKf{base:Heap}{env:Env}{outer:List Env}{L e:Addr}{C:EC}{hd:Option Addr}{Q:Unit->Shared->Prop}
 (fr:A.frames=some (env::outer)) (ff:s.heap.FunFrames base (env::outer)) (ef:env.frame=some L) (re:vF s.heap e C hd)
 (k:∀h',Noted (frs (env::outer)) e hd C s.heap h'->Q () {s with heap:=h'}):wpAny M A (noteFrame (.ref e) env) (fun _ s'=>wpAny M A (setFlight (.ref e) none) Q E s') E s:=by
 refine qLo fr ff ef re fun h1 N1=>?_;obtain⟨T,hT,rT⟩:=N1.ent;exact vn (s:={s with heap:=h1}) rT fun h2 N2=>k h2 (N1.then hT (N2 _))
theorem qRd{base:Heap}{env:Env}{outer:List Env}{L e:Addr}{C:EC}{hd:Option Addr}{E2:Value->Shared->Prop}
 (fr:A.frames=some (env::outer)) (ff:s.heap.FunFrames base (env::outer)) (ef:env.frame=some L) (re:vF s.heap e C hd)
 (k:∀h',Noted (frs (env::outer)) e hd C s.heap h'->E2 (.ref e) {s with heap:=h'}):notedBy M A env (cameBackBy M A env E2) (.ref e) s:=by
 refine qLo fr ff ef re fun h1 N1=>?_;obtain⟨T,hT,rT⟩:=N1.ent;obtain⟨vs,sl,q,r1,_⟩:=id rT;show wpAny M A _ _ _ _;refine wpAny_bind (wpAny_field (s:={s with heap:=h1}) q rfl r1 ?_);rw[if_neg (by simp)];exact qFy (s:={s with heap:=h1}) rT fun h2 N2=>k h2 (N1.then hT (N2 _))
end
theorem qSs{P:Program}{w:World}{H:Hp}{h:Heap}{a:Addr}{o:HO}(x:ObjOk P w H h a o):∃ob,h.get? a=some ob:=by
 cases o with
 |lst xs=>obtain⟨_,_,_,_,e⟩:=x;exact⟨_,e⟩
 |tup xs=>obtain⟨_,_,_,ob,e,_⟩:=x;exact⟨ob,e⟩
 |dK kvs=>obtain⟨_,_,_,_,o,_,_,e,_⟩:=x;exact⟨_,e⟩
 |dT kvs=>obtain⟨_,_,_,_,o,_,_,e,_⟩:=x;exact⟨_,e⟩
 |set S n=>obtain⟨o,_,_,_,e,_⟩:=x;exact⟨_,e⟩
 |ins C dx fs=>obtain⟨_,_,_,e,_⟩:=x;exact⟨_,e⟩
 |own y=>exact x
 |xd fs=>obtain⟨_,⟨_,_,_,e,_⟩,_⟩:=x;exact⟨_,e⟩
 |rng lo hi=>obtain⟨_,_,_,e⟩:=x;exact⟨_,e⟩
 |frz ob u=>obtain⟨e,_⟩:=x;exact⟨_,e⟩
 |tbl ps=>exact⟨_,x⟩
 |met f y=>exact⟨_,x⟩
 |ext φ=>exact x.2.1
def qN2(h₀:Heap)(H:Hp)(ps:List (Addr×Obj))(e:Addr):Prop:=h₀.get? e=none/\H e=none/\∀p∈ps,p.1≠e
def qRf(h₀:Heap)(H:Hp)(ps:List (Addr×Obj))(h:Heap)(e:Addr)(C:EC):Prop:=
 qN2 h₀ H ps e/\∃hd,vF h e C hd/\∀T,hd=some T->qN2 h₀ H ps T
def CXR(P:Program)(w:World):CXT:=fun outer H s E e s'=> ∃ea C H',e=.ref ea/\s'.os=s.os/\AllBare s'.gens/\Un (frs outer) [] H H' s.heap s'.heap/\HOk P w H' s'.heap/\qRf s.heap H' [] s'.heap ea C/\E C.1 C.2 H'
def XE(X:Cx)(Ex:Value->Option Addr->Hp->Prop):Value->Shared->Prop:=fun e s'=> ∃ea C σ H',e=.ref ea/\Inv X [] σ H' s'/\qRf X.s₀.heap H' X.pn s'.heap ea C/\Ex C.1 C.2 H'
section
variable{X:Cx}{σ:L2.St}{H:Hp}{s:Shared}
theorem xZ{e:Addr}{hd:Option Addr}{C:EC}{h':Heap}(I:Inv X [] σ H s)(hex:X.ex=[])(re:vF s.heap e C hd)(n1:qN2 X.s₀.heap H X.pn e)(n3:∀T,hd=some T->qN2 X.s₀.heap H X.pn T)
 (N:Noted (frs X.stack) e hd C s.heap h'):Inv X [] σ H {s with heap:=h'}/\qRf X.s₀.heap H X.pn h' e C:=by
 have B:=I.base;rw[hex]at B;have ne:∀b o,X.s₀.heap.get? b=some o->b≠e/\some b≠hd/\b≠X.env.locals:=fun b o q=>by
  refine⟨fun z=>?_,fun z=>?_,Nat.ne_of_lt (Nat.lt_of_lt_of_le (Heap.lt_size q) I.ok.above)⟩
  . rw[z,n1.1]at q;cases q
  . rw[(n3 b z.symm).1]at q;cases q
 have nin:∀b,b∉([]:List Addr):=fun b z=>nomatch z
 have nfl:∀b o,s.heap.get? b=some o->(∀vs,o.data≠ .fields vs)->b≠e/\some b≠hd:=fun b o q nf=>by
  obtain⟨vs,sl,qe,r⟩:=re;refine⟨fun z=>?_,fun z=>?_⟩
  . rw[z,qe]at q;cases q
    exact nf vs rfl
  . subst z
    obtain⟨_,_,oT,ts,_,qT,dT,_⟩:=r;rw[qT]at q;cases q;exact nf ts dT
 have up:∀b o,s.heap.get? b=some o->b≠e->some b≠hd->∃sl,h'.get? b=some {o with slots:=sl}:=fun b o q z1 z2=>by
  by_cases hs:b∈frs X.stack
  . exact N.slot b o q hs z1 z2
  . exact⟨o.slots,N.keep b o q hs z1 z2⟩
 have un:Un X.fs [] X.H₀ H X.s₀.heap h':=by
  refine⟨fun b o q n hb hx=>?_,fun b o q n hb hx=>?_,fun b o q n hx=>B.free b o q n hx,fun b o q hx=>?_,B.tups,B.frzs,B.tbls⟩
  . obtain⟨z1,z2,z3⟩:=ne b o q
    refine N.keep b o (B.keep b o q n hb hx) (fun z=>?_) z1 z2;rcases List.mem_cons.mp (I.stkSub b z)with w|w
    . exact z3 w
    . exact hb w
  . obtain⟨z1,z2,z3⟩:=ne b o q
    obtain⟨sl,q1⟩:=B.slot b o q n hb hx;obtain⟨sl',q2⟩:=up b _ q1 z1 z2;exact⟨sl',q2⟩
  . obtain⟨z1,z2,z3⟩:=ne b o q
    obtain⟨o',q1⟩:=B.there b o q hx;obtain⟨sl',q2⟩:=up b _ q1 z1 z2;exact⟨_,q2⟩
 have hok:HOk X.prog X.w H h':=fun a u q=>by
  have key:∀c,H c=none->¬(c=a\/H c=some (.own a)):=fun c z w=>by
   rcases w with w|w
   . rw[w,q]at z;cases z
   . rw[z]at w;cases w
  exact(I.hok a u q).stay (fun c v hc z=>N.keep c v z (fun w=>key c (I.stkFree c w) hc) (fun w=>key c (by rw[w];exact n1.2.1) hc) fun w=>key c (n3 c w.symm).2.1 hc) (fun _ z=>z) fun _ _ z=>z
 have cellK:∀c v,s.heap.IsCell c v->h'.IsCell c v:=fun c v ⟨o,q,d⟩=>by
  obtain⟨z1,z2⟩:=nfl c o q fun vs w=>by rw[d]at w;cases w
  obtain⟨sl,q'⟩:=up c o q z1 z2;exact⟨_,q',d⟩
 have I':Inv X [] σ H {s with heap:=h'}:=by
  refine⟨I.ok,I.os,I.bare,by rw[hex];exact un,?_,fun y c e=>?_,I.free,I.freeC,fun p hp=>?_,hok,I.len⟩
  . obtain⟨m,⟨o,es,ep,ho,hd',r⟩,hl⟩:=I.loc
    obtain⟨z1,z2⟩:=nfl _ o ho fun vs w=>by rw[hd']at w;cases w
    obtain⟨sl,q'⟩:=up _ o ho z1 z2;refine⟨m,⟨_,es,ep,q',hd',r⟩,fun i x v e1 e2 e3=>?_⟩;obtain⟨u,r,l⟩:=hl i x v e1 e2 e3;refine⟨u,r,?_⟩;rcases l with l|⟨k,c,ec,z⟩
    . exact .inl l
    . exact .inr ⟨k,c,ec,cellK c _ z⟩
  . obtain⟨v,z⟩:=I.cell y c e
    exact⟨v,cellK c v z⟩
  . obtain⟨q,n,nl,nf,d⟩:=I.pin p hp
    have hp':p∈X.pn:=by simpa using hp
    refine⟨N.keep p.1 p.2 q (fun z=>?_) (n1.2.2 p hp') fun z=>(n3 p.1 z.symm).2.2 p hp' rfl,n,nl,nf,d⟩;rcases List.mem_cons.mp (I.stkSub p.1 z)with w|w
    . exact nl w
    . exact nf w
 refine⟨I',n1,?_⟩;obtain⟨T,nT,r⟩:=N.ent;refine⟨some T,r,fun T' e'=>?_⟩;cases e';rcases nT with nT|nT
 rotate_left
 . exact n3 T nT
 refine⟨?_,?_,fun p hp z=>?_⟩
 . cases q:X.s₀.heap.get? T with
   |none=>rfl
   |some o=>
    obtain⟨o',z⟩:=B.there T o q (nin T);rw[nT]at z;cases z
 . cases q:H T with
   |none=>rfl
   |some u=>
    obtain⟨o',z⟩:=qSs (I.hok T u q);rw[nT]at z;cases z
 . have q:=(I.pin p (List.mem_append_left _ hp)).1
   rw[z,nT]at q;cases q
end
theorem qXs{X:Cx}{Ex:Value->Option Addr->Hp->Prop}{L:Addr}{env:Env}{outer:List Env}(hst:X.stack=env::outer)(he:X.env=env)(hf:env.frame=some L)(hex:X.ex=[]):PassesOwn (model X.prog X.w) X.A X.env (XE X Ex):=by rintro e s' ⟨ea,C,σ,H',rfl,I,⟨n1,hd,r,n3⟩,z⟩;subst he;have fr:=I.ok.frames;rw[hst]at fr;have ff:=I.stack;rw[hst]at ff;refine qRd fr ff hf r fun h' N'=>?_;rw[<-hst]at N';obtain⟨I',x'⟩:=xZ I hex r n1 n3 N';exact⟨ea,C,σ,H',O,I',x',z⟩
theorem qT5{X:Cx}{E:Value->Shared->Prop}{st:List Stmt}{t:TS}(h:PSs (X.wish E) st t)(hE:∀e s',E e s'->X.xe e s'):PSs X st t:=fun pins s σ H D I hw=>
 wpAny_mono (h pins s σ H D (I.wish E) hw) (fun _ _ q=>q.unwish) hE
section
variable{P:Program}{w:World}{K:PySem.W.Frag}{mg:Str->Option Value}{base:Heap}
theorem okX{x qual:Str}{st:Stmt}{f:Addr}{fd:FuncData}{N ps:List Str}{k:Nat}{sp:Sp}(F:Fun K x qual st f fd)(S:qO N ps (qH st))(len:∀vs H Q E,sp vs H Q E->vs.length=ps.length)
 (hbody:∀(cdv:Value) (A:Around) (outer:List Env) (s:Shared) (H:Hp) (vs:List V) (Q:VK) (E:XK),Room k (A.deeper (envOfC qual (qH st) s.heap.objs.size f cdv))->sp vs H Q E->
   ∃t,PSs ((qQh (CXR P w) P w K mg base N qual (qH st) f cdv A outer s H E).wish (XE (qQh (CXR P w) P w K mg base N qual (qH st) f cdv A outer s H E) E)) (zo st) t/\
    t {nx:=fun _ H'=>Q .non H',rt:=Q} (qGc N vs) H):FnOk P w K mg base (CXR P w) (k+1) f fd ps sp:=by
 obtain⟨oc,od,kV,doc,pm,an,cdv,ct,osl,rfl,lk,hcd⟩:=F.ex;refine qV9 lk hcd S len fun A outer s H vs Q E hr hsp=>?_;obtain⟨t,h,q⟩:=hbody cdv A outer s H vs Q E hr hsp;refine⟨t,qT5 h ?_,q⟩;rintro e s' ⟨ea,C,σ,H',rfl,I,⟨n1,hd,r,n3⟩,z⟩;show wpAny _ _ (leaving _ _) _ _ _;unfold leaving;refine wpAny_bind (qKf I.ok.frames I.stack rfl r fun h' N'=>?_);obtain⟨I',x'⟩:=xZ I rfl r n1 n3 N';exact⟨ea,C,H',O,I.os,I.bare,I'.base,I'.hok,x',z⟩
end
theorem qWj{X:Cx}{Ex:Value->Option Addr->Hp->Prop}(hex:X.ex=[]):qMh (CXR X.prog X.w) (X.wish (XE X Ex)) Ex:=by
 rintro pins σ H s e s' I ⟨ea,C,H',rfl,os,bare,un,hok,⟨n1,hd,r,n3⟩,q⟩;have I0:=I.unwish;have I1:Inv X pins σ H' s':=I0.call' (ch:=[]) os un hok bare fun b z=>nomatch z
 have old:∀b,s.heap.get? b=none->X.s₀.heap.get? b=none:=fun b z=>by
  cases w:X.s₀.heap.get? b with
  |none=>rfl
  |some o=>
   obtain⟨o',w'⟩:=I0.base.there b o w (by rw[hex];intro y;cases y);rw[z]at w';cases w'
 have pn:∀b,s.heap.get? b=none->∀p∈X.pn,p.1≠b:=fun b z p hp w=>by have q:=(I0.pin p (List.mem_append_left _ hp)).1;rw[w,z]at q;cases q
 exact⟨ea,C,σ,H',O,I1.pins_of (pins':=[]) fun p hp=>(nomatch hp),⟨⟨old _ n1.1,n1.2.1,pn _ n1.1⟩,hd,r,fun T e=>⟨old _ (n3 T e).1,(n3 T e).2.1,pn _ (n3 T e).1⟩⟩,q⟩
theorem xP{X:Cx}{Ex:Value->Option Addr->Hp->Prop}{k j:Nat}{x:Str}{st:Stmt}{ps:List Str}{f:Addr}{fd:FuncData}{sp:Sp}{e:Expr}{es:List Expr}{t:TA}{p pos:Pos}(D:Def X.K X.mg x st ps f fd)(F:FnOk X.prog X.w X.K X.mg X.base (CXR X.prog X.w) j f fd ps sp)(hr:Room k X.A)(hg:Gl X x)
 (ha:PA (X.wish (XE X Ex)) (e::es) t) (hj:j<=k:=by decide) (hex:X.ex=[]:=by rfl)
 (hdb:(x==("__debug__":Str))=false:=by decide) (he:starEach (e::es) X.env=(false,eval e X.env)::starEach es X.env:=by rfl) (hpl:(backTo pos (starEach es X.env)).any (·.1)=false:=by rfl):
 PE (X.wish (XE X Ex)) (.Call (.Name x p) (e::es) [] pos) (qT3 sp [] Ex t):=
 qP3 (X:=X.wish (XE X Ex)) (CX:=CXR X.prog X.w) F (hr.mono hj) hg D.m D.F.kp D.b .nil (qWj hex) ha hdb he hpl
def qTm:List Value:=[.type "ValueError",.type "Exception",.type "BaseException",.type "object"]
def OwnX(K:PySem.W.Frag)(C:Addr):Prop:=PySem.W.excIn K C qTm "ValueError.__new__"=true
theorem qT1{K:PySem.W.Frag}{h:Heap}{mg:Str->Option Value}{x:Str}{C:Addr}(X:K.In h)(b:mg x=some (.ref C))(q:OwnX K C):OwnCls x C qTm "ValueError.__new__" mg h:=by
 refine⟨b,?_⟩;unfold OwnX PySem.W.excIn at q;split at q
 . rename_i dd cd sl ho
   split at q
   . rename_i C' bm k0 k1 k2 k3 n k5 hm hs
     simp only[Bool.and_eq_true,beq_iff_eq,Bool.not_eq_true']at q;obtain⟨⟨⟨⟨⟨eC,en⟩,del⟩,ht⟩,ok⟩,ni⟩:=q;subst eC en;obtain⟨nm,bs,mro,ns,qn,hd,sn,sub,ab,col,dl⟩:=cd;dsimp only at hm del ok ni;subst hm del;have hsl:sl= #[k0,k1,k2,k3,some (.builtin "ValueError.__new__"),k5]:=by obtain⟨l⟩:=sl;simp only at hs;rw[hs]
     subst hsl;exact⟨bm,ns,nm,qn,bs,hd,sn,sub,ab,col,dd,k0,k1,k2,k3,k5,_,X _ _ ho,.of_isNs (PySem.W.isNs_of_in X ok),PySem.W.nsMap_none_of_in X ok ni,PySem.W.tail_of_in X ht⟩
   . cases q
 . cases q
def qVk(C:Addr)(Ex:Value->Option Addr->Hp->Prop)(t:TA):TS:=fun _ σ H=>t σ H fun vs H1=>vs.length<=sizeLine/\Ex (.ref C) none H1
theorem xt{X:Cx}{Ex:Value->Option Addr->Hp->Prop}{x:Str}{C:Addr}{np cpos pos:Pos}{e₀:Expr}{rest:List Expr}{t:TA}(hcm:X.calm=true)(hg:Gl X x)(hm:X.mg x=some (.ref C))(hx:OwnX X.K C)(ha:PA (X.wish (XE X Ex)) (e₀::rest) t)
 (he:starEach (e₀::rest) X.env=(false,eval e₀ X.env)::starEach rest X.env:=by rfl) (hpl:(backTo cpos (starEach rest X.env)).any (·.1)=false:=by rfl) (hex:X.ex=[]:=by rfl) (hdb:(x==("__debug__":Str))=false:=by decide):
 PS (X.wish (XE X Ex)) (.Raise (some (.Call (.Name x np) (e₀::rest) [] cpos)) none pos) (qVk C Ex t):=by
 intro pins s σ H D I h;obtain⟨tl,N,nm,q,bs,hdct,sn,sub,ab,col,dd,k0,k1,k2,k3,k5,mN,hC,hN,hni,T⟩:=
  (qT1 (X:=I.ok.mod.kin) hm hx).obj
 refine wpAny_Raise_call_subT (bm:=tl) (C:=C) (N:=N) (nm:=nm) (q:=q) (bs:=bs) (hdct:=hdct) (sn:=sn) (sub:=sub) (ab:=ab) (col:=col) (dd:=dd) (k5:=k5) (k0:=k0) (k1:=k1) (k2:=k2) (k3:=k3)
  PySem.F.excBase_ValueError (mN:=mN) (T.hasType PySem.F.excBase_ValueError.hasBase) (I.ok.hd hcm) (by rw[he];show (false || (backTo cpos (starEach rest X.env)).any (·.1))=false;rw[hpl];rfl) hni (wb I hg hm ⟨rfl,?_⟩ hdb)
 have z:=ha cpos pins s σ H _ I h;rw[show (X.wish (XE X Ex)).env=X.env from rfl]at z;rw[he]at z⊢;refine Calls.evalArgs_plain (wpAny_mono z (fun us s2 w=>?_) fun _ _ y=>y);obtain⟨vs,H1,I1,r1,hl,ex⟩:=w;have I1':=I1.unwish;refine⟨O,by rw[<-r1.length];exact hl,I1.bk _ _ hC,hN.keeps I1.bk,T.keeps I1.bk,fun h' e hmk=>?_⟩;obtain⟨tt,q1,q2,q3⟩:=hmk.there;have I2:Inv X pins σ H1 {s2 with heap:=h'}:=I1'.kept (t':=s2.toks) hmk.keeps;refine⟨e,(.ref C,none),σ,H1,O,I2.pins_of (pins':=[]) fun p hp=>(nomatch hp),⟨⟨?_,?_,fun p hp z=>?_⟩,none,⟨_,_,q1,O⟩,fun T e'=>nomatch e'⟩,ex⟩
 . cases w:X.s₀.heap.get? e with
   |none=>rfl
   |some o=>
    obtain⟨o',w'⟩:=I1'.base.there e o w (by rw[hex];intro y;cases y);rw[hmk.new]at w';cases w'
 . cases w:H1 e with
   |none=>rfl
   |some u=>
    obtain⟨o',w'⟩:=qSs (I1'.hok e u w);rw[hmk.new]at w';cases w'
 . have q':=(I1'.pin p (List.mem_append_left _ hp)).1
   rw[z,hmk.new]at q';cases q'
def pnX(X:Cx)(l:List (Addr×Obj)):Cx:={X with pn:=l}
def hdX(X:Cx)(ea:Addr):Cx:={X with A:=X.A.mark (some (.ref ea)),calm:=false}
section
variable{X:Cx}{pins:List (Addr×Obj)}{σ:L2.St}{H:Hp}{s:Shared}
theorem qR7(I:Inv X pins σ H s):Inv (pnX X (X.pn++pins)) [] σ H s:=by obtain⟨a1,a2,a3,a4,a5,a6,a7,a8,a9,a10,a11,a12,a13,a14,a15,a16,a17,a18⟩:=I.ok;exact⟨⟨a1,a2,a3,a4,a5,a6,a7,a8,a9,a10,a11,a12,a13,a14,a15,a16,a17,a18⟩,I.os,I.bare,I.base,I.loc,I.cell,I.free,I.freeC,fun p hp=>I.pin p (by have z:p∈(X.pn++pins)++[]:=hp;simpa using z),I.hok,I.len⟩
theorem xw(I:Inv (pnX X (X.pn++pins)) [] σ H s):Inv X pins σ H s:=by obtain⟨a1,a2,a3,a4,a5,a6,a7,a8,a9,a10,a11,a12,a13,a14,a15,a16,a17,a18⟩:=I.ok;exact⟨⟨a1,a2,a3,a4,a5,a6,a7,a8,a9,a10,a11,a12,a13,a14,a15,a16,a17,a18⟩,I.os,I.bare,I.base,I.loc,I.cell,I.free,I.freeC,fun p hp=>I.pin p (by show p∈(X.pn++pins)++[];simpa using hp),I.hok,I.len⟩
theorem qFw{ea:Addr}(I:Inv X pins σ H s):Inv (hdX X ea) pins σ H s:=by obtain⟨a1,a2,a3,a4,a5,a6,a7,a8,a9,a10,a11,a12,a13,a14,a15,a16,a17,a18⟩:=I.ok;exact⟨⟨a1,a2,a3,a4,a5,a6,a7,a8,fun h=>absurd (show false=true from h) Bool.false_ne_true,a10,a11,a12,a13,a14,a15,a16,a17,a18⟩,I.os,I.bare,I.base,I.loc,I.cell,I.free,I.freeC,I.pin,I.hok,I.len⟩
theorem wN{ea:Addr}(I:Inv (hdX X ea) pins σ H s)(hd:X.calm=true->X.A.handled=none):Inv X pins σ H s:=by obtain⟨a1,a2,a3,a4,a5,a6,a7,a8,a9,a10,a11,a12,a13,a14,a15,a16,a17,a18⟩:=I.ok;exact⟨⟨a1,a2,a3,a4,a5,a6,a7,a8,hd,a10,a11,a12,a13,a14,a15,a16,a17,a18⟩,I.os,I.bare,I.base,I.loc,I.cell,I.free,I.freeC,I.pin,I.hok,I.len⟩
def qDs(e:Addr)(C:EC):HO:=.ext fun h=> ∃(vs:Array Value) (sl:Array (Option Value)),h.get? e=some {cls:=C.1,dict:=C.2,data:=.fields vs,slots:=sl}
theorem qAx{a:Addr}{C:EC}{hd:Option Addr}(I:Inv X [] σ H s)(_:X.ex=[])(n:qN2 X.s₀.heap H X.pn a)(r:vF s.heap a C hd):Inv X [] σ (upd H a (qDs a C)) s:=by
 obtain⟨vs,sl,q,_⟩:=r;have B:=I.base;have ne:∀b o,X.s₀.heap.get? b=some o->b≠a:=fun b o w z=>by rw[z,n.1]at w;cases w
 refine⟨I.ok,I.os,I.bare,⟨B.keep,B.slot,fun b o w z hx=>?_,B.there,fun b xs w=>?_,fun b o u w=>?_,fun b ps w=>?_⟩,I.loc,I.cell,?_,fun y c e=>?_,fun p hp=>?_,fun b u w=>?_,I.len⟩
 . rw[qX (ne b o w)];exact B.free b o w z hx
 . have z:=B.tups b xs w
   rw[qX (qV z n.2.1)];exact z
 . have z:=B.frzs b o u w
   rw[qX (qV z n.2.1)];exact z
 . obtain⟨more,z⟩:=B.tbls b ps w
   exact⟨more,by rw[qX (qV z n.2.1)];exact z⟩
 . obtain⟨m,⟨o,es,ep,ho,hd',_⟩,_⟩:=I.loc
   rw[qX (fun z=>by rw[z,q]at ho;cases ho;cases hd')];exact I.free
 . obtain⟨v,o,ho,hd'⟩:=I.cell y c e
   rw[qX (fun z=>by rw[z,q]at ho;cases ho;cases hd')];exact I.freeC y c e
 . obtain⟨w1,w2,w3⟩:=I.pin p hp
   have hp':p∈X.pn:=by simpa using hp
   rw[qX (n.2.2 p hp')];exact⟨w1,w2,w3⟩
 . by_cases hb:b=a
   . subst hb
     rw[qD]at w;cases w;refine⟨⟨vs,sl,q⟩,⟨_,q⟩,fun h1 h2 z k=>?_⟩;obtain⟨vs',sl',z⟩:=z;exact⟨vs',sl',k _ z⟩
   . rw[qX hb]at w
     exact(I.hok b u w).stay (fun _ _ _ z=>z) (fun c z=>by rw[qX (qV z n.2.1)];exact z) fun c xs z=>by rw[qX (qV z n.2.1)];exact z
theorem xX{M:Model}{A:Around}{E:Value->Shared->Prop}{i:Nat}{n:Str}{pos:Pos}{Q:Unit->Shared->Prop}(I:Inv X pins σ H s)(hN:X.N.Nodup)(hi:X.N[i]?=some n)(hl:X.env.scope.names.lookup n=some .local)
 (h:∀s',Inv X pins (σ.set i none) H s'->Q () s'):wpAny M A (do bindName X.env n .none;unbindBehindTheSuite X.env n pos) Q E s:=by
 refine wpAny_bind (wpAny_bindName (kZ (v:=.non) I hN hi (.inl hl) rfl (fun s1 I1=>?_) (.inr hl)));unfold unbindBehindTheSuite;refine wpAny_onRaise ?_;have hcls:(X.env.scope.kind== .class || (X.env.scope.kind== .module && X.env.locals != X.env.globals))=false:=by rw[I1.ok.kind];rfl
 have hiσ:i<σ.length:=by rw[I.len];exact(List.getElem?_eq_some_iff.mp hi).1
 obtain⟨m,hn,hlk⟩:=I1.loc;obtain⟨u,r,lk⟩:=hlk i n .non hi (by rw[List.getElem?_set_self hiσ]) (.inl hl);have hm:m n=some u:=by
  rcases lk with ⟨_,z⟩|⟨z,_⟩
  . exact z
  . have hl':X.env.kindOf n=some .local:=hl
    rw[hl']at z;rcases z with z|z <;> cases z
 obtain⟨oL,es,ep,hoL,hdL,_⟩:=id hn;refine wpAny_unbindName_local hl hn hm hcls fun h' u' hn' hs=>h _ ?_;have B:=I1.base;have neL:∀b o,X.s₀.heap.get? b=some o->b≠X.env.locals:=fun b o e=>Nat.ne_of_lt (Nat.lt_of_lt_of_le (Heap.lt_size e) I1.ok.above);refine⟨I1.ok,I1.os,I1.bare,⟨fun b o e n hb hx=>(hs.2 b (neL b o e)).trans (B.keep b o e n hb hx),fun b o e n hb hx=>?_,B.free,fun b o e hx=>?_,B.tups,B.frzs,B.tbls⟩,⟨_,hn',fun j y v e1 e2 e3=>?_⟩,fun y c e=>?_,I1.free,I1.freeC,fun p hp=>?_,fun b ob e=>?_,?_⟩
 . obtain⟨sl,z⟩:=B.slot b o e n hb hx
   exact⟨sl,(hs.2 b (neL b o e)).trans z⟩
 . obtain⟨o',z⟩:=B.there b o e hx
   exact⟨o',(hs.2 b (neL b o e)).trans z⟩
 . have hj:j≠i:=fun z=>by subst z;rw[List.getElem?_set_self hiσ]at e2;cases e2
   rw[List.getElem?_set_ne (Ne.symm hj)]at e2;obtain⟨u2,r2,l2⟩:=hlk j y v e1 (by rw[List.getElem?_set_ne (Ne.symm hj)];exact e2) e3;refine⟨u2,r2,?_⟩;rcases l2 with ⟨k,z⟩|⟨k,c,ec,z⟩
   . refine .inl ⟨k,?_⟩
     have:y≠n:=fun w=>hj (qG5 hN e1 (w ▸ hi));simp[this,z]
   . exact .inr ⟨k,c,ec,z.sameBut hs (I1.cne y c ec)⟩
 . obtain⟨w',z⟩:=I1.cell y c e
   exact⟨w',z.sameBut hs (I1.cne y c e)⟩
 . obtain⟨e,n,ne,nf,d⟩:=I1.pin p hp
   exact⟨(hs.2 p.1 ne).trans e,n,ne,nf,d⟩
 . refine(I1.hok b ob e).stay (fun c w' hc q=>(hs.2 c fun z=>?_).trans q) (fun _ q=>q) fun _ _ q=>q
   have fr:=I1.free;rcases hc with hc|hc
   . rw[<-hc,z,fr]at e;cases e
   . rw[z,fr]at hc;cases hc
 . have:=I1.len
   simpa using this
end
def qNc(D:qMm)(i:Option Nat):qMm:=
 let f:(L2.St->Hp->Prop)->L2.St->Hp->Prop:=fun q σ H=>match i with|some i=>q (σ.set i none) H|none=>q σ H
 {nx:=f D.nx,rt:=D.rt,bk:=f D.bk,ct:=f D.ct}
def qU5(i:Option Nat)(ea:Addr)(σ:L2.St):L2.St:=match i with|some i=>σ.set i (some (.ref ea))|none=>σ
inductive qH3(X:Cx):Option Str->Option Nat->Prop where
 |none:qH3 X none none
 |some {n:Str} {i:Nat} (hi:X.N[i]?=some n) (hl:X.env.scope.names.lookup n=some .local):qH3 X (some n) (some i)
end L3
set_option maxRecDepth 100000
namespace L3
open PySem PySem.Spec PySem.Calls PyProof.Rows PySem.W
section
variable{prog:Program}{w:World}{A:Around}{E:Value->Shared->Prop}{K:Frag}{h:Heap}{g:Array GenState}{d:Drawn}{t:Nat}{os:OsState}{a D:Addr}{ox:Obj}{od:Option Obj}
structure ExcK(K:Frag)(D:Addr):Prop where
 ga:findIn K (.ref D) "__getattribute__"=some (some (.builtin "BaseException.__getattribute__"))
 gt:findIn K (.ref D) "__getattr__"=some none
 ca:findIn K (.ref D) "__class__"=some (some (.builtin "object.__class__"))
 sg:specialIn K (.builtin "object.__class__") "__get__"=some (some (.builtin "getset_descriptor.__get__"))
 tk:takesIn K (.builtin "object.__class__")=some true
 mo:mroIn K D (.type "object")=some true
 mb:mroIn K D (.type "BaseException")=some true
end
end L3
namespace L3
open PySem PySem.Spec PyProof.Rows L2
end L3
set_option maxRecDepth 100000
namespace L3
open PySem PySem.Spec PySem.Calls PySem.Builtin PySem.Builtin.ObjectAttr PyProof.Rows
def exOver(K:PySem.W.Frag)(C D:Addr):Bool:=(PySem.W.clsIn K C).any fun cd=>cd.mro== .ref C:: .ref D::qTm
section
variable{prog:Program}{w:World}{A:Around}{E:Value->Shared->Prop}{K:PySem.W.Frag}{s:Shared}{x C D:Addr}{vs:Array Value}{sl:Array (Option Value)}{R:Result->Shared->Prop}
open PySem.W in
theorem qN4{ox:Obj}{od:Option Obj}{name:Str}{tk:Tok}{v:Value}(X:K.In s.heap)(I:InstAt s.heap x ox C od)(hp:exOver K C D=true)(ht:takerIn K C name=some none)
 (h:∀b,wpAny (model prog w) A.in1 (storeInOwnDict (.ref x) (.ref C) (.str name tk) name v b)
   (fun fin s'=>match fin with|.done f=>R (.ok f) s'|.again c'=>c'.quiet=true/\codeAny (model prog w) A c' R s') (fun e s'=>R (.error e) s') s):
 codeAny (model prog w) A (.call (.builtin "object.__setattr__") ⟨[.ref x,.str name tk,v],[]⟩) R s:=by
 have SF:=PySem.F.store_object;obtain⟨cd,hc,ho⟩:=any_some hp;have ho:cd.mro=.ref C:: .ref D::qTm:=beq_iff_eq.mp ho;have sub:Looks (model prog w) s.heap (isInstance (.ref x) (.type "object")) true:=I.type.andThen (looks_mroIn X (by unfold mroIn;rw[hc,Option.bind_some,ho];rfl));refine codeAny_call_builtin SF.slot.plain SF.entry (@check_slot (model prog w) _ _ s "object.__setattr__" "object" "__setattr__" (.ref x) [.str name tk,v] [] _ SF.kind SF.split sub (SF.args (.ref x) (.str name tk) v) ?_);obtain⟨attr,ha,hr⟩:=Option.bind_eq_some_iff.mp ht;have hm:Looks (model prog w) s.heap (mroOf (.ref C)) cd.mro:=(looks_clsIn X hc).andThen .now;have L3:Looks (model prog w) s.heap (storeTaker? attr) none:=by
  cases attr with
  |none=>cases hr;exact .now
  |some a=>
   obtain⟨b,hb,hb2⟩:=Option.map_eq_some_iff.mp hr;refine(looks_takesIn X hb).andThen ?_;cases b
   . exact .now
   . cases hb2
 rw[osa_eq,refuse_eq];refine wpAny_bind (wpAny_bind (I.type.here (wpAny_bind (hm.here ?_))));rw[ho,refuseLoop_ref,refuseLoop_ref];rw[show refuseLoop (.ref x) "__setattr__" qTm=pure ()from PySem.F.store_ValueError.passes (.ref x)];refine wpAny_pure (wpAny_bind (I.type.here (wpAny_bind ((looks_findIn X ha).here (wpAny_bind (L3.here ?_))))));exact h _
open PySem.W in
theorem qTa{name:Str}{v:Value}{Q:Unit->Shared->Prop}(X:K.In s.heap)(hx:s.heap.get? x=some {cls:=.ref C,dict:=none,data:=.fields vs,slots:=sl})
 (hs:findIn K (.ref C) "__setattr__"=some (some (.builtin "object.__setattr__"))) (hp:exOver K C D=true) (ht:takerIn K C name=some none) (hh:hasDictIn K C=true)
 (h:∀h' tk,h'.get? x=some {cls:=.ref C,dict:=some s.heap.objs.size,data:=.fields vs,slots:=sl}->h'.Ns1 s.heap.objs.size (fun y=>if y=name then some v else none)->(∀b o,b≠x->s.heap.get? b=some o->h'.get? b=some o)->Q () {s with heap:=h',toks:=tk}):
 wpAny (model prog w) A (setAttr (.ref x) name v) Q E s:=by
 have J:InstAt s.heap x {cls:=.ref C,dict:=none,data:=.fields vs,slots:=sl} C none:=⟨hx,rfl,rfl,trivial⟩;refine PySem.W.set_plain X J hs (qN4 (s:={s with toks:=s.toks+1}) X J hp ht fun b=>?_);obtain⟨cd,hc,hd'⟩:=PySem.W.any_some hh;refine wpAny_bind (wpAny_pure (wpAny_bind (wpAny_bind (wpAny_loadPart hx (wpAny_bind (PySem.W.Looks.here (s:={s with toks:=s.toks+1}) (PySem.W.looks_clsIn X hc) ?_))))));rw[hd'];have hx₁:(s.heap.push {cls:=.type "dict",data:=.dict #[]}).get? x=some {cls:=.ref C,dict:=none,data:=.fields vs,slots:=sl}:=Heap.get?_push_of_some _ hx;have hxs:x≠s.heap.objs.size:=Nat.ne_of_lt (Heap.lt_size hx);refine wpAny_bind (wpAny_alloc' ?_);refine wpAny_bind (wpAny_update' hx₁ ?_);refine wpAny_pure ?_;have hgd:((s.heap.push {cls:=.type "dict",data:=.dict #[]}).update x fun o=>{o with dict:=some s.heap.objs.size}).get? s.heap.objs.size=some {cls:=.type "dict",data:=.dict #[]}:=
  (Heap.get?_update_ne _ _ _ _ hxs.symm).trans (Heap.get?_push_at rfl rfl)
 have hnd:((s.heap.push {cls:=.type "dict",data:=.dict #[]}).update x fun o=>{o with dict:=some s.heap.objs.size}).Ns s.heap.objs.size (fun _=>none):=
  ⟨_,#[],_,hgd,rfl,fun e he=>absurd he (by simp),fun _=>rfl⟩
 refine wpAny_bind (wpAny_pure (wpAny_bind ?_));refine wpAny_nsSet1 (s:={s with heap:=_,toks:=s.toks+1}) (Heap.Ns1.of_empty hnd) fun h' hn' hs2=>?_;obtain⟨oD,esD,epD,hoD,hdD,hcD⟩:=hn'.count (Within.cons name v Within.nil);refine wpAny_bind (wpAny_lookBehind hoD (by rw[hdD];exact pastItsLine_dict (Nat.le_trans hcD (by rw[List.length_cons,List.length_nil,sizeLine_eq];omega))) ?_);refine wpAny_pure (h _ _ ?_ hn' ?_)
 . refine(hs2.2 x hxs).trans (Heap.get?_update_self _ hx₁ rfl)
 . intro b o hb ho
   exact(hs2.2 b (Nat.ne_of_lt (Heap.lt_size ho))).trans ((Heap.get?_update_ne _ _ _ _ hb).trans (Heap.get?_push_of_some _ ho))
end
section
variable{prog:Program}{w:World}{A:Around}{E:Value->Shared->Prop}{h:Heap}{g:Array GenState}{d:Drawn}{t:Nat}{os:OsState}
variable{nm q:Str}{C N:Addr}{bs bm bmB:List Value}{hdct:Bool}{sn:List Str}{sub:List Value}{ab:Bool}{col:Option Bool}{dd:Option Addr}{k0 k1 k2 k3 k5:Option Value}{B newId initId:String}
theorem qEu(F:ExcBaseFacts B newId initId bmB)(T:OwnTail h bmB bm){mN:Str->Option Value}{rest:List Value}{fI:Addr}{oI:Obj}{Q:PySem.Fin->Shared->Prop}
 (hC:h.get? C=some (excClassObj nm q C N bs bm hdct sn sub ab col dd k0 k1 k2 k3 k5 newId)) (hn:h.Ns N mN) (hi:mN "__init__"=some (.ref fI))
 (hfI:h.get? fI=some oI) (hfc:oI.cls=.type "function")
 (hq:∀h' e,Heap.MadeExcOf h h' e (.ref C) rest->h'.objs.size=h.objs.size+2->e=h.objs.size+1->
   wpAny (model prog w) A (call (.ref fI) (.ref e::rest)) (fun r s'=>r=.none/\Q (.done (.ret (.ref e))) s') E ⟨h',g,d,t,os⟩) (hrest:rest.length<=sizeLine:=by size_fits):
 wpAny (model prog w) A (Builtin.«type.__call__» ⟨.ref C::rest,[]⟩) Q E ⟨h,g,d,t,os⟩:=by
 repeat (first|with_reducible refine wpAny_loadPart_at hC ?_|with_reducible refine wpAny_madeBy_exc hC ?_|wp_step)
 refine codeAny_call_builtin_code (Code.quiet_builtin _ F.quiet) (wpAny_check_new_subT F T hC ?_);refine codeAny_exc_new_subT F T hC ?_ hrest;show wpAny _ _ _ _ _ _;have hC₁:=Heap.get?_push_of_some {cls:=.ref C,data:=.fields #[.ref h.objs.size,.none,.none,.none,.bool false,.none]}
  (Heap.get?_push_of_some {cls:=.type "tuple",data:=.seq rest.toArray} hC)
 have hfI₁:=Heap.get?_push_of_some {cls:=.ref C,data:=.fields #[.ref h.objs.size,.none,.none,.none,.bool false,.none]}
  (Heap.get?_push_of_some {cls:=.type "tuple",data:=.seq rest.toArray} hfI)
 have hn₁:((h.push {cls:=.type "tuple",data:=.seq rest.toArray}).push {cls:=.ref C,data:=.fields #[.ref h.objs.size,.none,.none,.none,.bool false,.none]}).Ns N mN:=
  let ⟨o,es,ep,e,r⟩:=hn;⟨o,es,ep,Heap.get?_push_of_some _ (Heap.get?_push_of_some _ e),r⟩
 have hget:((h.push {cls:=.type "tuple",data:=.seq rest.toArray}).push
  {cls:=.ref C,data:=.fields #[.ref h.objs.size,.none,.none,.none,.bool false,.none]}).get? (h.objs.size+1)=some
  {cls:=.ref C,data:=.fields #[.ref h.objs.size,.none,.none,.none,.bool false,.none]}:=by heap_get
 have hcC:(Value.ref C::bm).contains (.ref C)=true:=by simp
 have T₁:=T.keeps (h':=(h.push {cls:=.type "tuple",data:=.seq rest.toArray}).push {cls:=.ref C,data:=.fields #[.ref h.objs.size,.none,.none,.none,.bool false,.none]})
  fun b o e=>Heap.get?_push_of_some _ (Heap.get?_push_of_some _ e)
 unfold isInstance
 repeat (first|with_reducible refine wpAny_loadPart_at hget ?_|(with_reducible refine wpAny_isSubtype_exc hC₁ ?_;rw[hcC])|wp_step)
 show wpAny _ _ (typeLookup (.ref C) _) _ _ _;refine wpAny_typeLookup_tail hC₁ hn₁ T₁ F.mroIs F.init.lookup ?_;rw[hi];refine wpAny_holding (wpAny_bind ?_);unfold bindSpecial;refine wpAny_bind (wpAny_typeOf (T:="function") ⟨_,hfI₁,hfc⟩ ?_);rw[if_pos (by decide)];refine wpAny_pure (wpAny_bind (wpAny_mono (hq _ (h.objs.size+1) ⟨fun b o hb=>Heap.get?_push_of_some _ (Heap.get?_push_of_some _ hb),Heap.get?_none_of_le (Nat.le_succ _),h.objs.size,hget,Heap.get?_none_of_le (Nat.le_refl _),?_⟩ (by simp only[Heap.size_push]) rfl) (fun r s' hr=>?_) fun _ _ x=>x))
 . exact Heap.get?_push_of_some _ (Heap.get?_push_at rfl rfl)
 . obtain⟨rfl,hQ⟩:=hr
   wp_walk
   exact hQ
theorem qNd(F:ExcBaseFacts B newId initId bmB)(T:OwnTail h bmB bm){mN:Str->Option Value}{rest:List Value}{fI:Addr}{oI:Obj}{Q:Value->Shared->Prop}
 (hC:h.get? C=some (excClassObj nm q C N bs bm hdct sn sub ab col dd k0 k1 k2 k3 k5 newId)) (hn:h.Ns N mN) (hi:mN "__init__"=some (.ref fI))
 (hfI:h.get? fI=some oI) (hfc:oI.cls=.type "function")
 (hq:∀h' e,Heap.MadeExcOf h h' e (.ref C) rest->h'.objs.size=h.objs.size+2->e=h.objs.size+1->
   wpAny (model prog w) (A.under (.builtin "type.__call__" ⟨.ref C::rest,[]⟩)) (call (.ref fI) (.ref e::rest)) (fun r s'=>r=.none/\Q (.ref e) s') E ⟨h',g,d,t,os⟩) (hrest:rest.length<=sizeLine:=by size_fits):
 wpAny (model prog w) A (call (.ref C) rest) Q E ⟨h,g,d,t,os⟩:=by
 have f1:=tc_lookup;have f2:=tc_bind (.ref C);have hT:(⟨h,g,d,t,os⟩:Shared).TypeIs (.ref C) "type":=⟨_,hC,rfl⟩;refine wpAny_call (codeAny_of_tree ?_);show wpAny _ _ (callAny (.ref C) _) _ _ _
 repeat (any_goals (first|assumption|with_reducible refine wpAny_loadPart_at hC ?_|wp_step))
 refine⟨O,?_⟩;refine codeAny_call_builtin_at (Code.quiet_builtin _ (by decide+kernel)) entry_typeCall (wpAny_check_type_call_sub hC (qEu (hrest:=hrest) F T hC hn hi hfI hfc fun h' e hm h1 h2=>?_));exact hq h' e hm h1 h2
end
section
variable{prog:Program}{w:World}{A:Around}{E:Value->Shared->Prop}{s:Shared}{env:Env}
variable{nm q:Str}{C N:Addr}{bs bm bmB:List Value}{hdct:Bool}{sn:List Str}{sub:List Value}{ab:Bool}{col:Option Bool}{dd:Option Addr}{k0 k1 k2 k3 k5:Option Value}{B newId initId:String}
theorem qMz{M:Model}{x:Sem Value}{Q:Flow->Shared->Prop}(hbase:bm.contains (.type "BaseException")=true)(hh:A.handled=none)
 (h:wpAny M A x (fun v s₁=> ∃e od vs sl,v=.ref e/\s₁.heap.get? C=some (excClassObj nm q C N bs bm hdct sn sub ab col dd k0 k1 k2 k3 k5 newId)/\
   s₁.heap.get? e=some {cls:=.ref C,dict:=od,data:=.fields vs,slots:=sl}/\vs[1]?=some .none/\E (.ref e) s₁) E s):
 wpAny M A (raiseStmt env (some x) none) Q E s:=by
 have hcB:(Value.ref C::bm).contains (.type "BaseException")=true:=by rw[List.contains_cons,hbase,Bool.or_true]
 unfold raiseStmt;refine wpAny_bind (wpAny_mono h (fun v s₁ h₁=>?_) fun _ _ x=>x);obtain⟨e,od,vs,sl,rfl,hC,he,hv,hE⟩:=h₁;obtain⟨hp,g,d,tk,os⟩:=s₁
 repeat (first|with_reducible refine wpAny_loadPart_at he ?_|with_reducible refine wpAny_loadPart_at hC ?_|(with_reducible refine wpAny_isSubtype_exc hC ?_;rw[hcB])|wp_step)
 rw[hv];refine wpAny_pure ?_;rw[if_neg (by decide)];refine wpAny_pure ?_;exact wpAny_raiseNew_none hh hE
theorem qJ8(F:ExcBaseFacts B newId initId bmB){mN:Str->Option Value}{x:Str}{np cpos pos:Pos}{args:List Expr}{fI:Addr}{oI:Obj}{Q:Flow->Shared->Prop}
 (hbase:bm.contains (.type "BaseException")=true) (hh:A.handled=none) (hplain:(backTo cpos (starEach args env)).any (·.1)=false) (hi:mN "__init__"=some (.ref fI)) (hfc:oI.cls=.type "function")
 (h:wpAny (model prog w) A (eval (.Name x np) env) (fun f s₁=>f=.ref C/\wpAny (model prog w) A (evalArgs (.ref C) true (backTo cpos (starEach args env)) [])
   (fun a s₂=>a.kw=[]/\a.pos.length<=sizeLine/\s₂.heap.get? C=some (excClassObj nm q C N bs bm hdct sn sub ab col dd k0 k1 k2 k3 k5 newId)/\s₂.heap.Ns N mN/\OwnTail s₂.heap bmB bm/\s₂.heap.get? fI=some oI/\
     ∀h' e,Heap.MadeExcOf s₂.heap h' e (.ref C) a.pos->h'.objs.size=s₂.heap.objs.size+2->e=s₂.heap.objs.size+1->
      wpAny (model prog w) (A.under (.builtin "type.__call__" ⟨.ref C::a.pos,[]⟩)) (call (.ref fI) (.ref e::a.pos))
       (fun r s'=>r=.none/\s'.heap.get? C=some (excClassObj nm q C N bs bm hdct sn sub ab col dd k0 k1 k2 k3 k5 newId)/\(∃od vs sl,s'.heap.get? e=some {cls:=.ref C,dict:=od,data:=.fields vs,slots:=sl}/\vs[1]?=some .none)/\E (.ref e) s') E {s₂ with heap:=h'}) E s₁) E s):
 wpAny (model prog w) A (exec (.Raise (some (.Call (.Name x np) args [] cpos)) none pos) env) Q E s:=by
 rw[arm_exec_Raise];refine wpAny_bind (wpAny_standAt (qMz (C:=C) (nm:=nm) (q:=q) (N:=N) (bs:=bs) (bm:=bm) (hdct:=hdct) (sn:=sn) (sub:=sub) (ab:=ab) (col:=col) (dd:=dd) (k0:=k0) (k1:=k1) (k2:=k2) (k3:=k3) (k5:=k5) (newId:=newId) hbase hh (wpAny_bind (wpAny_mono (wpAny_Call_ofName (wpAny_mono h (fun f s₁ h₁=>?_) fun _ _ x=>x)) (fun v s₃ h₃=>wpAny_bind (wpAny_standAt (wpAny_pure h₃))) fun _ _ x=>x))));obtain⟨rfl,h₁⟩:=h₁;unfold callWith;refine wpAny_bind (wpAny_holding (wpAny_mono h₁ (fun a s₂ h₂=>wpAny_bind (wpAny_standAt ?_)) fun _ _ x=>x));obtain⟨apos,akw⟩:=a;obtain⟨hkw,hlen,hC,hn,T,hfI,h₂⟩:=h₂;obtain rfl:akw=[]:=hkw;obtain⟨hp,g,d,tk,os⟩:=s₂;simp only[hplain];refine wpAny_bind (wpAny_keeperOf_exc hC ?_);refine wpAny_bind (qNd (hrest:=hlen) F T hC hn hi hfI hfc fun h' e hm h1 h2=>wpAny_mono (h₂ h' e hm h1 h2) (fun r s' z=>⟨z.1,?_⟩) fun _ _ x=>x);obtain⟨_,hC',⟨od,vs,sl,he,hv⟩,hE⟩:=z;refine wpAny_bind (wpAny_holding (wpAny_point (wpAny_pure ?_)));exact⟨e,od,vs,sl,O,hC',he,hv,hE⟩
end
end L3
namespace L3
open PySem PySem.Spec PyProof.Rows L2
def qDa(e:Addr)(C:Value):HO:=.ext fun h=> ∃(vs:Array Value) (sl:Array (Option Value)),h.get? e=some {cls:=C,dict:=none,data:=.fields vs,slots:=sl}/\vs[1]?=some .none
def qEe(e:Addr)(C:EC):HO:=.ext fun h=>vF h e C none
def excInitIn(K:PySem.W.Frag)(C f:Addr):Bool:=match K.lookup C with
 |some ⟨.type "type",_,.cls cd,sl⟩=>(match cd.mro,sl.toList with
  |.ref C'::bm,[_,_,_,_,some (.builtin n),_]=>C'==C && n=="ValueError.__new__" && !cd.hasDel && PySem.W.tailIn K qTm bm && PySem.W.nsOkIn K cd.ns && PySem.W.nsIn K cd.ns "__init__"==some (some (.ref f))
  |_,_=>false)
 |_=>false
structure XMk(K:PySem.W.Frag)(C D f:Addr):Prop where
 ov:exOver K C D=true
 hd:PySem.W.hasDictIn K C=true
 sa:PySem.W.findIn K (.ref C) "__setattr__"=some (some (.builtin "object.__setattr__"))
 ex:excInitIn K C f=true
 fn:PySem.W.isFn K (.ref f)=true
theorem qMw{K:PySem.W.Frag}{h:Heap}{N:Addr}{mg:Str->Option Value}{n:Str}{v:Value}(X:K.In h)(G:h.Ns N mg)(e:PySem.W.nsIn K N n=some (some v)):mg n=some v:=by
 obtain⟨o,es,ep,ho,hd,_,hf⟩:=G;unfold PySem.W.nsIn at e;split at e
 . rename_i c d es' n' sl q
   have:=X _ _ q;rw[ho]at this;cases this;cases hd;split at e
   . rename_i en he
     cases e;rw[<-hf];unfold nsFind findBy;rw[<-Array.find?_toList,he];rfl
   . split at e <;> cases e
 . cases e
theorem qR1{K:PySem.W.Frag}{h:Heap}{C f:Addr}(X:K.In h)(q:excInitIn K C f=true):
 ∃bm N nm qn bs hdct sn sub ab col dd k0 k1 k2 k3 k5 mN,h.get? C=some (excClassObj nm qn C N bs bm hdct sn sub ab col dd k0 k1 k2 k3 k5 "ValueError.__new__")/\h.Ns N mN/\mN "__init__"=some (.ref f)/\OwnTail h qTm bm:=by
 unfold excInitIn at q;split at q
 . rename_i dd cd sl ho
   split at q
   . rename_i C' bm k0 k1 k2 k3 n k5 hm hs
     simp only[Bool.and_eq_true,beq_iff_eq,Bool.not_eq_true']at q;obtain⟨⟨⟨⟨⟨eC,en⟩,del⟩,ht⟩,ok⟩,ni⟩:=q;subst eC en;obtain⟨nm,bs,mro,ns,qn,hd,sn,sub,ab,col,dl⟩:=cd;dsimp only at hm del ok ni;subst hm del;have hsl:sl= #[k0,k1,k2,k3,some (.builtin "ValueError.__new__"),k5]:=by obtain⟨l⟩:=sl;simp only at hs;rw[hs]
     subst hsl;have N1:h.Ns ns (h.nsMap ns):=.of_isNs (PySem.W.isNs_of_in X ok);refine⟨bm,ns,nm,qn,bs,hd,sn,sub,ab,col,dd,k0,k1,k2,k3,k5,_,X _ _ ho,N1,qMw X N1 ni,PySem.W.tail_of_in X ht⟩
   . cases q
 . cases q
section
variable{X:Cx}{pins:List (Addr×Obj)}{σ:L2.St}{H:Hp}{s:Shared}
theorem qQw{e:Addr}{φ:Heap->Prop}(I:Inv X pins σ (upd H e (.ext φ)) s)(h0:H e=none)(hs:X.s₀.heap.get? e=none):Inv X pins σ H s:=by
 have B:=I.base;have nn:∀b u,upd H e (.ext φ) b=some u->(∀ψ,u≠ .ext ψ)->H b=some u:=fun b u z n=>by
  by_cases hb:b=e
  . subst hb
    rw[qD]at z;cases z;exact absurd rfl (n φ)
  . rwa [qX hb]at z
 have n0:∀b,upd H e (.ext φ) b=none->H b=none:=fun b z=>by
  by_cases hb:b=e
  . rw[hb,qD]at z;cases z
  . rwa [qX hb]at z
 refine⟨I.ok,I.os,I.bare,⟨B.keep,B.slot,fun b o w z hx=>n0 _ (B.free b o w z hx),B.there,fun b xs w=>nn _ _ (B.tups b xs w) (fun _ z=>nomatch z),fun b o u w=>nn _ _ (B.frzs b o u w) (fun _ z=>nomatch z),fun b ps w=>?_⟩,I.loc,I.cell,n0 _ I.free,fun y c z=>n0 _ (I.freeC y c z),fun p hp=>?_,fun b u w=>?_,I.len⟩
 . obtain⟨more,z⟩:=B.tbls b ps w
   exact⟨more,nn _ _ z (fun _ z=>nomatch z)⟩
 . obtain⟨w1,w2,w3⟩:=I.pin p hp
   exact⟨w1,n0 _ w2,w3⟩
 . have hb:b≠e:=fun z=>by rw[z,h0]at w;cases w
   refine(I.hok b u (by rw[qX hb];exact w)).stay (fun _ _ _ z=>z) (fun c z=>nn _ _ z (fun _ z=>nomatch z)) fun c xs z=>nn _ _ z (fun _ z=>nomatch z)
end
theorem qNp{X:Cx}{pins:List (Addr×Obj)}{σ:L2.St}{H:Hp}{s:Shared}{dx:Addr}{fs:List (Str×V)}(I:Inv X pins σ H s)(h0:H dx=none)(hs0:X.s₀.heap.get? dx=none)(hp:∀p∈X.pn++pins,p.1≠dx)
 (hl:dx≠X.env.locals) (hc:∀y c,X.env.cells.lookup y=some c->c≠dx) (ok:∃mA,s.heap.Ns1 dx mA/\∀f,RelO (fs.lookup f) (mA f)):Inv X pins σ (upd H dx (.xd fs)) s:=by
 have B:=I.base;have ne:∀b o,X.s₀.heap.get? b=some o->b≠dx:=fun b o w z=>by rw[z,hs0]at w;cases w
 refine⟨I.ok,I.os,I.bare,⟨B.keep,B.slot,fun b o w z hx=>?_,B.there,fun b xs w=>?_,fun b o u w=>?_,fun b ps w=>?_⟩,I.loc,I.cell,?_,fun y c e=>?_,fun p hp'=>?_,fun b u w=>?_,I.len⟩
 . rw[qX (ne b o w)];exact B.free b o w z hx
 . have z:=B.tups b xs w
   rw[qX (qV z h0)];exact z
 . have z:=B.frzs b o u w
   rw[qX (qV z h0)];exact z
 . obtain⟨more,z⟩:=B.tbls b ps w
   exact⟨more,by rw[qX (qV z h0)];exact z⟩
 . rw[qX (Ne.symm hl)];exact I.free
 . rw[qX (hc y c e)];exact I.freeC y c e
 . obtain⟨w1,w2,w3⟩:=I.pin p hp'
   rw[qX (hp p hp')];exact⟨w1,w2,w3⟩
 . by_cases hb:b=dx
   . subst hb
     rw[qD]at w;cases w;exact ok
   . rw[qX hb]at w
     exact(I.hok b u w).stay (fun _ _ _ z=>z) (fun c z=>by rw[qX (qV z h0)];exact z) fun c xs z=>by rw[qX (qV z h0)];exact z
def qW2(K:PySem.W.Frag)(ta tv:TE)(f:Str):TS:=fun D σ H=>tv σ H fun y H1=>ta σ H1 fun x H2=> ∃a C B,x=.ref a/\H2 a=some (qDa a (.ref C))/\exOver K C B=true/\PySem.W.hasDictIn K C=true/\
 PySem.W.findIn K (.ref C) "__setattr__"=some (some (.builtin "object.__setattr__"))/\PySem.W.takerIn K C f=some none/\∀dx,H2 dx=none->D.nx σ (upd (upd H2 a (qEe a (.ref C,some dx))) dx (.xd [(f,y)]))
theorem qSz{X:Cx}{o value:Expr}{f:Str}{pos pos':Pos}{ta tv:TE}(ha:PE X o ta)(hv:PE X value tv)(hs:swapsWith value (some (.Attribute o f pos')) pos.line X.env=pure false:=by rfl):
 PS X (.Assign [.Attribute o f pos'] value pos) (qW2 X.K ta tv f):=by
 intro pins s σ H D I h;refine plainObj_wpAny_Assign_Attribute (thn (hv pins s σ H _ I h) fun u s1 ⟨y,H1,I1,ry,q⟩=>thn (ha pins s1 σ H1 _ I1 q) fun ov s2 ⟨x,H2,I2,rx,a,C,B,ex,ea,o1,o2,o3,o4,q2⟩=>?_) hs;subst ex;obtain rfl:ov=Value.ref a:=rx;obtain⟨⟨vs,sl,he,hv1⟩,_,_⟩:=I2.hok a _ ea;have hf:H2 s2.heap.objs.size=none:=I2.hok.fresh (Nat.le_refl _);refine qTa I2.kIn he o3 o1 o4 o2 fun h' tk he' hn k=>⟨σ,_,?_,q2 _ hf⟩;have I3:Inv X pins σ (upd H2 a (qEe a (.ref C,some s2.heap.objs.size))) {s2 with heap:=h',toks:=tk}:=by refine I2.write (x:=a) (e:=a) (by rw[ea];exact True.intro) (.inl rfl) k ⟨_,he'⟩ ?_;refine⟨⟨vs,sl,he',hv1⟩,⟨_,he'⟩,fun h1 h2 z k=>?_⟩;obtain⟨vs',sl',z,z2⟩:=z;exact⟨vs',sl',k _ z,z2⟩
 have na:s2.heap.objs.size≠a:=fun z=>by rw[z,ea]at hf;cases hf
 refine qNp I3 (by rw[qX na];exact hf) ?_ (fun p hp=>Nat.ne_of_lt (Heap.lt_size (I2.pin p hp).1)) (Nat.ne_of_gt I2.lt) (fun y c e=>?_) ⟨_,hn,fun g=>?_⟩
 . cases w:X.s₀.heap.get? s2.heap.objs.size with
   |none=>rfl
   |some o=>exact absurd (Nat.lt_of_lt_of_le (Heap.lt_size w) I2.sz) (Nat.lt_irrefl _)
 . obtain⟨v,o,ho,_⟩:=I2.cell y c e
   exact Nat.ne_of_lt (Heap.lt_size ho)
 . by_cases hg:g=f
   . subst hg
     simp[List.lookup];exact ry
   . have e1:([(f,y)]:List (Str×V)).lookup g=none:=by rw[List.lookup_cons];have:(g==f)=false:=beq_eq_false_iff_ne.mpr hg;rw[this];rfl
     rw[e1,if_neg hg];trivial
inductive qK3(C:Addr)(f:Str)(vs:List V)(H:Hp)(Q:VK)(_:XK):Prop
|mk (e:Addr) (v:V) (_:vs=[.ref e,v]) (_:H e=some (qDa e (.ref C))) (_:∀dx,H dx=none->Q .non (upd (upd H e (qEe e (.ref C,some dx))) dx (.xd [(f,v)])))
def qTf(C:Addr)(fn:Str)(Ex:Value->Option Addr->Hp->Prop)(t:TA):TS:=fun _ σ H=>t σ H fun vs H1=> ∃v,vs=[v]/\∀dx,H1 dx=none->Ex (.ref C) (some dx) (upd H1 dx (.xd [(fn,v)]))
theorem qH8{X:Cx}{Ex:Value->Option Addr->Hp->Prop}{fn:Str}{k:Nat}{x:Str}{C B f:Addr}{fd:FuncData}{ps:List Str}{np cpos pos:Pos}{e₀:Expr}{rest:List Expr}{t:TA}(M:XMk X.K C B f)
 (F:FnOk X.prog X.w X.K X.mg X.base CX0 k f fd ps (qK3 C fn)) (hb:Binds X.K fd ps []) (hr:Room (k+1) X.A) (hcm:X.calm=true) (hg:Gl X x) (hm:X.mg x=some (.ref C)) (ha:PA (X.wish (XE X Ex)) (e₀::rest) t)
 (he:starEach (e₀::rest) X.env=(false,eval e₀ X.env)::starEach rest X.env:=by rfl) (hpl:(backTo cpos (starEach rest X.env)).any (·.1)=false:=by rfl) (hex:X.ex=[]:=by rfl) (hdb:(x==("__debug__":Str))=false:=by decide):
 PS (X.wish (XE X Ex)) (.Raise (some (.Call (.Name x np) (e₀::rest) [] cpos)) none pos) (qTf C fn Ex t):=by
 intro pins s σ H D I h;obtain⟨tl,N,nm,q,bs,hdct,sn,sub,ab,col,dd,k0,k1,k2,k3,k5,mN,hC,hN,hni,T⟩:=qR1 (K:=X.K) I.ok.mod.kin M.ex;have hfn:PySem.W.typeIn X.K (.ref f)=some (.type "function"):=beq_iff_eq.mp M.fn;have hfo:∃oI:Obj,X.base.get? f=some oI/\oI.cls=.type "function":=by
  replace hfn:(X.K.lookup f).map (·.cls)=some (.type "function"):=hfn;cases hl:X.K.lookup f with
  |none=>rw[hl]at hfn;cases hfn
  |some o=>
   rw[hl]at hfn;exact⟨o,I.ok.mod.kin _ _ hl,by simpa using hfn⟩
 obtain⟨oI,hfI,hfc⟩:=hfo;refine qJ8 (bm:=tl) (C:=C) (N:=N) (nm:=nm) (q:=q) (bs:=bs) (hdct:=hdct) (sn:=sn) (sub:=sub) (ab:=ab) (col:=col) (dd:=dd) (k5:=k5) (k0:=k0) (k1:=k1) (k2:=k2) (k3:=k3)
  PySem.F.excBase_ValueError (mN:=mN) (fI:=f) (oI:=oI) (T.hasType PySem.F.excBase_ValueError.hasBase) (I.ok.hd hcm) (by rw[he];show (false || (backTo cpos (starEach rest X.env)).any (·.1))=false;rw[hpl];rfl) hni hfc (wb I hg hm ⟨rfl,?_⟩ hdb)
 have z:=ha cpos pins s σ H _ I h;rw[show (X.wish (XE X Ex)).env=X.env from rfl]at z;rw[he]at z⊢;refine Calls.evalArgs_plain (wpAny_mono z (fun us s2 w=>?_) fun _ _ y=>y);obtain⟨vs,H1,I1,r1,v,rfl,ex⟩:=w;have I1':=I1.unwish;have hl1:us.length=1:=r1.length.symm;refine⟨O,by rw[hl1,sizeLine_eq];decide,I1.bk _ _ hC,hN.keeps I1.bk,T.keeps I1.bk,I1.bk _ _ hfI,fun h' e hmk hsz hes=>?_⟩;obtain⟨tt,q1,q2,q3⟩:=hmk.there;have hle:s2.heap.objs.size<=e:=by rw[hes];exact Nat.le_succ _
 have e0:H1 e=none:=I1'.hok.fresh hle;have I2:Inv X pins σ (upd H1 e (qDa e (.ref C))) {s2 with heap:=h'}:=I1'.laid (t':=s2.toks) hmk.keeps hle ⟨⟨_,_,q1,rfl⟩,⟨_,q1⟩,fun h1 h2 z k=>by obtain⟨vs',sl',z,z2⟩:=z;exact⟨vs',sl',k _ z,z2⟩⟩
 have r2:Vals [V.ref e,v] (Value.ref e::us):=.cons rfl r1;have hsp:qK3 C fn [V.ref e,v] (upd H1 e (qDa e (.ref C))) (fun u H2=>u=.non/\∃dx,H1 dx=none/\dx≠e/\H2=upd (upd H1 dx (.xd [(fn,v)])) e (qEe e (.ref C,some dx))) E0:=⟨e,v,rfl,qD,fun dx hdx=>⟨rfl,dx,?_⟩⟩
 rotate_left
 . have hne:dx≠e:=fun z=>by rw[z,qD]at hdx;cases hdx
   refine⟨by rwa [qX hne]at hdx,hne,?_⟩;funext b;by_cases hb:b=e
   . subst hb
     rw[qD,qX (Ne.symm hne),qD]
   . rw[qX hb (o:=qEe e (.ref C,some dx)) (H:=upd H1 dx (.xd [(fn,v)]))]
     by_cases hb2:b=dx
     . subst hb2
       rw[qD,qD]
     . rw[qX hb2,qX hb,qX hb,qX hb2]
 have hl:((Value.ref e::us)++[]).length=ps.length:=by have:=F.len _ _ _ _ hsp;rw[List.append_nil,List.length_cons,hl1];simpa using this
 have hbb:=hb _ (Value.ref e::us) I2.kIn hl;rw[List.append_nil]at hbb;refine wpAny_call (codeAny_mono (F.run _ X.stack _ _ ⟨Value.ref e::us,[]⟩ (Value.ref e::us) _ _ E0 (hr.make C us []) (I2.env0.make C us []) hbb r2 hsp) fun r s' hq'=>?_);cases r with
 |error e=>exact False.elim hq'
 |ok fl=>
  cases fl with
  |ret u=>
   obtain⟨v',H',I3,rv,ev,dx,hdx,hne,rfl⟩:=I2.after hq';subst ev;cases rv;obtain⟨⟨vs',sl',g1,g2⟩,_,_⟩:=I3.hok e _ qD;have e0':(upd H1 dx (.xd [(fn,v)])) e=none:=by rw[qX (Ne.symm hne)];exact e0
   have hs0:X.s₀.heap.get? e=none:=by
    cases w:X.s₀.heap.get? e with
    |none=>rfl
    |some o=>
     obtain⟨o',w'⟩:=I1'.base.there e o w (by rw[hex];intro y;cases y);rw[hmk.new]at w';cases w'
   refine⟨O,I3.bk _ _ hC,⟨some dx,vs',sl',g1,g2⟩,e,(.ref C,some dx),σ,upd H1 dx (.xd [(fn,v)]),O,(qQw I3 e0' hs0).pins_of (pins':=[]) fun p hp=>(nomatch hp),⟨⟨hs0,e0',fun p hp z=>?_⟩,none,⟨vs',sl',g1,g2⟩,fun T e'=>nomatch e'⟩,ex dx hdx⟩;have q':=(I1'.pin p (List.mem_append_left _ hp)).1;rw[z,hmk.new]at q';cases q'
  |next=>exact False.elim hq'
  |brk=>exact False.elim hq'
  |cont=>exact False.elim hq'
end L3
set_option maxRecDepth 100000
namespace L3
open PySem PySem.Spec PySem.Calls PyProof.Rows PySem.W
section
variable{prog:Program}{w:World}{A:Around}{E:Value->Shared->Prop}{K:Frag}{h:Heap}{g:Array GenState}{d:Drawn}{t:Nat}{os:OsState}{a D:Addr}{ox o:Obj}{name:Str}{v:Value}
theorem qNm{tk:Tok}{Q:PySem.Fin->Shared->Prop}(X:K.In h)(I:InstAt h a ox D (some o))(hf:findObj K D (some o) name=some (.value v))(hq:Q (.done (.ret v)) ⟨h,g,d,t,os⟩):
 wpAny (model prog w) A (Builtin.«object.__getattribute__» ⟨[.ref a,.str name tk],[]⟩) Q E ⟨h,g,d,t,os⟩:=by
 have L0:=I.type (M:=model prog w);have L2:=looks_find (M:=model prog w) X I hf;unfold Builtin.«object.__getattribute__»
 repeat (any_goals (first|assumption|(with_reducible refine wpAny_bind (L0.at ?_))|(with_reducible refine wpAny_bind (L2.at ?_))|wp_step))
theorem qOx{tk:Tok}{R:Result->Shared->Prop}(c:ExcK K D)(X:K.In h)(I:InstAt h a ox D (some o))(hf:findObj K D (some o) name=some (.value v))(hq:R (.ok (.ret v)) ⟨h,g,d,t,os⟩):
 codeAny (model prog w) A (.call (.builtin "BaseException.__getattribute__") ⟨[.ref a,.str name tk],[]⟩) R ⟨h,g,d,t,os⟩:=by
 refine codeAny_call_builtin F.attr_ValueError.ga.plain F.entry_bexc_ga ?_;have bkd:builtinKind "BaseException.__getattribute__"=some .slot:=by decide+kernel
 have hsp:splitId "BaseException.__getattribute__"=some ("BaseException","__getattribute__"):=by decide+kernel
 have ha:=F.args_bexc_ga (.ref a) (.str name tk);have L0:=I.type (M:=model prog w);have L1:Looks (model prog w) h (isInstance (.ref a) (.type "BaseException")) true:=L0.andThen (looks_mroIn X c.mb);simp only[checkBuiltinCall,bkd,hsp];refine wpAny_bind (L1.at ?_)
 repeat (first|assumption|(with_reducible refine qNm X I hf ?_)|exact hq|wp_step)
theorem qSx{tk:Tok}{fill ex:Bool}{Q:Value->Shared->Prop}(c:ExcK K D)(X:K.In h)(I:InstAt h a ox D (some o))(hf:findObj K D (some o) name=some (.value v))(hv:handedIn v=true)(hq:Q v ⟨h,g,d,t,os⟩):
 wpAny (model prog w) A (getAttrBy (.ref a) (.str name tk) fill ex) Q E ⟨h,g,d,t,os⟩:=by
 have L0:=I.type (M:=model prog w);have L1:=looks_findIn (M:=model prog w) X c.ga;have L2:=looks_findIn (M:=model prog w) X c.gt;have f3:=F.attr_ValueError.ga.bind (.ref a);have no2:(Value.builtin "BaseException.__getattribute__"==Value.builtin "object.__getattribute__")=false:=by decide+kernel
 have no1:(onTheHeap (Value.ref D) && Value.builtin "BaseException.__getattribute__"==Value.builtin "object.__getattribute__")=false:=by rw[no2];rfl
 have hho:=handedOut_of hv
 repeat (any_goals (first|assumption|(with_reducible refine wpAny_bind (L0.at ?_))|(with_reducible refine wpAny_bind (L1.at ?_))|(with_reducible refine wpAny_bind (L2.at ?_))|(with_reducible refine L1.at ?_)|(with_reducible refine L2.at ?_)|wp_step))
 have no3:(ex && onTheHeap (Value.builtin "BaseException.__getattribute__"))=false:=by rw[show onTheHeap (Value.builtin "BaseException.__getattribute__")=false from rfl,Bool.and_false]
 rw[if_neg (by rw[no3];decide)]
 repeat (any_goals (first|assumption|(with_reducible refine wpAny_bind (L0.at ?_))|(with_reducible refine wpAny_bind (L1.at ?_))|(with_reducible refine wpAny_bind (L2.at ?_))|(with_reducible refine L1.at ?_)|(with_reducible refine L2.at ?_)|wp_step))
 refine qOx c X I hf ?_;show wpAny _ _ (handedOut v) Q E _;rw[hho];exact wpAny_pure hq
end
end L3
namespace L3
open PySem PySem.Spec PyProof.Rows L2
theorem qOd{o:Obj}{es:Array DictEntry}{ep:Nat}{name:Str}{v:Value}(hd:o.data=.dict es ep)(hf:nsFind es name=some v):PySem.W.lookIn name o=some (some v):=by
 unfold PySem.W.lookIn;rw[hd];dsimp only;unfold nsFind findBy at hf;rw[<-Array.find?_toList]at hf;cases he:es.toList.find? (fun e=>e.key.isStr name)with
 |none=>rw[he]at hf;cases hf
 |some en=>
  rw[he]at hf;have:en.val=v:=by simpa using hf
  subst this;rfl
inductive qU6(K:PySem.W.Frag)(f:Str)(Q:VK)(x:V)(H1:Hp):Prop
|mk a D dx fs i (_:x=.ref a) (_:H1 a=some (qDs a (.ref D,some dx))) (_:H1 dx=some (.xd fs)) (_:fs.lookup f=some (.int i)) (_:ExcK K D) (_:PySem.W.hasDictIn K D=true) (_:PySem.W.findIn K (.ref D) f=some none) (_:Q (.int i) H1)
def qV7(K:PySem.W.Frag)(ta:TE)(f:Str):TE:=fun σ H Q=>ta σ H fun x H1=>qU6 K f Q x H1
theorem qTh{X:Cx}{e:Expr}{f:Str}{pos:Pos}{ta:TE}(he:PE X e ta)(hb:attributeBase e f X.env (eval e X.env)=eval e X.env:=by rfl):PE X (.Attribute e f pos) (qV7 X.K ta f):=by
 intro pins s σ H Q I h;refine qTn hb (thn (he pins s σ H _ I h) fun u s1 ⟨x,H1,I1,rx,a,D,dx,fs,i,ex,ea,ed,el,c,hh,hn,q⟩=>?_);subst ex;obtain rfl:u=Value.ref a:=rx;obtain⟨⟨vs,sl,qe⟩,_⟩:=I1.hok a _ ea;obtain⟨mA,⟨o,es,ep,eo,hd,_,_,hm⟩,r⟩:=I1.hok dx _ ed;have J:PySem.W.InstAt s1.heap a {cls:=.ref D,dict:=some dx,data:=.fields vs,slots:=sl} D (some o):=⟨qe,rfl,rfl,eo⟩;have rf:=r f;rw[el]at rf;cases hmf:mA f with
 |none=>rw[hmf]at rf;exact False.elim rf
 |some u=>
  rw[hmf]at rf;obtain⟨tk,rfl⟩:RelV (.int i) u:=rf;have hl:=qOd hd ((hm f).trans hmf);have hf:PySem.W.findObj X.K D (some o) f=some (.value (.int i tk)):=PySem.W.findObj_own hh hn rfl hl;unfold getAttr;obtain⟨hp,g,d,t,os⟩:=s1;refine wpAny_bind ?_;refine wpAny_mkText ?_;refine qSx c I1.kIn J hf rfl ?_;exact⟨.int i,H1,I1.tok _,⟨_,O⟩,q⟩
end L3
set_option maxRecDepth 100000
namespace L3
open PySem PySem.Spec PyProof.Rows L2
inductive PHs(X:Cx):List ExceptHandler->List (Addr×Option Nat×TS)->Prop where
 |nil:PHs X [] []
 |cons {x:Str} {np hpos:Pos} {nm:Option Str} {i:Option Nat} {b₀:Stmt} {suite:List Stmt} {C:Addr} {ts:TS} {hs:List ExceptHandler} {cs:List (Addr×Option Nat×TS)} (hcl:qH3 X nm i) (hg:Gl X x) (hm:X.mg x=some (.ref C))
  (h:∀l ea,PSs (hdX (pnX X l) ea).nox (b₀::suite) ts) (r:PHs X hs cs) (hdb:(x==("__debug__":Str))=false:=by decide):PHs X (.ExceptHandler (some (.Name x np)) nm (b₀::suite) hpos::hs) ((C,i,ts)::cs)
def qSu(K:PySem.W.Frag)(D:qMm)(ea:Addr)(B:EC)(σ':L2.St)(H':Hp):List (Addr×Option Nat×TS)->Prop
 |[]=>False
 |(C,i,ts)::cs=> ∃b,PySem.W.exmOne K B.1 (.ref C)=some b/\if b=true then ts (qNc D i) (qU5 i ea σ') (upd H' ea (qDs ea B))else qSu K D ea B σ' H' cs
def qXl(K:PySem.W.Frag)(Ex:Value->Option Addr->Hp->Prop)(cs:List (Addr×Option Nat×TS))(tb:TS):TS:=fun D σ H=>tb D σ H/\∀(ea:Addr) (B:EC) (σ':L2.St) (H':Hp),Ex B.1 B.2 H'->H' ea=none->σ'.length=σ.length->qSu K D ea B σ' H' cs
theorem qS5{X:Cx}{body:List Stmt}{h₀:ExceptHandler}{hs:List ExceptHandler}{cs:List (Addr×Option Nat×TS)}{pos:Pos}{tb:TS}(Ex:Value->Option Addr->Hp->Prop)(hN:X.N.Nodup)
 (hb:∀l,PSs ((pnX X l).wish (XE (pnX X l) Ex)) body tb) (hh:PHs X (h₀::hs) cs)
 (hstk:X.stack=X.env::X.outer:=by rfl) (hfr:X.env.frame=some X.env.locals:=by rfl) (hex:X.ex=[]:=by rfl):
 PS X (.Try body (h₀::hs) [] [] pos) (qXl X.K Ex cs tb):=by
 rintro pins s σ H D I ⟨h1,h2⟩;have I0:=qR7 I;refine wpAny_Try_except (wpAny_mono (hb (X.pn++pins) [] s σ H D (I0.wish _) h1) (fun f s1 q=>?_) fun e s1 q=>?_)
 . have q:=q.unwish
   cases f with
   |next=>
    obtain⟨σ',H',J,z⟩:=q;exact wpAny_execs_nil ⟨σ',H',xw J,z⟩
   |brk=>
    obtain⟨σ',H',J,z⟩:=q;exact⟨σ',H',xw J,z⟩
   |cont=>
    obtain⟨σ',H',J,z⟩:=q;exact⟨σ',H',xw J,z⟩
   |ret u=>
    obtain⟨v,σ',H',J,r,z⟩:=q;exact⟨v,σ',H',xw J,r,z⟩
 . obtain⟨ea,B,σ',H',rfl,I1,⟨n1,hd,r,n3⟩,ex⟩:=q
   have hlen:σ'.length=σ.length:=I1.len.trans I.len.symm;have ht:=h2 ea B σ' H' ex n1.2.1 hlen;have fr:X.A.frames=some (X.env::X.outer):=by rw[<-hstk];exact I.ok.frames
   have ff:s1.heap.FunFrames X.base (X.env::X.outer):=by have z:=I1.stack;rw[show (pnX X (X.pn++pins)).stack=X.env::X.outer from hstk]at z;exact z
   refine qKf fr ff hfr r fun h' N'=>?_;have N':Noted (frs X.stack) ea hd B s1.heap h':=by rw[hstk];exact N'
   obtain⟨I2,n1,hd2,r2,n3⟩:=xZ I1 hex r n1 n3 N';clear h2;generalize h₀::hs=hl0 at hh
   induction hh with
   |nil=>exact False.elim ht
   | @cons x np hpos nm i b₀ suite C ts hs cs hcl hg hm hs' r' hdb ih=>
    obtain⟨b,hx,ht⟩:=ht;refine wpAny_handleBy_cons (codeAny_handlers_test (wb (X:=hdX (pnX X (X.pn++pins)) ea) (qFw I2) hg hm ?_ hdb)) (by intro z;cases z);have LT:PySem.W.Looks (model X.prog X.w) h' (typeOf (.ref ea)) B.1:=by obtain⟨vs,sl,qe,_⟩:=r2;exact(PySem.W.Looks.ld qe).andThen .now
    refine(PySem.W.exm_one (M:=model X.prog X.w) I2.kIn LT hx).here ?_;cases b with
    |false=>
     rw[if_neg (by decide)]at ht;exact ih ht
    |true=>
     rw[if_pos rfl]at ht;show codeAny _ _ _ _ _;obtain⟨T,rfl,r3⟩:∃T,hd2=some T/\vF h' ea B (some T):=by
      obtain⟨T,_,_⟩:=N'.ent;cases hd2 with
      |some T=>exact⟨T,rfl,r2⟩
      |none=>
       obtain⟨T,_,rT⟩:=N'.ent;obtain⟨vs,sl,q1,q2⟩:=r2;obtain⟨vs',sl',q1',q2',_⟩:=rT;rw[q1]at q1';cases q1';rw[q2]at q2';cases q2'
     have run:∀(s4:Shared) (σ4:L2.St) (Q:Flow->Shared->Prop) (E:Value->Shared->Prop),Inv (hdX (pnX X (X.pn++pins)) ea) [] σ4 (upd H' ea (qDs ea B)) s4->ts (qNc D i) σ4 (upd H' ea (qDs ea B))->
      (∀f s5,SP (hdX (pnX X (X.pn++pins)) ea) [] (qNc D i) f s5->Q f s5)->wpAny (model X.prog X.w) (X.A.mark (some (.ref ea))) (execs (b₀::suite) X.env) Q E s4:=fun s4 σ4 Q E I4 z k=>
      wpAny_mono (hs' (X.pn++pins) ea [] s4 σ4 _ _ (I4.wish _) z) (fun f s5 q=>k f s5 q.unwish) fun _ _ z=>z.elim
     have hdn:(pnX X (X.pn++pins)).calm=true->(pnX X (X.pn++pins)).A.handled=none:=I2.ok.hd;cases hcl with
     |none=>
      refine codeAny_handlers_suite (vn r3 fun h3 N3=>?_);obtain⟨I3,n1,hd3,r4,n3⟩:=xZ I2 hex r3 n1 n3 (N3 _);refine run _ _ _ _ (qFw (qAx I3 hex n1 r4)) ht fun f s5 q=>?_;cases f with
      |next=>obtain⟨σ5,H5,J,z⟩:=q;exact⟨σ5,H5,xw (wN J hdn),z⟩
      |brk=>obtain⟨σ5,H5,J,z⟩:=q;exact⟨σ5,H5,xw (wN J hdn),z⟩
      |cont=>obtain⟨σ5,H5,J,z⟩:=q;exact⟨σ5,H5,xw (wN J hdn),z⟩
      |ret u=>obtain⟨v,σ5,H5,J,rv,z⟩:=q;exact⟨v,σ5,H5,xw (wN J hdn),rv,z⟩
     |some hi hl=>
      refine codeAny_handlers_suite_as (vn r3 fun h3 N3=>?_);obtain⟨I3,n1,hd3,r4,n3⟩:=xZ I2 hex r3 n1 n3 (N3 _);refine kZ (X:=hdX (pnX X (X.pn++pins)) ea) (v:=.ref ea) (qFw (qAx I3 hex n1 r4)) hN hi (.inl hl) rfl (fun s4 I4=>?_) (.inr hl);refine run _ _ _ _ I4 ht fun f s5 q=>?_;cases f with
      |next=>obtain⟨σ5,H5,J,z⟩:=q;exact xX (X:=pnX X (X.pn++pins)) (wN J hdn) hN hi hl fun s6 J6=>⟨_,H5,xw J6,z⟩
      |brk=>obtain⟨σ5,H5,J,z⟩:=q;exact xX (X:=pnX X (X.pn++pins)) (wN J hdn) hN hi hl fun s6 J6=>⟨_,H5,xw J6,z⟩
      |cont=>obtain⟨σ5,H5,J,z⟩:=q;exact xX (X:=pnX X (X.pn++pins)) (wN J hdn) hN hi hl fun s6 J6=>⟨_,H5,xw J6,z⟩
      |ret u=>obtain⟨v,σ5,H5,J,rv,z⟩:=q;exact xX (X:=pnX X (X.pn++pins)) (wN J hdn) hN hi hl fun s6 J6=>⟨v,_,H5,xw J6,rv,z⟩
section
variable{X:Cx}
theorem qMq{bs:List Bool}{its:List Value}{P:Program}{w:World}{A:Around}(r:Vals (bs.map V.bl) its):TruthOf P w A (fun i v=>its.toArray[i]?=some v) (fun i=>(bs[i]?).getD false):=by
 intro i v s Q E hv hq;have hv':its[i]?=some v:=by simpa using hv
 have hl:=r.length;have hi:i<bs.length:=by have:=(List.getElem?_eq_some_iff.mp hv').1;rw[List.length_map]at hl;omega
 obtain⟨u,e1,q1⟩:=r.get (i:=i) (x:=.bl bs[i]) (by rw[List.getElem?_map,List.getElem?_eq_getElem hi];rfl);rw[hv']at e1;cases e1;cases q1;have e:(bs[i]?).getD false=bs[i]:=by rw[List.getElem?_eq_getElem hi];rfl
 have hq':Q ((bs[i]?).getD false) s:=hq;rw[e]at hq';exact wpAny_truthy_bool hq'
theorem qQf(bs:List Bool):(List.range bs.length).all (fun i=>(bs[i]?).getD false)=bs.all id:=by
 rw[Bool.eq_iff_iff,List.all_eq_true,List.all_eq_true];constructor
 . intro h x hx
   obtain⟨i,hi,e⟩:=List.mem_iff_getElem.mp hx;have:=h i (by simpa using hi);rw[List.getElem?_eq_getElem hi,e]at this;exact this
 . intro h i hi
   have hi:i<bs.length:=by simpa using hi
   rw[List.getElem?_eq_getElem hi];exact h _ (List.getElem_mem hi)
theorem qPg(bs:List Bool):(List.range bs.length).any (fun i=>(bs[i]?).getD false)=bs.any id:=by
 rw[Bool.eq_iff_iff,List.any_eq_true,List.any_eq_true];constructor
 . rintro⟨i,hi,h⟩
   have hi:i<bs.length:=by simpa using hi
   rw[List.getElem?_eq_getElem hi]at h;exact⟨_,List.getElem_mem hi,h⟩
 . rintro⟨x,hx,h⟩
   obtain⟨i,hi,e⟩:=List.mem_iff_getElem.mp hx;exact⟨i,by simpa using hi,by rw[List.getElem?_eq_getElem hi,e];exact h⟩
theorem qBa(hc:X.calm=true):wc X (.builtin "all") (fun xs H Q=> ∃(p:Addr) (bs:List Bool),xs=[.ref p]/\SqL X.K H p (bs.map V.bl)/\Q (.bl (bs.all id)) H):=by
 intro pins s σ H xs us Q I r h;obtain⟨p,bs,rfl,hq,q⟩:=h;obtain⟨u,rfl,rx⟩:=qJl r;cases rx;obtain⟨its,rv,pl,hz⟩:=I.list hq;have hp:p≠s.heap.objs.size:=by obtain⟨o,n,e,_⟩:=pl;exact Nat.ne_of_lt (Heap.lt_size e)
 have hh:X.A.in1.handled=none:=I.ok.hd hc;have hl:its.toArray.size=bs.length:=by rw[List.size_toArray,<-rv.length,List.length_map]
 refine call_all_walk (wpAny_pyIter_list pl.isList ?_);refine⟨s.heap.objs.size,_,_,_,_,_,_,O,Walks.list hh _ p hp its.toArray,⟨⟨_,Heap.get?_push_size _ rfl,O,O⟩,pl.isList.at fun o e=>Heap.get?_push_of_some _ e⟩,qMq rv,fun h' tk hk=>?_⟩;rw[hl,qQf];refine⟨.bl _,H,I.kept fun b o e=>hk b o (fun z=>?_) (Heap.get?_push_of_some _ e),O,q⟩;have z':b=s.heap.objs.size:=by simpa using z
 exact absurd (Heap.lt_size e) (by rw[z'];exact Nat.lt_irrefl _)
theorem qPe(hc:X.calm=true):wc X (.builtin "any") (fun xs H Q=> ∃(p:Addr) (bs:List Bool),xs=[.ref p]/\SqL X.K H p (bs.map V.bl)/\Q (.bl (bs.any id)) H):=by
 intro pins s σ H xs us Q I r h;obtain⟨p,bs,rfl,hq,q⟩:=h;obtain⟨u,rfl,rx⟩:=qJl r;cases rx;obtain⟨its,rv,pl,hz⟩:=I.list hq;have hp:p≠s.heap.objs.size:=by obtain⟨o,n,e,_⟩:=pl;exact Nat.ne_of_lt (Heap.lt_size e)
 have hh:X.A.in1.handled=none:=I.ok.hd hc;have hl:its.toArray.size=bs.length:=by rw[List.size_toArray,<-rv.length,List.length_map]
 refine call_any_walk (wpAny_pyIter_list pl.isList ?_);refine⟨s.heap.objs.size,_,_,_,_,_,_,O,Walks.list hh _ p hp its.toArray,⟨⟨_,Heap.get?_push_size _ rfl,O,O⟩,pl.isList.at fun o e=>Heap.get?_push_of_some _ e⟩,qMq rv,fun h' tk hk=>?_⟩;rw[hl,qPg];refine⟨.bl _,H,I.kept fun b o e=>hk b o (fun z=>?_) (Heap.get?_push_of_some _ e),O,q⟩;have z':b=s.heap.objs.size:=by simpa using z
 exact absurd (Heap.lt_size e) (by rw[z'];exact Nat.lt_irrefl _)
theorem qV2:OpR X (compareOp .In) (fun x y H Q=> ∃(a b:Str),x=.str a/\y=.str b/\Q (.bl (!(Builtin.Str.occurrences b a 0 b.length 1).isEmpty)) H):=by intro pins s σ H x y v u Q I rx ry h;obtain⟨a,b,rfl,rfl,q⟩:=h;obtain⟨t,rfl⟩:=rx;obtain⟨t',rfl⟩:=ry;exact P.in_str ⟨.bl _,H,I,O,q⟩
def Its(z:Str):It:=⟨fun i _=>i<z.cps.size,fun i H x H'=>H'=H/\∃c,z.cps[i]?=some c/\x=.str ⟨#[c]⟩,fun i _=>z.cps.size<=i⟩
theorem qO7{P:Program}{w:World}{K:PySem.W.Frag}{tg:Expr}(it:Addr)(z:Str)(t:Tok)(ty:String)(hty:ty="str_ascii_iterator"\/ty="str_iterator"):
 qSk P w K tg (Its z) [it] it (fun i h=>h.IsStrIter it ty z t i/\i<=z.cps.size) where
 mem:=by simp
 obj:=fun i h st b hb=>by
  have e:b=it:=by simpa using hb
  subst e;obtain⟨⟨o,e,c,d⟩,_⟩:=st;exact⟨o,e,fun v z=>by rw[d]at z;cases z⟩
 keep:=fun i h h' st k=>⟨let ⟨o,ho,r⟩:=st.1;⟨o,k it (by simp) o ho,r⟩,st.2⟩
 item:=by
  intro X hP hw hK hc i pins s σ H E I hf st hg;subst hP hw hK;have hi:i<z.cps.size:=hg;have hx:z.cps[i]?=some z.cps[i]:=by simp[hi]
  obtain⟨f0,f1,f2,f3,f4,f5⟩:=hf it (by simp);have fin:∀h',h'.IsStrIter it ty z t (i+1)->Heap.SameBut it s.heap h'->∃u,some (Value.str ⟨#[z.cps[i]]⟩ s.toks)=some u/\wpAny (model X.prog X.w) X.A (letOwnedTupleGo tg (.ref it) u) (fun _ s2=> ∃x H',Inv X pins σ H' s2/\RelV x u/\(Its z).yld i H x H'/\(s2.heap.IsStrIter it ty z t (i+1)/\i+1<=z.cps.size)/\∀b∈[it],H' b=none) E {s with heap:=h',toks:=s.toks+1}:=fun h' st' sb=>by have I1:Inv X pins σ H {s with heap:=h',toks:=s.toks+1}:=I.turned (t':=s.toks+1) (fun b o hb e=>(sb.2 b hb).trans e) f0 f1 f3 f4 f5;obtain⟨o,e,c,d⟩:=id st';refine⟨_,rfl,qOj (s:={s with heap:=h',toks:=s.toks+1}) e c d (by rcases hty with rfl|rfl <;> decide) ⟨.str ⟨#[z.cps[i]]⟩,H,I1,⟨_,rfl⟩,⟨rfl,_,hx,rfl⟩,⟨st',hi⟩,fun b hb=>(hf b hb).1⟩⟩
  rcases hty with rfl|rfl
  . exact wpAny_pyNext_ascii_item st.1 hx fin
  . exact wpAny_pyNext_wide_item st.1 hx fin
 done:=by
  intro X hP hw hK hc i pins s σ H E I hf st hg;subst hP hw hK;have hi:z.cps.size<=i:=hg;have hx:z.cps[i]?=none:=by simp[hi]
  obtain⟨f0,f1,f2,f3,f4,f5⟩:=hf it (by simp);rcases hty with rfl|rfl
  . exact wpAny_pyNext_ascii_end (I.ok.hd hc) st.1 hx fun h' eb=>⟨O,I.turned (t':=s.toks) (fun b o hb e=>eb b o hb e) f0 f1 f3 f4 f5⟩
  . exact wpAny_pyNext_wide_end (I.ok.hd hc) st.1 hx fun h' eb=>⟨O,I.turned (t':=s.toks) (fun b o hb e=>eb b o hb e) f0 f1 f3 f4 f5⟩
 self:=fun _ _ _ _ _ st h=>by
  rcases hty with rfl|rfl
  . exact wpAny_pyIter_striter_ascii st.1 h
  . exact wpAny_pyIter_striter_wide st.1 h
def qYj(tl:TE):TI:=fun σ H R=>tl σ H fun x H1=> ∃z,x=.str z/\R (Its z) H1
theorem qVf{tg l:Expr}{tl:TE}(hl:PE X l tl):PI X tg l (qYj tl):=by
 intro pins s σ H R I h;refine thn (hl pins s σ H _ I h) fun v s1 ⟨x,H1,I1,r1,q1⟩=>?_;obtain⟨z,e,q⟩:=q1;subst e;obtain⟨t,rfl⟩:=r1;have key:∀ty:String,(ty="str_ascii_iterator"\/ty="str_iterator")->PIE X pins σ tg R (.ref s1.heap.objs.size) {s1 with heap:=s1.heap.push {cls:=.type ty,data:=.fields #[.str z t,.int 0 0]}}:=fun ty hty=>by
  refine⟨s1.heap.objs.size,[s1.heap.objs.size],_,_,H1,O,I1.kept (t':=s1.toks) fun b o e=>Heap.get?_push_of_some _ e,qO7 _ z t ty hty,⟨⟨_,Heap.get?_push_size _ rfl,O,O⟩,Nat.zero_le _⟩,fun b hb=>?_,q⟩;have e:b=s1.heap.objs.size:=by simpa using hb
  subst e;exact I1.fpOk (Nat.le_refl _) (I1.hok.fresh (Nat.le_refl _))
 cases ha:z.cps.all (· <128)
 . exact wpAny_pyIter_wide ha (key _ (.inr rfl))
 . exact wpAny_pyIter_ascii ha (key _ (.inl rfl))
theorem qQn{z:Str}{js:List Nat}{te:TE}{σ:L2.St}{H:Hp}{Q:VK}(Pv:Nat->List V->Hp->Prop)(h0:Pv 0 [] H)(hl:∀i acc H,i<=z.cps.size->Pv i acc H->acc.length<sizeLine)
 (hs:∀i c acc H,i<z.cps.size->z.cps[i]?=some c->Pv i acc H->te (some (.str ⟨#[c]⟩)::qAi js σ) H fun v H'=>Nxt z.cps.size i (Pv (i+1) (acc++[v]) H')) (hd:∀acc H,Pv z.cps.size acc H->∀D,H D=none->Q (.ref D) (upd H D (.lst acc))):CompEnd js te σ Q (Its z) H:=by
 refine⟨fun i m acc H=>m=z.cps.size-i/\i<=z.cps.size/\Pv i acc H,⟨z.cps.size,by simp,Nat.zero_le _,h0⟩,?_⟩;rintro i m acc H2 ⟨rfl,hi,p⟩;refine⟨hl i acc H2 hi p,?_⟩;by_cases hlt:i<z.cps.size
 . refine .inr ⟨hlt,fun x H3 y=>?_⟩
   obtain⟨e,c,hc,rfl⟩:=y;subst e;exact hs i c acc _ hlt hc p
 . have e:i=z.cps.size:=by omega
   subst e;exact .inl ⟨Nat.le_refl _,hd acc H2 p⟩
end
inductive D where
 |leaf (v:V)
 |tup (xs:List D)
 |lst (xs:List D)
mutual
def Rep(K:PySem.W.Frag)(H:Hp):D->V->Prop
 |.leaf v,x=>x=v/\kj v=true
 |.tup ds,x=> ∃p xs,x=.ref p/\SqT K H p xs/\Reps K H ds xs
 |.lst ds,x=> ∃p xs,x=.ref p/\SqL K H p xs/\Reps K H ds xs
def Reps(K:PySem.W.Frag)(H:Hp):List D->List V->Prop
 |[],[]=>True
 |d::ds,x::xs=>Rep K H d x/\Reps K H ds xs
 |_,_=>False
end
mutual
def eqD:D->D->Bool
 |.leaf v,.leaf w=>eqV v w
 |.tup xs,.tup ys=>wJ xs ys
 |.lst xs,.lst ys=>wJ xs ys
 |_,_=>false
def wJ:List D->List D->Bool
 |[],[]=>true
 |x::xs,y::ys=>eqD x y && wJ xs ys
 |_,_=>false
end
mutual
def dep:D->Nat
 |.leaf _=>0
 |.tup xs=>qC5 xs+1
 |.lst xs=>qC5 xs+1
def qC5:List D->Nat
 |[]=>0
 |x::xs=>max (dep x) (qC5 xs)
end
theorem Reps.length{K:PySem.W.Frag}{H:Hp}:∀{ds:List D} {xs:List V},Reps K H ds xs->ds.length=xs.length
 |[],[],_=>rfl
 |_::_,_::_,h=>by unfold Reps at h;rw[List.length_cons,List.length_cons,h.2.length]
 |[],_::_,h=>by unfold Reps at h;exact h.elim
 |_::_,[],h=>by unfold Reps at h;exact h.elim
theorem qQ0{v:V}(h:kj v=true):eqV v v=true:=by cases v <;> simp_all[kj,eqV]
theorem qDg:∀{xs ys:List D},wJ xs ys=true->xs.length=ys.length
 |[],[],_=>rfl
 |x::xs,y::ys,h=>by unfold wJ at h;rw[Bool.and_eq_true]at h;rw[List.length_cons,List.length_cons,qDg h.2]
 |[],_::_,h=>by simp[wJ]at h
 |_::_,[],h=>by simp[wJ]at h
def itE(xs ys:List D)(j:Nat):Bool:=match xs[j]?,ys[j]? with
 |some a,some b=>eqD a b
 |_,_=>false
theorem qJs:∀(xs ys:List D),((List.range (min xs.length ys.length)).all (itE xs ys) && xs.length==ys.length)=wJ xs ys
 |[],[]=>by simp[wJ]
 |[],y::ys=>by simp[wJ]
 |x::xs,[]=>by simp[wJ]
 |x::xs,y::ys=>by
  have ih:=qJs xs ys;have e:min (x::xs).length (y::ys).length=min xs.length ys.length+1:=by simp only[List.length_cons];omega
  rw[e,List.range_succ_eq_map,List.all_cons,List.all_map];have e2:(itE (x::xs) (y::ys)) ∘ Nat.succ=itE xs ys:=by funext j;simp[itE]
  have e3:itE (x::xs) (y::ys) 0=eqD x y:=by simp[itE]
  have e4:((x::xs).length==(y::ys).length)=(xs.length==ys.length):=by rw[Bool.eq_iff_iff];simp
  rw[e2,e3,e4,Bool.and_assoc,ih]
  conv=>rhs;unfold wJ
theorem qK4{xs ys:List D}(h:xs.length=ys.length):(List.range xs.length).all (itE xs ys)=wJ xs ys:=by have:=qJs xs ys;rw[<-h,Nat.min_self]at this;simpa using this
section
variable{X:Cx}{pins:List (Addr×Obj)}{σ:L2.St}{H:Hp}{s:Shared}
mutual
theorem qGm(I:Inv X pins σ H s):∀(d e:D) {x:V},Rep X.K H d x->Rep X.K H e x->eqD d e=true
 |.leaf v,.leaf w,x,h1,h2=>by unfold Rep at h1 h2;obtain⟨rfl,f⟩:=h1;obtain⟨rfl,_⟩:=h2;unfold eqD;exact qQ0 f
 |.leaf v,.tup ds,x,h1,h2=>by unfold Rep at h1 h2;obtain⟨rfl,f⟩:=h1;obtain⟨p,xs,rfl,_⟩:=h2;cases f
 |.leaf v,.lst ds,x,h1,h2=>by unfold Rep at h1 h2;obtain⟨rfl,f⟩:=h1;obtain⟨p,xs,rfl,_⟩:=h2;cases f
 |.tup ds,.leaf w,x,h1,h2=>by unfold Rep at h1 h2;obtain⟨rfl,f⟩:=h2;obtain⟨p,xs,rfl,_⟩:=h1;cases f
 |.lst ds,.leaf w,x,h1,h2=>by unfold Rep at h1 h2;obtain⟨rfl,f⟩:=h2;obtain⟨p,xs,rfl,_⟩:=h1;cases f
 |.tup ds,.tup es,x,h1,h2=>by unfold Rep at h1 h2;obtain⟨p,xs,rfl,t1,r1⟩:=h1;obtain⟨q,ys,e,t2,r2⟩:=h2;cases e;rw[I.tuple_inj t1 t2]at r1;unfold eqD;exact qDw I ds es r1 r2
 |.lst ds,.lst es,x,h1,h2=>by unfold Rep at h1 h2;obtain⟨p,xs,rfl,t1,r1⟩:=h1;obtain⟨q,ys,e,t2,r2⟩:=h2;cases e;rw[I.list_inj t1 t2]at r1;unfold eqD;exact qDw I ds es r1 r2
 |.tup ds,.lst es,x,h1,h2=>by unfold Rep at h1 h2;obtain⟨p,xs,rfl,t1,r1⟩:=h1;obtain⟨q,ys,e,t2,r2⟩:=h2;cases e;obtain⟨_,_,i1,_⟩:=I.tuple t1;obtain⟨_,_,i2,_⟩:=I.list t2;exact(SeqAt.ne_of_list_tuple i2.isList i1 rfl).elim
 |.lst ds,.tup es,x,h1,h2=>by unfold Rep at h1 h2;obtain⟨p,xs,rfl,t1,r1⟩:=h1;obtain⟨q,ys,e,t2,r2⟩:=h2;cases e;obtain⟨_,_,i1,_⟩:=I.list t1;obtain⟨_,_,i2,_⟩:=I.tuple t2;exact(SeqAt.ne_of_list_tuple i1.isList i2 rfl).elim
theorem qDw(I:Inv X pins σ H s):∀(ds es:List D) {xs:List V},Reps X.K H ds xs->Reps X.K H es xs->wJ ds es=true
 |[],[],_,_,_=>by simp[wJ]
 |d::ds,e::es,[],h1,_=>by unfold Reps at h1;exact h1.elim
 |d::ds,e::es,x::xs,h1,h2=>by unfold Reps at h1 h2;unfold wJ;rw[qGm I d e h1.1 h2.1,qDw I ds es h1.2 h2.2];rfl
 |[],e::es,[],_,h2=>by unfold Reps at h2;exact h2.elim
 |[],e::es,_::_,h1,_=>by unfold Reps at h1;exact h1.elim
 |d::ds,[],[],h1,_=>by unfold Reps at h1;exact h1.elim
 |d::ds,[],_::_,_,h2=>by unfold Reps at h2;exact h2.elim
end
theorem wH{A:Around}{x:V}{u:Value}{p:Addr}{its:Array Value}(f:kj x=true)(r:RelV x u)(hu:A.units<cLine)(h:s.heap.IsTuple p its\/s.heap.IsList p its):SeqAt.EqAt A s u (.ref p) false/\SeqAt.EqAt A s (.ref p) u false:=by
 cases x with
 |non=>cases r;rcases h with h|h <;> exact⟨by first|exact SeqAt.EqAt.none_tuple h hu|exact SeqAt.EqAt.none_list h hu,by first|exact SeqAt.EqAt.tuple_none h hu|exact SeqAt.EqAt.list_none h hu⟩
 |bl b=>cases r;rcases h with h|h <;> exact⟨by first|exact SeqAt.EqAt.bool_tuple _ h hu|exact SeqAt.EqAt.bool_list _ h hu,by first|exact SeqAt.EqAt.tuple_bool _ h hu|exact SeqAt.EqAt.list_bool _ h hu⟩
 |int i=>obtain⟨t,rfl⟩:=r;rcases h with h|h <;> exact⟨by first|exact SeqAt.EqAt.int_tuple _ _ h hu|exact SeqAt.EqAt.int_list _ _ h hu,by first|exact SeqAt.EqAt.tuple_int _ _ h hu|exact SeqAt.EqAt.list_int _ _ h hu⟩
 |str i=>obtain⟨t,rfl⟩:=r;rcases h with h|h <;> exact⟨by first|exact SeqAt.EqAt.str_tuple _ _ h hu|exact SeqAt.EqAt.str_list _ _ h hu,by first|exact SeqAt.EqAt.tuple_str _ _ h hu|exact SeqAt.EqAt.list_str _ _ h hu⟩
 |_=>cases f
theorem Reps.get{K:PySem.W.Frag}{H:Hp}:∀{ds:List D} {xs:List V},Reps K H ds xs->∀(j:Nat) (d:D),ds[j]?=some d->∃x,xs[j]?=some x/\Rep K H d x
 |[],[],_,j,d,e=>by simp at e
 |a::ds,x::xs,h,0,d,e=>by
  unfold Reps at h;have:a=d:=by simpa using e
  subst this;exact⟨x,O,h.1⟩
 |a::ds,x::xs,h,j+1,d,e=>by unfold Reps at h;exact h.2.get j d (by simpa using e)
 |[],_::_,h,_,_,_=>by unfold Reps at h;exact h.elim
 |_::_,[],h,_,_,_=>by unfold Reps at h;exact h.elim
theorem qHf:∀{ds:List D} {j:Nat} {d:D},ds[j]?=some d->dep d<=qC5 ds
 |a::ds,0,d,e=>by
  have:a=d:=by simpa using e
  subst this;unfold qC5;exact Nat.le_max_left _ _
 |a::ds,j+1,d,e=>by have:=qHf (ds:=ds) (j:=j) (d:=d) (by simpa using e);unfold qC5;exact Nat.le_trans this (Nat.le_max_right _ _)
 |[],_,_,e=>by simp at e
theorem qPi{A:Around}{ds es:List D}{xs ys:List V}{us ws:List Value}(r1:Reps X.K H ds xs)(r2:Reps X.K H es ys)(v1:Vals xs us)(v2:Vals ys ws)
 (ih:∀d e x y u w,d∈ds->Rep X.K H d x->Rep X.K H e y->RelV x u->RelV y w->SeqAt.EqAt A s u w (eqD d e)):
 ∀j (h1:j<us.toArray.size) (h2:j<ws.toArray.size),SeqAt.EqAt A s us.toArray[j] ws.toArray[j] (itE ds es j):=by
 intro j h1 h2;have l1:=v1.length;have l2:=v2.length;have m1:=r1.length;have m2:=r2.length;rw[List.size_toArray]at h1 h2;have g1:ds[j]?=some ds[j]:=List.getElem?_eq_getElem (by omega);have g2:es[j]?=some es[j]:=List.getElem?_eq_getElem (by omega);obtain⟨x,ex,rx⟩:=r1.get j _ g1;obtain⟨y,ey,ry⟩:=r2.get j _ g2;obtain⟨u,eu,qu⟩:=v1.get ex;obtain⟨w,ew,qw⟩:=v2.get ey;have c1:us.toArray[j]=u:=by have:=(List.getElem?_eq_some_iff.mp eu).2;simpa using this
 have c2:ws.toArray[j]=w:=by have:=(List.getElem?_eq_some_iff.mp ew).2;simpa using this
 have e:itE ds es j=eqD ds[j] es[j]:=by unfold itE;rw[g1,g2]
 rw[c1,c2,e];exact ih _ _ _ _ _ _ (List.getElem_mem _) rx ry qu qw
theorem qVm(I:Inv X pins σ H s):∀(n:Nat) (A:Around) (d e:D) (x y:V) (u w:Value),dep d<=n->A.units+n<cLine->Rep X.K H d x->Rep X.K H e y->RelV x u->RelV y w->SeqAt.EqAt A s u w (eqD d e):=by
 intro n
 induction n with
 |zero=>
  intro A d e x y u w hd hu r1 r2 q1 q2;cases d with
  |leaf v=>
   unfold Rep at r1;obtain⟨rfl,f1⟩:=r1;cases e with
   |leaf v'=>
    unfold Rep at r2;obtain⟨rfl,f2⟩:=r2;unfold eqD;exact qLl q1 q2 f1 f2
   |tup es=>
    unfold Rep at r2;obtain⟨p,ys,rfl,t,_⟩:=r2;cases q2;obtain⟨_,_,i,_⟩:=I.tuple t;unfold eqD;exact(wH f1 q1 hu (.inl i)).1
   |lst es=>
    unfold Rep at r2;obtain⟨p,ys,rfl,t,_⟩:=r2;cases q2;obtain⟨_,_,i,_⟩:=I.list t;unfold eqD;exact(wH f1 q1 hu (.inr i.isList)).1
  |tup ds=>unfold dep at hd;omega
  |lst ds=>unfold dep at hd;omega
 |succ n ih=>
  intro A d e x y u w hd hu r1 r2 q1 q2;have hu0:A.units<cLine:=by omega
  have hu1:A.in1.units+n<cLine:=by show A.units+1+n<cLine;omega
  cases d with
  |leaf v=>
   unfold Rep at r1;obtain⟨rfl,f1⟩:=r1;cases e with
   |leaf v'=>
    unfold Rep at r2;obtain⟨rfl,f2⟩:=r2;unfold eqD;exact qLl q1 q2 f1 f2
   |tup es=>
    unfold Rep at r2;obtain⟨p,ys,rfl,t,_⟩:=r2;cases q2;obtain⟨_,_,i,_⟩:=I.tuple t;unfold eqD;exact(wH f1 q1 hu0 (.inl i)).1
   |lst es=>
    unfold Rep at r2;obtain⟨p,ys,rfl,t,_⟩:=r2;cases q2;obtain⟨_,_,i,_⟩:=I.list t;unfold eqD;exact(wH f1 q1 hu0 (.inr i.isList)).1
  |tup ds=>
   have r1':=r1;unfold Rep at r1;obtain⟨p,xs,rfl,t1,s1⟩:=r1;cases q1;obtain⟨us,v1,i1,_⟩:=I.tuple t1;cases e with
   |leaf v'=>
    unfold Rep at r2;obtain⟨rfl,f2⟩:=r2;unfold eqD;exact(wH f2 q2 hu0 (.inl i1)).2
   |lst es=>
    unfold Rep at r2;obtain⟨q,ys,rfl,t2,_⟩:=r2;cases q2;obtain⟨_,_,i2,_⟩:=I.list t2;unfold eqD;exact SeqAt.EqAt.tuple_list i1 i2.isList hu0
   |tup es=>
    have r2':=r2;unfold Rep at r2;obtain⟨q,ys,rfl,t2,s2⟩:=r2;cases q2;by_cases pq:p=q
    . subst pq
      rw[qGm I _ _ r1' r2'];exact SeqAt.EqAt.same _
    obtain⟨ws,v2,i2,_⟩:=I.tuple t2;have hdd:qC5 ds<=n:=by unfold dep at hd;omega
    have:=SeqAt.EqAt.of_refs pq (SeqAt.RcAt.tuples i1 i2 hu0 (qPi s1 s2 v1 v2 fun d e x y u w hm ra rb qa qb=>by obtain⟨j,hj,ej⟩:=List.mem_iff_getElem.mp hm;have hde:dep d<=qC5 ds:=qHf (j:=j) (by rw[List.getElem?_eq_getElem hj,ej]);exact ih A.in1 d e x y u w (by omega) hu1 ra rb qa qb))
    rw[List.size_toArray,List.size_toArray,<-v1.length,<-v2.length,<-s1.length,<-s2.length,qJs]at this;unfold eqD;exact this
  |lst ds=>
   have r1':=r1;unfold Rep at r1;obtain⟨p,xs,rfl,t1,s1⟩:=r1;cases q1;obtain⟨us,v1,i1,_⟩:=I.list t1;cases e with
   |leaf v'=>
    unfold Rep at r2;obtain⟨rfl,f2⟩:=r2;unfold eqD;exact(wH f2 q2 hu0 (.inr i1.isList)).2
   |tup es=>
    unfold Rep at r2;obtain⟨q,ys,rfl,t2,_⟩:=r2;cases q2;obtain⟨_,_,i2,_⟩:=I.tuple t2;unfold eqD;exact SeqAt.EqAt.list_tuple i1.isList i2 hu0
   |lst es=>
    have r2':=r2;unfold Rep at r2;obtain⟨q,ys,rfl,t2,s2⟩:=r2;cases q2;by_cases pq:p=q
    . subst pq
      rw[qGm I _ _ r1' r2'];exact SeqAt.EqAt.same _
    obtain⟨ws,v2,i2,_⟩:=I.list t2;have hdd:qC5 ds<=n:=by unfold dep at hd;omega
    unfold eqD;by_cases hl:ds.length=es.length
    . have hsz:us.toArray.size=ws.toArray.size:=by rw[List.size_toArray,List.size_toArray,<-v1.length,<-v2.length,<-s1.length,<-s2.length];exact hl
      have:=SeqAt.EqAt.of_refs pq (SeqAt.RcAt.lists i1.isList i2.isList hsz hu0 (qPi s1 s2 v1 v2 fun d e x y u w hm ra rb qa qb=>by obtain⟨j,hj,ej⟩:=List.mem_iff_getElem.mp hm;have hde:dep d<=qC5 ds:=qHf (j:=j) (by rw[List.getElem?_eq_getElem hj,ej]);exact ih A.in1 d e x y u w (by omega) hu1 ra rb qa qb))
      rw[List.size_toArray,<-v1.length,<-s1.length,qK4 hl]at this;exact this
    . have hsz:(us.toArray.size != ws.toArray.size)=true:=by rw[List.size_toArray,List.size_toArray,<-v1.length,<-v2.length,<-s1.length,<-s2.length];simpa using hl
      have e:wJ ds es=false:=by rw[Bool.eq_false_iff];intro z;exact hl (qDg z)
      rw[e];exact SeqAt.EqAt.of_refs pq (SeqAt.RcAt.lists_lengths i1.isList i2.isList hsz hu0)
def kin:D->D->Bool
 |.tup _,.tup _=>true
 |.lst _,.lst _=>true
 |_,_=>false
inductive qS3(K:PySem.W.Frag)(neg:Bool)(x:V)(y:V)(H:Hp)(Q:VK):Prop
|mk (d e:D) (_:Rep K H d x) (_:Rep K H e y) (_:kin d e=true) (_:dep d<=60) (_:Q (.bl (if neg then !eqD d e else eqD d e)) H)
theorem wI{A:Around}(I:Inv X pins σ H s)(hu:A.units+64<cLine){ds es:List D}{xs ys:List V}{us ws:List Value}(hd:qC5 ds<=60)(s1:Reps X.K H ds xs)(s2:Reps X.K H es ys)(v1:Vals xs us)(v2:Vals ys ws):
 ∀j (h1:j<us.toArray.size) (h2:j<ws.toArray.size),SeqAt.EqAt A.in1 s us.toArray[j] ws.toArray[j] (itE ds es j):=
 qPi s1 s2 v1 v2 fun d e x y u w hm ra rb qa qb=>by obtain⟨j,hj,ej⟩:=List.mem_iff_getElem.mp hm;have hde:dep d<=qC5 ds:=qHf (j:=j) (by rw[List.getElem?_eq_getElem hj,ej]);exact qVm I 60 A.in1 d e x y u w (by omega) (by show A.units+1+60<cLine;omega) ra rb qa qb
theorem qV4(hu:X.A.units+64<cLine):OpR X (compareOp .Eq) (qS3 X.K false):=by
 intro pins s σ H x y v u Q I rx ry h;obtain⟨d,e,r1,r2,hk,hd,q⟩:=h;have hu0:X.A.units<cLine:=by omega
 cases d with
 |leaf a=>cases e <;> cases hk
 |tup ds=>
  cases e with
  |leaf b=>cases hk
  |lst es=>cases hk
  |tup es=>
   unfold Rep at r1 r2;obtain⟨p,xs,rfl,t1,s1⟩:=r1;obtain⟨p',ys,rfl,t2,s2⟩:=r2;cases rx;cases ry;obtain⟨us,v1,i1,_⟩:=I.tuple t1;obtain⟨ws,v2,i2,_⟩:=I.tuple t2;refine SeqAt.eq_tupleAt i1 i2 hu0 (wI I hu (by unfold dep at hd;omega) s1 s2 v1 v2) ?_;rw[List.size_toArray,List.size_toArray,<-v1.length,<-v2.length,<-s1.length,<-s2.length,qJs];refine⟨.bl _,H,I,O,?_⟩;unfold eqD at q;exact q
 |lst ds=>
  cases e with
  |leaf b=>cases hk
  |tup es=>cases hk
  |lst es=>
   unfold Rep at r1 r2;obtain⟨p,xs,rfl,t1,s1⟩:=r1;obtain⟨p',ys,rfl,t2,s2⟩:=r2;cases rx;cases ry;obtain⟨us,v1,i1,_⟩:=I.list t1;obtain⟨ws,v2,i2,_⟩:=I.list t2;unfold eqD at q;by_cases hl:ds.length=es.length
   . have hsz:us.toArray.size=ws.toArray.size:=by rw[List.size_toArray,List.size_toArray,<-v1.length,<-v2.length,<-s1.length,<-s2.length];exact hl
     refine SeqAt.eq_listAt i1.isList i2.isList hsz hu0 (wI I hu (by unfold dep at hd;omega) s1 s2 v1 v2) ?_;rw[List.size_toArray,<-v1.length,<-s1.length,qK4 hl];exact⟨.bl _,H,I,O,q⟩
   . have hsz:(us.toArray.size != ws.toArray.size)=true:=by rw[List.size_toArray,List.size_toArray,<-v1.length,<-v2.length,<-s1.length,<-s2.length];simpa using hl
     have e:wJ ds es=false:=by rw[Bool.eq_false_iff];intro z;exact hl (qDg z)
     rw[e]at q;exact SeqAt.eq_list_lengthsAt i1.isList i2.isList hsz hu0 ⟨.bl _,H,I,O,q⟩
theorem qOa(hu:X.A.units+64<cLine):OpR X (compareOp .NotEq) (qS3 X.K true):=by
 intro pins s σ H x y v u Q I rx ry h;obtain⟨d,e,r1,r2,hk,hd,q⟩:=h;have hu0:X.A.units<cLine:=by omega
 cases d with
 |leaf a=>cases e <;> cases hk
 |tup ds=>
  cases e with
  |leaf b=>cases hk
  |lst es=>cases hk
  |tup es=>
   unfold Rep at r1 r2;obtain⟨p,xs,rfl,t1,s1⟩:=r1;obtain⟨p',ys,rfl,t2,s2⟩:=r2;cases rx;cases ry;obtain⟨us,v1,i1,_⟩:=I.tuple t1;obtain⟨ws,v2,i2,_⟩:=I.tuple t2;refine SeqAt.RcNeAt.tuples i1 i2 hu0 (wI I hu (by unfold dep at hd;omega) s1 s2 v1 v2) _ _ _ _ ?_;rw[List.size_toArray,List.size_toArray,<-v1.length,<-v2.length,<-s1.length,<-s2.length,qJs];refine⟨.bl _,H,I,O,?_⟩;unfold eqD at q;exact q
 |lst ds=>
  cases e with
  |leaf b=>cases hk
  |tup es=>cases hk
  |lst es=>
   unfold Rep at r1 r2;obtain⟨p,xs,rfl,t1,s1⟩:=r1;obtain⟨p',ys,rfl,t2,s2⟩:=r2;cases rx;cases ry;obtain⟨us,v1,i1,_⟩:=I.list t1;obtain⟨ws,v2,i2,_⟩:=I.list t2;unfold eqD at q;by_cases hl:ds.length=es.length
   . have hsz:us.toArray.size=ws.toArray.size:=by rw[List.size_toArray,List.size_toArray,<-v1.length,<-v2.length,<-s1.length,<-s2.length];exact hl
     refine SeqAt.RcNeAt.lists i1.isList i2.isList hsz hu0 (wI I hu (by unfold dep at hd;omega) s1 s2 v1 v2) _ _ _ _ ?_;rw[List.size_toArray,<-v1.length,<-s1.length,qK4 hl];exact⟨.bl _,H,I,O,q⟩
   . have hsz:(us.toArray.size != ws.toArray.size)=true:=by rw[List.size_toArray,List.size_toArray,<-v1.length,<-v2.length,<-s1.length,<-s2.length];simpa using hl
     have e:wJ ds es=false:=by rw[Bool.eq_false_iff];intro z;exact hl (qDg z)
     rw[e]at q;exact SeqAt.RcNeAt.lists_lengths i1.isList i2.isList hsz hu0 _ _ _ _ ⟨.bl _,H,I,O,q⟩
end
end L3
namespace L3
open PySem PySem.Spec PyProof.Rows L2
def CompEndF(js:List Nat)(tc:TT)(te:TE)(σ:L2.St)(Q:VK)(J:It)(H1:Hp):Prop:= ∃W:Nat->Nat->List V->Hp->Prop,(∃m,W 0 m [] H1)/\∀i m acc H2,W i m acc H2->
 acc.length<sizeLine/\((J.stop i H2/\∀D,H2 D=none->Q (.ref D) (upd H2 D (.lst acc)))\/
  (J.go i H2/\∀x H3,J.yld i H2 x H3->tc (some x::qAi js σ) H3 fun ok H4=>if ok=true then te (some x::qAi js σ) H4 fun v H5=> ∃m',m'<m/\W (i+1) m' (acc++[v]) H5 else ∃m',m'<m/\W (i+1) m' acc H4))
def qSm(js:List Nat)(wi:TI)(tc:TT)(te:TE):TE:=fun σ H Q=>wi σ H (CompEndF js tc te σ Q)
theorem CompEndF.g{js:List Nat}{tc:TT}{te:TE}(σ:L2.St)(Q:VK)(J:It)(H1:Hp):CompEndF js tc te σ Q J H1->wC 1 js (vN 0) tc te σ Q J H1:=fun⟨W,w0,st⟩=>
 ⟨W,w0,fun i m acc H2 w=>⟨(st i m acc H2 w).1,(st i m acc H2 w).2.imp id fun⟨go,y⟩=>⟨go,fun x H3 z=>⟨[some x],rfl,rfl,y x H3 z⟩⟩⟩⟩
theorem qHr{X:Cx}{elt iter cnd:Expr}{x:Str}{px:Pos}{scope:Scope}{cl:List (Str×Addr)}{pos:Pos}{wi:TI}{tc:TT}{te:TE}(ys:List Str)(js:List Nat)
 (hcm:X.calm=true) (hi:PI X (.Name x px) iter wi) (hc:∀C s H fp,PT (jQ X scope cl C (x::ys) s H fp).nox cnd tc) (he:∀C s H fp,PE (jQ X scope cl C (x::ys) s H fp).nox elt te) (hx:scope.names.lookup x=some .local:=by rfl) (hC:COk X scope cl iter [x] ys js:=by exact⟨rfl,rfl,rfl,rfl,rfl,rfl,rfl,rfl,fun _=>rfl,by decide⟩):PE X (.ListComp elt [⟨.Name x px,iter,[cnd],0⟩] scope pos) (qSm js wi tc te):=
 qLp (xs:=[x]) (T:=CompEndF js tc te) hcm hi (fun _ _ _ _=>jA (i:=0) hC.nd rfl (.inl (lookup_relabel_local hx)) (.inr (lookup_relabel_local hx))) (fun C s H fp=>qJ6 (hc C s H fp)) he hC CompEndF.g
theorem qQs{X:Cx}{elt iter cnd:Expr}{x:Str}{px:Pos}{scope:Scope}{cl:List (Str×Addr)}{pos:Pos}{wi:TI}{tc:TT}{te:TE}(ys:List Str)(js:List Nat){i:Nat}{y:Str}{py spos:Pos}(hN:X.N.Nodup)(hi':X.N[i]?=some y)(hy:X.env.kindOf y=some .local)
 (hcm:X.calm=true) (hi:PI X (.Name x px) iter wi) (hc:∀C s H fp,PT (jQ X scope cl C (x::ys) s H fp).nox cnd tc) (he:∀C s H fp,PE (jQ X scope cl C (x::ys) s H fp).nox elt te) (hx:scope.names.lookup x=some .local:=by rfl) (hC:COk X scope cl iter [x] ys js:=by exact⟨rfl,rfl,rfl,rfl,rfl,rfl,rfl,rfl,fun _=>rfl,by decide⟩) (hsw:swapsWith (.ListComp elt [⟨.Name x px,iter,[cnd],0⟩] scope pos) (some (.Name y py)) spos.line X.env=pure true:=by rfl):PS X (.Assign [.Name y py] (.ListComp elt [⟨.Name x px,iter,[cnd],0⟩] scope pos) spos) (qS8 (qSm js wi tc te) (vN i)):=
 qGl (xs:=[x]) (T:=CompEndF js tc te) hN hi' hy hcm hi (fun _ _ _ _=>jA (i:=0) hC.nd rfl (.inl (lookup_relabel_local hx)) (.inr (lookup_relabel_local hx))) (fun C s H fp=>qJ6 (hc C s H fp)) he hC CompEndF.g hsw
theorem qBv{K:PySem.W.Frag}{a:Addr}{xs:List V}{js:List Nat}{tc:TT}{te:TE}{σ:L2.St}{H:Hp}{Q:VK}(Pv:Nat->List V->Hp->Prop)(h0:Pv 0 [] H)(hl:∀i acc H,i<=xs.length->Pv i acc H->SqL K H a xs/\acc.length<sizeLine)
 (hs:∀i x acc H,i<xs.length->xs[i]?=some x->Pv i acc H->tc (some x::qAi js σ) H fun ok H'=>if ok=true then te (some x::qAi js σ) H' fun v H''=>Nxt xs.length i (Pv (i+1) (acc++[v]) H'')else Nxt xs.length i (Pv (i+1) acc H')) (hd:∀acc H,Pv xs.length acc H->∀D,H D=none->Q (.ref D) (upd H D (.lst acc))):CompEndF js tc te σ Q (Itl K a) H:=by
 refine⟨fun i m acc H=>m=xs.length-i/\i<=xs.length/\Pv i acc H,⟨xs.length,by simp,Nat.zero_le _,h0⟩,?_⟩;rintro i m acc H2 ⟨rfl,hi,p⟩;obtain⟨q,hz⟩:=hl i acc H2 hi p;refine⟨hz,?_⟩;by_cases hlt:i<xs.length
 . refine .inr ⟨⟨xs,xs[i],q,by simp[hlt]⟩,fun x H3 y=>?_⟩
   obtain⟨e,y⟩:=y;subst e;exact hs i x acc _ hlt (y xs q) p
 . have e:i=xs.length:=by omega
   subst e;exact .inl ⟨⟨xs,q,Nat.le_refl _⟩,hd acc H2 p⟩
theorem qP8(n:Nat):sliceRange (sliceBounds none none (some (-1)) n).1 (sliceBounds none none (some (-1)) n).2.1 (sliceBounds none none (some (-1)) n).2.2=(List.range n).map fun k=>n-1-k:=by
 have e1:(sliceBounds none none (some (-1)) n).1=(n:Int)-1:=by simp[sliceBounds]
 have e2:(sliceBounds none none (some (-1)) n).2.1=-1:=by simp[sliceBounds]
 have e3:(sliceBounds none none (some (-1)) n).2.2=-1:=by simp[sliceBounds]
 rw[e1,e2,e3];unfold sliceRange;have h0:¬((-1:Int)>0):=by decide
 have hc:(if (-1:Int)>0 then (if (n:Int)-1< -1 then (-1-((n:Int)-1)+ -1-1) / -1 else 0)else (if (n:Int)-1> -1 then ((n:Int)-1- -1- -1-1) / (- -1)else 0)).toNat=n:=by
  rw[if_neg h0];by_cases hn:(n:Int)-1> -1
  . rw[if_pos hn]
    have e:(- -1:Int)=1:=by decide
    rw[e,Int.ediv_one];omega
  . rw[if_neg hn]
    omega
 simp only[]at hc⊢;rw[hc];refine List.map_congr_left fun k hk=>?_;have:=List.mem_range.mp hk;omega
theorem qQy(its:List Value):slicePick its.toArray none none (some (-1))=its.reverse.toArray:=by
 unfold slicePick;rw[qP8];congr 1;rw[List.filterMap_map];apply List.ext_getElem?;intro j;have key:∀n,n<=its.length->(List.range n).filterMap ((fun x=>its.toArray[x]?) ∘ fun k=>its.toArray.size-1-k)=its.reverse.take n:=by
  intro n
  induction n with
  |zero=>intro _;simp
  |succ n ih=>
   intro hn;rw[List.range_succ,List.filterMap_append,ih (by omega),List.take_add_one];have hi:its.length-1-n<its.length:=by omega
   have e:its.reverse[n]?=some its[its.length-1-n]:=by rw[List.getElem?_reverse (by omega),List.getElem?_eq_getElem hi]
   rw[e];simp[hi]
 rw[List.size_toArray]at key⊢;rw[key its.length (Nat.le_refl _),List.take_of_length_le (by simp)]
theorem Vals.rev{xs:List V}{us:List Value}(r:Vals xs us):Vals xs.reverse us.reverse:=by
 induction r with
 |nil=>exact .nil
 |cons h t ih=>
  rw[List.reverse_cons,List.reverse_cons];exact ih.append (.cons h .nil)
inductive qXp(K:PySem.W.Frag)(Q:VK)(x:V)(H1:Hp):Prop
|mk a xs (_:x=.ref a) (_:SqL K H1 a xs) (_:∀p,H1 p=none->Q (.ref p) (upd H1 p (.lst xs.reverse)))
def qYx(K:PySem.W.Frag)(te:TE):TE:=fun σ H Q=>te σ H fun x H1=>qXp K Q x H1
theorem qVq{X:Cx}{e:Expr}{te:TE}{j:Nat}{pc pu p2 pos:Pos}(he:PE X e te):PE X (.Subscript e (.Slice none none (some (.UnaryOp .USub (.Constant (.int 1) j pc) pu)) p2) pos) (qYx X.K te):=by intro pins s σ H Q I h;refine Subscript_ (thn (he pins s σ H _ I h) fun v s1 ⟨x,H1,I1,r1,q1⟩=>?_);obtain⟨a,xs,rfl,hx,q⟩:=q1;cases r1;refine wpAny_Slice ?_;rw[evalPart_none];refine wpAny_pure (wpAny_pure ?_);have po:=(zL (X:=X) (qAs (X:=X) (pos:=pu) ze (qG (X:=X) (i:=1) (j:=j) (pos:=pc)))) pins s1 σ H1 (fun i H2=>i=some (-1)/\H2=H1) I1 ⟨1,rfl,-1,rfl,rfl,rfl⟩;refine thn po fun vs s3 h3=>?_;obtain⟨st,H3,I3,ps,rfl,rfl⟩:=h3;have I4:Inv X pins σ H3 {s3 with heap:=s3.heap.push {cls:=.type "slice",data:=.fields #[.none,.none,vs]}}:=I3.kept (t':=s3.toks) fun b ob q=>Heap.get?_push_of_some _ q;obtain⟨its,r,ht,hz⟩:=I4.list hx;have hlen:=r.length;show wpAny (model X.prog X.w) X.A (subscriptTail e (.Slice none none (some (.UnaryOp .USub (.Constant (.int 1) j pc) pu)) p2) (.ref a) (.ref s3.heap.objs.size)) (EP X pins σ Q) X.xe {s3 with heap:=s3.heap.push {cls:=.type "slice",data:=.fields #[.none,.none,vs]}};refine tail_any (ops:=[.ref a,.ref s3.heap.objs.size]) ht.isList.typeIs slot_list_getitem.lookup ?_ (by with_unfolding_all rfl);refine wpAny_getItem_list_slice ht.isList (Heap.IsSliceOf.new ..) .none .none ps (by simp) ?_ (by rw[List.size_toArray] <;> omega);rw[qQy];refine⟨.ref _,_,I4.laid (t':=s3.toks) (o:=.lst xs.reverse) (fun b ob q=>Heap.get?_push_of_some _ q) (Nat.le_refl _) ?_,O,q _ (I4.hok.fresh (Nat.le_refl _))⟩;exact⟨by rw[List.length_reverse];exact hz,_,0,L3.Vals.rev r,Heap.get?_push_size _ rfl⟩
theorem qUa{X:Cx}{pins:List (Addr×Obj)}{σ:L2.St}{H:Hp}{s:Shared}{h':Heap}{t':Nat}{ch:List Addr}(I:Inv X pins σ H s)(hf:∀b∈ch,qR0 X pins H b)
 (k:∀b o,b∉ch->s.heap.get? b=some o->h'.get? b=some o):Inv X pins σ H {s with heap:=h',toks:=t'}:=by
 have nit:∀b u,H b=some u->b∉ch:=fun b u e z=>by rw[(hf b z).1]at e;cases e
 refine I.step (g':=s.gens) (d':=s.drawn) (ch:=ch) (fun b hb=>?_) (fun b o _ _ hc e _=>k b o hc e) (fun b o _ _ hc e _=>⟨o.slots,k b o hc e⟩) (fun _ _ _ _ n=>n)
  (fun b o hc e=>⟨o,k b o hc e⟩) (fun _ _ e=>e) (fun _ _ _ e=>e) (fun b ps e=>⟨#[],by rw[e];simp⟩) (fun m hm=>?_) (fun b u e=>?_) I.bare
 . obtain⟨_,f1,_,f3,f4,f5⟩:=hf b hb
   exact⟨f3,f1,f4,f5⟩
 . obtain⟨o,es,ep,ho,r⟩:=hm
   exact⟨o,es,ep,k _ o (fun z=>(hf _ z).2.1 rfl) ho,r⟩
 . refine(I.hok b u e).stay (fun c v hc q=>k c v ?_ q) (fun _ q=>q) fun _ _ q=>q
   rcases hc with z|z
   . rw[z];exact nit b u e
   . exact nit c _ z
theorem qSb{X:Cx}{pins:List (Addr×Obj)}{σ:L2.St}{H:Hp}{s:Shared}{h':Heap}{t':Nat}{ch:List Addr}{xs:List V}{us:Array Value}(I:Inv X pins σ H s)(hf:∀b∈ch,qR0 X pins H b)(hlt:∀b∈ch,b<s.heap.objs.size)
 (k:∀b o,b∉ch->s.heap.get? b=some o->h'.get? b=some o) (hT:h'.get? s.heap.objs.size=some {cls:=.type "tuple",data:=.seq us}) (r:Vals xs us.toList) (hz:xs.length<=sizeLine):
 Inv X pins σ (upd H s.heap.objs.size (.tup xs)) {s with heap:=h',toks:=t'}/\∀b∈ch,upd H s.heap.objs.size (.tup xs) b=none:=by
 have hn:∀b∈ch,upd H s.heap.objs.size (.tup xs) b=none:=fun b hb=>by rw[qX (Nat.ne_of_lt (hlt b hb))];exact(hf b hb).1
 have I1:Inv X pins σ (upd H s.heap.objs.size (.tup xs)) {s with heap:=s.heap.push {cls:=.type "tuple",data:=.seq us},toks:=t'}:=
  I.laid (t':=t') (fun b o e=>Heap.get?_push_of_some _ e) (Nat.le_refl _) ⟨hz,us.toList,r,⟨_,Heap.get?_push_size _ rfl,rfl,_,rfl⟩⟩
 have I2:=qUa (h':=h') (t':=t') (ch:=ch) I1 (fun b hb=>⟨hn b hb,(hf b hb).2⟩) (fun b o hb e=>?_)
 . exact⟨I2,hn⟩
 rcases Heap.get?_push_cases e with ⟨e1,e2⟩|e1
 . rw[e1,e2];exact hT
 . exact k b o hb e1
def Ite(K:PySem.W.Frag)(a:Addr):It:=
 ⟨fun i H=> ∃xs x,SqL K H a xs/\xs[i]?=some x,fun i H x H'=> ∃p v,H p=none/\x=.ref p/\(∀xs,SqL K H a xs->xs[i]?=some v)/\H'=upd H p (.tup [.int i,v]),fun i H=> ∃xs,SqL K H a xs/\xs.length<=i⟩
theorem qOk{P:Program}{w:World}{K:PySem.W.Frag}{elts:List Expr}{k1:Nat}{pos:Pos}(a e it:Addr)(hne:e≠it):
 qSk P w K (.Tuple elts k1 pos) (Ite K a) [e,it] e (fun i h=>(∃old,IsEnum h e it (i:Nat) old)/\h.IsListIter it a i) where
 mem:=by simp
 obj:=fun i h st b hb=>by
  obtain⟨⟨old,he⟩,o,ho,c,d⟩:=st;rcases List.mem_cons.mp hb with rfl|hb
  . exact⟨_,he,fun v z=>by cases z⟩
  . have e:b=it:=by simpa using hb
    subst e;exact⟨o,ho,fun v z=>by rw[d]at z;cases z⟩
 keep:=fun i h h' st k=>by obtain⟨⟨old,he⟩,hi⟩:=st;exact⟨⟨old,k e (by simp) _ he⟩,hi.at fun o q=>k it (by simp) o q⟩
 item:=by
  intro X hP hw hK hc i pins s σ H E I hf st hg;subst hP hw hK;obtain⟨⟨old,he⟩,hit⟩:=st;obtain⟨xs,x,hq,hx⟩:=hg;obtain⟨its,rv,p,hz⟩:=I.list hq;obtain⟨u,hu,ru⟩:=rv.get hx;refine wpAny_pyNext_enum_item he hit p.isList (x:=u) (by simpa using hu) hne fun h' heo hit' hT hsz hk=>?_;refine⟨_,O,wpAny_letOwnedTupleGo_enum heo fun h'' he'' hs''=>?_⟩;have hel:e<s.heap.objs.size:=Heap.lt_size he;have hil:it<s.heap.objs.size:=by obtain⟨_,q,_⟩:=hit;exact Heap.lt_size q
  have T:=qSb (h':=h'') (t':=s.toks+1) (ch:=[e,it]) (xs:=[.int i,x]) (us:= #[.int i s.toks,u]) I hf (fun b hb=>by
   rcases List.mem_cons.mp hb with rfl|hb
   . exact hel
   . have z:b=it:=by simpa using hb
     subst z;exact hil)
   (fun b o hb q=>(hs''.2 b (fun z=>hb (by simp[z]))).trans (hk b o (fun z=>hb (by simp[z])) (fun z=>hb (by simp[z])) q))
   ((hs''.2 _ (Nat.ne_of_gt hel)).trans hT) (.cons ⟨_,rfl⟩ (.cons ru .nil)) (by show 2<=sizeLine;decide)
  refine⟨.ref s.heap.objs.size,_,T.1,O,⟨_,x,I.hok.fresh (Nat.le_refl _),O,fun ys hy=>by rw[I.list_inj hy hq];exact hx,O⟩,⟨⟨u,by simpa using he''⟩,hit'.at fun o q=>(hs''.2 it hne.symm).trans q⟩,T.2⟩
 done:=by intro X hP hw hK hc i pins s σ H E I hf st hg;subst hP hw hK;obtain⟨⟨old,he⟩,hit⟩:=st;obtain⟨xs,hq,hx⟩:=hg;obtain⟨its,rv,p,hz⟩:=I.list hq;obtain⟨f0,f1,f2,f3,f4,f5⟩:=hf it (by simp);have hl:=rv.length;exact wpAny_pyNext_enum_end (I.ok.hd hc) he hit p.isList (by simp;omega) fun h' eb=>⟨O,I.turned (t':=s.toks) (fun b o hb e=>eb b o hb e) f0 f1 f3 f4 f5⟩
 self:=fun _ _ _ _ _ st h=>by obtain⟨⟨old,he⟩,_⟩:=st;exact wpAny_pyIter_enum he h
inductive qVb(K:PySem.W.Frag)(R:It->Hp->Prop)(vs:List V)(H1:Hp):Prop
|mk a (_:vs=[.ref a]) (_:(∃xs,SqL K H1 a xs)) (_:R (Ite K a) H1)
def qXb(K:PySem.W.Frag)(t:TA):TI:=fun σ H R=>t σ H fun vs H1=>qVb K R vs H1
theorem qN9{X:Cx}{l:Expr}{tl:TA}{elts:List Expr}{k1:Nat}{tpos p pos:Pos}(hg:Gl X "enumerate")(hm:X.mg "enumerate"=none)(hl:PA X [l] tl)(hs:starEach [l] X.env=[(false,eval l X.env)]:=by rfl):
 PI X (.Tuple elts k1 tpos) (.Call (.Name "enumerate" p) [l] [] pos) (qXb X.K tl):=by
 intro pins s σ H R I h;refine Call_ (qHv I hg hm boot_enumerate (PyProof.Rows.callWith_type1 (thn (hl pos pins s σ H _ I h) fun us s1 ⟨vs,H1,I1,r1,q1⟩=>?_) hs rfl));obtain⟨a,e,⟨xs,hq⟩,q⟩:=q1;subst e;cases r1 with
 |cons r rr=>
  cases rr;cases r;obtain⟨its,rv,pl,hz⟩:=I1.list hq;refine call_enumerate_list pl.isList fun h' he hit hsz hk=>?_;refine wpAny_pyIter_enum he ?_;refine⟨s1.heap.objs.size+1,[s1.heap.objs.size+1,s1.heap.objs.size],_,_,H1,O,I1.kept (t':=s1.toks) fun b o e=>hk b o e,qOk a _ _ (Nat.succ_ne_self _),⟨⟨_,he⟩,hit⟩,fun b hb=>?_,q⟩;rcases List.mem_cons.mp hb with rfl|hb
  . exact I1.fpOk (Nat.le_succ _) (I1.hok.fresh (Nat.le_succ _))
  . have e:b=s1.heap.objs.size:=by simpa using hb
    subst e;exact I1.fpOk (Nat.le_refl _) (I1.hok.fresh (Nat.le_refl _))
theorem qRi{K:PySem.W.Frag}{a:Addr}{xs:List V}{g:TG}{tb:TS}{D:qMm}{σ:L2.St}{H:Hp}(Pv:Nat->L2.St->Hp->Prop)(h0:Pv 0 σ H)(hl:∀i σ H,i<=xs.length->Pv i σ H->SqL K H a xs)
 (hs:∀i x σ H p,xs[i]?=some x->Pv i σ H->H p=none->g (.ref p) σ (upd H p (.tup [.int i,x])) fun σ2 H2=>tb {D with nx:=Pv (i+1),ct:=Pv (i+1),bk:=D.nx} σ2 H2) (hd:∀σ H,Pv xs.length σ H->D.nx σ H):
 ∃W:Nat->Nat->L2.St->Hp->Prop,(∃m,W 0 m σ H)/\∀i m σ H,W i m σ H->
  ((Ite K a).stop i H/\D.nx σ H)\/((Ite K a).go i H/\∃N:L2.St->Hp->Prop,(∀σ' H',N σ' H'->∃m',m'<m/\W (i+1) m' σ' H')/\∀x H',(Ite K a).yld i H x H'->g x σ H' fun σ2 H2=>tb {D with nx:=N,ct:=N,bk:=D.nx} σ2 H2):=by
 refine⟨fun i m σ H=>m=xs.length-i/\i<=xs.length/\Pv i σ H,⟨xs.length,by simp,Nat.zero_le _,h0⟩,?_⟩;rintro i m σ H ⟨rfl,hi,p⟩;have q:=hl i σ H hi p;by_cases hlt:i<xs.length
 . refine .inr ⟨⟨xs,xs[i],q,by simp[hlt]⟩,Pv (i+1),fun σ' H' p'=>⟨xs.length-(i+1),by omega,O,hlt,p'⟩,fun x H' y=>?_⟩
   obtain⟨z,v,hz,rfl,y,rfl⟩:=y;exact hs i v σ _ z (y xs q) p hz
 . have e:i=xs.length:=by omega
   subst e;exact .inl ⟨⟨xs,q,Nat.le_refl _⟩,hd σ H p⟩
theorem qPh:∀{ns:List Int} {us:List Value},Vals (ns.map V.int) us->∃xs:List (Int×Tok),us.toArray=intItems xs.toArray/\xs.map (·.1)=ns
 |[],us,r=>by cases r;exact⟨[],by simp[intItems],rfl⟩
 |n::ns,us,r=>by
  rw[List.map_cons]at r;cases r with
  |cons h t=>
   obtain⟨xs,e1,e2⟩:=qPh t;obtain⟨tk,rfl⟩:=h;refine⟨(n,tk)::xs,?_,by rw[List.map_cons,e2]⟩;have e3:=congrArg Array.toList e1;simp only[intItems,List.map_toArray]at e3⊢;rw[e3];rfl
theorem qN8{X:Cx}(hc:X.calm=true):wc X (.builtin "sum") (fun xs H Q=> ∃(p:Addr) (ns:List Int),xs=[.ref p]/\SqL X.K H p (ns.map V.int)/\Q (.int ns.sum) H):=by
 intro pins s σ H xs us Q I r h;obtain⟨p,ns,rfl,hq,q⟩:=h;obtain⟨u,rfl,rx⟩:=qJl r;cases rx;obtain⟨its,rv,pl,hz⟩:=I.list hq;obtain⟨ys,e1,e2⟩:=qPh rv;have pl':=pl.isList;rw[e1]at pl';refine sum_intListG (I.ok.hd hc) pl' fun h' tk t' hk=>?_;rw[preSum_eq,List.take_of_length_le (by simp)];have e3:ys.toArray.toList.map (·.1)=ns:=by simpa using e2
 rw[e3];exact⟨.int ns.sum,H,I.kept fun b o e=>hk b o e,⟨_,O⟩,q⟩
def qY3(t:TT):TT:=fun σ H Q=> ∃R:Bool->Hp->Prop,t σ H R/\∀b H',R b H'->Q b H'
theorem qF6{X:Cx}{e:Expr}{t:TT}(h:PT X e t):PT X e (qY3 t):=by rintro pins s σ H Q I ⟨R,ht,hR⟩;exact thn (h pins s σ H R I ht) fun b s' ⟨H',I',r⟩=>⟨H',I',hR b H' r⟩
def CompEndP(K:PySem.W.Frag)(js:List Nat)(tc:TT)(te:TE)(σ:L2.St)(Q:VK)(J:It)(H1:Hp):Prop:= ∃W:Nat->Nat->List V->Hp->Prop,(∃m,W 0 m [] H1)/\∀i m acc H2,W i m acc H2->
 acc.length<sizeLine/\((J.stop i H2/\∀D,H2 D=none->Q (.ref D) (upd H2 D (.lst acc)))\/
  (J.go i H2/\∀x H3,J.yld i H2 x H3->∃p va vb,x=.ref p/\SqT K H3 p [va,vb]/\tc (some va::some vb::qAi js σ) H3 fun ok H4=>if ok=true then te (some va::some vb::qAi js σ) H4 fun v H5=> ∃m',m'<m/\W (i+1) m' (acc++[v]) H5 else ∃m',m'<m/\W (i+1) m' acc H4))
def qUn(K:PySem.W.Frag)(js:List Nat)(wi:TI)(tc:TT)(te:TE):TE:=fun σ H Q=>wi σ H (CompEndP K js tc te σ Q)
theorem CompEndP.g{K:PySem.W.Frag}{js:List Nat}{tc:TT}{te:TE}(σ:L2.St)(Q:VK)(J:It)(H1:Hp):CompEndP K js tc te σ Q J H1->wC 2 js (qWd K 2 (qFq (vN 0) (qFq (vN 1) qWg))) tc te σ Q J H1:=fun⟨W,w0,st⟩=>
 ⟨W,w0,fun i m acc H2 w=>⟨(st i m acc H2 w).1,(st i m acc H2 w).2.imp id fun⟨go,y⟩=>⟨go,fun x H3 z=>let ⟨p,va,vb,e,q,r⟩:=y x H3 z;⟨p,_,e,q,rfl,va,_,rfl,vb,_,rfl,rfl,[some va,some vb],rfl,rfl,r⟩⟩⟩⟩
theorem qTo{X:Cx}{scope:Scope}{cl:List (Str×Addr)}{x1 x2:Str}{px1 px2:Pos}{tk:Nat}{tpos:Pos}{ys:List Str}(hcm:X.calm=true)(hnd:([x1,x2]++ys).Nodup)(hx1:scope.names.lookup x1=some .local)(hx2:scope.names.lookup x2=some .local)(C:Addr)(s:Shared)(H:Hp)(fp:List Addr):PG (jQ X scope cl C ([x1,x2]++ys) s H fp).nox (.Tuple [.Name x1 px1,.Name x2 px2] tk tpos) (qWd X.K 2 (qFq (vN 0) (qFq (vN 1) qWg))):=
 qMo (X:=(jQ X scope cl C ([x1,x2]++ys) s H fp).nox) hcm (zZ (jA (i:=0) hnd rfl (.inl (lookup_relabel_local hx1)) (.inr (lookup_relabel_local hx1))) (zZ (jA (i:=1) hnd rfl (.inl (lookup_relabel_local hx2)) (.inr (lookup_relabel_local hx2))) qHs))
theorem qQ2{X:Cx}{elt iter cnd:Expr}{x1 x2:Str}{px1 px2:Pos}{tk:Nat}{tpos:Pos}{scope:Scope}{cl:List (Str×Addr)}{pos:Pos}{wi:TI}{tc:TT}{te:TE}(ys:List Str)(js:List Nat){i:Nat}{y:Str}{py spos:Pos}(hN:X.N.Nodup)(hi':X.N[i]?=some y)(hy:X.env.kindOf y=some .local)
 (hcm:X.calm=true) (hi:PI X (.Tuple [.Name x1 px1,.Name x2 px2] tk tpos) iter wi) (hc:∀C s H fp,PT (jQ X scope cl C (x1::x2::ys) s H fp).nox cnd tc) (he:∀C s H fp,PE (jQ X scope cl C (x1::x2::ys) s H fp).nox elt te) (hx1:scope.names.lookup x1=some .local:=by rfl) (hx2:scope.names.lookup x2=some .local:=by rfl) (hC:COk X scope cl iter [x1,x2] ys js:=by exact⟨rfl,rfl,rfl,rfl,rfl,rfl,rfl,rfl,fun _=>rfl,by decide⟩) (hsw:swapsWith (.ListComp elt [⟨.Tuple [.Name x1 px1,.Name x2 px2] tk tpos,iter,[cnd],0⟩] scope pos) (some (.Name y py)) spos.line X.env=pure true:=by rfl):PS X (.Assign [.Name y py] (.ListComp elt [⟨.Tuple [.Name x1 px1,.Name x2 px2] tk tpos,iter,[cnd],0⟩] scope pos) spos) (qS8 (qUn X.K js wi tc te) (vN i)):=
 qGl (xs:=[x1,x2]) (T:=CompEndP X.K js tc te) hN hi' hy hcm hi (qTo hcm hC.nd hx1 hx2) (fun C s H fp=>qJ6 (hc C s H fp)) he hC CompEndP.g hsw
theorem qMv{K:PySem.W.Frag}{a:Addr}{xs:List V}{js:List Nat}{tc:TT}{te:TE}{σ:L2.St}{H:Hp}{Q:VK}(Pv:Nat->List V->Hp->Prop)(h0:Pv 0 [] H)(hl:∀i acc H,i<=xs.length->Pv i acc H->SqL K H a xs/\acc.length<sizeLine)
 (hs:∀i x acc H p,i<xs.length->xs[i]?=some x->Pv i acc H->H p=none->tc (some (.int i)::some x::qAi js σ) (upd H p (.tup [.int i,x])) fun ok H'=>if ok=true then te (some (.int i)::some x::qAi js σ) H' fun v H''=>Nxt xs.length i (Pv (i+1) (acc++[v]) H'')else Nxt xs.length i (Pv (i+1) acc H')) (hd:∀acc H,Pv xs.length acc H->∀D,H D=none->Q (.ref D) (upd H D (.lst acc))):CompEndP K js tc te σ Q (Ite K a) H:=by
 refine⟨fun i m acc H=>m=xs.length-i/\i<=xs.length/\Pv i acc H,⟨xs.length,by simp,Nat.zero_le _,h0⟩,?_⟩;rintro i m acc H2 ⟨rfl,hi,p⟩;obtain⟨q,hz⟩:=hl i acc H2 hi p;refine⟨hz,?_⟩;by_cases hlt:i<xs.length
 . refine .inr ⟨⟨xs,xs[i],q,by simp[hlt]⟩,fun x H3 y=>?_⟩
   obtain⟨z,v,hz,rfl,y,rfl⟩:=y;exact⟨z,_,_,O,SqT.of qD,hs i v acc _ z hlt (y xs q) p hz⟩
 . have e:i=xs.length:=by omega
   subst e;exact .inl ⟨⟨xs,q,Nat.le_refl _⟩,hd acc H2 p⟩
theorem qVi{X:Cx}{pins:List (Addr×Obj)}{σ:L2.St}{H:Hp}{s:Shared}{d:Addr}{kvs:List (Key×V)}{o:Obj}(I:Inv X pins σ H s)(e:H d=some (.dK kvs))(ho:s.heap.get? d=some o):
 Inv X pins σ (upd H d (.frz o (.dK kvs))) s:=by
 have ne:∀b u,H b=some u->u≠ .dK kvs->b≠d:=fun b u h hu z=>by subst z;rw[e]at h;exact hu (Option.some.inj h).symm
 refine I.step (g':=s.gens) (d':=s.drawn) (t':=s.toks) (h':=s.heap) (ch:=[]) (fun _ z=>nomatch z) (fun b o _ _ _ h _=>h) (fun b o _ _ _ h _=>⟨o.slots,h⟩) (fun b ob _ h n=>?_) (fun b o _ h=>⟨o,h⟩) (fun b xs h=>?_) (fun b ob u h=>?_) (fun b ps h=>?_) (fun m hm=>hm) (fun b u h=>?_) I.bare
 . rw[qX (fun z=>by subst z;rw[e]at n;cases n)];exact n
 . rw[qX (ne b _ h (by intro z;cases z))];exact h
 . rw[qX (ne b _ h (by intro z;cases z))];exact h
 . exact⟨#[],by rw[qX (ne b _ h (by intro z;cases z)),h];simp⟩
 . by_cases hb:b=d
   . subst hb
     rw[qD]at h;cases h;exact⟨ho,I.hok _ _ e⟩
   . rw[qX hb]at h
     exact(I.hok b u h).stay (fun c v _ q=>q) (fun c q=>by rw[qX (ne c _ q (by intro z;cases z))];exact q) fun c xs q=>by rw[qX (ne c _ q (by intro z;cases z))];exact q
theorem qOo{k:Key}{v:Value}(h:qLi k v=true):RelV (kV k) v:=by
 rcases jZ h with ⟨i,t,rfl,rfl⟩|⟨x,t,rfl,rfl⟩
 . exact⟨t,O⟩
 . exact⟨t,O⟩
theorem KV.get{κ:Type}{kvs:List (κ×V)}{vs:List (κ×Value)}(r:KV kvs vs){i:Nat}{k:κ}{v:V}(h:kvs[i]?=some (k,v)):∃u,vs[i]?=some (k,u)/\RelV v u:=by
 induction r generalizing i with
 |nil=>simp at h
 | @cons p q ps qs hpq _ ih=>
  cases i with
  |zero=>
   have e:p=(k,v):=by simpa using h
   subst e;obtain⟨k',u⟩:=q;have e:k=k':=hpq.1;subst e;exact⟨u,O,hpq.2⟩
  |succ i=>exact ih (by simpa using h)
theorem qSo{κ:Type}{kvs:List (κ×V)}{vs:List (κ×Value)}(r:KV kvs vs):kvs.length=vs.length:=Paired.length r
def Itd(d:Addr)(o:Obj)(kvs:List (Key×V)):It:=
 ⟨fun i H=>H d=some (.frz o (.dK kvs))/\i<kvs.length,fun i H x H'=> ∃p k v,H p=none/\kvs[i]?=some (k,v)/\x=.ref p/\H'=upd H p (.tup [kV k,v]),fun i H=>H d=some (.frz o (.dK kvs))/\kvs.length<=i⟩
def Itk(d:Addr)(o:Obj)(kvs:List (Key×V)):It:=
 ⟨fun i H=>H d=some (.frz o (.dK kvs))/\i<kvs.length,fun i H x H'=> ∃k v,kvs[i]?=some (k,v)/\x=kV k/\H'=H,fun i H=>H d=some (.frz o (.dK kvs))/\kvs.length<=i⟩
theorem qM8:entryFor table "dict_itemiterator.__iter__"=some Builtin.«dict_keyiterator.__iter__»:=by
 refine entryFor_alias (id':="dict_keyiterator.__iter__") ?_ ?_ ?_ ?_
 . kernel_rfl
 . first
    |rfl
    |decide+kernel
    |(unfold String.splitOn
      simp+decide [String.splitOnAux])
 . decide+kernel
 . kernel_rfl
section
variable{P:Program}{w:World}{K:PySem.W.Frag}
theorem qNf{elts:List Expr}{k1:Nat}{pos:Pos}{d it:Addr}{o:Obj}{kvs:List (Key×V)}{vs:List (Key×Value)}{ep:Nat}(r:KV kvs vs)(hD:∀h:Heap,h.get? d=some o->h.DictAt (jP P w) d vs ep):
 qSk P w K (.Tuple elts k1 pos) (Itd d o kvs) [it] it (fun i h=> ∃ok ov,IsItemIter h it d i vs.length ep ok ov) where
 mem:=by simp
 obj:=fun i h st b hb=>by
  obtain⟨ok,ov,e⟩:=st;have z:b=it:=by simpa using hb
  subst z;exact⟨_,e,fun v z=>by cases z⟩
 keep:=fun i h h' st k=>by obtain⟨ok,ov,e⟩:=st;exact⟨ok,ov,k it (by simp) _ e⟩
 item:=by
  intro X hP hw hK hc i pins s σ H E I hf st hg;subst hP hw hK;obtain⟨ok,ov,hit⟩:=st;obtain⟨hH,hi⟩:=hg;have hd:s.heap.get? d=some o:=(show s.heap.get? d=some o/\_ from I.hok d _ hH).1;have ex:kvs[i]?=some (kvs[i].1,kvs[i].2):=by rw[List.getElem?_eq_getElem hi]
  obtain⟨u,hu,ru⟩:=KV.get r ex;refine wpAny_pyNext_items_item hit (hD _ hd) hu fun key h' hk hit' hT hsz hkp=>?_;refine⟨_,O,wpAny_letOwnedTupleGo_items hit' fun h'' he'' hs''=>?_⟩;have hil:it<s.heap.objs.size:=Heap.lt_size hit;have T:=qSb (h':=h'') (t':=s.toks) (ch:=[it]) (xs:=[kV kvs[i].1,kvs[i].2]) (us:= #[key,u]) I hf (fun b hb=>by
   have z:b=it:=by simpa using hb
   subst z;exact hil)
   (fun b ob hb q=>(hs''.2 b (fun z=>hb (by simp[z]))).trans (hkp b ob (fun z=>hb (by simp[z])) q))
   ((hs''.2 _ (Nat.ne_of_gt hil)).trans hT) (.cons (qOo hk) (.cons ru .nil)) (by show 2<=sizeLine;decide)
  exact⟨.ref s.heap.objs.size,_,T.1,O,⟨_,_,_,I.hok.fresh (Nat.le_refl _),ex,O,O⟩,⟨_,_,he''⟩,T.2⟩
 done:=by intro X hP hw hK hc i pins s σ H E I hf st hg;subst hP hw hK;obtain⟨ok,ov,hit⟩:=st;obtain⟨hH,hi⟩:=hg;have hd:s.heap.get? d=some o:=(show s.heap.get? d=some o/\_ from I.hok d _ hH).1;obtain⟨f0,f1,f2,f3,f4,f5⟩:=hf it (by simp);have hl:=qSo r;exact wpAny_pyNext_items_end (I.ok.hd hc) hit (hD _ hd) (by simp;omega) fun h' eb=>⟨O,I.turned (t':=s.toks) (fun b o hb e=>eb b o hb e) f0 f1 f3 f4 f5⟩
 self:=fun _ _ s' _ _ st h=>by obtain⟨ok,ov,hit⟩:=st;have hT:s'.TypeIs (.ref it) "dict_itemiterator":=⟨_,hit,rfl⟩;refine wpAny_pyIter_slot hT F.slot_dict_itemiterator_iter (wpAny_call_entry F.slot_dict_itemiterator_iter hT qM8 ?_ (F.args_dict_itemiterator_iter_1 _));exact wpAny_pure ⟨_,O,"dict_itemiterator",_,hT,F.slot_dict_itemiterator_next.lookup,h⟩
theorem qOm{tg:Expr}{d it:Addr}{o:Obj}{kvs:List (Key×V)}{vs:List (Key×Value)}{ep:Nat}(r:KV kvs vs)(hD:∀h:Heap,h.get? d=some o->h.DictAt (jP P w) d vs ep):
 qSk P w K tg (Itk d o kvs) [it] it (fun i h=>h.IsKeyIter it d i vs.length ep) where
 mem:=by simp
 obj:=fun i h st b hb=>by
  obtain⟨ob,e,_,q⟩:=st;have z:b=it:=by simpa using hb
  subst z;exact⟨_,e,fun v z=>by rw[q]at z;cases z⟩
 keep:=fun i h h' st k=>by obtain⟨ob,e,q⟩:=st;exact⟨ob,k it (by simp) _ e,q⟩
 item:=by
  intro X hP hw hK hc i pins s σ H E I hf st hg;subst hP hw hK;obtain⟨hH,hi⟩:=hg;have hd:s.heap.get? d=some o:=(show s.heap.get? d=some o/\_ from I.hok d _ hH).1;have ex:kvs[i]?=some (kvs[i].1,kvs[i].2):=by rw[List.getElem?_eq_getElem hi]
  obtain⟨u,hu,ru⟩:=KV.get r ex;obtain⟨f0,f1,f2,f3,f4,f5⟩:=hf it (by simp);refine wpAny_pyNext_dict_item st (hD _ hd) hu fun key h' hk st' sb=>?_;have I1:Inv X pins σ H {s with heap:=h'}:=I.turned (t':=s.toks) (fun b o hb e=>(sb.2 b hb).trans e) f0 f1 f3 f4 f5;obtain⟨ob,e,c,q⟩:=id st';exact⟨key,O,qOj (s:={s with heap:=h'}) e c q (by decide) ⟨kV kvs[i].1,H,I1,qOo hk,⟨_,_,ex,O,O⟩,st',fun b hb=>(hf b hb).1⟩⟩
 done:=by intro X hP hw hK hc i pins s σ H E I hf st hg;subst hP hw hK;obtain⟨hH,hi⟩:=hg;have hd:s.heap.get? d=some o:=(show s.heap.get? d=some o/\_ from I.hok d _ hH).1;obtain⟨f0,f1,f2,f3,f4,f5⟩:=hf it (by simp);have hl:=qSo r;exact wpAny_pyNext_dict_end (I.ok.hd hc) st (hD _ hd) (by simp;omega) fun h' eb=>⟨O,I.turned (t':=s.toks) (fun b o hb e=>eb b o hb e) f0 f1 f3 f4 f5⟩
 self:=fun _ _ _ _ _ st h=>wpAny_pyIter_keyiter st h
end
def Frz(H:Hp)(d:Addr)(kvs:List (Key×V))(R:Obj->Hp->Prop):Prop:=(∃o,H d=some (.frz o (.dK kvs))/\R o H)\/(H d=some (.dK kvs)/\∀o,R o (upd H d (.frz o (.dK kvs))))
theorem qSa{X:Cx}{pins:List (Addr×Obj)}{σ:L2.St}{H:Hp}{s:Shared}{d:Addr}{kvs:List (Key×V)}{R:Obj->Hp->Prop}(I:Inv X pins σ H s)(h:Frz H d kvs R):
 ∃(o:Obj) (vs:List (Key×Value)) (ep:Nat) (H':Hp),Inv X pins σ H' s/\R o H'/\H' d=some (.frz o (.dK kvs))/\KV kvs vs/\(d==sysModules)=false/\∀h':Heap,h'.get? d=some o->h'.DictAt (jP X.prog X.w) d vs ep:=by
 rcases h with ⟨o,e,q⟩|⟨e,q⟩
 . obtain⟨ho,_,hs,vs,r,o',es,ep,ho',rest⟩:=(show s.heap.get? d=some o/\kvs.length<=sizeLine/\(d==sysModules)=false/\∃vs,KV kvs vs/\s.heap.DictOf (jP X.prog X.w) d vs from I.hok d _ e)
   rw[ho]at ho';cases ho';exact⟨o,vs,ep,H,I,q,e,r,hs,fun h' hh=>⟨o,es,hh,rest⟩⟩
 . obtain⟨_,hs,vs,r,o,es,ep,ho,rest⟩:=(show kvs.length<=sizeLine/\(d==sysModules)=false/\∃vs,KV kvs vs/\s.heap.DictOf (jP X.prog X.w) d vs from I.hok d _ e)
   exact⟨o,vs,ep,_,qVi I e ho,q o,qD,r,hs,fun h' hh=>⟨o,es,hh,rest⟩⟩
def qVt(td:TE):TI:=fun σ H R=>td σ H fun x H1=> ∃d kvs,x=.ref d/\Frz H1 d kvs fun o H2=>R (Itd d o kvs) H2
theorem qL5{X:Cx}{e:Expr}{td:TE}{elts:List Expr}{k1:Nat}{tpos apos cpos:Pos}(he:PE X e td)
 (hbase:attributeBase e "items" X.env (eval e X.env)=eval e X.env:=by rfl) (hline:(apos.endLine==cpos.line)=true:=by rfl):
 PI X (.Tuple elts k1 tpos) (.Call (.Attribute e "items" apos) [] [] cpos) (qVt td):=by
 intro pins s σ H R I h;refine wpAny_Call_method0_late hbase hline (thn (he pins s σ H _ I h) fun v s1 ⟨x,H1,I1,r1,d,kvs,ex,fz⟩=>?_);subst ex;cases r1;obtain⟨o,vs,ep,H2,I2,q,hd,r,hs,hD⟩:=qSa I1 fz;have hg:s1.heap.get? d=some o:=(show s1.heap.get? d=some o/\_ from I2.hok d _ hd).1;have hA:=hD _ hg;have hT:s1.TypeIs (.ref d) "dict":=hA.dictOf.typeIs;refine⟨"dict","dict.items",F.plainAttrs_dict,F.slot_dict_items,F.type_dict_items,hT,fun a ea=>?_,Calls.callWith_builtin rfl (PySem.evalArgs_none ?_)⟩
 . cases ea
   obtain⟨o',es,e1,ex,_⟩:=hA;exact⟨o',e1,ex.2.1⟩
 refine call_meetsIn F.slot_dict_items hT F.entry_dict_items (F.args_dict_items_1 _) (meets_dict_items (jP X.prog X.w) d hs) ⟨⟨vs,hA.dictOf⟩,?_⟩;have hA2:=hD (s1.heap.push {cls:=.type "dict_items",data:=.fields #[.ref d]}) (Heap.get?_push_of_some _ hg);refine wpAny_pyIter_items (knd:=jP X.prog X.w) ⟨_,Heap.get?_push_size _ rfl,O,O⟩ hA2 ?_;have I3:Inv X pins σ H2 {s1 with heap:=s1.heap.push {cls:=.type "dict_items",data:=.fields #[.ref d]}}:=I2.kept (t':=s1.toks) fun b ob e=>Heap.get?_push_of_some _ e;refine⟨(s1.heap.push {cls:=.type "dict_items",data:=.fields #[.ref d]}).objs.size,[(s1.heap.push {cls:=.type "dict_items",data:=.fields #[.ref d]}).objs.size],_,_,H2,O,I3.kept (t':=s1.toks) fun b ob e=>Heap.get?_push_of_some _ e,qNf r hD,⟨_,_,Heap.get?_push_size _ rfl⟩,fun b hb=>?_,q⟩;have e:b=(s1.heap.push {cls:=.type "dict_items",data:=.fields #[.ref d]}).objs.size:=by simpa using hb
 subst e;exact I3.fpOk (Nat.le_refl _) (I3.hok.fresh (Nat.le_refl _))
def qX4(td:TE):TI:=fun σ H R=>td σ H fun x H1=> ∃d kvs,x=.ref d/\Frz H1 d kvs fun o H2=>R (Itk d o kvs) H2
theorem qTr{X:Cx}{e tg:Expr}{td:TE}(he:PE X e td):PI X tg e (qX4 td):=by
 intro pins s σ H R I h;refine thn (he pins s σ H _ I h) fun v s1 ⟨x,H1,I1,r1,d,kvs,ex,fz⟩=>?_;subst ex;cases r1;obtain⟨o,vs,ep,H2,I2,q,hd,r,hs,hD⟩:=qSa I1 fz;have hg:s1.heap.get? d=some o:=(show s1.heap.get? d=some o/\_ from I2.hok d _ hd).1;refine wpAny_pyIter_dict (knd:=jP X.prog X.w) hs (hD _ hg) ?_;refine⟨s1.heap.objs.size,[s1.heap.objs.size],_,_,H2,O,I2.kept (t':=s1.toks) fun b ob e=>Heap.get?_push_of_some _ e,qOm r hD,⟨_,Heap.get?_push_size _ rfl,O,O⟩,fun b hb=>?_,q⟩;have e:b=s1.heap.objs.size:=by simpa using hb
 subst e;exact I2.fpOk (Nat.le_refl _) (I2.hok.fresh (Nat.le_refl _))
theorem qI8{d:Addr}{o:Obj}{kvs:List (Key×V)}{g:TG}{tb:TS}{D:qMm}{σ:L2.St}{H:Hp}(Pv:Nat->L2.St->Hp->Prop)(h0:Pv 0 σ H)(hl:∀i σ H,i<=kvs.length->Pv i σ H->H d=some (.frz o (.dK kvs)))
 (hs:∀i k v σ H p,kvs[i]?=some (k,v)->Pv i σ H->H p=none->g (.ref p) σ (upd H p (.tup [kV k,v])) fun σ2 H2=>tb {D with nx:=Pv (i+1),ct:=Pv (i+1),bk:=D.nx} σ2 H2) (hd:∀σ H,Pv kvs.length σ H->D.nx σ H):
 ∃W:Nat->Nat->L2.St->Hp->Prop,(∃m,W 0 m σ H)/\∀i m σ H,W i m σ H->
  ((Itd d o kvs).stop i H/\D.nx σ H)\/((Itd d o kvs).go i H/\∃N:L2.St->Hp->Prop,(∀σ' H',N σ' H'->∃m',m'<m/\W (i+1) m' σ' H')/\∀x H',(Itd d o kvs).yld i H x H'->g x σ H' fun σ2 H2=>tb {D with nx:=N,ct:=N,bk:=D.nx} σ2 H2):=by
 refine⟨fun i m σ H=>m=kvs.length-i/\i<=kvs.length/\Pv i σ H,⟨kvs.length,by simp,Nat.zero_le _,h0⟩,?_⟩;rintro i m σ H ⟨rfl,hi,p⟩;have q:=hl i σ H hi p;by_cases hlt:i<kvs.length
 . refine .inr ⟨⟨q,hlt⟩,Pv (i+1),fun σ' H' p'=>⟨kvs.length-(i+1),by omega,O,hlt,p'⟩,fun x H' y=>?_⟩
   obtain⟨z,k,v,hz,ek,rfl,rfl⟩:=y;exact hs i k v σ _ z ek p hz
 . have e:i=kvs.length:=by omega
   subst e;exact .inl ⟨⟨q,Nat.le_refl _⟩,hd σ H p⟩
theorem qM2{d:Addr}{o:Obj}{kvs:List (Key×V)}{js:List Nat}{tc:TT}{te:TE}{σ:L2.St}{H:Hp}{Q:VK}(Pv:Nat->List V->Hp->Prop)(h0:Pv 0 [] H)(hl:∀i acc H,i<=kvs.length->Pv i acc H->H d=some (.frz o (.dK kvs))/\acc.length<sizeLine)
 (hs:∀i k v acc H,i<kvs.length->kvs[i]?=some (k,v)->Pv i acc H->tc (some (kV k)::qAi js σ) H fun ok H'=>if ok=true then te (some (kV k)::qAi js σ) H' fun v H''=>Nxt kvs.length i (Pv (i+1) (acc++[v]) H'')else Nxt kvs.length i (Pv (i+1) acc H')) (hd:∀acc H,Pv kvs.length acc H->∀D,H D=none->Q (.ref D) (upd H D (.lst acc))):CompEndF js tc te σ Q (Itk d o kvs) H:=by
 refine⟨fun i m acc H=>m=kvs.length-i/\i<=kvs.length/\Pv i acc H,⟨kvs.length,by simp,Nat.zero_le _,h0⟩,?_⟩;rintro i m acc H2 ⟨rfl,hi,p⟩;obtain⟨q,hz⟩:=hl i acc H2 hi p;refine⟨hz,?_⟩;by_cases hlt:i<kvs.length
 . refine .inr ⟨⟨q,hlt⟩,fun x H3 y=>?_⟩
   obtain⟨k,v,ek,rfl,rfl⟩:=y;exact hs i k v acc _ hlt ek p
 . have e:i=kvs.length:=by omega
   subst e;exact .inl ⟨⟨q,Nat.le_refl _⟩,hd acc H2 p⟩
theorem qCk{X:Cx}:wc X (.builtin "isinstance") (fun xs H Q=> ∃(p:Addr) (n t:String) (b:Bool),xs=[.ref p,.ty n]/\((∃ys,SqT X.K H p ys/\t="tuple")\/∃kvs:List (Key×V),Rd H p (.dK kvs)/\t="dict")/\PySem.W.kitOne X.K (.type t) (.type n)=some b/\Q (.bl b) H):=by
 intro pins s σ H xs us Q I r h;obtain⟨p,n,t,b,rfl,ht,e,q⟩:=h;obtain⟨u,w',rfl,ru,rw'⟩:=qRp r;cases ru;have ew:w'=.type n:=rw';subst ew;rcases ht with ⟨ys,hy,rfl⟩|⟨kvs,hk,rfl⟩
 . obtain⟨its,_,⟨o,h1,h2,_⟩,_⟩:=I.tuple hy
   exact PySem.W.kia_one PySem.W.kitx_tuple I.kIn ⟨o,h1,h2⟩ e (fun z=>nomatch z) fun tk=>⟨.bl b,H,I.tok tk,O,q⟩
 . obtain⟨_,_,vs,_,o,es,ep,h1,h2,_⟩:=qKn I.hok hk
   exact PySem.W.kia_one PySem.W.kitx_dict I.kIn ⟨o,h1,h2.1⟩ e (fun z=>nomatch z) fun tk=>⟨.bl b,H,I.tok tk,O,q⟩
theorem qA3{X:Cx}{K:PySem.W.Frag}(h:X.K=K):wc X (.type "list") (fun xs H Q=> ∃p ys,xs=[.ref p]/\(SqL K H p ys\/SqT K H p ys)/\∀l,H l=none->Q (.ref l) (upd H l (.lst ys))):=h ▸ xV
theorem qJf{X:Cx}:wc X (.builtin "len") (fun xs H Q=> ∃(a:Addr) (kvs:List (Key×V)),xs=[V.ref a]/\Rd H a (.dK kvs)/\Q (.int kvs.length) H):=by intro pins s σ H xs us Q I r h;obtain⟨a,kvs,rfl,ha,q⟩:=h;obtain⟨u,rfl,ru⟩:=qJl r;cases ru;exact qWv I ha fun t s' I'=>⟨.int _,H,I',⟨t,O⟩,q⟩
end L3
set_option maxRecDepth 100000
namespace L3
open PySem PySem.Spec PyProof.Rows L2
theorem qQ3{K:PySem.W.Frag}{a:Addr}{xs:List V}{js:List Nat}{te:TE}{σ:L2.St}{H:Hp}{Q:VK}(Pv:Nat->List V->Hp->Prop)(h0:Pv 0 [] H)(hl:∀i acc H,i<=xs.length->Pv i acc H->SqT K H a xs/\acc.length<sizeLine)
 (hs:∀i x acc H,i<xs.length->xs[i]?=some x->Pv i acc H->te (some x::qAi js σ) H fun v H'=>Nxt xs.length i (Pv (i+1) (acc++[v]) H')) (hd:∀acc H,Pv xs.length acc H->∀D,H D=none->Q (.ref D) (upd H D (.lst acc))):CompEnd js te σ Q (Itt K a) H:=by
 refine⟨fun i m acc H=>m=xs.length-i/\i<=xs.length/\Pv i acc H,⟨xs.length,by simp,Nat.zero_le _,h0⟩,?_⟩;rintro i m acc H2 ⟨rfl,hi,p⟩;obtain⟨q,hz⟩:=hl i acc H2 hi p;refine⟨hz,?_⟩;by_cases hlt:i<xs.length
 . refine .inr ⟨⟨xs,xs[i],q,by simp[hlt]⟩,fun x H3 y=>?_⟩
   obtain⟨e,y⟩:=y;subst e;exact hs i x acc _ hlt (y xs q) p
 . have e:i=xs.length:=by omega
   subst e;exact .inl ⟨⟨xs,q,Nat.le_refl _⟩,hd acc H2 p⟩
variable{X:Cx}
end L3
namespace L3
open PySem PySem.Spec PyProof.Rows L2 PySem.NumText PySem.Builtin.Str
def qX3(l:List Nat):List Nat:=if l.head?=some 45 then l.tail else l
def qYn(c:Nat):Bool:=!(occurrences "0123456789" ⟨#[c]⟩ 0 ("0123456789":Str).length 1).isEmpty
structure Fig(l:List Nat):Prop where
 ne:qX3 l≠[]
 len:(qX3 l).length<=60
 all:(qX3 l).all qYn=true
inductive qQm(l:List Nat):List Str->Prop where
 |none (h:l=[]):qQm l []
 |one {p:Str} (h:l=p.cps.toList) (hf:47∉l):qQm l [p]
 |two {p q:Str} (h:l=p.cps.toList++47::q.cps.toList) (hp:47∉p.cps.toList) (hq:47∉q.cps.toList):qQm l [p,q]
 |more {p q r:Str} {t:List Str} (rest:List Nat) (h:l=p.cps.toList++47::rest) (hp:47∉p.cps.toList) (hq:47∈rest):qQm l (p::q::r::t)
theorem qRe{X:Cx}{K:PySem.W.Frag}{e:Expr}{f:Str}{pos:Pos}{ta:TE}(h:X.K=K)(he:PE X e ta)(hb:attributeBase e f X.env (eval e X.env)=eval e X.env:=by rfl):PE X (.Attribute e f pos) (qV7 K ta f):=h ▸ qTh he hb
def XES(X:Cx)(Ex:Value->Option Addr->L2.St->Hp->Prop):Value->Shared->Prop:=fun e s'=> ∃ea C σ H',e=.ref ea/\Inv X [] σ H' s'/\qRf X.s₀.heap H' X.pn s'.heap ea C/\Ex C.1 C.2 σ H'
def qVo(sp:Sp)(Ex:Value->Option Addr->L2.St->Hp->Prop)(t:TA):TE:=fun σ H Q=>t σ H fun vs H1=>sp (vs++[]) H1 Q fun C od H'=>Ex C od σ H'
theorem qVz{X:Cx}{Ex:Value->Option Addr->L2.St->Hp->Prop}(hex:X.ex=[]){pins:List (Addr×Obj)}{σ:L2.St}{H:Hp}{s:Shared}{e:Value}{s':Shared}(I:Inv (X.wish (XES X Ex)) pins σ H s)
 (h:CXR X.prog X.w X.stack H s (fun C od H'=>Ex C od σ H') e s'):XES X Ex e s':=by
 obtain⟨ea,C,H',rfl,os,bare,un,hok,⟨n1,hd,r,n3⟩,q⟩:=h;have I0:=I.unwish;have I1:Inv X pins σ H' s':=I0.call' (ch:=[]) os un hok bare fun b z=>nomatch z
 have old:∀b,s.heap.get? b=none->X.s₀.heap.get? b=none:=fun b z=>by
  cases w:X.s₀.heap.get? b with
  |none=>rfl
  |some o=>
   obtain⟨o',w'⟩:=I0.base.there b o w (by rw[hex];intro y;cases y);rw[z]at w';cases w'
 have pn:∀b,s.heap.get? b=none->∀p∈X.pn,p.1≠b:=fun b z p hp w=>by have q:=(I0.pin p (List.mem_append_left _ hp)).1;rw[w,z]at q;cases q
 exact⟨ea,C,σ,H',O,I1.pins_of (pins':=[]) fun p hp=>(nomatch hp),⟨⟨old _ n1.1,n1.2.1,pn _ n1.1⟩,hd,r,fun T e=>⟨old _ (n3 T e).1,(n3 T e).2.1,pn _ (n3 T e).1⟩⟩,q⟩
theorem qR5{X:Cx}{Ex:Value->Option Addr->L2.St->Hp->Prop}{k j:Nat}{x:Str}{st:Stmt}{ps:List Str}{f:Addr}{fd:FuncData}{sp:Sp}{e:Expr}{es:List Expr}{t:TA}{p pos:Pos}(D:Def X.K X.mg x st ps f fd)(F:FnOk X.prog X.w X.K X.mg X.base (CXR X.prog X.w) j f fd ps sp)(hr:Room k X.A)(hg:Gl X x)
 (ha:PA (X.wish (XES X Ex)) (e::es) t) (hj:j<=k:=by decide) (hex:X.ex=[]:=by rfl)
 (hdb:(x==("__debug__":Str))=false:=by decide) (he:starEach (e::es) X.env=(false,eval e X.env)::starEach es X.env:=by rfl) (hpl:(backTo pos (starEach es X.env)).any (·.1)=false:=by rfl):
 PE (X.wish (XES X Ex)) (.Call (.Name x p) (e::es) [] pos) (qVo sp Ex t):=by
 intro pins s σ H Q I h;refine wpAny_Call_Name_kw (wb I hg D.m ?_ hdb);refine PySem.W.callWith_K (h₀:=X.base) I.ok.mod.kin D.F.kp (thn (ha pos pins s σ H _ I h) fun us s1 ⟨vs,H1,I1,r,q⟩=>⟨I1.kIn,?_⟩) he hpl;have r2:Vals (vs++[]) (us++[]):=r.append .nil;have hl:(us++[]).length=ps.length:=by rw[<-r2.length];exact F.len _ _ _ _ q
 refine wpAny_call (codeAny_mono (F.run X.A X.stack s1 H1 ⟨us,[]⟩ (us++[]) (vs++[]) Q _ (hr.mono hj) I1.env0 (D.b s1 us I1.kIn hl) r2 q) fun r s' hq=>?_);cases r with
 |error e=>exact qVz hex I1 hq
 |ok fl=>
  cases fl with
  |ret u=>exact I1.after hq
  |next=>exact False.elim hq
  |brk=>exact False.elim hq
  |cont=>exact False.elim hq
def qWb(K:PySem.W.Frag)(Ex:Value->Option Addr->L2.St->Hp->Prop)(C:Addr)(i:Option Nat)(tb ts:TS):TS:=fun D σ H=>tb D σ H/\∀(ea:Addr) (B:EC) (σ':L2.St) (H':Hp),Ex B.1 B.2 σ' H'->H' ea=none->σ'.length=σ.length->
 PySem.W.exmOne K B.1 (.ref C)=some true/\ts (qNc D i) (qU5 i ea σ') (upd H' ea (qDs ea B))
theorem qPp{X:Cx}{body:List Stmt}{b₀:Stmt}{suite:List Stmt}{x:Str}{C:Addr}{nm:Option Str}{i:Option Nat}{np hpos pos:Pos}{tb ts:TS}(Ex:Value->Option Addr->L2.St->Hp->Prop)
 (hcl:qH3 X nm i) (hN:X.N.Nodup) (hg:Gl X x) (hm:X.mg x=some (.ref C))
 (hb:∀l,PSs ((pnX X l).wish (XES (pnX X l) Ex)) body tb) (hs:∀l ea,PSs (hdX (pnX X l) ea).nox (b₀::suite) ts)
 (hstk:X.stack=X.env::X.outer:=by rfl) (hfr:X.env.frame=some X.env.locals:=by rfl) (hex:X.ex=[]:=by rfl) (hdb:(x==("__debug__":Str))=false:=by decide):
 PS X (.Try body [.ExceptHandler (some (.Name x np)) nm (b₀::suite) hpos] [] [] pos) (qWb X.K Ex C i tb ts):=by
 rintro pins s σ H D I ⟨h1,h2⟩;have I0:=qR7 I;refine wpAny_Try_except (wpAny_mono (hb (X.pn++pins) [] s σ H D (I0.wish _) h1) (fun f s1 q=>?_) fun e s1 q=>?_)
 . have q:=q.unwish
   cases f with
   |next=>
    obtain⟨σ',H',J,z⟩:=q;exact wpAny_execs_nil ⟨σ',H',xw J,z⟩
   |brk=>
    obtain⟨σ',H',J,z⟩:=q;exact⟨σ',H',xw J,z⟩
   |cont=>
    obtain⟨σ',H',J,z⟩:=q;exact⟨σ',H',xw J,z⟩
   |ret u=>
    obtain⟨v,σ',H',J,r,z⟩:=q;exact⟨v,σ',H',xw J,r,z⟩
 . obtain⟨ea,B,σ',H',rfl,I1,⟨n1,hd,r,n3⟩,ex⟩:=q
   have hlen:σ'.length=σ.length:=I1.len.trans I.len.symm;obtain⟨hx,ht⟩:=h2 ea B σ' H' ex n1.2.1 hlen;have fr:X.A.frames=some (X.env::X.outer):=by rw[<-hstk];exact I.ok.frames
   have ff:s1.heap.FunFrames X.base (X.env::X.outer):=by have z:=I1.stack;rw[show (pnX X (X.pn++pins)).stack=X.env::X.outer from hstk]at z;exact z
   refine qKf fr ff hfr r fun h' N'=>?_;have N':Noted (frs X.stack) ea hd B s1.heap h':=by rw[hstk];exact N'
   obtain⟨I2,n1,hd2,r2,n3⟩:=xZ I1 hex r n1 n3 N';refine wpAny_handleBy_cons (codeAny_handlers_test (wb (X:=hdX (pnX X (X.pn++pins)) ea) (qFw I2) hg hm ?_ hdb)) (by intro z;cases z);have LT:PySem.W.Looks (model X.prog X.w) h' (typeOf (.ref ea)) B.1:=by obtain⟨vs,sl,qe,_⟩:=r2;exact(PySem.W.Looks.ld qe).andThen .now
   refine(PySem.W.exm_one (M:=model X.prog X.w) I2.kIn LT hx).here ?_;show codeAny _ _ _ _ _;obtain⟨T,rfl,r3⟩:∃T,hd2=some T/\vF h' ea B (some T):=by
    obtain⟨T,_,_⟩:=N'.ent;cases hd2 with
    |some T=>exact⟨T,rfl,r2⟩
    |none=>
     obtain⟨T,_,rT⟩:=N'.ent;obtain⟨vs,sl,q1,q2⟩:=r2;obtain⟨vs',sl',q1',q2',_⟩:=rT;rw[q1]at q1';cases q1';rw[q2]at q2';cases q2'
   have run:∀(s4:Shared) (σ4:L2.St) (Q:Flow->Shared->Prop) (E:Value->Shared->Prop),Inv (hdX (pnX X (X.pn++pins)) ea) [] σ4 (upd H' ea (qDs ea B)) s4->ts (qNc D i) σ4 (upd H' ea (qDs ea B))->
    (∀f s5,SP (hdX (pnX X (X.pn++pins)) ea) [] (qNc D i) f s5->Q f s5)->wpAny (model X.prog X.w) (X.A.mark (some (.ref ea))) (execs (b₀::suite) X.env) Q E s4:=fun s4 σ4 Q E I4 z k=>
    wpAny_mono (hs (X.pn++pins) ea [] s4 σ4 _ _ (I4.wish _) z) (fun f s5 q=>k f s5 q.unwish) fun _ _ z=>z.elim
   have hdn:(pnX X (X.pn++pins)).calm=true->(pnX X (X.pn++pins)).A.handled=none:=I2.ok.hd;cases hcl with
   |none=>
    refine codeAny_handlers_suite (vn r3 fun h3 N3=>?_);obtain⟨I3,n1,hd3,r4,n3⟩:=xZ I2 hex r3 n1 n3 (N3 _);refine run _ _ _ _ (qFw (qAx I3 hex n1 r4)) ht fun f s5 q=>?_;cases f with
    |next=>obtain⟨σ5,H5,J,z⟩:=q;exact⟨σ5,H5,xw (wN J hdn),z⟩
    |brk=>obtain⟨σ5,H5,J,z⟩:=q;exact⟨σ5,H5,xw (wN J hdn),z⟩
    |cont=>obtain⟨σ5,H5,J,z⟩:=q;exact⟨σ5,H5,xw (wN J hdn),z⟩
    |ret u=>obtain⟨v,σ5,H5,J,rv,z⟩:=q;exact⟨v,σ5,H5,xw (wN J hdn),rv,z⟩
   |some hi hl=>
    refine codeAny_handlers_suite_as (vn r3 fun h3 N3=>?_);obtain⟨I3,n1,hd3,r4,n3⟩:=xZ I2 hex r3 n1 n3 (N3 _);refine kZ (X:=hdX (pnX X (X.pn++pins)) ea) (v:=.ref ea) (qFw (qAx I3 hex n1 r4)) hN hi (.inl hl) rfl (fun s4 I4=>?_) (.inr hl);refine run _ _ _ _ I4 ht fun f s5 q=>?_;cases f with
    |next=>obtain⟨σ5,H5,J,z⟩:=q;exact xX (X:=pnX X (X.pn++pins)) (wN J hdn) hN hi hl fun s6 J6=>⟨_,H5,xw J6,z⟩
    |brk=>obtain⟨σ5,H5,J,z⟩:=q;exact xX (X:=pnX X (X.pn++pins)) (wN J hdn) hN hi hl fun s6 J6=>⟨_,H5,xw J6,z⟩
    |cont=>obtain⟨σ5,H5,J,z⟩:=q;exact xX (X:=pnX X (X.pn++pins)) (wN J hdn) hN hi hl fun s6 J6=>⟨_,H5,xw J6,z⟩
    |ret u=>obtain⟨v,σ5,H5,J,rv,z⟩:=q;exact xX (X:=pnX X (X.pn++pins)) (wN J hdn) hN hi hl fun s6 J6=>⟨v,_,H5,xw J6,rv,z⟩
theorem qL{G:Prop}(k:∀X:Prop,(G->X)->X):G:=k G id
section
variable{X:Cx}
theorem qK{a:Expr}{ta:TE}{i:Int}{j}{p pos:Pos}(ha:PE X a ta):PE X (.Subscript a (.Constant (.int i) j p) pos) (tOp (qUk X.K) ta (tC (.int i))):=jU qF2 ha qG (fun _ _=>rfl)
theorem qZ(i:Nat){x:Str}{e:Expr}{te:TE}{pos pos':Pos}(hN:X.N.Nodup)(he:PE X e te)(hi:X.N[i]?=some x:=by rfl)(hx:Loc X.env.scope x:=by exact Or.inl rfl)(hs:swapsWith e (some (.Name x pos')) pos.line X.env=pure false:=by rfl)(hf:X.fn x=true\/X.env.scope.names.lookup x=some .local:=by first|exact .inl rfl|exact .inr rfl|assumption):
 PS X (.Assign [.Name x pos'] e pos) (qS8 te (vN i)):=qLz hN hi hx he hs hf
end
end L3
set_option maxRecDepth 100000
namespace L3
open PySem PySem.Spec PyProof.Rows L2
end L3
set_option maxRecDepth 100000
namespace L3
open PySem PySem.Spec PyProof.Rows L2
end L3
set_option maxRecDepth 100000
namespace L3
open PySem PySem.Spec PySem.W PyProof.Rows L2
end L3
set_option maxRecDepth 100000
namespace L3
open PySem PySem.Spec PySem.W PyProof.Rows L2
end L3
set_option maxRecDepth 100000
namespace L3
open PySem PySem.Spec PyProof.Rows L2
def g5(K:PySem.W.Frag):TG:=qWd K 5 (qFq (vN 0) (qFq (vN 1) (qFq (vN 2) (qFq (vN 3) (qFq (vN 4) qWg)))))
end L3
set_option maxRecDepth 100000
namespace L3
open PySem PySem.Spec PyProof.Rows L2
end L3
set_option maxRecDepth 100000
namespace L3
open PySem PySem.Spec PyProof.Rows L2
variable{X:Cx}
end L3
set_option maxRecDepth 100000
namespace L3
open PySem PySem.Spec PyProof.Rows L2
end L3
set_option maxRecDepth 100000
namespace L3
open PySem PySem.Spec PyProof.Rows L2
inductive KEs(P:Params):List (Str×V)->List DictEntry->Prop where
 |nil:KEs P [] []
 |cons {k:Str} {t:Tok} {v:V} {u:Value} {l:List (Str×V)} {es:List DictEntry} (r:RelV v u) (q:KEs P l es):KEs P ((k,v)::l) (⟨PyData.keyHash P k,.str k t,u⟩::es)
structure KDi(K:PySem.W.Frag)(P:Params)(a:Addr)(l:List (Str×V)):Prop where
 ex:∃es n,K.lookup a=some ⟨.type "dict",none,.dict es n,#[]⟩/\KEs P l es.toList
 ns:(a==sysModules)=false
theorem KEs.lit{P:Params}{l:List (Str×V)}{es:List DictEntry}(h:KEs P l es):PySem.W.KeysLit P es:=by
 induction h with
 |nil=>trivial
 |cons r q ih=>exact⟨⟨_,_,rfl,rfl⟩,ih⟩
theorem KEs.find{P:Params}{l:List (Str×V)}{es:List DictEntry}(h:KEs P l es)(k:Str):RelO (l.lookup k) ((es.find? fun e=>Value.isStrOf k e.key).map (·.val)):=by
 induction h with
 |nil=>exact True.intro
 | @cons k' t v u l es r q ih=>
  rw[List.lookup_cons,List.find?_cons];show RelO _ (Option.map _ (match k'==k with|true=>_|false=>_));have e:(k==k')=(k'==k):=Bool.beq_comm;rw[e];cases k'==k with
  |true=>exact r
  |false=>exact ih
theorem KDi.map{X:Cx}{pins:List (Addr×Obj)}{σ:L2.St}{H:Hp}{s:Shared}{a:Addr}{l:List (Str×V)}(I:Inv X pins σ H s)(h:KDi X.K X.w.params a l):∃f:Str->Option Value,s.heap.MapOf (strKind X.prog X.w) a f/\∀k,RelO (l.lookup k) (f k):=by obtain⟨es,n,hl,q⟩:=h.ex;refine⟨_,PySem.W.mapOf_K (prog:=X.prog) (fun b o e=>I.kIn b o e) hl q.lit,fun k=>?_⟩;have:=q.find k;unfold findBy;rw[<-Array.find?_toList];exact this
end L3
set_option maxRecDepth 100000
namespace L3
open PySem PySem.Spec PyProof.Rows L2
variable{X:Cx}
end L3
set_option maxRecDepth 100000
namespace L3
open PySem PySem.Spec PyProof.Rows L2 PySem.Builtin.Str PySem.StrLaws
end L3
set_option maxRecDepth 100000
namespace L3
open PySem PySem.Spec PyProof.Rows L2
end L3
set_option maxRecDepth 100000
namespace L3
open PySem PySem.Spec PyProof.Rows L2
variable{X:Cx}
end L3
set_option maxRecDepth 100000
namespace WS
open PySem PyProof.Rows
end WS
set_option maxRecDepth 100000
namespace WS
open PySem PySem.Spec PyProof.Rows
end WS
set_option maxRecDepth 100000
namespace WS
open PySem PySem.Spec PyProof.Rows
end WS
set_option maxRecDepth 100000
namespace WS
open PySem PySem.Spec PyProof.Rows
def IsIt(h:Heap)(I:Addr)(f:Value)(i:Nat)(S:Addr)(n ep:Nat):Prop:= ∃o,h.get? I=some o/\o.cls=.type "set_iterator"/\o.data=.fields #[f,.int i 0,.ref S,.int n 0,.int ep 0]
section
variable{prog:Program}{w:World}{A:Around}{E:Value->Shared->Prop}{s:Shared}
theorem IsIt.up{h:Heap}{I S:Addr}{o:Obj}{f:Value}{i n ep:Nat}(ho:h.get? I=some o)(hc:o.cls=.type "set_iterator")(hd:o.data=.fields #[f,.int i 0,.ref S,.int n 0,.int ep 0]):
 IsIt (h.update I (Obj.mapFields (·.setIfInBounds 1 (rawInt ((i:Int)+1))))) I f (i+1) S n ep:=
 ⟨_,Heap.get?_update_self _ ho (Obj.isFreed_of_fields (Obj.data_mapFields hd _)),(Obj.cls_mapFields ..).trans hc,by rw[Obj.data_mapFields hd];simp[rawInt]⟩
section
variable{I S:Addr}{k i j ep:Nat}{os:Obj}{es:Array (Int×Value)}{t:SetTable}{x:Value}{Q:Option Value->Shared->Prop}(hS:s.heap.get? S=some os)(hd:os.data=.set es ep t)(hf:t.fits es.size=true)
include hS hd hf
end
end
end WS
set_option maxRecDepth 100000
namespace WS
open PySem PySem.Spec PyProof.Rows
section
variable{prog:Program}{w:World}{A:Around}{E:Value->Shared->Prop}{s:Shared}
section
variable{S:Addr}{k i ep:Nat}{os:Obj}{es:Array (Int×Value)}{t:SetTable}(hS:s.heap.get? S=some os)(hd:os.data=.set es ep t)(hf:t.fits es.size=true)
include hS hd hf
end
theorem IsIt.keep{h h':Heap}{I S:Addr}{f:Value}{i n ep:Nat}(x:IsIt h I f i S n ep)(k:∀o,h.get? I=some o->h'.get? I=some o):IsIt h' I f i S n ep:=
 let ⟨o,ho,r⟩:=x;⟨o,k o ho,r⟩
section
variable{I S:Addr}{ep:Nat}{es:Array (Int×Value)}{t:SetTable}(hf:t.fits es.size=true)(hne:S≠I)(hh:A.handled=none)
include hf hne hh
end
end
end WS
set_option maxRecDepth 100000
namespace WS
open PySem PySem.Spec PyProof.Rows
end WS
set_option maxRecDepth 100000
namespace L3
open PySem PySem.Spec PyProof.Rows L2
end L3
set_option maxRecDepth 100000
namespace L3
open PySem PySem.Spec PyProof.Rows L2
end L3
set_option maxRecDepth 100000
namespace Lw
open PySem L2 L3 Mt
seal L2.PSs L2.PS L2.PE L2.PA L2.PT L2.PW L2.PC L2.PI L2.PG L2.PGs L2.PO
def top(i:Nat):Stmt:=PySem.Challenge.pw_reelcut_k49_tables_stay_good.main.body.getD i (.Pass ⟨0,0,0,0⟩)
theorem scA{N P:List Str}{sc:Scope}(h1:sc.kind=.function:=by rfl)(h2:sc.isCoroutine=false:=by rfl)(h3:sc.isGenerator=false:=by rfl)(h4:N.Nodup:=by decide+kernel)(h5:N.take P.length=P:=by rfl)(h6:∀x∈P,sc.names.lookup x=some .local\/sc.names.lookup x=some .cell:=by decide+kernel)(h7:∀y∈sc.names,y.2≠ .free:=by decide+kernel):qO N P sc:=⟨h1,h2,h3,h4,h5,h6,h7⟩
abbrev qBw:Stmt:=top 9
abbrev xo:Stmt:=top 10
abbrev kK:Stmt:=top 11
abbrev qB0:Stmt:=top 12
abbrev qGv:Stmt:=top 13
abbrev qDp:Stmt:=top 14
abbrev qB3:Stmt:=top 15
abbrev qB7:Stmt:=top 16
abbrev wa:Stmt:=top 17
abbrev qCb:Stmt:=top 18
abbrev qE2:Stmt:=top 24
abbrev zK:Stmt:=top 25
abbrev qB4:Stmt:=top 26
abbrev v0:Stmt:=top 27
abbrev qCd:Stmt:=top 28
abbrev ve:Stmt:=top 29
abbrev wy:Stmt:=top 30
abbrev qDx:Stmt:=top 31
abbrev zE:Stmt:=top 32
abbrev qAd:Stmt:=top 33
abbrev wv:Stmt:=top 34
abbrev wo:Stmt:=top 36
abbrev zI:Stmt:=top 37
abbrev jt:Stmt:=top 38
abbrev vp:Stmt:=top 39
abbrev qBo:Stmt:=top 40
abbrev qAg:Stmt:=top 41
abbrev vq:Stmt:=top 42
abbrev qD7:Stmt:=top 43
abbrev qEh:Stmt:=top 44
abbrev xm:Stmt:=top 45
abbrev kn:Stmt:=top 46
abbrev zk:Stmt:=top 47
abbrev zR:Stmt:=top 48
abbrev xN:Stmt:=top 49
abbrev ke:Stmt:=top 50
abbrev wm:Stmt:=top 51
abbrev zM:Stmt:=top 52
abbrev vc:Stmt:=top 54
abbrev kI:Stmt:=top 55
abbrev wq:Stmt:=top 56
abbrev xj:Stmt:=top 57
abbrev zh:Stmt:=top 58
abbrev qB1:Stmt:=top 59
abbrev wk:Stmt:=top 60
abbrev kd:Stmt:=top 63
abbrev qB8:Stmt:=top 64
abbrev vT:Stmt:=top 65
abbrev xn:Stmt:=top 66
abbrev zt:Stmt:=top 67
abbrev qDk:Stmt:=top 68
abbrev kr:Stmt:=top 69
abbrev ww:Stmt:=top 70
abbrev qAe:Stmt:=top 71
abbrev qE1:Stmt:=top 72
abbrev xG:Stmt:=top 73
abbrev wA:Stmt:=top 74
abbrev qGq:Stmt:=top 75
abbrev vi:Stmt:=top 81
abbrev qEj:Stmt:=top 82
abbrev zr:Stmt:=top 83
abbrev xl:Stmt:=top 84
abbrev zN:Stmt:=top 85
abbrev kX:Stmt:=top 86
abbrev kP:Stmt:=top 87
abbrev zg:Stmt:=top 88
abbrev zn:Stmt:=top 89
abbrev qBs:Stmt:=top 90
abbrev qGh:Stmt:=top 91
abbrev qKi:Stmt:=top 92
abbrev qEl:Stmt:=top 93
abbrev qG7:Stmt:=top 94
abbrev qEy:Stmt:=top 95
abbrev qAf:Stmt:=top 96
abbrev je:Stmt:=top 101
abbrev kH:Stmt:=top 102
abbrev j9:Stmt:=top 103
abbrev vk:Stmt:=top 104
abbrev kY:Stmt:=top 105
abbrev qEw:Stmt:=top 106
abbrev vC:Stmt:=top 107
abbrev wp:Stmt:=top 108
abbrev vZ:Stmt:=top 109
abbrev kW:Stmt:=top 110
abbrev vQ:Stmt:=top 111
abbrev zj:Stmt:=top 113
abbrev kU:Stmt:=top 114
abbrev kN:Stmt:=top 115
abbrev kO:Stmt:=top 116
abbrev vS:Stmt:=top 117
abbrev vv:Stmt:=top 118
abbrev vY:Stmt:=top 119
abbrev vU:Stmt:=top 120
abbrev kh:Stmt:=top 121
abbrev zO:Stmt:=top 122
abbrev qAh:Stmt:=top 123
abbrev wt:Stmt:=top 124
abbrev qUf:Stmt:=top 125
theorem qKk:qO ["x"] ["x"] (qH qBw):=scA
theorem j5:qO ["one","other","rest"] ["one","other"] (qH xo):=scA
theorem qFm:qO ["x"] ["x"] (qH kK):=scA
theorem wu:qO ["top","bottom","divisor"] ["top","bottom"] (qH qB0):=scA
theorem qPt:qO ["one","other"] ["one","other"] (qH qGv):=scA
theorem qM0:qO ["one","other"] ["one","other"] (qH qDp):=scA
theorem qKm:qO ["one","other"] ["one","other"] (qH qB3):=scA
theorem qK1:qO ["one","other"] ["one","other"] (qH qB7):=scA
theorem qIc:qO ["one","other"] ["one","other"] (qH wa):=scA
theorem qK6:qO ["one"] ["one"] (qH qCb):=scA
theorem qNi:qO ["thing"] ["thing"] (qH qE2):=scA
theorem qCx:qO ["item"] ["item"] (qH zK):=scA
theorem qJ9:qO ["clip","k"] ["clip","k"] (qH qB4):=scA
theorem qHn:qO ["clip","k"] ["clip","k"] (qH v0):=scA
theorem qKs:qO ["picture","many"] ["picture","many"] (qH qCd):=scA
theorem qAo:qO ["item","reels","many"] ["item","reels"] (qH ve):=scA
theorem qIu:qO ["clip","low","high"] ["clip","low","high"] (qH wy):=scA
theorem qNw:qO ["one","other"] ["one","other"] (qH qDx):=scA
theorem xh:qO ["first","step","many","room"] ["first","step","many"] (qH zE):=scA
theorem qIm:qO ["clip","reels"] ["clip","reels"] (qH qAd):=scA
theorem qIk:qO ["clip","reels"] ["clip","reels"] (qH wv):=scA
theorem qIb:qO ["thing"] ["thing"] (qH wo):=scA
theorem qC3:qO ["item"] ["item"] (qH zI):=scA
theorem vO:qO ["item"] ["item"] (qH jt):=scA
theorem qHm:qO ["item"] ["item"] (qH vp):=scA
theorem xO:qO ["some","track","waiting","item"] ["some"] (qH qBo):=scA
theorem qIp:qO ["track"] ["track"] (qH qAg):=scA
theorem kL:qO ["track","borders","item"] ["track"] (qH vq):=scA
theorem xy:qO ["track","moment","begin","place","item","end"] ["track","moment"] (qH qD7):=scA
theorem qNv:qO ["track","place"] ["track","place"] (qH qEh):=scA
theorem kG:qO ["track","mixes"] ["track"] (qH xm):=scA
theorem qFd:qO ["track","place"] ["track","place"] (qH kn):=scA
theorem qEf:qO ["track","place"] ["track","place"] (qH zk):=scA
theorem vG:qO ["track","moment","found"] ["track","moment"] (qH zR):=scA
theorem zY:qO ["track","moment","places"] ["track","moment"] (qH xN):=scA
theorem wQ:qO ["track","moment","found"] ["track","moment"] (qH ke):=scA
theorem qIo:qO ["item","low","high"] ["item","low","high"] (qH wm):=scA
theorem jE:qO ["track","low","high","parts","begin","item","end","first","last"] ["track","low","high"] (qH zM):=scA
theorem qGy:qO ["length"] ["length"] (qH vc):=scA
theorem qFe:qO ["length"] ["length"] (qH kI):=scA
theorem xU:qO ["track","spans","border","item"] ["track"] (qH wq):=scA
theorem qBu:qO ["track","place"] ["track","place"] (qH xj):=scA
theorem qDt:qO ["track","place"] ["track","place"] (qH zh):=scA
theorem xK:qO ["track","moment","reels","places","ahead","behind","most_ahead","most_behind"] ["track","moment","reels"] (qH qB1):=scA
theorem qJu:qO ["track","reels"] ["track","reels"] (qH wk):=scA
theorem qFi:qO ["table","number","moment"] ["table","number","moment"] (qH kd):=scA
theorem qKj:qO ["by"] ["by"] (qH qB8):=scA
theorem qA0:qO ["track","moment","found"] ["track","moment"] (qH vT):=scA
theorem j3:qO ["track","moment","found","left","right"] ["track","moment"] (qH xn):=scA
theorem qEb:qO ["track","deed"] ["track","deed"] (qH zt):=scA
theorem qMt:qO ["track","place"] ["track","place"] (qH qDk):=scA
theorem qFg:qO ["most","by"] ["most","by"] (qH kr):=scA
theorem qIg:qO ["clip","by","reels"] ["clip","by","reels"] (qH ww):=scA
theorem qIh:qO ["left","right","by","reels"] ["left","right","by","reels"] (qH qAe):=scA
theorem qBl:qO ["track","place","by","reels","clip","changed"] ["track","place","by","reels"] (qH qE1):=scA
theorem jg:qO ["track","first","last","by","reels","left","right","changed"] ["track","first","last","by","reels"] (qH xG):=scA
theorem qAl:qO ["table","number","track","tracks"] ["table","number","track"] (qH wA):=scA
theorem qEv:qO ["table","deed","reels","track","places"] ["table","deed","reels"] (qH qGq):=scA
theorem qHd:qO ["deed"] ["deed"] (qH vi):=scA
theorem qNu:qO ["deed"] ["deed"] (qH qEj):=scA
theorem qD8:qO ["deed"] ["deed"] (qH zr):=scA
theorem qB2:qO ["table","deed"] ["table","deed"] (qH xl):=scA
theorem qCs:qO ["deed"] ["deed"] (qH zN):=scA
theorem wR:qO ["track","low","high","span"] ["track","low","high"] (qH kX):=scA
theorem zf:qO ["table","deed","stretch","number"] ["table","deed"] (qH kP):=scA
theorem qD2:qO ["table","deed","reels"] ["table","deed","reels"] (qH zg):=scA
theorem qEn:qO ["one","other"] ["one","other"] (qH zn):=scA
theorem wg:qO ["track","places","one","other"] ["track","places"] (qH qBs):=scA
theorem v8:qO ["table","deed","track","places","one","whole"] ["table","deed"] (qH qGh):=scA
theorem qC8:qO ["table","deed","reels","track","places","most"] ["table","deed","reels"] (qH qKi):=scA
theorem qBm:qO ["table","deed","track","places"] ["table","deed"] (qH qEl):=scA
theorem qHu:qO ["track","low","high","laid","filling"] ["track","low","high","laid"] (qH qG7):=scA
theorem x9:qO ["table","deed","stretch","told","number","laid"] ["table","deed"] (qH qEy):=scA
theorem qJk:qO ["table","deed","reels"] ["table","deed","reels"] (qH qAf):=scA
theorem kC:qO ["thing"] ["thing"] (qH je):=scA
theorem zq:qO ["reels","name","many"] ["reels"] (qH kH):=scA
theorem xY:qO ["item","reels"] ["item","reels"] (qH j9):=scA
theorem qHj:qO ["item","room"] ["item","room"] (qH vk):=scA
theorem wT:qO ["track","room","item"] ["track","room"] (qH kY):=scA
theorem wE:qO ["tied","many","least","number"] ["tied","many"] (qH qEw):=scA
theorem wV:qO ["table","room","track"] ["table","room"] (qH vC):=scA
theorem vo:qO ["table","names","track"] ["table"] (qH wp):=scA
theorem qGk:qO ["table","lower"] ["table","lower"] (qH vZ):=scA
theorem xE:qO ["tables","lower","layer","found","name"] ["tables"] (qH kW):=scA
theorem kJ:qO ["room","name","table"] ["room"] (qH vQ):=scA
theorem qEq:qO ["_law_script","_law_k"] ["_law_script","_law_k"] (qH zj):=scA
theorem jO:qO ["_law_cell","_law_size","_law_found","_law_rest","_law_k","_law_number"] ["_law_cell","_law_size"] (qH kU):=scA
theorem xR:qO ["_law_top","_law_bottom","_law_one","_law_other"] ["_law_top","_law_bottom"] (qH kN):=scA
theorem jD:qO ["_law_xs","_law_reels_here","_law_size","_law_reel","_law_length","_law_top","_law_bottom","_law_far","_law_low","_law_rest","_law_start"] ["_law_xs","_law_reels_here","_law_size"] (qH kO):=scA
theorem xq:qO ["_law_xs","_law_reels_here","_law_size","_law_track_here","_law_k","_law_form"] ["_law_xs","_law_reels_here","_law_size"] (qH vS):=scA
theorem qGf:qO ["_law_cell"] ["_law_cell"] (qH vv):=scA
theorem jX:qO ["_law_table_here","_law_reels_here","_law_cell","_law_number","_law_moment","_law_most_here"] ["_law_table_here","_law_reels_here","_law_cell"] (qH vY):=scA
theorem xr:qO ["_law_cell","_law_reels_here","_law_tracks","_law_size","_law_xs","_law_tied","_law_table_here"] ["_law_cell","_law_reels_here","_law_tracks","_law_size"] (qH vU):=scA
theorem qFs:qO ["_law_table_here"] ["_law_table_here"] (qH kh):=scA
theorem jW:qO ["_law_xs","_law_table_here","_law_reels_here","_law_number","_law_marks","_law_word","_law_moment"] ["_law_xs","_law_table_here","_law_reels_here"] (qH zO):=scA
theorem jx:qO ["_law_table_here","_law_deed","_law_reels_here","_law_found","e"] ["_law_table_here","_law_deed","_law_reels_here"] (qH qAh):=scA
theorem qCg:qO ["_law_table_here","_law_deed","_law_reels_here","_law_most_here","_law_by"] ["_law_table_here","_law_deed","_law_reels_here","_law_most_here"] (qH wt):=scA
theorem qA9:qO ["_law_script","_law_reels_here","_law_table_here","_law_low","_law_cell","_law_deed","_law_copy","_law_found"] ["_law_script"] (qH qUf):=scA
abbrev wK:Stmt:=qT8 (top 7) 0
theorem qQg:qO ["self","most"] ["self","most"] (qH wK):=⟨rfl,rfl,rfl,by decide+kernel,rfl,by decide+kernel,by decide+kernel⟩
set_option genInjectivity false
set_option genSizeOf false
structure Ads where
 A0:Addr
 B0:FuncData
 A1:Addr
 B1:FuncData
 A2:Addr
 B2:FuncData
 A3:Addr
 B3:FuncData
 A4:Addr
 B4:FuncData
 A5:Addr
 B5:FuncData
 A6:Addr
 B6:FuncData
 A7:Addr
 B7:FuncData
 A8:Addr
 B8:FuncData
 A9:Addr
 B9:FuncData
 A10:Addr
 B10:FuncData
 A11:Addr
 B11:FuncData
 A12:Addr
 B12:FuncData
 A13:Addr
 B13:FuncData
 A14:Addr
 B14:FuncData
 A15:Addr
 B15:FuncData
 A16:Addr
 B16:FuncData
 A17:Addr
 B17:FuncData
 A18:Addr
 B18:FuncData
 A19:Addr
 B19:FuncData
 A20:Addr
 B20:FuncData
 A21:Addr
 B21:FuncData
 A22:Addr
 B22:FuncData
 A23:Addr
 B23:FuncData
 A24:Addr
 B24:FuncData
 A25:Addr
 B25:FuncData
 A26:Addr
 B26:FuncData
 A27:Addr
 B27:FuncData
 A28:Addr
 B28:FuncData
 A29:Addr
 B29:FuncData
 A30:Addr
 B30:FuncData
 A31:Addr
 B31:FuncData
 A32:Addr
 B32:FuncData
 A33:Addr
 B33:FuncData
 A34:Addr
 B34:FuncData
 A35:Addr
 B35:FuncData
 A36:Addr
 B36:FuncData
 A37:Addr
 B37:FuncData
 A38:Addr
 B38:FuncData
 A39:Addr
 B39:FuncData
 A40:Addr
 B40:FuncData
 A41:Addr
 B41:FuncData
 A42:Addr
 B42:FuncData
 A43:Addr
 B43:FuncData
 A44:Addr
 B44:FuncData
 A45:Addr
 B45:FuncData
 A46:Addr
 B46:FuncData
 A47:Addr
 B47:FuncData
 A48:Addr
 B48:FuncData
 A49:Addr
 B49:FuncData
 A50:Addr
 B50:FuncData
 A51:Addr
 B51:FuncData
 A52:Addr
 B52:FuncData
 A53:Addr
 B53:FuncData
 A54:Addr
 B54:FuncData
 A55:Addr
 B55:FuncData
 A56:Addr
 B56:FuncData
 A57:Addr
 B57:FuncData
 A58:Addr
 B58:FuncData
 A59:Addr
 B59:FuncData
 A60:Addr
 B60:FuncData
 A61:Addr
 B61:FuncData
 A62:Addr
 B62:FuncData
 A63:Addr
 B63:FuncData
 A64:Addr
 B64:FuncData
 A65:Addr
 B65:FuncData
 A66:Addr
 B66:FuncData
 A67:Addr
 B67:FuncData
 A68:Addr
 B68:FuncData
 A69:Addr
 B69:FuncData
 A70:Addr
 B70:FuncData
 A71:Addr
 B71:FuncData
 A72:Addr
 B72:FuncData
 A73:Addr
 B73:FuncData
 A74:Addr
 B74:FuncData
 A75:Addr
 B75:FuncData
 A76:Addr
 B76:FuncData
 A77:Addr
 B77:FuncData
 A78:Addr
 B78:FuncData
 A79:Addr
 B79:FuncData
 A80:Addr
 B80:FuncData
 A81:Addr
 B81:FuncData
 A82:Addr
 B82:FuncData
 A83:Addr
 B83:FuncData
 A84:Addr
 B84:FuncData
 A85:Addr
 B85:FuncData
 A86:Addr
 B86:FuncData
 A87:Addr
 B87:FuncData
 A88:Addr
 B88:FuncData
 A89:Addr
 B89:FuncData
 A90:Addr
 B90:FuncData
 A91:Addr
 B91:FuncData
 A92:Addr
 B92:FuncData
 A93:Addr
 B93:FuncData
 A94:Addr
 B94:FuncData
 A95:Addr
 B95:FuncData
 A96:Addr
 B96:FuncData
 A97:Addr
 B97:FuncData
 k_CutError:Addr
 k_NoNumber:Addr
 k_NoClip:Addr
 k_NoPlace:Addr
 k_Mixed:Addr
 k_NoRoom:Addr
 k_Short:Addr
 t_LETTERS:Tok
 t_LONGEST_NAME:Tok
 t_MOST_ROOM:Tok
 n_NOUGHT:Addr
 t_MOST_BY:Tok
 n_ROLLS:Addr
 n_LAYS:Addr
 n_PUSHES:Addr
 n_CHANGES:Addr
 t_MOST_PICTURES:Tok
 t_MOST_TRACKS:Tok
 t_MOST_DEEP:Tok
 fi_Short:Addr
 gi_Short:FuncData
structure Tx(K:PySem.W.Frag)(mg:Str->Option Value)(a:Ads):Prop where
 D0:L3.Def K mg "is_whole" qBw ["x"] a.A0 a.B0
 D1:L3.Def K mg "common_divisor" xo ["one","other"] a.A1 a.B1
 D2:L3.Def K mg "is_fraction" kK ["x"] a.A2 a.B2
 D3:L3.Def K mg "fraction" qB0 ["top","bottom"] a.A3 a.B3
 D4:L3.Def K mg "sum_of" qGv ["one","other"] a.A4 a.B4
 D5:L3.Def K mg "less_by" qDp ["one","other"] a.A5 a.B5
 D6:L3.Def K mg "times_of" qB3 ["one","other"] a.A6 a.B6
 D7:L3.Def K mg "quotient" qB7 ["one","other"] a.A7 a.B7
 D8:L3.Def K mg "is_before" wa ["one","other"] a.A8 a.B8
 D9:L3.Def K mg "floor_of" qCb ["one"] a.A9 a.B9
 D10:L3.Def K mg "is_name" qE2 ["thing"] a.A10 a.B10
 D11:L3.Def K mg "has_clip_form" zK ["item"] a.A11 a.B11
 D12:L3.Def K mg "place_at" qB4 ["clip","k"] a.A12 a.B12
 D13:L3.Def K mg "picture_at" v0 ["clip","k"] a.A13 a.B13
 D14:L3.Def K mg "is_there" qCd ["picture","many"] a.A14 a.B14
 D15:L3.Def K mg "check_clip" ve ["item","reels"] a.A15 a.B15
 D16:L3.Def K mg "clip_part" wy ["clip","low","high"] a.A16 a.B16
 D17:L3.Def K mg "goes_on" qDx ["one","other"] a.A17 a.B17
 D18:L3.Def K mg "moments_there" zE ["first","step","many"] a.A18 a.B18
 D19:L3.Def K mg "head_room" qAd ["clip","reels"] a.A19 a.B19
 D20:L3.Def K mg "tail_room" wv ["clip","reels"] a.A20 a.B20
 D21:L3.Def K mg "is_length" wo ["thing"] a.A21 a.B21
 D22:L3.Def K mg "has_nest_form" zI ["item"] a.A22 a.B22
 D23:L3.Def K mg "has_gap_or_mix_form" jt ["item"] a.A23 a.B23
 D24:L3.Def K mg "moments_of" vp ["item"] a.A24 a.B24
 D25:L3.Def K mg "one_form" qBo ["some"] a.A25 a.B25
 D26:L3.Def K mg "length_of" qAg ["track"] a.A26 a.B26
 D27:L3.Def K mg "borders_of" vq ["track"] a.A27 a.B27
 D28:L3.Def K mg "item_at" qD7 ["track","moment"] a.A28 a.B28
 D29:L3.Def K mg "kind_at" qEh ["track","place"] a.A29 a.B29
 D30:L3.Def K mg "is_in_one_form" xm ["track"] a.A30 a.B30
 D31:L3.Def K mg "place_ahead" kn ["track","place"] a.A31 a.B31
 D32:L3.Def K mg "place_behind" zk ["track","place"] a.A32 a.B32
 D33:L3.Def K mg "neighbours_at" zR ["track","moment"] a.A33 a.B33
 D34:L3.Def K mg "clips_at_border" xN ["track","moment"] a.A34 a.B34
 D35:L3.Def K mg "lies_within" ke ["track","moment"] a.A35 a.B35
 D36:L3.Def K mg "item_part" wm ["item","low","high"] a.A36 a.B36
 D37:L3.Def K mg "part_of_track" zM ["track","low","high"] a.A37 a.B37
 D38:L3.Def K mg "part_ahead" vc ["length"] a.A38 a.B38
 D39:L3.Def K mg "part_behind" kI ["length"] a.A39 a.B39
 D40:L3.Def K mg "mix_spans" wq ["track"] a.A40 a.B40
 D41:L3.Def K mg "taken_at_begin" xj ["track","place"] a.A41 a.B41
 D42:L3.Def K mg "taken_at_end" zh ["track","place"] a.A42 a.B42
 D43:L3.Def K mg "most_mix" qB1 ["track","moment","reels"] a.A43 a.B43
 D44:L3.Def K mg "mixes_fit" wk ["track","reels"] a.A44 a.B44
 D45:L3.Def K mg "check_place" kd ["table","number","moment"] a.A45 a.B45
 D46:L3.Def K mg "check_by" qB8 ["by"] a.A46 a.B46
 D47:L3.Def K mg "clip_there" vT ["track","moment"] a.A47 a.B47
 D48:L3.Def K mg "clip_and_sides" xn ["track","moment"] a.A48 a.B48
 D49:L3.Def K mg "places_named" zt ["track","deed"] a.A49 a.B49
 D50:L3.Def K mg "has_mix" qDk ["track","place"] a.A50 a.B50
 D51:L3.Def K mg "check_short" kr ["most","by"] a.A51 a.B51
 D52:L3.Def K mg "most_slip" ww ["clip","by","reels"] a.A52 a.B52
 D53:L3.Def K mg "most_roll" qAe ["left","right","by","reels"] a.A53 a.B53
 D54:L3.Def K mg "slipped" qE1 ["track","place","by","reels"] a.A54 a.B54
 D55:L3.Def K mg "with_rolled_ends" xG ["track","first","last","by","reels"] a.A55 a.B55
 D56:L3.Def K mg "table_with" wA ["table","number","track"] a.A56 a.B56
 D57:L3.Def K mg "rolled" qGq ["table","deed","reels"] a.A57 a.B57
 D58:L3.Def K mg "stretch_of" vi ["deed"] a.A58 a.B58
 D59:L3.Def K mg "laid_by" qEj ["deed"] a.A59 a.B59
 D60:L3.Def K mg "laid_on_tied" zr ["deed"] a.A60 a.B60
 D61:L3.Def K mg "tracks_changed" xl ["table","deed"] a.A61 a.B61
 D62:L3.Def K mg "check_numbers" zN ["deed"] a.A62 a.B62
 D63:L3.Def K mg "touches_mix" kX ["track","low","high"] a.A63 a.B63
 D64:L3.Def K mg "check_mixes" kP ["table","deed"] a.A64 a.B64
 D65:L3.Def K mg "check_change" zg ["table","deed","reels"] a.A65 a.B65
 D66:L3.Def K mg "nest_goes_on" zn ["one","other"] a.A66 a.B66
 D67:L3.Def K mg "can_heal" qBs ["track","places"] a.A67 a.B67
 D68:L3.Def K mg "healed" qGh ["table","deed"] a.A68 a.B68
 D69:L3.Def K mg "mixed" qKi ["table","deed","reels"] a.A69 a.B69
 D70:L3.Def K mg "unmixed" qEl ["table","deed"] a.A70 a.B70
 D71:L3.Def K mg "relaid" qG7 ["track","low","high","laid"] a.A71 a.B71
 D72:L3.Def K mg "changed" qEy ["table","deed"] a.A72 a.B72
 D73:L3.Def K mg "deed_done" qAf ["table","deed","reels"] a.A73 a.B73
 D74:L3.Def K mg "is_number_of_pictures" je ["thing"] a.A74 a.B74
 D75:L3.Def K mg "check_reels" kH ["reels"] a.A75 a.B75
 D76:L3.Def K mg "check_clip_of_room" j9 ["item","reels"] a.A76 a.B76
 D77:L3.Def K mg "check_item" vk ["item","room"] a.A77 a.B77
 D78:L3.Def K mg "check_track" kY ["track","room"] a.A78 a.B78
 D79:L3.Def K mg "is_tied" qEw ["tied","many"] a.A79 a.B79
 D80:L3.Def K mg "check_table" vC ["table","room"] a.A80 a.B80
 D81:L3.Def K mg "nested_in" wp ["table"] a.A81 a.B81
 D82:L3.Def K mg "rests_upon" vZ ["table","lower"] a.A82 a.B82
 D83:L3.Def K mg "check_depth" kW ["tables"] a.A83 a.B83
 D84:L3.Def K mg "check_room" vQ ["room"] a.A84 a.B84
 D85:L3.Def K mg "_law_cell_at" zj ["_law_script","_law_k"] a.A85 a.B85
 D86:L3.Def K mg "_law_stream" kU ["_law_cell","_law_size"] a.A86 a.B86
 D87:L3.Def K mg "_law_lowest" kN ["_law_top","_law_bottom"] a.A87 a.B87
 D88:L3.Def K mg "_law_clip" kO ["_law_xs","_law_reels_here","_law_size"] a.A88 a.B88
 D89:L3.Def K mg "_law_track" vS ["_law_xs","_law_reels_here","_law_size"] a.A89 a.B89
 D90:L3.Def K mg "_law_reels" vv ["_law_cell"] a.A90 a.B90
 D91:L3.Def K mg "_law_mixed" vY ["_law_table_here","_law_reels_here","_law_cell"] a.A91 a.B91
 D92:L3.Def K mg "_law_table" vU ["_law_cell","_law_reels_here","_law_tracks","_law_size"] a.A92 a.B92
 D93:L3.Def K mg "_law_copied" kh ["_law_table_here"] a.A93 a.B93
 D94:L3.Def K mg "_law_any_deed" zO ["_law_xs","_law_table_here","_law_reels_here"] a.A94 a.B94
 D95:L3.Def K mg "_law_done" qAh ["_law_table_here","_law_deed","_law_reels_here"] a.A95 a.B95
 D96:L3.Def K mg "_law_most" wt ["_law_table_here","_law_deed","_law_reels_here","_law_most_here"] a.A96 a.B96
 D97:L3.Def K mg "law" qUf ["_law_script"] a.A97 a.B97
 c_CutError:mg "CutError"=some (.ref a.k_CutError)
 c_NoNumber:mg "NoNumber"=some (.ref a.k_NoNumber)
 c_NoClip:mg "NoClip"=some (.ref a.k_NoClip)
 c_NoPlace:mg "NoPlace"=some (.ref a.k_NoPlace)
 c_Mixed:mg "Mixed"=some (.ref a.k_Mixed)
 c_NoRoom:mg "NoRoom"=some (.ref a.k_NoRoom)
 c_Short:mg "Short"=some (.ref a.k_Short)
 b_isinstance:mg "isinstance"=none
 b_int:mg "int"=none
 b_bool:mg "bool"=none
 b_abs:mg "abs"=none
 b_tuple:mg "tuple"=none
 b_len:mg "len"=none
 b_all:mg "all"=none
 b_str:mg "str"=none
 b_min:mg "min"=none
 b_sum:mg "sum"=none
 b_enumerate:mg "enumerate"=none
 b_max:mg "max"=none
 b_list:mg "list"=none
 b_any:mg "any"=none
 b_range:mg "range"=none
 b_dict:mg "dict"=none
 g_LETTERS:mg "LETTERS"=some (.str "abcdefghijklmnopqrstuvwxyz" a.t_LETTERS)
 g_LONGEST_NAME:mg "LONGEST_NAME"=some (.int 8 a.t_LONGEST_NAME)
 g_MOST_ROOM:mg "MOST_ROOM"=some (.int 1000000 a.t_MOST_ROOM)
 g_NOUGHT:mg "NOUGHT"=some (.ref a.n_NOUGHT)
 sq_NOUGHT:∀H,SqT K H a.n_NOUGHT [.int 0,.int 1]
 g_MOST_BY:mg "MOST_BY"=some (.int 1000000 a.t_MOST_BY)
 g_ROLLS:mg "ROLLS"=some (.ref a.n_ROLLS)
 sq_ROLLS:∀H,SqT K H a.n_ROLLS [.str "roll",.str "slip",.str "slide"]
 g_LAYS:mg "LAYS"=some (.ref a.n_LAYS)
 sq_LAYS:∀H,SqT K H a.n_LAYS [.str "lay_in",.str "lay_over"]
 g_PUSHES:mg "PUSHES"=some (.ref a.n_PUSHES)
 sq_PUSHES:∀H,SqT K H a.n_PUSHES [.str "lay_in",.str "open",.str "close"]
 g_CHANGES:mg "CHANGES"=some (.ref a.n_CHANGES)
 sq_CHANGES:∀H,SqT K H a.n_CHANGES [.str "cut",.str "lay_in",.str "open",.str "close",.str "lift",.str "lay_over"]
 g_MOST_PICTURES:mg "MOST_PICTURES"=some (.int 1000000000 a.t_MOST_PICTURES)
 g_MOST_TRACKS:mg "MOST_TRACKS"=some (.int 8 a.t_MOST_TRACKS)
 g_MOST_DEEP:mg "MOST_DEEP"=some (.int 6 a.t_MOST_DEEP)
 x_NoPlace:L3.OwnX K a.k_NoPlace
 x_Mixed:L3.OwnX K a.k_Mixed
 yPP:PySem.W.exmOne K (.ref a.k_NoPlace) (.ref a.k_NoPlace)=some true
 yMM:PySem.W.exmOne K (.ref a.k_Mixed) (.ref a.k_Mixed)=some true
 yMP:PySem.W.exmOne K (.ref a.k_Mixed) (.ref a.k_NoPlace)=some false
 ySP:PySem.W.exmOne K (.ref a.k_Short) (.ref a.k_NoPlace)=some false
 ySM:PySem.W.exmOne K (.ref a.k_Short) (.ref a.k_Mixed)=some false
 ySS:PySem.W.exmOne K (.ref a.k_Short) (.ref a.k_Short)=some true
 e_Short:L3.ExcK K a.k_Short
 f_most:PySem.W.findIn K (.ref a.k_Short) "most"=some none
 i_Short:Fun K "__init__" "Short.__init__" wK a.fi_Short a.gi_Short
 ib_Short:Binds K a.gi_Short ["self","most"] []
 m_Short:L3.XMk K a.k_Short a.k_CutError a.fi_Short
 tk_Short:PySem.W.takerIn K a.k_Short "most"=some none
inductive qQp(K:PySem.W.Frag)(vs:List V)(H:Hp)(Q:VK)(_:XK):Prop
|mk (a:Addr) (ns:List Int) (_:vs=[.ref a]) (_:SqL K H a (ns.map V.int)) (_:ns.length<=63) (_:∀H',Q (.bl true) H')
def qRz(H:Hp)(Q:VK)(p q:Int):Prop:= ∀z,H z=none->Q (.ref z) (upd H z (.tup [.int p,.int q]))
theorem jN{CX:CXT}{P:Program}{w:World}{K:PySem.W.Frag}{mg:Str->Option Value}{base:Heap}{ns:List Str}{n:Str}{sc:Scope}{ad:Addr}{cdv:Value}{A:Around}{outer:List Env}{s:Shared}{H:Hp}{E:XK}:(qQh CX P w K mg base ns n sc ad cdv A outer s H E).K=K:=rfl
theorem qd{CX:CXT}{P:Program}{w:World}{K:PySem.W.Frag}{mg:Str->Option Value}{base:Heap}{ns:List Str}{n:Str}{sc:Scope}{ad:Addr}{cdv:Value}{A:Around}{outer:List Env}{s:Shared}{H:Hp}{E:XK}:(qQh CX P w K mg base ns n sc ad cdv A outer s H E).nox.K=K:=rfl
theorem sL0:(0:Nat)<=sizeLine:=by decide
theorem sL1:(1:Nat)<=sizeLine:=by decide
theorem sL2:(2:Nat)<=sizeLine:=by decide
theorem sL3:(3:Nat)<=sizeLine:=by decide
theorem sL4:(4:Nat)<=sizeLine:=by decide
theorem sL5:(5:Nat)<=sizeLine:=by decide
theorem glt{α:Type}{xs:List α}{i:Nat}{x:α}(h:xs[i]?=some x):i<xs.length:=(List.getElem?_eq_some_iff.mp h).1
theorem ixT{K:PySem.W.Frag}{σ:St}{H:Hp}{p:Addr}{xs:List V}{i:Int}{v:V}{Q:VK}(h:SqT K H p xs)(a:atI xs i=some v)(q:Q v H):tC (.int i) σ H (fun y H2=>qUk K (.ref p) y H2 Q):=⟨p,xs,i,v,rfl,rfl,h,a,q⟩
theorem zS{K:PySem.W.Frag}{σ:St}{H:Hp}{p:Addr}{xs:List V}{i:Int}{v:V}{Q:VK}{j:Nat}(e:σ[j]?=some (some (.ref p)))(h:SqT K H p xs)(a:atI xs i=some v)(q:Q v H):tOp (qUk K) (qUl j) (tC (.int i)) σ H Q:=⟨.ref p,e,p,xs,i,v,rfl,rfl,h,a,q⟩
theorem ixO{K:PySem.W.Frag}{σ:St}{H:Hp}{p:Addr}{xs:List V}{i:Int}{v:V}{Q:VK}{j:Nat}(h:H p=some (.tup xs))(a:atI xs i=some v)(q:Q v H)(e:σ[j]?=some (some (.ref p)):=by rfl):tOp (qUk K) (qUl j) (tC (.int i)) σ H Q:=zS e (SqT.of h) a q
theorem qYz{K:PySem.W.Frag}{σ:St}{H:Hp}{p:Addr}{xs:List V}{i:Int}{v:V}{Q:VK}{j:Nat}(e:σ[j]?=some (some (.ref p)))(h:SqL K H p xs)(a:atI xs i=some v)(q:Q v H):tOp (qXa K) (qUl j) (tC (.int i)) σ H Q:=⟨.ref p,e,p,xs,i,v,rfl,rfl,h,a,q⟩
section
variable{P:Program}{w:World}{K:W.Frag}{mg:Str->Option Value}{base:Heap}{a:Ads}
inductive qKy(vs:List V)(H:Hp)(Q:VK)(_:XK):Prop
|mk (i:Int) (_:vs=[.int i]) (_:Q (.bl true) H)
theorem jC(T:Tx K mg a):FnOk P w K mg base CX0 1 a.A0 a.B0 ["x"] qKy:=by
 refine T.D0.F.ok qKk (fun vs H Q E h=>?_) (fun cdv A outer s H vs Q E hr h=>?_)
 . obtain⟨i,rfl,_⟩:=h
   rfl
 refine qL fun _ Y=>?_;obtain⟨i,rfl,q⟩:=h;apply Y;refine⟨_,(qE (qM (xp (qU qi rfl T.b_isinstance rfl (qA (pv 0) (qA (zw rfl T.b_int rfl) qB))) (z7 (qUq (qU qi rfl T.b_isinstance rfl (qA (pv 0) (qA (zw rfl T.b_bool rfl) qB)))))))),?_⟩
 try dsimp only[jN,qd]
 refine⟨_,O,_,_,_,true,O,.int i,⟨_,.inl ⟨O,O⟩⟩,true,O,jl ?_⟩;refine⟨_,O,_,_,_,false,O,.int i,⟨_,.inl ⟨O,by kernel_rfl⟩⟩,false,O,?_⟩;exact q
inductive qBp(vs:List V)(H:Hp)(Q:VK)(_:XK):Prop
|mk (i j:Int) (_:vs=[.int i,.int j]) (_:Q (.int ((Int.gcd i j:Nat):Int)) H)
theorem kB(T:Tx K mg a):FnOk P w K mg base CX0 1 a.A1 a.B1 ["one","other"] qBp:=by
 refine T.D1.F.ok j5 (fun vs H Q E h=>?_) (fun cdv A outer s H vs Q E hr h=>?_)
 . obtain⟨i,j,rfl,_⟩:=h
   rfl
 refine qL fun _ Y=>?_;obtain⟨i,j,rfl,q⟩:=h;apply Y;refine⟨_,(qC (qMf PassesOwn.never (qJ zD (pv 1) qG (qP _)) (qC (qZ 2 j5.nd (qQ qm (pv 0) (pv 1)))
  (qC (qZ 0 j5.nd (pv 1))
  (qE (qZ 1 j5.nd (pv 2))))))
  (qE (qM (qU vB rfl T.b_abs rfl (qA (pv 0) qB))))),?_⟩
 try dsimp only[jN,qd]
 refine qMc (fun σ H'=>H'=H/\∃(x y:Int) (v:Option V),σ=[some (.int x),some (.int y),v]/\Int.gcd x y=Int.gcd i j)
  (fun σ _=>match σ with|[_,some (.int y),_]=>y.natAbs|_=>0) ⟨rfl,i,j,none,rfl,rfl⟩ ?_ ?_
 . rintro σ H1 ⟨rfl,x,y,v,rfl,e⟩
   refine⟨_,O,O,_,O,?_⟩;refine jo (fun c=>?_) (fun c=>?_)
   . have hy:y≠0:=by simpa using c
     refine⟨_,O,_,O,_,_,O,O,hy,_,O,_,O,⟨O,y,x.fmod y,_,O,?_⟩,?_⟩
     . rw[qLj];exact e
     . exact qOc x y hy
   . have hy:y=0:=by simpa using c
     subst hy;refine⟨_,O,x,O,?_⟩;have e2:(if x<0 then-x else x)=((Int.gcd i j:Nat):Int):=by rw[<-e,Int.gcd_zero_right];split <;> omega
     rw[e2];exact q
 . rintro σ H1 Q1 Q2 hq h
   refine qL fun _ Y=>?_;obtain⟨v,e,s,k,hk,z⟩:=h;apply Y;exact⟨v,e,s,k,hk,hq _ _ z⟩
theorem qL0{t b:Int}(h:b≠0)(hb:b.natAbs<2 ^ 8000):CDivB t (sg t b)/\CDivB b (sg t b):=by
 have h1:=qX0 (t:=t) h;have h2:(sg t b).natAbs<2 ^ 8000:=by rw[qLn];exact Nat.lt_of_le_of_lt (Nat.le_of_dvd (by omega) (Int.gcd_dvd_natAbs_right ..)) hb
 exact⟨⟨h1,h2⟩,⟨h1,h2⟩⟩
inductive qKu(vs:List V)(H:Hp)(Q:VK)(_:XK):Prop
|mk (t b:Int) (_:vs=[.int t,.int b]) (_:b≠0) (_:b.natAbs<2 ^ 8000) (_:qRz H Q (xB t b) (jh t b))
theorem xL(T:Tx K mg a):FnOk P w K mg base CX0 2 a.A3 a.B3 ["top","bottom"] qKu:=by
 refine T.D3.F.ok wu (fun vs H Q E h=>?_) (fun cdv A outer s H vs Q E hr h=>?_)
 . obtain⟨t,b,rfl,_⟩:=h
   rfl
 refine qL fun _ Y=>?_;obtain⟨t,b,rfl,hb,hs,q⟩:=h;apply Y;refine⟨_,(qC (qW (PW.pt (jd (q8 (qg (qI T.D0 (jC T) hr rfl (qA (pv 0) qB)))) (jK (q8 (qg (qI T.D0 (jC T) hr rfl (qA (pv 1) qB))))))) qk qN)
  (qC (qW (qJ ja (pv 1) qG (qP _)) qk qN)
  (qC (qZ 2 wu.nd (qI T.D1 (kB T) hr rfl (qA (pv 0) (qA (pv 1) qB))))
  (qC (qW (qJ zy (pv 1) qG (qP _)) (qE (qZ 2 wu.nd (qAs ze (pv 2)))) qN)
  (qE (qM (ql (qA (qQ qf (pv 0) (pv 2)) (qA (qQ qf (pv 1) (pv 2)) qB))))))))),?_⟩
 try dsimp only[jN,qd]
 refine⟨_,O,t,O,true,O,qt ?_⟩;refine⟨_,O,b,O,true,O,qt ?_⟩;refine⟨_,O,O,_,O,?_⟩;refine jo (fun c=>absurd (by simpa using c) hb) (fun _=>?_);refine⟨_,O,_,O,t,b,O,?_⟩;refine⟨_,O,_,_,O,O,_,O,?_⟩;obtain⟨d1,d2⟩:=qL0 (t:=t) hb hs;refine jo (fun c=>?_) (fun c=>?_)
 . have c':b<0:=by simpa using c
   have e: -((Int.gcd t b:Nat):Int)=sg t b:=by unfold sg;rw[if_pos c']
   have q':qRz H Q (t.fdiv (-((Int.gcd t b:Nat):Int))) (b.fdiv (-((Int.gcd t b:Nat):Int))):=by rw[e];exact q
   exact⟨_,O,_,O,_,O,_,O,_,_,O,O,(by rw[e];exact d1),_,O,_,O,_,_,O,O,(by rw[e];exact d2),sL2,q'⟩
 . have c':¬b<0:=by simpa using c
   have e:((Int.gcd t b:Nat):Int)=sg t b:=by unfold sg;rw[if_neg c']
   have q':qRz H Q (t.fdiv ((Int.gcd t b:Nat):Int)) (b.fdiv ((Int.gcd t b:Nat):Int)):=by rw[e];exact q
   exact⟨_,O,_,O,_,_,O,O,(by rw[e];exact d1),_,O,_,O,_,_,O,O,(by rw[e];exact d2),sL2,q'⟩
def Pr(K:W.Frag)(H:Hp)(v:V)(p q:Int):Prop:= ∃z,v=.ref z/\SqT K H z [.int p,.int q]
def Sm(i:Int):Prop:=i.natAbs<2 ^ 3000
theorem Sm.mul{i j:Int}(h1:Sm i)(h2:Sm j):CMulB i j:=by unfold Sm at h1 h2;have:(2:Nat) ^ 3000<=2 ^ 60000:=Nat.pow_le_pow_right (by decide) (by decide);exact .inr ⟨by omega,by omega⟩
theorem Sm.prod{i j:Int}(h1:Sm i)(h2:Sm j):(i*j).natAbs<2 ^ 8000:=by unfold Sm at h1 h2;rw[Int.natAbs_mul];have h3:i.natAbs*j.natAbs<2 ^ 3000*2 ^ 3000:=Nat.mul_lt_mul'' h1 h2;rw[<-Nat.pow_add]at h3;exact Nat.lt_of_lt_of_le h3 (Nat.pow_le_pow_right (by decide) (by decide))
theorem at0{x y:V}:atI [x,y] 0=some x:=rfl
theorem at1{x y:V}:atI [x,y] 1=some y:=rfl
inductive qPs(K:W.Frag)(vs:List V)(H:Hp)(Q:VK)(_:XK):Prop
|mk (x y:V) (p q r s:Int) (_:vs=[x,y]) (_:Pr K H x p q) (_:Pr K H y r s) (_:q≠0) (_:s≠0) (_:Sm p) (_:Sm q) (_:Sm r) (_:Sm s) (_:qRz H Q (xB (p*s+r*q) (q*s)) (jh (p*s+r*q) (q*s)))
theorem qN3(T:Tx K mg a):FnOk P w K mg base CX0 3 a.A4 a.B4 ["one","other"] (qPs K):=by
 refine T.D4.F.ok qPt (fun vs H Q E h=>?_) (fun cdv A outer s H vs Q E hr h=>?_)
 . obtain⟨x,y,p,q,r,s,rfl,_⟩:=h
   rfl
 refine qL fun _ Y=>?_;obtain⟨x,y,p,q,r,s',rfl,⟨z1,rfl,h1⟩,⟨z2,rfl,h2⟩,hq,hs,bp,bq,br,bs,k⟩:=h;apply Y;refine⟨_,(qE (qM (qI T.D3 (xL T) hr rfl (qA (qQ qr (qQ jJ (qK (pv 0)) (qK (pv 1))) (qQ jJ (qK (pv 1)) (qK (pv 0)))) (qA (qQ jJ (qK (pv 0)) (qK (pv 1))) qB))))),?_⟩
 try dsimp only[jN,qd]
 refine(zS rfl h1 at0 (zS rfl h2 at1 ⟨_,_,O,O,bp.mul bs,?_⟩));refine(zS rfl h2 at0 (zS rfl h1 at1 ⟨_,_,O,O,br.mul bq,_,_,O,O,?_⟩));refine(zS rfl h1 at1 (zS rfl h2 at1 ⟨_,_,O,O,bq.mul bs,?_⟩));exact⟨_,_,O,Int.mul_ne_zero hq hs,bq.prod bs,k⟩
inductive qLf(K:W.Frag)(vs:List V)(H:Hp)(Q:VK)(_:XK):Prop
|mk (x:V) (p q:Int) (_:vs=[x]) (_:Pr K H x p q) (_:q≠0) (_:q.natAbs<2 ^ 8000) (_:Q (.int (p.fdiv q)) H)
theorem ka(T:Tx K mg a):FnOk P w K mg base CX0 1 a.A9 a.B9 ["one"] (qLf K):=by
 refine T.D9.F.ok qK6 (fun vs H Q E h=>?_) (fun cdv A outer s H vs Q E hr h=>?_)
 . obtain⟨x,p,q,rfl,_⟩:=h
   rfl
 refine qL fun _ Y=>?_;obtain⟨x,p,q,rfl,⟨z1,rfl,h1⟩,hq,bq,k⟩:=h;apply Y;refine⟨_,(qE (qM (qQ qf (qK (pv 0)) (qK (pv 0))))),?_⟩
 try dsimp only[jN,qd]
 exact(zS rfl h1 at0 (zS rfl h1 at1 ⟨_,_,O,O,⟨hq,bq⟩,k⟩))
theorem nz{j:Int}(h:j≠0:=by decide):j≠0:=h
theorem cdB{i j:Int}(h0:j≠0)(h:j.natAbs<18446744073709551616):CDivB i j:=
 ⟨h0,Nat.lt_of_lt_of_le h (Nat.le_trans (by decide:18446744073709551616<=2 ^ 64) (Nat.pow_le_pow_right (by decide) (by decide)))⟩
theorem cmR{i j:Int}(h1: -(18446744073709551616:Int)<j)(h2:j<18446744073709551616):CMulB i j:=.inl (.inr ⟨h1,h2⟩)
theorem cmL{i j:Int}(h1: -(18446744073709551616:Int)<i)(h2:i<18446744073709551616):CMulB i j:=.inl (.inl ⟨h1,h2⟩)
theorem at2{x y:V}{i:Int}(h0:0<=i)(h1:i<2):∃v,atI [x,y] i=some v/\(v=x\/v=y):=by
 have:i=0\/i=1:=by omega
 rcases this with rfl|rfl
 . exact⟨x,O,.inl rfl⟩
 . exact⟨y,O,.inr rfl⟩
theorem fm(i:Int){j:Int}(h:0<j):0<=i.fmod j/\i.fmod j<j:=⟨Int.fmod_nonneg_of_pos i h,Int.fmod_lt_of_pos i h⟩
theorem cpw{n:Nat}(h:n<=1000000):qYf 10 (n:Int):=⟨by omega,by omega,by decide⟩
def qRx(n:Nat)(p q:Int):Prop:=0<q/\Int.gcd p q=1/\p.natAbs<2 ^ n/\q.natAbs<2 ^ n
theorem Sm.of200{i:Int}(h:i.natAbs<2 ^ 200):Sm i:=Nat.lt_of_lt_of_le h (Nat.pow_le_pow_right (by decide) (by decide))
theorem qMr{n:Nat}{t b:Int}(hb:0<b)(h1:t.natAbs<2 ^ n)(h2:b.natAbs<2 ^ n):qRx n (xB t b) (jh t b):=
 ⟨j7 (by omega),we (by omega),Nat.lt_of_le_of_lt (qAq (by omega)) h1,Nat.lt_of_le_of_lt (ku (by omega)) h2⟩
inductive qK2(K:W.Frag)(vs:List V)(H:Hp)(Q:VK)(_:XK):Prop
|mk (x y:V) (p q r s:Int) (_:vs=[x,y]) (_:Pr K H x p q) (_:Pr K H y r s) (_:q≠0) (_:s≠0) (_:Sm p) (_:Sm q) (_:Sm r) (_:Sm s) (_:qRz H Q (xB (p*r) (q*s)) (jh (p*r) (q*s)))
theorem qKl(T:Tx K mg a):FnOk P w K mg base CX0 3 a.A6 a.B6 ["one","other"] (qK2 K):=by
 refine T.D6.F.ok qKm (fun vs H Q E h=>?_) (fun cdv A outer s H vs Q E hr h=>?_)
 . obtain⟨x,y,p,q,r,s,rfl,_⟩:=h
   rfl
 refine qL fun _ Y=>?_;obtain⟨x,y,p,q,r,s',rfl,⟨z1,rfl,h1⟩,⟨z2,rfl,h2⟩,hq,hs,bp,bq,br,bs,k⟩:=h;apply Y;refine⟨_,(qE (qM (qI T.D3 (xL T) hr rfl (qA (qQ jJ (qK (pv 0)) (qK (pv 1))) (qA (qQ jJ (qK (pv 0)) (qK (pv 1))) qB))))),?_⟩
 try dsimp only[jN,qd]
 refine(zS rfl h1 at0 (zS rfl h2 at0 ⟨_,_,O,O,bp.mul br,?_⟩));refine(zS rfl h1 at1 (zS rfl h2 at1 ⟨_,_,O,O,bq.mul bs,?_⟩));exact⟨_,_,O,Int.mul_ne_zero hq hs,bq.prod bs,k⟩
inductive qNk(K:W.Frag)(vs:List V)(H:Hp)(Q:VK)(_:XK):Prop
|mk (x y:V) (p q r s:Int) (_:vs=[x,y]) (_:Pr K H x p q) (_:Pr K H y r s) (_:q≠0) (_:s≠0) (_:Sm p) (_:Sm q) (_:Sm r) (_:Sm s) (_:qRz H Q (xB (p*s-r*q) (q*s)) (jh (p*s-r*q) (q*s)))
theorem qBt(T:Tx K mg a):FnOk P w K mg base CX0 3 a.A5 a.B5 ["one","other"] (qNk K):=by
 refine T.D5.F.ok qM0 (fun vs H Q E h=>?_) (fun cdv A outer s H vs Q E hr h=>?_)
 . obtain⟨x,y,p,q,r,s,rfl,_⟩:=h
   rfl
 refine qL fun _ Y=>?_;obtain⟨x,y,p,q,r,s',rfl,⟨z1,rfl,h1⟩,⟨z2,rfl,h2⟩,hq,hs,bp,bq,br,bs,k⟩:=h;apply Y;refine⟨_,(qE (qM (qI T.D3 (xL T) hr rfl (qA (qQ jS (qQ jJ (qK (pv 0)) (qK (pv 1))) (qQ jJ (qK (pv 1)) (qK (pv 0)))) (qA (qQ jJ (qK (pv 0)) (qK (pv 1))) qB))))),?_⟩
 try dsimp only[jN,qd]
 refine(zS rfl h1 at0 (zS rfl h2 at1 ⟨_,_,O,O,bp.mul bs,?_⟩));refine(zS rfl h2 at0 (zS rfl h1 at1 ⟨_,_,O,O,br.mul bq,_,_,O,O,?_⟩));refine(zS rfl h1 at1 (zS rfl h2 at1 ⟨_,_,O,O,bq.mul bs,?_⟩));exact⟨_,_,O,Int.mul_ne_zero hq hs,bq.prod bs,k⟩
inductive qKg(K:W.Frag)(vs:List V)(H:Hp)(Q:VK)(_:XK):Prop
|mk (x y:V) (p q r s:Int) (_:vs=[x,y]) (_:Pr K H x p q) (_:Pr K H y r s) (_:q≠0) (_:r≠0) (_:Sm p) (_:Sm q) (_:Sm r) (_:Sm s) (_:qRz H Q (xB (p*s) (q*r)) (jh (p*s) (q*r)))
theorem qEx(T:Tx K mg a):FnOk P w K mg base CX0 3 a.A7 a.B7 ["one","other"] (qKg K):=by
 refine T.D7.F.ok qK1 (fun vs H Q E h=>?_) (fun cdv A outer s H vs Q E hr h=>?_)
 . obtain⟨x,y,p,q,r,s,rfl,_⟩:=h
   rfl
 refine qL fun _ Y=>?_;obtain⟨x,y,p,q,r,s',rfl,⟨z1,rfl,h1⟩,⟨z2,rfl,h2⟩,hq,hr',bp,bq,br,bs,k⟩:=h;apply Y;refine⟨_,(qE (qM (qI T.D3 (xL T) hr rfl (qA (qQ jJ (qK (pv 0)) (qK (pv 1))) (qA (qQ jJ (qK (pv 0)) (qK (pv 1))) qB))))),?_⟩
 try dsimp only[jN,qd]
 refine(zS rfl h1 at0 (zS rfl h2 at1 ⟨_,_,O,O,bp.mul bs,?_⟩));refine(zS rfl h1 at1 (zS rfl h2 at0 ⟨_,_,O,O,bq.mul br,?_⟩));exact⟨_,_,O,Int.mul_ne_zero hq hr',bq.prod br,k⟩
inductive qI4(K:W.Frag)(vs:List V)(H:Hp)(Q:VK)(_:XK):Prop
|mk (x y:V) (p q r s:Int) (_:vs=[x,y]) (_:Pr K H x p q) (_:Pr K H y r s) (_:Sm p) (_:Sm q) (_:Sm r) (_:Sm s) (_:Q (.bl (decide (p*s<r*q))) H)
theorem qH0(T:Tx K mg a):FnOk P w K mg base CX0 1 a.A8 a.B8 ["one","other"] (qI4 K):=by
 refine T.D8.F.ok qIc (fun vs H Q E h=>?_) (fun cdv A outer s H vs Q E hr h=>?_)
 . obtain⟨x,y,p,q,r,s,rfl,_⟩:=h
   rfl
 refine qL fun _ Y=>?_;obtain⟨x,y,p,q,r,s',rfl,⟨z1,rfl,h1⟩,⟨z2,rfl,h2⟩,bp,bq,br,bs,k⟩:=h;apply Y;refine⟨_,(qE (qM (jL zy (qQ jJ (qK (pv 0)) (qK (pv 1))) (qQ jJ (qK (pv 1)) (qK (pv 0))) (qP _)))),?_⟩
 try dsimp only[jN,qd]
 refine(zS rfl h1 at0 (zS rfl h2 at1 ⟨_,_,O,O,bp.mul bs,?_⟩));exact(zS rfl h2 at0 (zS rfl h1 at1 ⟨_,_,O,O,br.mul bq,_,_,O,O,k⟩))
structure Cp(K:W.Frag)(H:Hp)(v:V)(n:Str)(p q r s len:Int):Prop where
 ex:∃z z1 z2,v=.ref z/\SqT K H z [.str "clip",.str n,.ref z1,.ref z2,.int len]/\SqT K H z1 [.int p,.int q]/\SqT K H z2 [.int r,.int s]
theorem Cp.same{H H':Hp}{v:V}{n:Str}{p q r s len:Int}(e:Same H H')(h:Cp K H v n p q r s len):Cp K H' v n p q r s len:=
 let ⟨z,z1,z2,h1,h2,h3,h4⟩:=h.ex;⟨z,z1,z2,h1,L3.Same.tup e h2,L3.Same.tup e h3,L3.Same.tup e h4⟩
theorem qT4{x0 x1 x2 x3 x4:V}:atI [x0,x1,x2,x3,x4] 2=some x2:=rfl
theorem qKe{x0 x1 x2 x3 x4:V}:atI [x0,x1,x2,x3,x4] 3=some x3:=rfl
theorem qRt{p q r s k:Int}(hq:0<q)(hs:0<s):
 xB (p*jh (k*r) (1*s)+xB (k*r) (1*s)*q) (q*jh (k*r) (1*s))=xB (p*s+k*r*q) (q*s)/\
 jh (p*jh (k*r) (1*s)+xB (k*r) (1*s)*q) (q*jh (k*r) (1*s))=jh (p*s+k*r*q) (q*s):=by
 rw[Int.one_mul];have c:=xS (k*r) s;have n0:=j7 (t:=k*r) (b:=s) (by omega);generalize xB (k*r) s=m at c⊢;generalize jh (k*r) s=n at c n0⊢;have b1:q*s≠0:=Int.mul_ne_zero (by omega) (by omega);have b2:q*n≠0:=Int.mul_ne_zero (by omega) (by omega);refine qJc b2 (j7 b1) (we b1) ?_;have e:=xS (p*s+k*r*q) (q*s);generalize xB (p*s+k*r*q) (q*s)=u at e⊢;generalize jh (p*s+k*r*q) (q*s)=v at e⊢;have h:(u*(q*n))*s=((p*n+m*q)*v)*s:=by
  calc (u*(q*n))*s=(u*(q*s))*n:=by rw[Int.mul_assoc,Int.mul_assoc,Int.mul_assoc,Int.mul_assoc,Int.mul_comm n s]
   _=((p*s+k*r*q)*v)*n:=by rw[e]
   _=(p*n*s+(k*r*n)*q)*v:=by
    have h1:(p*s+k*r*q)*v*n=(p*s+k*r*q)*n*v:=by rw[Int.mul_assoc,Int.mul_comm v n,<-Int.mul_assoc]
    have h2:(p*s+k*r*q)*n=p*n*s+k*r*n*q:=by rw[Int.add_mul,Int.mul_assoc p s n,Int.mul_comm s n,<-Int.mul_assoc,Int.mul_assoc (k*r) q n,Int.mul_comm q n,<-Int.mul_assoc]
    rw[h1,h2]
   _=(p*n*s+(m*s)*q)*v:=by rw[<-c]
   _=((p*n+m*q)*v)*s:=by
    have h3:p*n*s+m*s*q=(p*n+m*q)*s:=by rw[Int.add_mul,Int.mul_assoc m s q,Int.mul_comm s q,<-Int.mul_assoc]
    rw[h3,Int.mul_assoc,Int.mul_comm s v,<-Int.mul_assoc]
 exact Int.eq_of_mul_eq_mul_right (by omega) h
def Sm2(i:Int):Prop:=i.natAbs<2 ^ 700
theorem Sm2.sm{i:Int}(h:Sm2 i):Sm i:=Nat.lt_of_lt_of_le h (Nat.pow_le_pow_right (by decide) (by decide))
theorem jy{i j:Int}{n m:Nat}(h1:i.natAbs<2 ^ n)(h2:j.natAbs<2 ^ m):(i*j).natAbs<2 ^ (n+m):=by rw[Int.natAbs_mul,Nat.pow_add];exact Nat.mul_lt_mul'' h1 h2
inductive qJ3(K:W.Frag)(vs:List V)(H:Hp)(Q:VK)(_:XK):Prop
|mk (v:V) (n:Str) (p q r s len k:Int) (_:vs=[v,.int k]) (_:Cp K H v n p q r s len) (_:0<q) (_:0<s) (_:Sm2 p) (_:Sm2 q) (_:Sm2 r) (_:Sm2 s) (_:Sm2 k) (_:∀z H',Same H H'->H' z=some (.tup [.int (xB (p*s+k*r*q) (q*s)),.int (jh (p*s+k*r*q) (q*s))])->Q (.ref z) H')
theorem zP(T:Tx K mg a):FnOk P w K mg base CX0 4 a.A12 a.B12 ["clip","k"] (qJ3 K):=by
 refine T.D12.F.ok qJ9 (fun vs H Q E h=>?_) (fun cdv A outer s H vs Q E hr h=>?_)
 . obtain⟨v,n,p,q,r,s,len,k,rfl,_⟩:=h
   rfl
 refine qL fun _ Y=>?_;obtain⟨v,n,p,q,r,s',len,k,rfl,⟨z,z1,z2,rfl,hc,h1,h2⟩,hq,hs,bp,bq,br,bs,bk,kk⟩:=h;apply Y;refine⟨_,(qE (qM (qI T.D4 (qN3 T) hr rfl (qA (qK (pv 0)) (qA (qI T.D6 (qKl T) hr rfl (qA (qI T.D3 (xL T) hr rfl (qA (pv 1) (qA qG qB))) (qA (qK (pv 0)) qB))) qB))))),?_⟩
 try dsimp only[jN,qd]
 refine⟨_,O,z,_,_,_,O,O,hc,qT4,_,O,k,1,O,by decide,Nat.lt_of_lt_of_le (m:=2 ^ 1) (by decide) (Nat.pow_le_pow_right (by decide) (by decide)),fun y hy=>?_⟩;have s1:=qF hy (.tup [.int (xB k 1),.int (jh k 1)]);obtain⟨l1,l2⟩:=qLs (p:=k) (q:=1) (by decide) (Int.gcd_one_right ..);refine⟨_,O,z,_,_,_,O,O,L3.Same.tup s1 hc,qKe,?_⟩;have one:Sm 1:=Nat.lt_of_lt_of_le (m:=2 ^ 1) (by decide) (Nat.pow_le_pow_right (by decide) (by decide));refine⟨_,_,k,1,r,s',O,⟨y,O,?_⟩,⟨z2,O,L3.Same.tup s1 h2⟩,by decide,by omega,bk.sm,one,br.sm,bs.sm,fun x hx=>?_⟩
 . have e:SqT K (upd H y (.tup [.int (xB k 1),.int (jh k 1)])) y [.int (xB k 1),.int (jh k 1)]:=SqT.of qD
   rw[l1,l2]at e⊢;exact e
 have s2:=s1.trans (qF hx (.tup [.int (xB (k*r) (1*s')),.int (jh (k*r) (1*s'))]));have b1:(1*s')≠0:=by omega
 have n0:=j7 (t:=k*r) b1;have bm:Sm (xB (k*r) (1*s')):=by refine Nat.lt_of_le_of_lt (qAq b1) (Nat.lt_of_lt_of_le (jy bk br) (Nat.pow_le_pow_right (by decide) (by decide)))
 have bn:Sm (jh (k*r) (1*s')):=by refine Nat.lt_of_le_of_lt (ku b1) ?_;rw[Int.one_mul];exact bs.sm
 refine⟨_,_,p,q,_,_,O,⟨z1,O,L3.Same.tup s2 h1⟩,⟨x,O,SqT.of qD⟩,by omega,by omega,bp.sm,bq.sm,bm,bn,fun u hu=>?_⟩;obtain⟨e1,e2⟩:=qRt (p:=p) (r:=r) (k:=k) hq hs;refine kk u _ (s2.trans (qF hu _)) ?_;rw[qD,e1,e2]
theorem qEm{t b:Int}(hb:0<b):(xB t b).fdiv (jh t b)=t.fdiv b:=by
 have e1:=qQ1 t b;have e2:=qNh t b;have sp:0<sg t b:=by have g:=qCe (t:=t) (b:=b) (by omega);unfold sg;rw[if_neg (by omega)];omega
 have q0:=j7 (t:=t) (b:=b) (by omega);obtain⟨h1,h2⟩:=qo (p:=xB t b) q0;obtain⟨h3,h4⟩:=qo (p:=t) hb;generalize (xB t b).fdiv (jh t b)=f at h1 h2⊢;generalize t.fdiv b=g at h3 h4⊢;generalize xB t b=u at e1 h1 h2;generalize jh t b=v at e2 h1 h2 q0;generalize sg t b=w at e1 e2 sp;subst e1 e2;have k1:g*v<=u:=by rw[<-Int.mul_assoc]at h3;exact Int.le_of_mul_le_mul_right h3 sp
 have k2:u<(g+1)*v:=by rw[<-Int.mul_assoc]at h4;exact Int.lt_of_mul_lt_mul_right h4 (by omega)
 have k3:f<g+1:=Int.lt_of_mul_lt_mul_right (a:=v) (by omega) (by omega);have k4:g<f+1:=Int.lt_of_mul_lt_mul_right (a:=v) (by omega) (by omega);omega
inductive qGt(K:W.Frag)(vs:List V)(H:Hp)(Q:VK)(_:XK):Prop
|mk (v:V) (n:Str) (p q r s len k:Int) (_:vs=[v,.int k]) (_:Cp K H v n p q r s len) (_:0<q) (_:0<s) (_:Sm2 p) (_:Sm2 q) (_:Sm2 r) (_:Sm2 s) (_:Sm2 k) (_:∀H',Same H H'->Q (.int ((p*s+k*r*q).fdiv (q*s))) H')
theorem qA5(T:Tx K mg a):FnOk P w K mg base CX0 5 a.A13 a.B13 ["clip","k"] (qGt K):=by
 refine T.D13.F.ok qHn (fun vs H Q E h=>?_) (fun cdv A outer s H vs Q E hr h=>?_)
 . obtain⟨v,n,p,q,r,s,len,k,rfl,_⟩:=h
   rfl
 refine qL fun _ Y=>?_;obtain⟨v,n,p,q,r,s',len,k,rfl,hc,hq,hs,bp,bq,br,bs,bk,kk⟩:=h;apply Y;refine⟨_,(qE (qM (qI T.D9 (ka T) hr rfl (qA (qI T.D12 (zP T) hr rfl (qA (pv 0) (qA (pv 1) qB))) qB)))),?_⟩
 try dsimp only[jN,qd]
 refine⟨_,O,_,O,v,n,p,q,r,s',len,k,O,hc,hq,hs,bp,bq,br,bs,bk,fun z H' sH hz=>?_⟩;have b1:q*s'≠0:=Int.mul_ne_zero (by omega) (by omega);refine⟨_,_,_,O,⟨z,O,SqT.of hz⟩,?_,?_,?_⟩
 . have:=j7 (t:=p*s'+k*r*q) b1;omega
 . exact Nat.lt_of_le_of_lt (ku b1) (Nat.lt_of_lt_of_le (jy bq bs) (Nat.pow_le_pow_right (by decide) (by decide)))
 . rw[qEm (Int.mul_pos hq hs)]
   exact kk H' sH
theorem qU4{x0 x1 x2 x3 x4:V}:atI [x0,x1,x2,x3,x4] 0=some x0:=rfl
theorem qI7{x0 x1 x2 x3 x4:V}:atI [x0,x1,x2,x3,x4] 1=some x1:=rfl
theorem qCq{x0 x1 x2 x3 x4:V}:atI [x0,x1,x2,x3,x4] 4=some x4:=rfl
theorem eq2(a b c d:Int):qIy [.int a,.int b] [.int c,.int d]=(a==c && b==d):=by simp[qIy,eqV,List.range_succ]
structure Bn(n:Nat)(p q r s:Int):Prop where
 q0:0<q
 s0:0<s
 bp:p.natAbs<2 ^ n
 bq:q.natAbs<2 ^ n
 br:r.natAbs<2 ^ n
 bs:s.natAbs<2 ^ n
theorem qBb{i:Int}{n m:Nat}(h:i.natAbs<2 ^ n)(l:n<=m:=by decide):i.natAbs<2 ^ m:=Nat.lt_of_lt_of_le h (Nat.pow_le_pow_right (by decide) l)
theorem Bn.mono{n m:Nat}{p q r s:Int}(h:Bn n p q r s)(l:n<=m:=by decide):Bn m p q r s:=⟨h.q0,h.s0,qBb h.bp l,qBb h.bq l,qBb h.br l,qBb h.bs l⟩
theorem Bn.part{p q r s k:Int}(h:Bn 110 p q r s)(hk:k.natAbs<2 ^ 30):Bn 340 (plP p q r s k) (plQ p q r s k) r s:=by
 obtain⟨hq,hs,bp,bq,br,bs⟩:=h;refine⟨qF5 hq hs,hs,Nat.lt_of_le_of_lt (qTk hq hs) ?_,Nat.lt_of_le_of_lt (qUh hq hs) (qBb (jy bq bs)),qBb br,qBb bs⟩;have h1:=jy bp bs;have h2:=jy (jy hk br) bq;have e:(2:Nat) ^ (110+110)+2 ^ (30+110+110)<=2 ^ 340:=by decide
 omega
theorem qRq{i:Int}{n:Nat}(h:i.natAbs<2 ^ n)(l:n<=8000:=by decide):i.natAbs<2 ^ 8000:=qBb h l
inductive qDq(K:W.Frag)(vs:List V)(H:Hp)(Q:VK)(_:XK):Prop
|mk (z:Addr) (ns:List Int) (i:Int) (_:vs=[.ref z,.int i]) (_:SqL K H z (ns.map V.int)) (_:ns.length<=63) (_:0<=i) (_:∀c:Int,Q (.int c) H)
theorem zH(T:Tx K mg a):FnOk P w K mg base CX0 1 a.A85 a.B85 ["_law_script","_law_k"] (qDq K):=by
 refine T.D85.F.ok qEq (fun vs H Q E h=>?_) (fun cdv A outer s H vs Q E hr h=>?_)
 . obtain⟨z,ns,i,rfl,_⟩:=h
   rfl
 refine qL fun _ Y=>?_;obtain⟨z,ns,i,rfl,hS,hl,h0,k⟩:=h;apply Y;refine⟨_,(qC (qW (qJ zy (pv 1) (qU qh rfl T.b_len rfl (qA (pv 0) qB)) (qP _)) (qE (qM (jU qz (pv 0) (pv 1) (fun _ _=>rfl)))) qN)
  (qE (qM qG))),?_⟩
 try dsimp only[jN,qd]
 have hml:(ns.map V.int).length=ns.length:=List.length_map _;refine⟨_,O,_,O,z,_,O,.inl hS,_,_,O,O,_,O,?_⟩;refine jo (fun c=>?_) (fun _=>?_)
 . have c':i<((ns.map V.int).length:Int):=of_decide_eq_true c
   rw[hml]at c';have hi:i.toNat<ns.length:=by omega
   have e:i=((i.toNat:Nat):Int):=by omega
   have hat:atI (ns.map V.int) ((i.toNat:Nat):Int)=some (.int ns[i.toNat]):=jI (by rw[List.getElem?_map,List.getElem?_eq_getElem hi];rfl);rw[<-e]at hat;exact⟨_,O,_,O,z,_,_,.int ns[i.toNat],O,O,hS,hat,k _⟩
 . exact k 0
def thB(i m:Int):Bool:=decide (0<=i) && decide (i<m)
theorem qP7{N D m:Int}(hD:0<D):thB (N.fdiv D) m=true↔InR N D m:=by rw[qDn hD];simp[thB]
inductive qKo(vs:List V)(H:Hp)(Q:VK)(_:XK):Prop
|mk (i m:Int) (_:vs=[.int i,.int m]) (_:Q (.bl (thB i m)) H)
theorem qAb(T:Tx K mg a):FnOk P w K mg base CX0 1 a.A14 a.B14 ["picture","many"] qKo:=by
 refine T.D14.F.ok qKs (fun vs H Q E h=>?_) (fun cdv A outer s H vs Q E hr h=>?_)
 . obtain⟨i,m,rfl,_⟩:=h
   rfl
 refine qL fun _ Y=>?_;obtain⟨i,m,rfl,q⟩:=h;apply Y;refine⟨_,(qE (qM (xp (jL qNa qG (pv 0) (qP _)) (z7 (jL zy (pv 0) (pv 1) (qP _)))))),?_⟩
 try dsimp only[jN,qd]
 refine⟨_,O,_,_,O,O,_,O,?_⟩;unfold thB at q;by_cases h0:0<=i
 . rw[decide_eq_true h0]at q⊢
   exact jl ⟨_,O,_,O,_,_,O,O,q⟩
 . rw[decide_eq_false h0]at q⊢
   exact qt q
def qXf(c:Nat):Bool:=!(Builtin.Str.occurrences "abcdefghijklmnopqrstuvwxyz" ⟨#[c]⟩ 0 ("abcdefghijklmnopqrstuvwxyz":Str).length 1).isEmpty
def qFo(z:Str):Bool:=decide (1<=z.length/\z.length<=8) && z.cps.toList.all qXf
theorem qGr{c d:Int}(hd:0<d)(g:Int.gcd c d=1):xB (0*d-c*1) (1*d)=-c/\jh (0*d-c*1) (1*d)=d:=by
 refine qJc (by omega) hd (by rw[Int.neg_gcd];exact g) ?_
 grind
inductive qC7(K:W.Frag)(vs:List V)(H:Hp)(Q:VK)(_:XK):Prop
|mk (x y:V) (A B c d m:Int) (_:vs=[x,y,.int m]) (_:Pr K H x A B) (_:Pr K H y c d) (_:0<B) (_:0<d) (_:Int.gcd c d=1) (_:A.natAbs<2 ^ 700) (_:B.natAbs<2 ^ 700) (_:c.natAbs<2 ^ 700) (_:d.natAbs<2 ^ 700) (_:m.natAbs<2 ^ 700) (_:∀H',Same H H'->Q (.int (zp (A*d) (c*B) (B*d) m)) H')
theorem vE(T:Tx K mg a):FnOk P w K mg base CX0 4 a.A18 a.B18 ["first","step","many"] (qC7 K):=by
 refine T.D18.F.ok xh (fun vs H Q E h=>?_) (fun cdv A outer s H vs Q E hr h=>?_)
 . obtain⟨x,y,A,B,c,d,m,rfl,_⟩:=h
   rfl
 refine qL fun _ Y=>?_;obtain⟨x,y,A',B,c,d,m,rfl,⟨z1,rfl,h1⟩,⟨z2,rfl,h2⟩,hB,hd,hg,bA,bB,bc,bd,bm,kk⟩:=h;apply Y;have hu:=hr.units0;refine⟨_,(qC (qW (qJ (qSg hu) (pv 1) (jq (v:=.ref a.n_NOUGHT) rfl T.g_NOUGHT rfl) (qP _)) (qE (qM (jq (v:=.int 1000000) rfl T.g_MOST_ROOM ⟨_,O⟩))) qN)
  (qC (qW (q8 (qg (qI T.D14 (qAb T) hr rfl (qA (qI T.D9 (ka T) hr rfl (qA (pv 0) qB)) (qA (pv 2) qB))))) (qE (qM qG)) qN)
  (qC (zC (qW (qg (qI T.D8 (qH0 T) hr rfl (qA (pv 1) (qA (jq (v:=.ref a.n_NOUGHT) rfl T.g_NOUGHT rfl) qB)))) (qE (qZ 3 xh.nd (qQ qr (qI T.D9 (ka T) hr rfl (qA (qI T.D7 (qEx T) hr rfl (qA (pv 0) (qA (qI T.D5 (qBt T) hr rfl (qA (jq (v:=.ref a.n_NOUGHT) rfl T.g_NOUGHT rfl) (qA (pv 1) qB))) qB))) qB)) qG))) (qE (qZ 3 xh.nd (qAs ze (qI T.D9 (ka T) hr rfl (qA (qI T.D7 (qEx T) hr rfl (qA (qI T.D5 (qBt T) hr rfl (qA (pv 0) (qA (qI T.D3 (xL T) hr rfl (qA (pv 2) (qA qG qB))) qB))) (qA (pv 1) qB))) qB)))))))
  (qE (qM (qU (zQ rfl) rfl T.b_min rfl (qA (pv 3) (qA (jq (v:=.int 1000000) rfl T.g_MOST_ROOM ⟨_,rfl⟩) qB)))))))),?_⟩
 try dsimp only[jN,qd]
 have S:∀{i:Int},i.natAbs<2 ^ 700->Sm i:=fun h=>qBb h;have one:Sm 1:=Sm.of200 (by decide);have nul:Sm 0:=Sm.of200 (by decide);have hBd:=Int.mul_pos hB hd;have H1:∀{H':Hp},Same H H'->SqT K H' z1 [.int A',.int B]:=fun e=>L3.Same.tup e h1;have H2:∀{H':Hp},Same H H'->SqT K H' z2 [.int c,.int d]:=fun e=>L3.Same.tup e h2;refine⟨_,O,_,_,_,_,O,O,h2,T.sq_NOUGHT _,O,O,_,O,?_⟩;rw[if_neg (by decide:¬(false=true)),eq2];by_cases hc:c=0
 . have d1:d=1:=by subst hc;rw[Int.gcd_zero_left]at hg;omega
   rw[show (c==0 && d==1)=true by simp[hc,d1]];refine jl ?_;have:=kk H (Same.refl _);unfold zp at this;rw[if_pos (by rw[hc,Int.zero_mul])]at this;exact this
 rw[show (c==0 && d==1)=false by simp[hc]];refine qt ?_;have hcB:¬(c*B=0):=Int.mul_ne_zero hc (by omega);have ef:A'.fdiv B=(A'*d).fdiv (B*d):=qB6 hB hBd (by grind);refine⟨_,O,_,A',B,O,⟨z1,O,h1⟩,by omega,qRq bB,_,O,_,_,O,_,O,?_⟩;by_cases ht:0<=A'.fdiv B/\A'.fdiv B<m
 rotate_left
 . rw[show thB (A'.fdiv B) m=false by unfold thB;rw[Bool.eq_false_iff];simpa using ht]
   refine jl ?_;have:=kk H (Same.refl _);unfold zp at this;rw[if_neg hcB,if_pos (by rw[<-ef];exact ht)]at this;exact this
 rw[show thB (A'.fdiv B) m=true by simp[thB,ht]];refine qt ?_;have res:∀H',Same H H'->Q (.int (if 1000000<(if c*B<0 then (A'*d).fdiv (-(c*B))+1 else-((A'*d-m*(B*d)).fdiv (c*B)))then 1000000 else (if c*B<0 then (A'*d).fdiv (-(c*B))+1 else-((A'*d-m*(B*d)).fdiv (c*B))))) H':=fun H' e=>by have:=kk H' e;unfold zp at this;rw[if_neg hcB,if_neg (by rw[<-ef];simpa using ht)]at this;exact this
 generalize hgg:(if c*B<0 then (A'*d).fdiv (-(c*B))+1 else-((A'*d-m*(B*d)).fdiv (c*B)))=g at res;refine⟨fun σ' H'=>σ'=[some (.ref z1),some (.ref z2),some (.int m),some (.int g)]/\Same H H',?_,?_⟩
 . refine⟨_,O,_,_,c,d,0,1,O,⟨z2,O,h2⟩,⟨_,O,T.sq_NOUGHT _⟩,S bc,S bd,nul,one,_,O,?_⟩
   by_cases hn:c*1<0*d
   . rw[decide_eq_true hn]
     refine jl ?_;have c0:c<0:=by omega
     refine⟨_,O,_,O,_,_,0,1,c,d,O,⟨_,O,T.sq_NOUGHT _⟩,⟨z2,O,h2⟩,by decide,by omega,nul,one,S bc,S bd,fun u hu'=>?_⟩;rw[(qGr hd hg).1,(qGr hd hg).2];have w1:=qF hu' (.tup [.int (-c),.int d]);have bnc:(-c).natAbs<2 ^ 700:=by rw[Int.natAbs_neg];exact bc
     have hpos:0<B*(-c):=Int.mul_pos hB (by omega);refine⟨_,_,A',B,-c,d,O,⟨z1,O,H1 w1⟩,⟨u,O,SqT.of qD⟩,by omega,by omega,S bA,S bB,S bnc,S bd,fun v hv=>?_⟩;have w2:=w1.trans (qF hv (.tup [.int (xB (A'*d) (B*(-c))),.int (jh (A'*d) (B*(-c)))]));have lq:=j7 (t:=A'*d) (b:=B*(-c)) (by omega);refine⟨_,_,_,O,⟨v,O,SqT.of qD⟩,by omega,Nat.lt_of_le_of_lt (ku (by omega)) (qRq (jy bB bnc)),?_⟩;rw[qEm hpos];refine⟨_,_,O,O,?_,w2⟩;have e:g=(A'*d).fdiv (B* -c)+1:=by rw[<-hgg,if_pos (by have:=Int.mul_neg_of_neg_of_pos c0 hB;exact this)];rw[show-(c*B)=B* -c by grind]
     rw[e];rfl
   . rw[decide_eq_false hn]
     refine qt ?_;have c0:0<c:=by omega
     obtain⟨l1,l2⟩:=qLs (p:=m) (q:=1) (by decide) (Int.gcd_one_right ..);refine⟨_,O,_,O,m,1,O,by decide,qRq (n:=1) (by decide),fun u hu'=>?_⟩;rw[l1,l2];have w1:=qF hu' (.tup [.int m,.int 1]);refine⟨_,_,A',B,m,1,O,⟨z1,O,H1 w1⟩,⟨u,O,SqT.of qD⟩,by omega,by decide,S bA,S bB,S bm,one,fun v hv=>?_⟩;have hb1:B*1≠0:=by omega
     have cr:=xS (A'*1-m*B) (B*1);have lq:=j7 (t:=A'*1-m*B) hb1;have aP:=qAq (t:=A'*1-m*B) hb1;have aQ:=ku (t:=A'*1-m*B) hb1;have w2:=w1.trans (qF hv (.tup [.int (xB (A'*1-m*B) (B*1)),.int (jh (A'*1-m*B) (B*1))]));have ev:=qD (H:=upd H u (.tup [.int m,.int 1])) (a:=v) (o:=.tup [.int (xB (A'*1-m*B) (B*1)),.int (jh (A'*1-m*B) (B*1))]);generalize upd (upd H u (.tup [.int m,.int 1])) v (.tup [.int (xB (A'*1-m*B) (B*1)),.int (jh (A'*1-m*B) (B*1))])=H3 at w2 ev⊢;generalize xB (A'*1-m*B) (B*1)=P' at cr aP ev⊢;generalize jh (A'*1-m*B) (B*1)=Q' at cr aQ lq ev⊢;have sP:Sm P':=by
      have t:=jy bm bB;have:(A'*1-m*B).natAbs<2 ^ 1500:=by
       have e:(2:Nat) ^ 700+2 ^ (700+700)<=2 ^ 1500:=by decide
       rw[Int.mul_one];exact Nat.lt_of_lt_of_le (Nat.lt_of_le_of_lt (Int.natAbs_sub_le _ _) (Nat.add_lt_add bA t)) e
      exact Nat.lt_of_le_of_lt aP (qBb this)
     have bQ:Q'.natAbs<2 ^ 700:=by rw[Int.mul_one]at aQ;omega
     refine⟨_,O,_,_,P',Q',c,d,O,⟨v,O,SqT.of ev⟩,⟨z2,O,H2 w2⟩,by omega,hc,sP,S bQ,S bc,S bd,fun x hx=>?_⟩;have hpos:0<Q'*c:=Int.mul_pos lq c0;have w3:=w2.trans (qF hx (.tup [.int (xB (P'*d) (Q'*c)),.int (jh (P'*d) (Q'*c))]));have lq2:=j7 (t:=P'*d) (b:=Q'*c) (by omega);refine⟨_,_,_,O,⟨x,O,SqT.of qD⟩,by omega,Nat.lt_of_le_of_lt (ku (by omega)) (qRq (jy bQ bc)),?_⟩;rw[qEm hpos];refine⟨_,O,?_,w3⟩;have e:g=-(P'*d).fdiv (Q'*c):=by have hcB':=Int.mul_pos c0 hB;rw[<-hgg,if_neg (by omega)];rw[qB6 hcB' hpos (by grind:(A'*d-m*(B*d))*(Q'*c)=P'*d*(c*B))]
     rw[e];rfl
 rintro σ' H' ⟨rfl,sH⟩;exact⟨_,O,_,_,O,res H' sH⟩
theorem qK7{H H':Hp}(e:Same H H'){a:Addr}{u:HO}(h:Rd H a u):Rd H' a u:=by
 rcases h with h|⟨o,h⟩
 . exact .inl (e _ _ h)
 . exact .inr ⟨o,e _ _ h⟩
def Reel(H:Hp)(rd:Addr)(n:Str)(m:Int):Prop:= ∃kvs,Rd H rd (.dK kvs)/\qBg kvs (Sum.inr n)=some (.int m)
theorem Reel.same{H H':Hp}{rd:Addr}{n:Str}{m:Int}(e:Same H H')(h:Reel H rd n m):Reel H' rd n m:=let ⟨k,h1,h2⟩:=h;⟨k,qK7 e h1,h2⟩
theorem Reel.get{H:Hp}{rd:Addr}{n:Str}{m:Int}(h:Reel H rd n m):DGet H rd (.str n) (some (.int m)):=let ⟨k,h1,h2⟩:=h;.inl ⟨k,Sum.inr n,h1,rfl,h2.symm⟩
def Vk(p q r s k:Int):Int:=p*s+k*r*q
structure Ch(H:Hp)(z:Addr)(n:Str)(p q r s len:Int):Prop where
 ex:∃z1 z2,H z=some (.tup [.str "clip",.str n,.ref z1,.ref z2,.int len])/\H z1=some (.tup [.int p,.int q])/\H z2=some (.tup [.int r,.int s])
theorem Ch.same{H H':Hp}{z:Addr}{n:Str}{p q r s len:Int}(e:Same H H')(h:Ch H z n p q r s len):Ch H' z n p q r s len:=let ⟨z1,z2,h1,h2,h3⟩:=h.ex;⟨z1,z2,e _ _ h1,e _ _ h2,e _ _ h3⟩
theorem Ch.cp{H:Hp}{z:Addr}{n:Str}{p q r s len:Int}(h:Ch H z n p q r s len):Cp K H (.ref z) n p q r s len:=let ⟨z1,z2,h1,h2,h3⟩:=h.ex;⟨z,z1,z2,rfl,SqT.of h1,SqT.of h2,SqT.of h3⟩
theorem qHa{p q r s k0 e m:Int}(hq:0<q)(hs:0<s)(he:e=1\/e=-1)(h0:r=0->InR (Vk p q r s 0) (q*s) m):
 let g:=zp (plP p q r s k0*s) (e*r*plQ p q r s k0) (plQ p q r s k0*s) m
 0<=g/\g<=1000000/\(∀j,0<=j->j<g->InR (Vk p q r s (k0+e*j)) (q*s) m)/\(g<1000000->¬InR (Vk p q r s (k0+e*g)) (q*s) m)/\(r=0->g=1000000):=by
 intro g;have c:=qDc p q r s k0;have hb:=qF5 (p:=p) (r:=r) (k:=k0) hq hs;have hbs:=Int.mul_pos hb hs;have hqs:=Int.mul_pos hq hs;have cross:∀j:Int,InR (plP p q r s k0*s+j*(e*r*plQ p q r s k0)) (plQ p q r s k0*s) m↔InR (Vk p q r s (k0+e*j)) (q*s) m:=fun j=>by
  refine qEt hbs hqs ?_;unfold Vk;generalize plP p q r s k0=u at c⊢;generalize plQ p q r s k0=v at c⊢
  grind
 have key:=qTx (N:=plP p q r s k0*s) (R:=e*r*plQ p q r s k0) (D:=plQ p q r s k0*s) (m:=m) hbs (fun z=>by
  have r0:r=0:=by
   rcases Int.mul_eq_zero.mp z with z|z
   . rcases Int.mul_eq_zero.mp z with z|z
     . omega
     . exact z
   . omega
  have:=h0 r0;have e0:=(cross 0).mpr (by
   have e:Vk p q r s (k0+e*0)=Vk p q r s 0:=by unfold Vk;rw[r0];grind
   rw[e];exact this)
  rw[Int.zero_mul,Int.add_zero]at e0;exact e0)
 obtain⟨k1,k2,k3,k4,k5⟩:=key;refine⟨k1,k2,fun j a b=>(cross j).mp (k3 j a b),fun z w=>k4 z ((cross _).mpr w),fun z=>k5 ?_⟩;rw[z]
 grind
inductive qI2(K:W.Frag)(vs:List V)(H:Hp)(Q:VK)(_:XK):Prop
|mk (v:V) (n:Str) (p q r s len m:Int) (rd:Addr) (_:vs=[v,.ref rd]) (_:Cp K H v n p q r s len) (_:qRx 110 p q) (_:qRx 110 r s) (_:Reel H rd n m) (_:m.natAbs<2 ^ 700) (_:∀H',Same H H'->Q (.int (zp (plP p q r s (-1)*s) (-1*r*plQ p q r s (-1)) (plQ p q r s (-1)*s) m)) H')
theorem vV(T:Tx K mg a):FnOk P w K mg base CX0 5 a.A19 a.B19 ["clip","reels"] (qI2 K):=by
 refine T.D19.F.ok qIm (fun vs H Q E h=>?_) (fun cdv A outer s H vs Q E hr h=>?_)
 . obtain⟨v,n,p,q,r,s,len,m,rd,rfl,_⟩:=h
   rfl
 refine qL fun _ Y=>?_;obtain⟨v,n,p,q,r,s',len,m,rd,rfl,hc,g1,g2,hrd,bm,kk⟩:=h;apply Y;have hu1:=qKp hr;refine⟨_,(qE (qM (qI T.D18 (vE T) hr rfl (qA (qI T.D12 (zP T) hr rfl (qA (pv 0) (qA (qAs ze qG) qB))) (qA (qI T.D5 (qBt T) hr rfl (qA (jq (v:=.ref a.n_NOUGHT) rfl T.g_NOUGHT rfl) (qA (qK (pv 0)) qB))) (qA (qBk hu1 (pv 1) (qK (pv 0)) (fun _ _=>rfl)) qB)))))),?_⟩
 try dsimp only[jN,qd]
 have hb:Bn 110 p q r s':=⟨g1.1,g2.1,g1.2.2.1,g1.2.2.2,g2.2.2.1,g2.2.2.2⟩;have hb7:=hb.mono (m:=700);have hp:=(hb.part (k:= -1) (by decide)).mono (m:=700);refine⟨_,O,_,O,v,n,p,q,r,s',len,-1,O,hc,hb7.q0,hb7.s0,hb7.bp,hb7.bq,hb7.br,hb7.bs,qBb (n:=30) (by decide),fun y H1 s1 e1=>?_⟩;refine qL fun _ Y=>?_;obtain⟨z,z1,z2,e,h0,h1,h2⟩:=(hc.same s1).ex;subst e;apply Y;have S:∀{i:Int},i.natAbs<2 ^ 700->Sm i:=fun h=>qBb h;refine(zS rfl h0 qKe ?_);refine⟨_,_,0,1,r,s',rfl,⟨_,rfl,T.sq_NOUGHT _⟩,⟨z2,rfl,h2⟩,by decide,by have:=hb.s0;omega,Sm.of200 (by decide),Sm.of200 (by decide),S hb7.br,S hb7.bs,fun u hu'=>?_⟩;rw[(qGr hb.s0 g2.2.1).1,(qGr hb.s0 g2.2.1).2];have w1:=qF hu' (.tup [.int (-r),.int s']);refine⟨_,O,_,O,z,_,_,_,O,O,L3.Same.tup w1 h0,qI7,rd,_,O,(hrd.same (s1.trans w1)).get,?_⟩;refine⟨_,_,_,_,-r,s',m,O,⟨y,O,SqT.of (w1 _ _ e1)⟩,⟨u,O,SqT.of qD⟩,hp.q0,hb.s0,by rw[Int.neg_gcd];exact g2.2.1,hp.bp,hp.bq,by rw[Int.natAbs_neg];exact hb7.br,hb7.bs,bm,fun H' sH=>?_⟩;have:=kk H' (s1.trans (w1.trans sH));rw[show-1*r*plQ p q r s' (-1)=-r*plQ p q r s' (-1) by grind]at this;exact this
inductive qJw(K:W.Frag)(vs:List V)(H:Hp)(Q:VK)(_:XK):Prop
|mk (v:V) (n:Str) (p q r s len m:Int) (rd:Addr) (_:vs=[v,.ref rd]) (_:Cp K H v n p q r s len) (_:qRx 110 p q) (_:qRx 110 r s) (_:len.natAbs<2 ^ 30) (_:Reel H rd n m) (_:m.natAbs<2 ^ 700) (_:∀H',Same H H'->Q (.int (zp (plP p q r s len*s) (1*r*plQ p q r s len) (plQ p q r s len*s) m)) H')
theorem vf(T:Tx K mg a):FnOk P w K mg base CX0 5 a.A20 a.B20 ["clip","reels"] (qJw K):=by
 refine T.D20.F.ok qIk (fun vs H Q E h=>?_) (fun cdv A outer s H vs Q E hr h=>?_)
 . obtain⟨v,n,p,q,r,s,len,m,rd,rfl,_⟩:=h
   rfl
 refine qL fun _ Y=>?_;obtain⟨v,n,p,q,r,s',len,m,rd,rfl,hc,g1,g2,bl,hrd,bm,kk⟩:=h;apply Y;have hu1:=qKp hr;refine⟨_,(qE (qM (qI T.D18 (vE T) hr rfl (qA (qI T.D12 (zP T) hr rfl (qA (pv 0) (qA (qK (pv 0)) qB))) (qA (qK (pv 0)) (qA (qBk hu1 (pv 1) (qK (pv 0)) (fun _ _=>rfl)) qB)))))),?_⟩
 try dsimp only[jN,qd]
 have hb:Bn 110 p q r s':=⟨g1.1,g2.1,g1.2.2.1,g1.2.2.2,g2.2.2.1,g2.2.2.2⟩;have hb7:=hb.mono (m:=700);have hp:=(hb.part (k:=len) bl).mono (m:=700);have hc0:=hc;refine qL fun _ Y=>?_;obtain⟨z,z1,z2,e,h0,h1,h2⟩:=hc0.ex;subst e;apply Y;refine⟨_,O,zS rfl h0 qCq ⟨_,n,p,q,r,s',len,len,O,hc,hb7.q0,hb7.s0,hb7.bp,hb7.bq,hb7.br,hb7.bs,qBb bl,fun y H1 s1 e1=>?_⟩⟩;refine⟨_,O,z,_,_,_,O,O,L3.Same.tup s1 h0,qKe,?_⟩;refine⟨_,O,_,O,z,_,_,_,O,O,L3.Same.tup s1 h0,qI7,rd,_,O,(hrd.same s1).get,?_⟩;refine⟨_,_,_,_,r,s',m,O,⟨y,O,SqT.of e1⟩,⟨z2,O,L3.Same.tup s1 h2⟩,hp.q0,hb.s0,g2.2.1,hp.bp,hp.bq,hb7.br,hb7.bs,bm,fun H' sH=>?_⟩;have:=kk H' (s1.trans sH);rw[Int.one_mul]at this;exact this
theorem qR3(ns:List Int)(lo hi:Option Int):∃ms:List Int,zT (ns.map V.int) lo hi=ms.map V.int/\ms.length<=ns.length:=by
 refine⟨(ns.drop (HT.sIx (ns.map V.int).length 0 lo)).take (HT.sIx (ns.map V.int).length (ns.map V.int).length hi-HT.sIx (ns.map V.int).length 0 lo),?_,?_⟩
 . unfold zT
   rw[List.map_take,List.map_drop]
 . rw[List.length_take,List.length_drop];omega
inductive Im where
 |clip (n:Str) (p q r s l:Int)
 |nest (n:Str) (b l:Int)
 |gap (l:Int)
 |mix (l:Int)
def Im.d:Im->D
 |.clip n p q r s l=>.tup [.leaf (.str "clip"),.leaf (.str n),.tup [.leaf (.int p),.leaf (.int q)],.tup [.leaf (.int r),.leaf (.int s)],.leaf (.int l)]
 |.nest n b l=>.tup [.leaf (.str "nest"),.leaf (.str n),.leaf (.int b),.leaf (.int l)]
 |.gap l=>.tup [.leaf (.str "gap"),.leaf (.int l)]
 |.mix l=>.tup [.leaf (.str "mix"),.leaf (.int l)]
def Im.wd:Im->Str
 |.clip .. =>"clip"
 |.nest .. =>"nest"
 |.gap _=>"gap"
 |.mix _=>"mix"
def Im.l:Im->Int
 |.clip _ _ _ _ _ l=>l
 |.nest _ _ l=>l
 |.gap l=>l
 |.mix l=>l
def TS(H H':Hp):Prop:= ∀b xs,H b=some (.tup xs)->H' b=some (.tup xs)
theorem TS.trans{H H1 H2:Hp}(a:TS H H1)(b:TS H1 H2):TS H H2:=fun c o h=>b c o (a c o h)
theorem qY{H H':Hp}(e:Same H H'):TS H H':=fun _ _ h=>e _ _ h
theorem xM{H:Hp}{l:Addr}{xs:List V}{o:HO}(h:H l=some (.lst xs)):TS H (upd H l o):=fun b ys hb=>by rw[qX (qM3 hb h (by intro z;cases z))];exact hb
theorem ju{H H':Hp}{y:Addr}{o:HO}(e:Same H H')(h:H y=none):Same H (upd H' y o):=fun b u hb=>by rw[qX (qV hb h)];exact e b u hb
def IsI(H:Hp):Im->V->Prop
 |.clip n p q r s l,v=> ∃z x y:Addr,v=.ref z/\H z=some (.tup [.str "clip",.str n,.ref x,.ref y,.int l])/\H x=some (.tup [.int p,.int q])/\H y=some (.tup [.int r,.int s])
 |.nest n b l,v=> ∃z:Addr,v=.ref z/\H z=some (.tup [.str "nest",.str n,.int b,.int l])
 |.gap l,v=> ∃z:Addr,v=.ref z/\H z=some (.tup [.str "gap",.int l])
 |.mix l,v=> ∃z:Addr,v=.ref z/\H z=some (.tup [.str "mix",.int l])
theorem isG{H:Hp}{z:Addr}{l:Int}(h:H z=some (.tup [.str "gap",.int l])):IsI H (.gap l) (.ref z):=⟨z,rfl,h⟩
theorem isM{H:Hp}{z:Addr}{l:Int}(h:H z=some (.tup [.str "mix",.int l])):IsI H (.mix l) (.ref z):=⟨z,rfl,h⟩
theorem isN{H:Hp}{z:Addr}{n:Str}{b l:Int}(h:H z=some (.tup [.str "nest",.str n,.int b,.int l])):IsI H (.nest n b l) (.ref z):=⟨z,rfl,h⟩
theorem isC{H:Hp}{z x y:Addr}{n:Str}{p q r s l:Int}(h:H z=some (.tup [.str "clip",.str n,.ref x,.ref y,.int l]))(hx:H x=some (.tup [.int p,.int q]))(hy:H y=some (.tup [.int r,.int s])):IsI H (.clip n p q r s l) (.ref z):=⟨z,x,y,rfl,h,hx,hy⟩
theorem IsI.ts{H H':Hp}(e:TS H H'):∀{m:Im} {v:V},IsI H m v->IsI H' m v
 |.clip ..,_,⟨z,x,y,h,hz,hx,hy⟩=>⟨z,x,y,h,e _ _ hz,e _ _ hx,e _ _ hy⟩
 |.nest ..,_,⟨z,h,hz⟩=>⟨z,h,e _ _ hz⟩
 |.gap _,_,⟨z,h,hz⟩=>⟨z,h,e _ _ hz⟩
 |.mix _,_,⟨z,h,hz⟩=>⟨z,h,e _ _ hz⟩
theorem IsI.opn{H:Hp}{m:Im}{v:V}(h:IsI H m v):∃(z:Addr) (xs:List V),v=.ref z/\H z=some (.tup xs)/\atI xs 0=some (.str m.wd)/\atI xs (-1)=some (.int m.l):=by
 cases m with
 |clip n p q r s l=>obtain⟨z,x,y,h,hz,_⟩:=h;exact⟨z,_,h,hz,rfl,rfl⟩
 |nest n b l=>obtain⟨z,h,hz⟩:=h;exact⟨z,_,h,hz,rfl,rfl⟩
 |gap l=>obtain⟨z,h,hz⟩:=h;exact⟨z,_,h,hz,rfl,rfl⟩
 |mix l=>obtain⟨z,h,hz⟩:=h;exact⟨z,_,h,hz,rfl,rfl⟩
theorem qG4{H:Hp}:∀{xs:List V},xs.all kj=true->Reps K H (xs.map D.leaf) xs
 |[],_=>by simp[Reps]
 |x::xs,h=>by rw[List.all_cons,Bool.and_eq_true]at h;rw[List.map_cons];unfold Reps Rep;exact⟨⟨O,h.1⟩,qG4 h.2⟩
theorem qA2{H:Hp}{z:Addr}{xs:List V}(hz:H z=some (.tup xs))(h:xs.all kj=true):Rep K H (.tup (xs.map D.leaf)) (.ref z):=by unfold Rep;exact⟨z,xs,O,SqT.of hz,qG4 h⟩
theorem IsI.rep{H:Hp}:∀{m:Im} {v:V},IsI H m v->Rep K H m.d v
 |.clip n p q r s l,_,⟨z,x,y,h,hz,hx,hy⟩=>by
  subst h;have h1:Rep K H (.tup [.leaf (.int p),.leaf (.int q)]) (.ref x):=qA2 hx rfl;have h2:Rep K H (.tup [.leaf (.int r),.leaf (.int s)]) (.ref y):=qA2 hy rfl;unfold Im.d Rep;refine⟨z,_,O,SqT.of hz,?_⟩;unfold Reps Reps Reps Reps Reps Reps;refine⟨?_,?_,h1,h2,?_,trivial⟩
  . unfold Rep;exact⟨rfl,rfl⟩
  . unfold Rep;exact⟨rfl,rfl⟩
  . unfold Rep;exact⟨rfl,rfl⟩
 |.nest n b l,_,⟨z,h,hz⟩=>by subst h;exact qA2 hz rfl
 |.gap l,_,⟨z,h,hz⟩=>by subst h;exact qA2 hz rfl
 |.mix l,_,⟨z,h,hz⟩=>by subst h;exact qA2 hz rfl
theorem qQv(m:Im):eqD m.d m.d=true:=by cases m <;> simp[Im.d,eqD,wJ,eqV]
theorem qWl(m:Im):dep m.d<=2:=by cases m <;> simp[Im.d,dep,qC5]
def IsIs(H:Hp):List Im->List V->Prop
 |[],[]=>True
 |m::ms,v::vs=>IsI H m v/\IsIs H ms vs
 |_,_=>False
theorem IsIs.len{H:Hp}:∀{ms:List Im} {vs:List V},IsIs H ms vs->vs.length=ms.length
 |[],[],_=>rfl
 |_::_,_::_,h=>by rw[List.length_cons,List.length_cons,IsIs.len h.2]
 |[],_::_,h=>h.elim
 |_::_,[],h=>h.elim
theorem IsIs.ts{H H':Hp}(e:TS H H'):∀{ms:List Im} {vs:List V},IsIs H ms vs->IsIs H' ms vs
 |[],[],_=>trivial
 |_::_,_::_,h=>⟨IsI.ts e h.1,IsIs.ts e h.2⟩
 |[],_::_,h=>h.elim
 |_::_,[],h=>h.elim
theorem IsIs.get{H:Hp}:∀{ms:List Im} {vs:List V} {i:Nat} {v:V},IsIs H ms vs->vs[i]?=some v->∃m,ms[i]?=some m/\IsI H m v
 |[],[],_,_,_,h=>by simp at h
 |m::_,x::_,0,v,h,e=>by
  have e':x=v:=by simpa using e
  subst e';exact⟨m,O,h.1⟩
 |_::ms,_::vs,i+1,v,h,e=>by obtain⟨m,h1,h2⟩:=IsIs.get (i:=i) h.2 (by simpa using e);exact⟨m,by simpa using h1,h2⟩
 |[],_::_,_,_,h,_=>h.elim
 |_::_,[],_,_,h,_=>h.elim
theorem IsIs.get'{H:Hp}{ms:List Im}{vs:List V}{i:Nat}{m:Im}(h:IsIs H ms vs)(e:ms[i]?=some m):∃v,vs[i]?=some v/\IsI H m v:=by
 have hi:i<vs.length:=by rw[h.len];exact(glt e)
 have ev:vs[i]?=some vs[i]:=List.getElem?_eq_getElem hi;obtain⟨m',h1,h2⟩:=h.get ev;rw[e]at h1;cases h1;exact⟨_,ev,h2⟩
theorem IsIs.app{H:Hp}:∀{ms:List Im} {vs:List V} {ms':List Im} {vs':List V},IsIs H ms vs->IsIs H ms' vs'->IsIs H (ms++ms') (vs++vs')
 |[],[],_,_,_,h'=>h'
 |_::_,_::_,_,_,h,h'=>⟨h.1,h.2.app h'⟩
 |[],_::_,_,_,h,_=>h.elim
 |_::_,[],_,_,h,_=>h.elim
theorem IsIs.one{H:Hp}{m:Im}{v:V}(h:IsI H m v):IsIs H [m] [v]:=⟨h,trivial⟩
theorem IsIs.rep{H:Hp}:∀{ms:List Im} {vs:List V},IsIs H ms vs->Reps K H (ms.map Im.d) vs
 |[],[],_=>by unfold List.map Reps;trivial
 |_::_,_::_,h=>by unfold List.map Reps;exact⟨h.1.rep,h.2.rep⟩
 |[],_::_,h=>h.elim
 |_::_,[],h=>h.elim
theorem qAn:∀ms:List Im,wJ (ms.map Im.d) (ms.map Im.d)=true
 |[]=>by simp[wJ]
 |m::ms=>by unfold List.map wJ;rw[qQv,qAn ms];rfl
theorem qF0:∀ms:List Im,qC5 (ms.map Im.d)<=2
 |[]=>by simp[qC5]
 |m::ms=>by have h1:=qWl m;have h2:=qF0 ms;unfold List.map qC5;omega
def Tr(H:Hp)(z:Addr)(ms:List Im):Prop:= ∃vs,H z=some (.lst vs)/\IsIs H ms vs
theorem Tr.same{H H':Hp}{z:Addr}{ms:List Im}(e:Same H H')(h:Tr H z ms):Tr H' z ms:=let ⟨vs,h1,h2⟩:=h;⟨vs,e _ _ h1,h2.ts (qY e)⟩
theorem Tr.rep{H:Hp}{z:Addr}{ms:List Im}(h:Tr H z ms):Rep K H (.lst (ms.map Im.d)) (.ref z):=by obtain⟨vs,h1,h2⟩:=h;unfold Rep;exact⟨z,vs,O,SqL.of h1,h2.rep⟩
theorem eqTr{H:Hp}{x y:Addr}{ms:List Im}{Q:VK}(h1:Tr H x ms)(h2:Tr H y ms)(q:Q (.bl true) H):qS3 K false (.ref x) (.ref y) H Q:=by
 refine⟨_,_,h1.rep,h2.rep,rfl,by have:=qF0 ms;unfold dep;omega,?_⟩;have e:eqD (.lst (ms.map Im.d)) (.lst (ms.map Im.d))=true:=by unfold eqD;exact qAn ms
 rw[e];exact q
theorem qYi{H:Hp}{x y:Addr}{ms:List Im}{Q:VK}(h1:Tr H x ms)(h2:Tr H y ms)(q:Q (.bl false) H):qS3 K true (.ref x) (.ref y) H Q:=by
 refine⟨_,_,h1.rep,h2.rep,rfl,by have:=qF0 ms;unfold dep;omega,?_⟩;have e:eqD (.lst (ms.map Im.d)) (.lst (ms.map Im.d))=true:=by unfold eqD;exact qAn ms
 rw[e];exact q
theorem qWu{H:Hp}{x y:Addr}{ms:List Im}{Q:VK}(h1:Tr H x ms)(h2:H y=some (.lst []))(q:Q (.bl ms.isEmpty) H):qS3 K false (.ref x) (.ref y) H Q:=by
 refine⟨_,.lst [],h1.rep,?_,rfl,by have:=qF0 ms;unfold dep;omega,?_⟩
 . unfold Rep;exact⟨y,[],rfl,SqL.of h2,by unfold Reps;trivial⟩
 . have e:eqD (.lst (ms.map Im.d)) (.lst [])=ms.isEmpty:=by cases ms <;> simp[eqD,wJ]
   rw[e];exact q
theorem qW9{H:Hp}{x y:Addr}{ms:List Im}{Q:VK}(h1:Tr H x ms)(h2:H y=some (.lst []))(q:Q (.bl (!ms.isEmpty)) H):qS3 K true (.ref x) (.ref y) H Q:=by
 refine⟨_,.lst [],h1.rep,?_,rfl,by have:=qF0 ms;unfold dep;omega,?_⟩
 . unfold Rep;exact⟨y,[],rfl,SqL.of h2,by unfold Reps;trivial⟩
 . have e:eqD (.lst (ms.map Im.d)) (.lst [])=ms.isEmpty:=by cases ms <;> simp[eqD,wJ]
   rw[e];exact q
theorem qQ8{H:Hp}{x:Addr}{ns:List Int}(h:H x=some (.lst (ns.map V.int))):Rep K H (.lst ((ns.map V.int).map D.leaf)) (.ref x):=by unfold Rep;exact⟨x,_,rfl,SqL.of h,qG4 (by rw[List.all_map,List.all_eq_true];intro _ _;rfl)⟩
theorem qMd:∀ns:List Int,wJ ((ns.map V.int).map D.leaf) ((ns.map V.int).map D.leaf)=true
 |[]=>by simp[wJ]
 |n::ns=>by have ih:=qMd ns;simp only[List.map_cons];unfold wJ;rw[ih];simp[eqD,eqV]
theorem qIs:∀vs:List V,qC5 (vs.map D.leaf)=0
 |[]=>by simp[qC5]
 |n::ns=>by have ih:=qIs ns;simp only[List.map_cons];unfold qC5;rw[ih];simp[dep]
theorem IsIs.dl{H:Hp}:∀{ms:List Im} {vs:List V},IsIs H ms vs->IsIs H ms.dropLast vs.dropLast
 |[],[],_=>trivial
 |[_],[_],_=>trivial
 |_::_::_,_::_::_,h=>⟨h.1,IsIs.dl h.2⟩
 |[],_::_,h=>h.elim
 |_::_,[],h=>h.elim
 |[_],_::_::_,h=>h.2.elim
 |_::_::_,[_],h=>h.2.elim
theorem IsIs.last{H:Hp}{ms:List Im}{vs:List V}(h:IsIs H ms vs)(hne:ms≠[]):∃v m,vs[vs.length-1]?=some v/\ms.getLast?=some m/\m∈ms/\IsI H m v:=by
 have hl:0<ms.length:=List.length_pos_iff.mpr hne;have hi:vs.length-1<vs.length:=by rw[h.len];omega
 have ev:vs[vs.length-1]?=some vs[vs.length-1]:=List.getElem?_eq_getElem hi;obtain⟨m,h1,h2⟩:=h.get ev;refine⟨_,m,ev,?_,List.mem_of_getElem? h1,h2⟩;rw[h.len]at h1;rw[List.getLast?_eq_getElem?];exact h1
theorem qAc{m:Im}(h:m.wd="gap"):∃l,m=.gap l:=by
 cases m with
 |gap l=>exact⟨l,rfl⟩
 |clip=>exact absurd (show ("clip":Str)="gap" from h) (by decide+kernel)
 |nest=>exact absurd (show ("nest":Str)="gap" from h) (by decide+kernel)
 |mix=>exact absurd (show ("mix":Str)="gap" from h) (by decide+kernel)
def xf:Int->List Im->List Im
 |_,[]=>[]
 |w,.gap l::ms=>xf (w+l) ms
 |w,.clip n p q r s l::ms=>if 0<w then .gap w:: .clip n p q r s l::xf 0 ms else .clip n p q r s l::xf 0 ms
 |w,.nest n b l::ms=>if 0<w then .gap w:: .nest n b l::xf 0 ms else .nest n b l::xf 0 ms
 |w,.mix l::ms=>if 0<w then .gap w:: .mix l::xf 0 ms else .mix l::xf 0 ms
theorem qy{m:Im}(h:m.wd≠"gap")(w:Int)(ms:List Im):xf w (m::ms)=if 0<w then .gap w::m::xf 0 ms else m::xf 0 ms:=by
 cases m with
 |gap l=>exact absurd rfl h
 |_=>rw[xf]
theorem qEc:∀(w:Int) (ms:List Im),xf 0 (xf w ms)=xf w ms
 |_,[]=>rfl
 |w,m::ms=>by
  by_cases h:m.wd="gap"
  . obtain⟨l,rfl⟩:=qAc h
    rw[xf];exact qEc _ ms
  . rw[qy h]
    by_cases h0:0<w
    . rw[if_pos h0,xf,qy h,if_pos (by omega),qEc 0 ms,Int.zero_add]
    . rw[if_neg h0,qy h,if_neg (by decide),qEc 0 ms]
inductive qKr(vs:List V)(H:Hp)(Q:VK)(_:XK):Prop
|mk (z:Addr) (ms:List Im) (_:vs=[.ref z]) (_:Tr H z ms) (_:ms.length<=300) (_:∀(y:Addr) (H':Hp),Same H H'->H y=none->Tr H' y (xf 0 ms)->Q (.ref y) H')
theorem qDy(T:Tx K mg a):FnOk P w K mg base CX0 1 a.A25 a.B25 ["some"] qKr:=by
 refine T.D25.F.ok xO (fun vs H Q E h=>?_) (fun cdv A outer s H vs Q E hr h=>?_)
 . obtain⟨z,ms,rfl,_⟩:=h
   rfl
 refine qL fun _ Y=>?_;obtain⟨z,ms,rfl,⟨xs,hz,his⟩,hl,kk⟩:=h;apply Y;refine⟨_,(qC (qZ 1 xO.nd (jR qB))
  (qC (qZ 2 xO.nd qG)
  (qC (j6 PassesOwn.never rfl (jM (pv 0)) (jA (i:=3) xO.nd rfl (Or.inl rfl)) (qE (qW (qJ ja (qK (pv 3)) qR (qP _)) (qE (qZ 2 xO.nd (qQ qr (pv 2) (qK (pv 3))))) (qC (qW (qJ wL (pv 2) qG (qP _)) (qE (q9 (qCn F.plainAttrs_list F.slot_list_append F.type_list_append jv (pv 1) (qA (ql (qA qR (qA (pv 2) qB))) qB)))) qN)
  (qC (qZ 2 xO.nd qG)
  (qE (q9 (qCn F.plainAttrs_list F.slot_list_append F.type_list_append jv (pv 1) (qA (pv 3) qB)))))))))
  (qE (qM (pv 1)))))),?_⟩
 try dsimp only[jN,qd]
 refine⟨sL0,fun y hy=>?_⟩;refine⟨_,O,z,O,⟨_,SqL.of ((qF hy _) _ _ hz)⟩,jn (K:=K) (a:=z) (xs:=xs) (fun i σ H'=> ∃(w:Int) (as:List Im) (o:Option V) (vs:List V),σ=[some (.ref z),some (.ref y),some (.int w),o]/\H' y=some (.lst vs)/\IsIs H' as vs/\as.length<=2*i/\as++xf w (ms.drop i)=xf 0 ms/\Same H H')
  ⟨0,[],none,[],rfl,qD,trivial,by simp,rfl,qF hy _⟩ ?_ ?_ ?_⟩
 . rintro i σ H' hi ⟨w,as,o,vs,rfl,_,_,_,_,e⟩
   exact SqL.of (e _ _ hz)
 . rintro i x σ H' hx ⟨w,as,o,vs,rfl,hv,hiv,hal,hap,e⟩
   refine qL fun _ Y=>?_;obtain⟨m,hm,hIx⟩:=his.get hx;have hI:=hIx.ts (qY e);have hi:i<ms.length:=(glt hm);have hd:ms.drop i=m::ms.drop (i+1):=by rw[List.drop_eq_getElem_cons hi];rw[List.getElem?_eq_getElem hi]at hm;cases hm;rfl
   have hvl:vs.length<=2*i:=by rw[hiv.len];exact hal
   obtain⟨zi,xi,rfl,hzi,h0,h1⟩:=hI.opn;apply Y;refine⟨_,O,zi,xi,_,_,O,O,SqT.of hzi,h0,O,_,O,jo (fun c=>?_) (fun c=>?_)⟩
   . obtain⟨l,rfl⟩:=qAc (by simpa using c)
     refine qL fun _ Y=>?_;obtain⟨z2,e2,hz2⟩:=hI;cases e2;apply Y;refine⟨_,O,ixO hz2 at1 ⟨_,_,O,O,w+l,as,_,vs,O,hv,hiv,by omega,?_,e⟩⟩;rw[hd,xf]at hap;exact hap
   . have hne:m.wd≠"gap":=by simpa using c
     rw[hd,qy hne]at hap;refine⟨_,O,_,_,O,O,_,O,jo (fun c=>?_) (fun c=>?_)⟩
     . have c':0<w:=by simpa using c
       rw[if_pos c']at hap;refine⟨_,O,.inl ⟨O,_,SqL.of hv⟩,_,O,sL2,fun g hg=>?_⟩;have w1:=qF hg (.tup [.str "gap",.int w]);refine⟨y,_,_,O,O,w1 _ _ hv,qc (by omega),?_⟩;have t2:TS (upd H' g (.tup [.str "gap",.int w])) (upd (upd H' g (.tup [.str "gap",.int w])) y (.lst (vs++[.ref g]))):=xM (w1 _ _ hv);have k2:IsIs (upd (upd H' g (.tup [.str "gap",.int w])) y (.lst (vs++[.ref g]))) (as++[.gap w]) (vs++[.ref g]):=((hiv.ts (qY w1)).app (.one (isG qD))).ts t2;have k1:IsI (upd (upd H' g (.tup [.str "gap",.int w])) y (.lst (vs++[.ref g]))) m (.ref zi):=(hI.ts (qY w1)).ts t2;have e2:Same H (upd (upd H' g (.tup [.str "gap",.int w])) y (.lst (vs++[.ref g]))):=ju (e.trans w1) hy;have hv2:(upd (upd H' g (.tup [.str "gap",.int w])) y (.lst (vs++[.ref g]))) y=some (.lst (vs++[.ref g])):=qD;generalize upd (upd H' g (.tup [.str "gap",.int w])) y (.lst (vs++[.ref g]))=H2 at k1 k2 e2 hv2⊢;refine⟨_,O,.inl ⟨O,_,SqL.of hv2⟩,_,O,y,_,_,O,O,hv2,qc (by rw[List.length_append];simp;omega),?_⟩;refine⟨0,as++[.gap w]++[m],_,_,O,qD,(k2.app (.one k1)).ts (xM hv2),by simp;omega,?_,ju e2 hy⟩;rw[<-hap];simp
     . have c':¬0<w:=by simpa using c
       rw[if_neg c']at hap;refine⟨_,O,.inl ⟨O,_,SqL.of hv⟩,_,O,y,_,_,O,O,hv,qc (by omega),?_⟩;refine⟨0,as++[m],_,_,O,qD,(hiv.app (.one hI)).ts (xM hv),by simp;omega,?_,ju e hy⟩;rw[<-hap];simp
 . rintro σ H' ⟨w,as,o,vs,rfl,hv,hiv,_,hap,e⟩
   refine⟨_,O,kk y H' e hy ⟨vs,hv,?_⟩⟩;rw[his.len,List.drop_length,xf,List.append_nil]at hap;rw[<-hap];exact hiv
def Im.mo:Im->Int
 |.mix _=>0
 |.clip _ _ _ _ _ l=>l
 |.nest _ _ l=>l
 |.gap l=>l
theorem qL4{α:Type}{xs:List α}{v:α}(h:xs[xs.length-1]?=some v):atI xs (-1)=some v:=by
 have hl:0<xs.length:=by have:=(glt h);omega
 have e:ixN xs.length (-1)=some (xs.length-1):=by unfold ixN;rw[if_neg (by decide),if_pos (by omega)];congr 1;omega
 unfold atI;rw[e];exact h
theorem jV{m:Im}(h:m.wd="mix"):∃l,m=.mix l:=by
 cases m with
 |mix l=>exact⟨l,rfl⟩
 |clip=>exact absurd (show ("clip":Str)="mix" from h) (by decide+kernel)
 |nest=>exact absurd (show ("nest":Str)="mix" from h) (by decide+kernel)
 |gap=>exact absurd (show ("gap":Str)="mix" from h) (by decide+kernel)
theorem qXk{m:Im}(h:m.wd≠"mix"):m.mo=m.l:=by
 cases m with
 |mix l=>exact absurd rfl h
 |_=>rfl
theorem qTq{x y:Str}:decide (V.str x=V.str y)=decide (x=y):=by rw[Bool.eq_iff_iff];simp
inductive qG9(vs:List V)(H:Hp)(Q:VK)(_:XK):Prop
|mk (v:V) (m:Im) (_:vs=[v]) (_:IsI H m v) (_:Q (.int m.mo) H)
theorem jf(T:Tx K mg a):FnOk P w K mg base CX0 1 a.A24 a.B24 ["item"] qG9:=by
 refine T.D24.F.ok qHm (fun vs H Q E h=>?_) (fun cdv A outer s H vs Q E hr h=>?_)
 . obtain⟨v,m,rfl,_⟩:=h
   rfl
 refine qL fun _ Y=>?_;obtain⟨v,m,rfl,hI,kk⟩:=h;apply Y;refine⟨_,(qE (qM (vA (qJ ja (qK (pv 0)) qR (qP _)) qG (jU qF2 (pv 0) (qAs ze qG) (fun _ _=>rfl))))),?_⟩
 try dsimp only[jN,qd]
 refine qL fun _ Y=>?_;obtain⟨z,xs,rfl,hz,h0,h1⟩:=hI.opn;apply Y;refine⟨_,O,z,xs,_,_,O,O,SqT.of hz,h0,O,_,O,jo (fun c=>?_) (fun c=>?_)⟩
 . obtain⟨l,rfl⟩:=jV (by simpa using c)
   exact kk
 . rw[qXk (by simpa using c)]at kk
   exact⟨_,O,_,O,z,xs,_,_,O,O,SqT.of hz,h1,kk⟩
inductive qJy(vs:List V)(H:Hp)(Q:VK)(_:XK):Prop
|mk (z:Addr) (ms:List Im) (_:vs=[.ref z]) (_:Tr H z ms) (_:ms.length<=300) (_:∀H',Same H H'->Q (.int (ms.map Im.mo).sum) H')
theorem qCm(T:Tx K mg a):FnOk P w K mg base CX0 3 a.A26 a.B26 ["track"] qJy:=by
 refine T.D26.F.ok qIp (fun vs H Q E h=>?_) (fun cdv A outer s H vs Q E hr h=>?_)
 . obtain⟨z,ms,rfl,_⟩:=h
   rfl
 refine qL fun _ Y=>?_;obtain⟨z,ms,rfl,⟨xs,hz,his⟩,hl,kk⟩:=h;apply Y;refine⟨_,(qE (qM (qU (qN8 rfl) rfl T.b_sum rfl (qA (kf [] [] rfl (jM (pv 0)) (fun _ _ _ _=>(qI T.D24 (jf T) hr rfl (qA (pv 0) qB)))) qB)))),?_⟩
 try dsimp only[jN,qd]
 refine⟨_,O,z,O,⟨_,SqL.of hz⟩,zB (K:=K) (a:=z) (xs:=xs) (fun i acc H'=>H'=H/\acc=((ms.take i).map Im.mo).map V.int) ⟨O,O⟩ ?_ ?_ ?_⟩
 . rintro i acc H' hi ⟨rfl,rfl⟩
   exact⟨SqL.of hz,qc (by simp;omega)⟩
 . rintro i x acc H' hi hx ⟨rfl,rfl⟩
   refine qL fun _ Y=>?_;obtain⟨m,hm,hI⟩:=his.get hx;apply Y;refine⟨_,O,x,m,O,hI,Nxt.mk hi ⟨O,?_⟩⟩;rw[List.take_add_one,hm];simp
 . rintro acc H' ⟨rfl,rfl⟩ d hd
   refine⟨d,(ms.map Im.mo),O,?_,kk _ (qF hd _)⟩;rw[his.len,List.take_length];exact SqL.of qD
def j8:Int->List Im->List Int
 |_,[]=>[]
 |b,.mix _::ms=>j8 b ms
 |b,.clip _ _ _ _ _ l::ms=>(b+l)::j8 (b+l) ms
 |b,.nest _ _ l::ms=>(b+l)::j8 (b+l) ms
 |b,.gap l::ms=>(b+l)::j8 (b+l) ms
theorem wj{m:Im}(h:m.wd≠"mix")(b:Int)(ms:List Im):j8 b (m::ms)=(b+m.l)::j8 (b+m.l) ms:=by
 cases m with
 |mix l=>exact absurd rfl h
 |_=>rfl
theorem qDr:∀(b:Int) (ms:List Im),(j8 b ms).length<=ms.length
 |_,[]=>by simp[j8]
 |b,m::ms=>by
  by_cases h:m.wd="mix"
  . obtain⟨l,rfl⟩:=jV h
    have:=qDr b ms;rw[j8,List.length_cons];omega
  . have:=qDr (b+m.l) ms
    rw[wj h,List.length_cons,List.length_cons];omega
def qYp(H:Hp)(Q:VK)(ms:List Im):Prop:= ∀(y:Addr) (H':Hp),Same H H'->H y=none->H' y=some (.lst ((0::j8 0 ms).map V.int))->Q (.ref y) H'
inductive qGa(vs:List V)(H:Hp)(Q:VK)(_:XK):Prop
|mk (z:Addr) (ms:List Im) (_:vs=[.ref z]) (_:Tr H z ms) (_:ms.length<=300) (_:qYp H Q ms)
theorem qAp(T:Tx K mg a):FnOk P w K mg base CX0 3 a.A27 a.B27 ["track"] qGa:=by
 refine T.D27.F.ok kL (fun vs H Q E h=>?_) (fun cdv A outer s H vs Q E hr h=>?_)
 . obtain⟨z,ms,rfl,_⟩:=h
   rfl
 refine qL fun _ Y=>?_;obtain⟨z,ms,rfl,⟨xs,hz,his⟩,hl,kk⟩:=h;apply Y;refine⟨_,(qC (qZ 1 kL.nd (jR (qA qG qB)))
  (qC (j6 PassesOwn.never rfl (jM (pv 0)) (jA (i:=2) kL.nd rfl (Or.inl rfl)) (qE (qW (qJ zD (qK (pv 2)) qR (qP _)) (qE (q9 (qCn F.plainAttrs_list F.slot_list_append F.type_list_append jv (pv 1) (qA (qQ qr (jU qz (pv 1) (qAs ze qG) (fun _ _=>rfl)) (qI T.D24 (jf T) hr rfl (qA (pv 2) qB))) qB)))) qN)))
  (qE (qM (pv 1))))),?_⟩
 try dsimp only[jN,qd]
 refine⟨sL1,fun y hy=>?_⟩;refine⟨_,O,z,O,⟨_,SqL.of ((qF hy _) _ _ hz)⟩,jn (K:=K) (a:=z) (xs:=xs) (fun i σ H'=> ∃(b:Int) (as:List Int) (o:Option V),σ=[some (.ref z),some (.ref y),o]/\H' y=some (.lst ((as++[b]).map V.int))/\as.length<=i/\as++[b]++j8 b (ms.drop i)=0::j8 0 ms/\Same H H')
  ⟨0,[],none,rfl,qD,by simp,rfl,qF hy _⟩ ?_ ?_ ?_⟩
 . rintro i σ H' hi ⟨b,as,o,rfl,_,_,_,e⟩
   exact SqL.of (e _ _ hz)
 . rintro i x σ H' hx ⟨b,as,o,rfl,hv,hal,hap,e⟩
   refine qL fun _ Y=>?_;obtain⟨m,hm,hIx⟩:=his.get hx;have hI:=hIx.ts (qY e);have hi:i<ms.length:=(glt hm);have hd:ms.drop i=m::ms.drop (i+1):=by rw[List.drop_eq_getElem_cons hi];rw[List.getElem?_eq_getElem hi]at hm;cases hm;rfl
   obtain⟨zi,xi,rfl,hzi,h0,h1⟩:=hI.opn;apply Y;rw[hd]at hap;refine⟨_,O,zi,xi,_,_,O,O,SqT.of hzi,h0,O,_,O,jo (fun c=>?_) (fun c=>?_)⟩
   . have hne:m.wd≠"mix":=by simpa using c
     rw[wj hne]at hap;have hb:atI ((as++[b]).map V.int) (-1)=some (.int b):=by rw[List.map_append];exact qRm _ _
     refine⟨_,O,.inl ⟨O,_,SqL.of hv⟩,_,O,_,O,y,_,_,_,O,O,SqL.of hv,hb,?_⟩;refine⟨_,O,_,m,O,hI,?_⟩;rw[qXk hne];refine⟨_,_,O,O,y,_,_,O,O,hv,qc (by simp;omega),?_⟩;refine⟨b+m.l,as++[b],_,O,?_,by simp;omega,?_,ju e hy⟩
     . rw[qD];simp
     . rw[<-hap];simp
   . obtain⟨l,rfl⟩:=jV (by simpa using c)
     rw[j8]at hap;exact⟨b,as,_,O,hv,by omega,hap,e⟩
 . rintro σ H' ⟨b,as,o,rfl,hv,hal,hap,e⟩
   rw[his.len,List.drop_length,j8,List.append_nil]at hap;rw[hap]at hv;exact⟨_,O,kk y H' e hy hv⟩
def zU:Int->Nat->List Im->Int->Option (Nat×Int)
 |_,_,[],_=>none
 |b,i,m::ms,t=>if b<=t/\t<b+m.mo then some (i,t-b)else zU (b+m.mo) (i+1) ms t
def AtR(H:Hp)(Q:VK)(r:Option (Nat×Int)):Prop:=match r with
 |none=> ∀H',Same H H'->Q .non H'
 |some (i,d)=> ∀(p:Addr) (H':Hp),Same H H'->H' p=some (.tup [.int (i:Int),.int d])->Q (.ref p) H'
theorem zF{α:Type}{xs:List α}{i:Nat}{x:α}(h:xs[i]?=some x):xs.drop i=x::xs.drop (i+1):=by have hi:i<xs.length:=(glt h);rw[List.drop_eq_getElem_cons hi];rw[List.getElem?_eq_getElem hi]at h;cases h;rfl
inductive qNe(vs:List V)(H:Hp)(Q:VK)(_:XK):Prop
|mk (z:Addr) (ms:List Im) (t:Int) (_:vs=[.ref z,.int t]) (_:Tr H z ms) (_:AtR H Q (zU 0 0 ms t))
theorem qBx(T:Tx K mg a):FnOk P w K mg base CX0 3 a.A28 a.B28 ["track","moment"] qNe:=by
 refine T.D28.F.ok xy (fun vs H Q E h=>?_) (fun cdv A outer s H vs Q E hr h=>?_)
 . obtain⟨z,ms,t,rfl,_⟩:=h
   rfl
 refine qL fun _ Y=>?_;obtain⟨z,ms,t,rfl,⟨xs,hz,his⟩,kk⟩:=h;apply Y;refine⟨_,(qC (qZ 2 xy.nd qG)
  (qC (j6 PassesOwn.never rfl (qN9 rfl T.b_enumerate (qA (pv 0) qB)) (qMo rfl (zZ (jA (i:=3) xy.nd rfl (Or.inl rfl)) (zZ (jA (i:=4) xy.nd rfl (Or.inl rfl)) qHs))) (qC (qZ 5 xy.nd (qQ qr (pv 2) (qI T.D24 (jf T) hr rfl (qA (pv 4) qB))))
  (qC (qW (PW.pt (xW (qJ qNa (pv 2) (pv 1) (qP _)) (xA (qJ zy (pv 1) (pv 5) (qP _))))) (qE (qM (ql (qA (pv 3) (qA (qQ jS (pv 1) (pv 2)) qB))))) qN)
  (qE (qZ 2 xy.nd (pv 5))))))
  (qE (qM qBe)))),?_⟩
 try dsimp only[jN,qd]
 refine⟨_,O,z,O,⟨_,SqL.of hz⟩,qRi (K:=K) (a:=z) (xs:=xs) (fun i σ H'=> ∃(b:Int) (o1 o2 o3:Option V),σ=[some (.ref z),some (.int t),some (.int b),o1,o2,o3]/\zU b i (ms.drop i) t=zU 0 0 ms t/\Same H H')
  ⟨0,none,none,none,rfl,rfl,Same.refl _⟩ ?_ ?_ ?_⟩
 . rintro i σ H' hi ⟨b,o1,o2,o3,rfl,_,e⟩
   exact SqL.of (e _ _ hz)
 . rintro i x σ H' p hx ⟨b,o1,o2,o3,rfl,hap,e⟩ hp
   refine qL fun _ Y=>?_;obtain⟨m,hm,hIx⟩:=his.get hx;apply Y;have w1:=qF hp (.tup [.int (i:Int),x]);have e1:=e.trans w1;have hI:=hIx.ts (qY e1);rw[zF hm,zU]at hap;refine⟨p,_,O,SqT.of qD,O,_,_,O,_,_,O,O,?_⟩;generalize upd H' p (.tup [.int (i:Int),x])=H1 at e1 hI⊢;refine⟨_,O,_,O,x,m,O,hI,_,_,O,O,?_⟩;refine⟨_,O,_,O,_,_,O,O,_,O,?_⟩;refine jo (fun c1=>?_) (fun c1=>?_)
   . refine⟨_,O,_,O,_,_,O,O,_,O,?_⟩
     refine jo (fun c2=>?_) (fun c2=>?_)
     . rw[if_pos ⟨by simpa using c1,by simpa using c2⟩]at hap
       rw[<-hap]at kk;refine⟨_,O,_,O,_,O,_,_,O,O,sL2,fun q hq=>?_⟩;exact kk q _ (e1.trans (qF hq _)) qD
     . rw[if_neg (fun c=>c2 (by simpa using c.2))]at hap
       exact⟨_,O,_,_,_,_,O,hap,e1⟩
   . rw[if_neg (fun c=>c1 (by simpa using c.1))]at hap
     exact qt ⟨_,O,_,_,_,_,O,hap,e1⟩
 . rintro σ H' ⟨b,o1,o2,o3,rfl,hap,e⟩
   rw[his.len,List.drop_length,zU]at hap;rw[<-hap]at kk;exact kk H' e
def jG(ms:List Im)(i:Int):Str:=if i<0 then "" else match ms[i.toNat]? with
 |some m=>m.wd
 |none=>""
theorem jw{ms:List Im}{i:Nat}{m:Im}(h:ms[i]?=some m){k:Int}(hk:k=(i:Int)):jG ms k=m.wd:=by
 subst hk;unfold jG;rw[if_neg (by omega)];have e:((i:Int)).toNat=i:=by omega
 rw[e,h]
inductive qN0(vs:List V)(H:Hp)(Q:VK)(_:XK):Prop
|mk (z:Addr) (ms:List Im) (i:Int) (_:vs=[.ref z,.int i]) (_:Tr H z ms) (_:Q (.str (jG ms i)) H)
theorem jH(T:Tx K mg a):FnOk P w K mg base CX0 1 a.A29 a.B29 ["track","place"] qN0:=by
 refine T.D29.F.ok qNv (fun vs H Q E h=>?_) (fun cdv A outer s H vs Q E hr h=>?_)
 . obtain⟨z,ms,i,rfl,_⟩:=h
   rfl
 refine qL fun _ Y=>?_;obtain⟨z,ms,i,rfl,⟨vs,hz,his⟩,q⟩:=h;apply Y;refine⟨_,(qC (qW (PW.pt (jd (qJ zy (pv 1) qG (qP _)) (jK (qJ qCr (pv 1) (qU qh rfl T.b_len rfl (qA (pv 0) qB)) (qP _))))) (qE (qM qR)) qN)
  (qE (qM (qK (jU qz (pv 0) (pv 1) (fun _ _=>rfl)))))),?_⟩
 try dsimp only[jN,qd]
 have hl:=his.len;refine⟨_,O,_,_,O,O,_,O,?_⟩;by_cases h0:i<0
 . rw[decide_eq_true h0]
   have e:jG ms i="":=by unfold jG;rw[if_pos h0]
   rw[e]at q;exact jl (jl q)
 rw[decide_eq_false h0];refine qt ⟨_,O,_,O,z,_,O,.inl (SqL.of hz),_,_,O,O,_,O,?_⟩;by_cases h1:((vs.length:Nat):Int)<=i
 . rw[decide_eq_true (show i ≥ ((vs.length:Nat):Int)from h1)]
   have e:jG ms i="":=by unfold jG;rw[if_neg h0,List.getElem?_eq_none (by omega)]
   rw[e]at q;exact jl q
 . rw[decide_eq_false (show ¬i ≥ ((vs.length:Nat):Int)from h1)]
   refine qt ?_;have hi:i.toNat<ms.length:=by omega
   have hm:ms[i.toNat]?=some ms[i.toNat]:=List.getElem?_eq_getElem hi;refine qL fun _ Y=>?_;obtain⟨v,hv,hI⟩:=his.get' hm;obtain⟨zi,xi,rfl,hzi,q0,_⟩:=hI.opn;apply Y;have ei:i=((i.toNat:Nat):Int):=by omega
   have hat:atI vs i=some (.ref zi):=by rw[ei];exact jI hv
   have e:jG ms i=ms[i.toNat].wd:=jw hm ei;rw[e]at q;exact⟨_,O,_,O,z,_,_,_,O,O,SqL.of hz,hat,zi,xi,_,_,O,O,SqT.of hzi,q0,q⟩
inductive qFv(vs:List V)(H:Hp)(Q:VK)(_:XK):Prop
|mk (z:Addr) (ms:List Im) (i:Int) (_:vs=[.ref z,.int i]) (_:Tr H z ms) (_:Q (.int (if jG ms (i-1)="mix" then i-2 else i-1)) H)
theorem wY(T:Tx K mg a):FnOk P w K mg base CX0 2 a.A31 a.B31 ["track","place"] qFv:=by
 refine T.D31.F.ok qFd (fun vs H Q E h=>?_) (fun cdv A outer s H vs Q E hr h=>?_)
 . obtain⟨z,ms,i,rfl,_⟩:=h
   rfl
 refine qL fun _ Y=>?_;obtain⟨z,ms,i,rfl,tT,q⟩:=h;apply Y;refine⟨_,(qE (qM (vA (qJ ja (qI T.D29 (jH T) hr rfl (qA (pv 0) (qA (qQ jS (pv 1) qG) qB))) qR (qP _)) (qQ jS (pv 1) qG) (qQ jS (pv 1) qG)))),?_⟩
 try dsimp only[jN,qd]
 refine⟨_,O,_,O,_,_,O,O,z,ms,_,O,tT,O,_,O,jo (fun c=>?_) (fun c=>?_)⟩
 . rw[if_pos (by simpa using c)]at q
   exact⟨_,O,_,_,O,O,q⟩
 . rw[if_neg (by simpa using c)]at q
   exact⟨_,O,_,_,O,O,q⟩
def nbF(ms:List Im)(t:Int):Option (Int×Int):=match zU 0 0 ms t with
 |some (i,d)=>if d≠0\/(i:Int)=0 then none else some (if jG ms ((i:Int)-1)="mix" then (i:Int)-2 else (i:Int)-1,(i:Int))
 |none=>none
def cbF(ms:List Im)(t:Int):Option (Int×Int):=match nbF ms t with
 |some (i,j)=>if jG ms i="clip"/\jG ms j="clip" then some (i,j)else none
 |none=>none
def PrR(H:Hp)(Q:VK)(r:Option (Int×Int)):Prop:=match r with
 |none=> ∀H',Same H H'->Q .non H'
 |some (i,j)=> ∀(p:Addr) (H':Hp),Same H H'->H' p=some (.tup [.int i,.int j])->Q (.ref p) H'
inductive qCy(vs:List V)(H:Hp)(Q:VK)(_:XK):Prop
|mk (z:Addr) (ms:List Im) (t:Int) (_:vs=[.ref z,.int t]) (_:Tr H z ms) (_:PrR H Q (nbF ms t))
theorem vK(T:Tx K mg a):FnOk P w K mg base CX0 4 a.A33 a.B33 ["track","moment"] qCy:=by
 refine T.D33.F.ok vG (fun vs H Q E h=>?_) (fun cdv A outer s H vs Q E hr h=>?_)
 . obtain⟨z,ms,t,rfl,_⟩:=h
   rfl
 refine qL fun _ Y=>?_;obtain⟨z,ms,t,rfl,tT,kk⟩:=h;apply Y;refine⟨_,(qC (qZ 2 vG.nd (qI T.D28 (qBx T) hr rfl (qA (pv 0) (qA (pv 1) qB))))
  (qC (qW (PW.pt (jd (vD (qBf (pv 2))) (jd (qJ zD (qK (pv 2)) qG (qP _)) (jK (qJ ja (qK (pv 2)) qG (qP _)))))) (qE (qM qBe)) qN)
  (qE (qM (ql (qA (qI T.D31 (wY T) hr rfl (qA (pv 0) (qA (qK (pv 2)) qB))) (qA (qK (pv 2)) qB))))))),?_⟩
 try dsimp only[jN,qd]
 refine⟨_,O,_,O,z,ms,_,O,tT,?_⟩;unfold nbF at kk;cases hit:zU 0 0 ms t with
 |none=>
  rw[hit]at kk;intro H1 e1;exact⟨_,O,_,O,jl (kk H1 e1)⟩
 |some x=>
  obtain⟨i,d⟩:=x;rw[hit]at kk;dsimp only at kk;intro p H1 e1 hp;refine⟨_,O,_,O,jo (fun c=>absurd c (by simp)) (fun _=>?_)⟩;refine(ixO hp at1 ?_);refine⟨O,_,O,jo (fun c=>?_) (fun c=>?_)⟩
  . rw[if_pos (.inl (by simpa using c))]at kk
    exact kk H1 e1
  . refine(ixO hp at0 ?_)
    refine⟨O,_,O,jo (fun c2=>?_) (fun c2=>?_)⟩
    . rw[if_pos (.inr (by simpa using c2))]at kk
      exact kk H1 e1
    . rw[if_neg (fun z=>z.elim (fun z=>c (by simpa using z)) (fun z=>c2 (by simpa using z)))]at kk
      refine⟨_,O,ixO hp at0 ⟨z,ms,_,O,tT.same e1,?_⟩⟩;refine(ixO hp at0 ⟨sL2,fun q hq=>?_⟩);exact kk q _ (e1.trans (qF hq _)) qD
inductive qAz(vs:List V)(H:Hp)(Q:VK)(_:XK):Prop
|mk (z:Addr) (ms:List Im) (t:Int) (_:vs=[.ref z,.int t]) (_:Tr H z ms) (_:PrR H Q (cbF ms t))
theorem jm(T:Tx K mg a):FnOk P w K mg base CX0 5 a.A34 a.B34 ["track","moment"] qAz:=by
 refine T.D34.F.ok zY (fun vs H Q E h=>?_) (fun cdv A outer s H vs Q E hr h=>?_)
 . obtain⟨z,ms,t,rfl,_⟩:=h
   rfl
 refine qL fun _ Y=>?_;obtain⟨z,ms,t,rfl,tT,kk⟩:=h;apply Y;refine⟨_,(qC (qZ 2 zY.nd (qI T.D33 (vK T) hr rfl (qA (pv 0) (qA (pv 1) qB))))
  (qC (qW (PW.pt (jd (vD (qBf (pv 2))) (jd (qJ zD (qI T.D29 (jH T) hr rfl (qA (pv 0) (qA (qK (pv 2)) qB))) qR (qP _)) (jK (qJ zD (qI T.D29 (jH T) hr rfl (qA (pv 0) (qA (qK (pv 2)) qB))) qR (qP _)))))) (qE (qM qBe)) qN)
  (qE (qM (pv 2))))),?_⟩
 try dsimp only[jN,qd]
 refine⟨_,O,_,O,z,ms,_,O,tT,?_⟩;unfold cbF at kk;cases hit:nbF ms t with
 |none=>
  rw[hit]at kk;intro H1 e1;exact⟨_,O,_,O,jl (kk H1 e1)⟩
 |some x=>
  obtain⟨i,j⟩:=x;rw[hit]at kk;dsimp only at kk;intro p H1 e1 hp;refine⟨_,O,_,O,jo (fun c=>absurd c (by simp)) (fun _=>?_)⟩;refine⟨_,O,ixO hp at0 ⟨z,ms,_,O,tT.same e1,?_⟩⟩;refine⟨O,_,O,jo (fun c=>?_) (fun c=>?_)⟩
  . rw[if_neg (fun z=>absurd c (by simpa using z.1))]at kk
    exact kk H1 e1
  . refine⟨_,O,ixO hp at1 ⟨z,ms,_,O,tT.same e1,?_⟩⟩
    refine⟨O,_,O,jo (fun c2=>?_) (fun c2=>?_)⟩
    . rw[if_neg (fun z=>absurd c2 (by simpa using z.2))]at kk
      exact kk H1 e1
    . rw[if_pos ⟨by simpa using c,by simpa using c2⟩]at kk
      exact⟨_,O,kk p H1 e1 hp⟩
def TrsAt(H:Hp):List (List Im)->List V->Prop
 |[],[]=>True
 |ms::r,v::vs=>(∃z:Addr,v=.ref z/\Tr H z ms)/\TrsAt H r vs
 |_,_=>False
theorem TrsAt.same{H H':Hp}(e:Same H H'):∀{ts:List (List Im)} {vs:List V},TrsAt H ts vs->TrsAt H' ts vs
 |[],[],_=>trivial
 |_::_,_::_,⟨⟨z,h1,h2⟩,h⟩=>⟨⟨z,h1,h2.same e⟩,TrsAt.same e h⟩
 |[],_::_,h=>h.elim
 |_::_,[],h=>h.elim
theorem TrsAt.len{H:Hp}:∀{ts:List (List Im)} {vs:List V},TrsAt H ts vs->vs.length=ts.length
 |[],[],_=>rfl
 |_::_,_::_,h=>by rw[List.length_cons,List.length_cons,TrsAt.len h.2]
 |[],_::_,h=>h.elim
 |_::_,[],h=>h.elim
theorem TrsAt.get{H:Hp}:∀{ts:List (List Im)} {vs:List V} {i:Nat} {v:V},TrsAt H ts vs->vs[i]?=some v->∃(ms:List Im) (z:Addr),ts[i]?=some ms/\v=.ref z/\Tr H z ms
 |[],[],_,_,_,h=>by simp at h
 |ms::_,u::_,0,v,h,e=>by
  have e':u=v:=by simpa using e
  subst e';obtain⟨⟨z,h1,h2⟩,_⟩:=h;exact⟨ms,z,O,h1,h2⟩
 |_::_,_::_,i+1,v,h,e=>by obtain⟨ms,z,h1,h2⟩:=TrsAt.get (i:=i) h.2 (by simpa using e);exact⟨ms,z,by simpa using h1,h2⟩
 |[],_::_,_,_,h,_=>h.elim
 |_::_,[],_,_,h,_=>h.elim
def qWy(H:Hp)(v:V)(ts:List (List Im)):Prop:= ∃(tt tl ti:Addr) (zs:List V),v=.ref tt/\H tt=some (.tup [.ref tl,.ref ti])/\H tl=some (.lst zs)/\TrsAt H ts zs
theorem qHi{H:Hp}{v:V}{n:Str}{p q r s l:Int}(h:IsI H (.clip n p q r s l) v):Cp K H v n p q r s l:=by obtain⟨z,x,y,h0,hz,hx,hy⟩:=h;exact⟨z,x,y,h0,SqT.of hz,SqT.of hx,SqT.of hy⟩
def TabF(H:Hp)(v:V)(ts:List (List Im))(tie:List Int):Prop:= ∃(tt tl ti:Addr) (zs:List V),v=.ref tt/\H tt=some (.tup [.ref tl,.ref ti])/\H tl=some (.lst zs)/\TrsAt H ts zs/\H ti=some (.lst (tie.map V.int))
theorem TabF.tab{H:Hp}{v:V}{ts:List (List Im)}{tie:List Int}(h:TabF H v ts tie):qWy H v ts:=let ⟨tt,tl,ti,zs,h1,h2,h3,h4,_⟩:=h;⟨tt,tl,ti,zs,h1,h2,h3,h4⟩
theorem TabF.same{H H':Hp}(e:Same H H'){v:V}{ts:List (List Im)}{tie:List Int}(h:TabF H v ts tie):TabF H' v ts tie:=
 let ⟨tt,tl,ti,zs,h1,h2,h3,h4,h5⟩:=h;⟨tt,tl,ti,zs,h1,e _ _ h2,e _ _ h3,h4.same e,e _ _ h5⟩
def tabD(ts:List (List Im))(tie:List Int):D:=.tup [.lst (ts.map fun ms=>.lst (ms.map Im.d)),.lst ((tie.map V.int).map D.leaf)]
theorem TrsAt.rep{H:Hp}:∀{ts:List (List Im)} {vs:List V},TrsAt H ts vs->Reps K H (ts.map fun ms=>.lst (ms.map Im.d)) vs
 |[],[],_=>by unfold List.map Reps;trivial
 |_::_,_::_,⟨⟨z,h1,h2⟩,r⟩=>by unfold List.map Reps;subst h1;exact⟨h2.rep,r.rep⟩
 |[],_::_,h=>h.elim
 |_::_,[],h=>h.elim
theorem TabF.rep{H:Hp}{v:V}{ts:List (List Im)}{tie:List Int}(h:TabF H v ts tie):Rep K H (tabD ts tie) v:=by obtain⟨tt,tl,ti,zs,rfl,h2,h3,h4,h5⟩:=h;unfold tabD Rep;refine⟨tt,_,O,SqT.of h2,?_⟩;unfold Reps Reps Reps;refine⟨?_,qQ8 h5,trivial⟩;unfold Rep;exact⟨tl,zs,O,SqL.of h3,h4.rep⟩
theorem qLr:∀ts:List (List Im),wJ (ts.map fun ms=>.lst (ms.map Im.d)) (ts.map fun ms=>.lst (ms.map Im.d))=true
 |[]=>by simp[wJ]
 |ms::r=>by
  unfold List.map wJ;rw[qLr r];have:eqD (.lst (ms.map Im.d)) (.lst (ms.map Im.d))=true:=by unfold eqD;exact qAn ms
  rw[this];rfl
theorem qO8:∀ts:List (List Im),qC5 (ts.map fun ms=>.lst (ms.map Im.d))<=3
 |[]=>by simp[qC5]
 |ms::r=>by
  have h1:=qO8 r;have h2:dep (.lst (ms.map Im.d))<=3:=by have:=qF0 ms;unfold dep;omega
  unfold List.map qC5;omega
theorem qLu(ts:List (List Im))(tie:List Int):eqD (tabD ts tie) (tabD ts tie)=true/\dep (tabD ts tie)<=50:=by
 constructor
 . unfold tabD eqD wJ wJ wJ
   have h1:eqD (.lst (ts.map fun ms=>.lst (ms.map Im.d))) (.lst (ts.map fun ms=>.lst (ms.map Im.d)))=true:=by unfold eqD;exact qLr ts
   have h2:eqD (.lst ((tie.map V.int).map D.leaf)) (.lst ((tie.map V.int).map D.leaf))=true:=by unfold eqD;exact qMd tie
   rw[h1,h2];rfl
 . have h1:=qO8 ts
   have h2:=qIs (tie.map V.int);unfold tabD dep qC5 qC5 qC5 dep;omega
theorem qHh{H:Hp}:∀{ts:List (List Im)} {vs:List V} {ms:List Im} {z:Addr},TrsAt H ts vs->Tr H z ms->TrsAt H (ts++[ms]) (vs++[.ref z])
 |[],[],_,z,_,h=>⟨⟨z,rfl,h⟩,trivial⟩
 |_::_,_::_,_,_,⟨h1,h2⟩,h=>⟨h1,qHh h2 h⟩
 |[],_::_,_,_,h,_=>h.elim
 |_::_,[],_,_,h,_=>h.elim
theorem kx{b:Bool}{A B:Prop}(h:b=false)(q:B):if b=true then A else B:=by subst h;exact q
theorem v9{b:Bool}{A B:Prop}(h:b=true)(q:A):if b=true then A else B:=by subst h;exact q
inductive qNy(vs:List V)(H:Hp)(Q:VK)(_:XK):Prop
|mk (z:Str) (_:vs=[.str z]) (_:qFo z=true) (_:∀H',Same H H'->Q (.bl true) H')
theorem wF(T:Tx K mg a):FnOk P w K mg base CX0 1 a.A10 a.B10 ["thing"] qNy:=by
 refine T.D10.F.ok qNi (fun vs H Q E h=>?_) (fun cdv A outer s H vs Q E hr h=>?_)
 . obtain⟨z,rfl,_⟩:=h
   rfl
 refine qL fun _ Y=>?_;obtain⟨z,rfl,hn,kk⟩:=h;apply Y;refine⟨_,(qC (qW (q8 (qg (qU qi rfl T.b_isinstance rfl (qA (pv 0) (qA (zw rfl T.b_str rfl) qB))))) (qE (qM xk)) qN)
  (qC (qW (PW.pt (jd (qJ zy (qU qCf rfl T.b_len rfl (qA (pv 0) qB)) qG (qP _)) (jK (qJ wL (qU qCf rfl T.b_len rfl (qA (pv 0) qB)) (jq (v:=.int 8) rfl T.g_LONGEST_NAME ⟨_,rfl⟩) (qP _))))) (qE (qM xk)) qN)
  (qE (qM (qU (qBa rfl) rfl T.b_all rfl (qA (kf [] [] rfl (qVf (pv 0)) (fun _ _ _ _=>(jL qV2 (pv 0) (jq (v:=.str "abcdefghijklmnopqrstuvwxyz") rfl T.g_LETTERS ⟨_,rfl⟩) rfl))) qB)))))),?_⟩
 try dsimp only[jN,qd]
 unfold qFo at hn;obtain⟨h1,h2⟩:=Bool.and_eq_true _ _ ▸ hn;have h1:=of_decide_eq_true h1;have hsz:z.length<=sizeLine:=Nat.le_of_lt (qc (by omega));refine⟨_,O,_,_,_,true,O,.str z,⟨_,.inl ⟨O,by kernel_rfl⟩⟩,true,O,qt ?_⟩;refine⟨_,O,z,O,hsz,_,_,O,O,_,O,kx (decide_eq_false (by omega)) ⟨_,O,z,O,hsz,_,_,O,O,_,O,kx (decide_eq_false (by show ¬(8:Int)<_;omega)) ?_⟩⟩;refine⟨_,O,z,O,qQn (fun i acc H'=>H'=H/\acc=((z.cps.toList.take i).map qXf).map V.bl) ⟨O,O⟩ ?_ ?_ ?_⟩
 . rintro i acc H' hi ⟨_,rfl⟩
   rw[List.length_map,List.length_map,List.length_take];exact qc (by have:z.cps.size=z.length:=rfl;omega)
 . rintro i c acc H' hi hc ⟨rfl,rfl⟩
   refine⟨_,O,_,_,O,O,Nxt.mk hi ⟨O,?_⟩⟩;have hc':z.cps.toList[i]?=some c:=by simpa using hc
   rw[List.take_succ,hc',List.map_append,List.map_append];rfl
 . rintro acc H' ⟨rfl,rfl⟩ D hD
   refine⟨D,_,O,SqL.of qD,?_⟩;rw[List.take_of_length_le (by simp),List.all_map,show (z.cps.toList.all (id ∘ qXf))=true from h2];exact kk _ (qF hD _)
inductive qFh(vs:List V)(H:Hp)(Q:VK)(_:XK):Prop
|mk (z:Addr) (p q:Int) (_:vs=[.ref z]) (_:H z=some (.tup [.int p,.int q])) (_:1<=q) (_:Int.gcd p q=1) (_:Q (.bl true) H)
theorem wX(T:Tx K mg a):FnOk P w K mg base CX0 2 a.A2 a.B2 ["x"] qFh:=by
 refine T.D2.F.ok qFm (fun vs H Q E h=>?_) (fun cdv A outer s H vs Q E hr h=>?_)
 . obtain⟨z,p,q,rfl,_⟩:=h
   rfl
 refine qL fun _ Y=>?_;obtain⟨z,p,q,rfl,hz,hq,hg,k⟩:=h;apply Y;have h1:SqT K H z [.int p,.int q]:=SqT.of hz;refine⟨_,(qC (qW (PW.pt (jd (q8 (qg (qU qi rfl T.b_isinstance rfl (qA (pv 0) (qA (zw rfl T.b_tuple rfl) qB))))) (jK (qJ zD (qU qh rfl T.b_len rfl (qA (pv 0) qB)) qG (qP _))))) (qE (qM xk)) qN)
  (qC (qW (PW.pt (jd (q8 (qg (qI T.D0 (jC T) hr rfl (qA (qK (pv 0)) qB)))) (jK (q8 (qg (qI T.D0 (jC T) hr rfl (qA (qK (pv 0)) qB))))))) (qE (qM xk)) qN)
  (qE (qM (xp (jL qCr (qK (pv 0)) qG (qP _)) (z7 (jL ja (qI T.D1 (kB T) hr rfl (qA (qK (pv 0)) (qA (qK (pv 0)) qB))) qG (qP _)))))))),?_⟩
 try dsimp only[jN,qd]
 refine⟨_,O,_,_,_,true,O,.tup hz,⟨_,.inl ⟨O,by kernel_rfl⟩⟩,true,O,qt ?_⟩;refine⟨_,O,_,_,O,.inr h1,O,_,O,qt ?_⟩;refine(zS rfl h1 at0 ⟨p,O,true,O,qt ?_⟩);refine(zS rfl h1 at1 ⟨q,O,true,O,qt ?_⟩);refine(zS rfl h1 at1 ⟨_,_,O,O,true,?_,jl ?_⟩)
 . have:decide (1<=q)=true:=decide_eq_true hq
   rw[<-this]
 refine(zS rfl h1 at0 (zS rfl h1 at1 ⟨p,q,O,O,?_⟩));rw[hg];exact k
structure GF(n:Str)(p q r s len:Int):Prop where
 hn:qFo n=true
 hl:n.length<=1000
 hb:Bn 700 p q r s
 gq:Int.gcd p q=1
 gs:Int.gcd r s=1
 l1:1<=len
 bl:len.natAbs<2 ^ 30
inductive qC1(vs:List V)(H:Hp)(Q:VK)(_:XK):Prop
|mk (z:Addr) (n:Str) (p q r s len:Int) (_:vs=[.ref z]) (_:Ch H z n p q r s len) (_:qFo n=true) (_:1<=q) (_:Int.gcd p q=1) (_:1<=s) (_:Int.gcd r s=1) (_:1<=len) (_:∀H',Same H H'->Q (.bl true) H')
theorem qCp(T:Tx K mg a):FnOk P w K mg base CX0 3 a.A11 a.B11 ["item"] qC1:=by
 refine T.D11.F.ok qCx (fun vs H Q E h=>?_) (fun cdv A outer s H vs Q E hr h=>?_)
 . obtain⟨z,n,p,q,r,s,len,rfl,_⟩:=h
   rfl
 refine qL fun _ Y=>?_;obtain⟨z,n,p,q,r,s',len,rfl,⟨z1,z2,e0,e1,e2⟩,hn,hq,gq,hs,gs,l1,kk⟩:=h;apply Y;refine⟨_,(qC (qW (PW.pt (jd (q8 (qg (qU qi rfl T.b_isinstance rfl (qA (pv 0) (qA (zw rfl T.b_tuple rfl) qB))))) (jK (qJ zD (qU qh rfl T.b_len rfl (qA (pv 0) qB)) qG (qP _))))) (qE (qM xk)) qN)
  (qC (qW (PW.pt (jd (qJ zD (qK (pv 0)) qR (qP _)) (jK (q8 (qg (qI T.D10 (wF T) hr rfl (qA (qK (pv 0)) qB))))))) (qE (qM xk)) qN)
  (qC (qW (PW.pt (jd (q8 (qg (qI T.D2 (wX T) hr rfl (qA (qK (pv 0)) qB)))) (jK (q8 (qg (qI T.D2 (wX T) hr rfl (qA (qK (pv 0)) qB))))))) (qE (qM xk)) qN)
  (qE (qM (xp (qI T.D0 (jC T) hr rfl (qA (qK (pv 0)) qB)) (z7 (jL qCr (qK (pv 0)) qG (qP _))))))))),?_⟩
 try dsimp only[jN,qd]
 have h0:∀{H':Hp},Same H H'->SqT K H' z [.str "clip",.str n,.ref z1,.ref z2,.int len]:=fun e=>SqT.of (e _ _ e0);refine⟨_,O,_,_,_,true,O,.tup e0,⟨_,.inl ⟨O,by kernel_rfl⟩⟩,true,O,qt ?_⟩;refine⟨_,O,_,_,O,.inr (h0 (Same.refl _)),O,_,O,qt ?_⟩;refine⟨_,O,_,_,_,_,O,O,h0 (Same.refl _),qU4,O,_,O,qU9 rfl ?_⟩;refine⟨_,O,_,_,_,_,O,O,h0 (Same.refl _),qI7,n,O,hn,fun H1 s1=>⟨true,O,qt ?_⟩⟩;refine⟨_,O,_,_,_,_,O,O,h0 s1,qT4,z1,p,q,O,s1 _ _ e1,hq,gq,true,O,qt ?_⟩;refine⟨_,O,_,_,_,_,O,O,h0 s1,qKe,z2,r,s',O,s1 _ _ e2,hs,gs,true,O,qt ?_⟩;refine⟨_,O,_,_,_,_,O,O,h0 s1,qCq,len,O,true,O,jl ?_⟩;refine⟨_,O,_,_,_,_,O,O,h0 s1,qCq,_,_,O,O,?_⟩;have z:=kk H1 s1;rw[<-decide_eq_true l1]at z;exact z
inductive qAk(K:W.Frag)(vs:List V)(H:Hp)(Q:VK)(_:XK):Prop
|mk (v:V) (rd:Addr) (n:Str) (p q r s l N:Int) (_:vs=[v,.ref rd]) (_:IsI H (.clip n p q r s l) v) (_:GF n p q r s l) (_:Reel H rd n N) (_:InR (Vk p q r s 0) (q*s) N) (_:InR (Vk p q r s (l-1)) (q*s) N) (_:∀H',Same H H'->Q .non H')
theorem qBd(T:Tx K mg a):FnOk P w K mg base CX0 6 a.A15 a.B15 ["item","reels"] (qAk K):=by
 refine T.D15.F.ok qAo (fun vs H Q E h=>?_) (fun cdv A outer s H vs Q E hr h=>?_)
 . obtain⟨v,rd,n,p,q,r,s,len,m,rfl,_⟩:=h
   rfl
 refine qL fun _ Y=>?_;obtain⟨v,rd,n,p,q,r,s',len,m,rfl,⟨z,x,y,rfl,hz,hx,hy⟩,⟨hn,hl,hb,gq,gs,l1,bl⟩,hrd,i0,i1,kg⟩:=h;apply Y;have hc:Ch H z n p q r s' len:=⟨⟨x,y,hz,hx,hy⟩⟩;have hu1:=qKp hr;refine⟨_,(qC (qW (q8 (qg (qI T.D11 (qCp T) hr rfl (qA (pv 0) qB)))) qk qN)
  (qC (qW (vD (qJt hu1 (qK (pv 0)) (pv 1))) qk qN)
  (qC (qZ 2 qAo.nd (qBk hu1 (pv 1) (qK (pv 0)) (fun _ _=>rfl)))
  (qE (qW (PW.pt (jd (q8 (qg (qI T.D14 (qAb T) hr rfl (qA (qI T.D13 (qA5 T) hr rfl (qA (pv 0) (qA qG qB))) (qA (pv 2) qB))))) (jK (q8 (qg (qI T.D14 (qAb T) hr rfl (qA (qI T.D13 (qA5 T) hr rfl (qA (pv 0) (qA (qQ jS (qK (pv 0)) qG) qB))) (qA (pv 2) qB)))))))) qk qN))))),?_⟩
 try dsimp only[jN,qd]
 have hqs:=Int.mul_pos hb.q0 hb.s0;have h0:∀{H':Hp},Same H H'->∃z1 z2,SqT K H' z [.str "clip",.str n,.ref z1,.ref z2,.int len]:=fun e=>let ⟨z1,z2,h1,_,_⟩:=(hc.same e).ex;⟨z1,z2,SqT.of h1⟩
 refine⟨_,O,z,n,p,q,r,s',len,O,hc,hn,hb.q0,gq,hb.s0,gs,l1,fun H1 s1=>⟨true,O,qt ?_⟩⟩;refine qL fun _ Y=>?_;obtain⟨z1,z2,t1⟩:=h0 s1;apply Y;refine⟨_,O,z,_,_,_,O,O,t1,qI7,_,O,rd,_,O,(hrd.same s1).get,_,O,qt ?_⟩;refine⟨_,O,_,O,z,_,_,_,O,O,t1,qI7,rd,_,O,(hrd.same s1).get,?_⟩;refine⟨_,O,_,n,p,q,r,s',len,0,O,(hc.same s1).cp,hb.q0,hb.s0,hb.bp,hb.bq,hb.br,hb.bs,qBb (n:=30) (by decide),fun H2 s2=>?_⟩;have s2:=s1.trans s2;refine⟨_,O,_,m,O,_,O,?_⟩;have e:thB ((p*s'+0*r*q).fdiv (q*s')) m=true:=(qP7 hqs).mpr i0;rw[e];refine qt ?_;refine qL fun _ Y=>?_;obtain⟨z1,z2,t2⟩:=h0 s2;apply Y;have bl1:(len-1).natAbs<2 ^ 700:=by exact Nat.lt_of_lt_of_le (show _<2 ^ 31 by omega) (Nat.pow_le_pow_right (by decide) (by decide))
 refine⟨_,O,_,O,z,_,_,_,O,O,t2,qCq,_,_,O,O,_,n,p,q,r,s',len,len-1,O,(hc.same s2).cp,hb.q0,hb.s0,hb.bp,hb.bq,hb.br,hb.bs,bl1,fun H3 s3=>?_⟩;have s3:=s2.trans s3;refine⟨_,O,_,m,O,_,O,?_⟩;have e:thB ((p*s'+(len-1)*r*q).fdiv (q*s')) m=true:=(qP7 hqs).mpr i1;rw[e];exact qt (kg H3 s3)
abbrev Rls:=Str->Option Int
def ReelsAt(H:Hp)(rd:Addr)(rl:Rls):Prop:= ∀n N,rl n=some N->Reel H rd n N
theorem ReelsAt.same{H H':Hp}{rd:Addr}{rl:Rls}(e:Same H H')(h:ReelsAt H rd rl):ReelsAt H' rd rl:=fun n N q=>(h n N q).same e
theorem qA7(T:Tx K mg a):FnOk P w K mg base CX0 1 a.fi_Short a.gi_Short ["self","most"] (qK3 a.k_Short "most"):=by
 refine T.i_Short.ok qQg (fun vs H Q E h=>?_) (fun cdv A outer s H vs Q E hr h=>?_)
 . obtain⟨e,v,rfl,_⟩:=h
   rfl
 refine qL fun _ Y=>?_;obtain⟨e,v,rfl,he,kk⟩:=h;apply Y;refine⟨_,qE (qSz (pv 0) (pv 1)),?_⟩;exact⟨_,O,_,O,e,_,_,O,he,T.m_Short.ov,T.m_Short.hd,T.m_Short.sa,T.tk_Short,kk⟩
inductive qE5(vs:List V)(H:Hp)(Q:VK)(_:XK):Prop
|mk (tz tl td:Addr) (zs:List V) (n t:Int) (_:vs=[.ref tz,.int n,.int t]) (_:H tz=some (.tup [.ref tl,.ref td])) (_:H tl=some (.lst zs)) (_:0<=n) (_:n<(zs.length:Int)) (_:0<=t) (_:Q .non H)
theorem wU(T:Tx K mg a):FnOk P w K mg base CX0 2 a.A45 a.B45 ["table","number","moment"] qE5:=by
 refine T.D45.F.ok qFi (fun vs H Q E h=>?_) (fun cdv A outer s H vs Q E hr h=>?_)
 . obtain⟨tz,tl,td,zs,n,t,rfl,_⟩:=h
   rfl
 refine qL fun _ Y=>?_;obtain⟨tz,tl,td,zs,n,t,rfl,htz,htl,h0,h1,h2,kg⟩:=h;apply Y;refine⟨_,(qC (qW (PW.pt (jd (q8 (qg (qI T.D0 (jC T) hr rfl (qA (pv 1) qB)))) (jd (qJ zy (pv 1) qG (qP _)) (jK (qJ qCr (pv 1) (qU qh rfl T.b_len rfl (qA (qK (pv 0)) qB)) (qP _)))))) qk qN)
  (qE (qW (PW.pt (jd (q8 (qg (qI T.D0 (jC T) hr rfl (qA (pv 2) qB)))) (jK (qJ zy (pv 2) qG (qP _))))) qk qN))),?_⟩
 try dsimp only[jN,qd]
 refine⟨_,O,n,O,true,O,qt ⟨_,O,_,_,O,O,_,O,kx (decide_eq_false (by omega)) ?_⟩⟩;refine⟨_,O,ixO htz at0 ⟨tl,_,O,.inl (SqL.of htl),_,_,O,O,_,O,kx (decide_eq_false (by omega)) ?_⟩⟩;exact⟨_,O,t,O,true,O,qt ⟨_,O,_,_,O,O,_,O,kx (decide_eq_false (by omega)) kg⟩⟩
inductive qK9(vs:List V)(H:Hp)(Q:VK)(_:XK):Prop
|mk (b:Int) (_:vs=[.int b]) (_:b.natAbs<=1000000) (_:Q .non H)
theorem qKa(T:Tx K mg a):FnOk P w K mg base CX0 2 a.A46 a.B46 ["by"] qK9:=by
 refine T.D46.F.ok qKj (fun vs H Q E h=>?_) (fun cdv A outer s H vs Q E hr h=>?_)
 . obtain⟨b,rfl,_⟩:=h
   rfl
 refine qL fun _ Y=>?_;obtain⟨b,rfl,hb,kg⟩:=h;apply Y;refine⟨_,(qE (qW (PW.pt (jd (q8 (qg (qI T.D0 (jC T) hr rfl (qA (pv 0) qB)))) (jK (qJ wL (qU vB rfl T.b_abs rfl (qA (pv 0) qB)) (jq (v:=.int 1000000) rfl T.g_MOST_BY ⟨_,O⟩) (qP _))))) qk qN)),?_⟩
 try dsimp only[jN,qd]
 refine⟨_,O,b,O,true,O,qt ⟨_,O,b,O,_,_,O,O,_,O,kx (decide_eq_false ?_) kg⟩⟩;split <;> omega
def hmB(ms:List Im)(i:Int):Bool:=decide (jG ms (i-1)="mix") || decide (jG ms (i+1)="mix")
inductive qNz(vs:List V)(H:Hp)(Q:VK)(_:XK):Prop
|mk (z:Addr) (ms:List Im) (i:Int) (_:vs=[.ref z,.int i]) (_:Tr H z ms) (_:Q (.bl (hmB ms i)) H)
theorem qMy(T:Tx K mg a):FnOk P w K mg base CX0 2 a.A50 a.B50 ["track","place"] qNz:=by
 refine T.D50.F.ok qMt (fun vs H Q E h=>?_) (fun cdv A outer s H vs Q E hr h=>?_)
 . obtain⟨z,ms,i,rfl,_⟩:=h
   rfl
 refine qL fun _ Y=>?_;obtain⟨z,ms,i,rfl,tT,q⟩:=h;apply Y;refine⟨_,(qE (qM (qXd (jL ja (qI T.D29 (jH T) hr rfl (qA (pv 0) (qA (qQ jS (pv 1) qG) qB))) qR (qP _)) (z7 (jL ja (qI T.D29 (jH T) hr rfl (qA (pv 0) (qA (qQ qr (pv 1) qG) qB))) qR (qP _)))))),?_⟩
 try dsimp only[jN,qd]
 refine⟨_,O,_,O,_,_,O,O,z,ms,_,O,tT,O,_,O,?_⟩;unfold hmB at q;rw[qTq];by_cases h1:jG ms (i-1)="mix"
 . rw[decide_eq_true h1]at q⊢
   exact jl q
 rw[decide_eq_false h1]at q⊢;refine qt ⟨_,O,_,O,_,_,O,O,z,ms,_,O,tT,O,?_⟩;rw[qTq];exact q
def wG(b:Int):Int:=if b<0 then-b else b
def sgM(b m:Int):Int:=if 0<b then m else-m
inductive qD6(S:Addr)(vs:List V)(H:Hp)(Q:VK)(E:XK):Prop
|mk (m b:Int) (_:vs=[.int m,.int b]) (_:(wG b<=m->Q .non H)) (_:(¬wG b<=m->∀(dx:Addr) (H':Hp),Same H H'->H' dx=some (.xd [("most",.int (sgM b m))])->E (.ref S) (some dx) H'))
theorem wB(T:Tx K mg a):FnOk P w K mg base (CXR P w) 3 a.A51 a.B51 ["most","by"] (qD6 a.k_Short):=by
 refine okX T.D51.F qFg (fun vs H Q E h=>?_) (fun cdv A outer s H vs Q E hr h=>?_)
 . obtain⟨m,b,rfl,_⟩:=h
   rfl
 refine qL fun _ Y=>?_;obtain⟨m,b,rfl,kg,kb⟩:=h;apply Y;refine⟨_,(qE (qW (qJ wL (qU vB rfl T.b_abs rfl (qA (pv 1) qB)) (pv 0) (qP _)) (qE (qH8 T.m_Short (qA7 T) T.ib_Short (hr.mono (by decide)) rfl rfl T.c_Short (qA (vA (qJ wL (pv 1) qG (qP _)) (pv 0) (qAs ze (pv 0))) qB))) qN)),?_⟩
 try dsimp only[jN,qd]
 refine⟨_,O,b,O,_,O,_,_,O,O,_,O,jo (fun c=>?_) (fun c=>?_)⟩
 . have c':¬wG b<=m:=by
    have:(if b<0 then-b else b)>m:=by simpa using c
    unfold wG;omega
   refine⟨_,O,_,_,O,O,_,O,jo (fun cb=>?_) (fun cb=>?_)⟩
   . have e:sgM b m=m:=by unfold sgM;exact if_pos (by simpa using cb)
     rw[e]at kb;exact⟨_,O,_,O,fun dx hdx=>kb c' dx _ (qF hdx _) qD⟩
   . have e:sgM b m=-m:=by unfold sgM;exact if_neg (by simpa using cb)
     rw[e]at kb;exact⟨_,O,_,O,_,O,fun dx hdx=>kb c' dx _ (qF hdx _) qD⟩
 . refine kg ?_
   have:¬(if b<0 then-b else b)>m:=by simpa using c
   unfold wG;omega
inductive qIi(K:W.Frag)(vs:List V)(H:Hp)(Q:VK)(_:XK):Prop
|mk (v:V) (n:Str) (p q r s len lo hi:Int) (_:vs=[v,.int lo,.int hi]) (_:IsI H (.clip n p q r s len) v) (_:Bn 700 p q r s) (_:lo.natAbs<2 ^ 700) (_:∀(u:V) (H':Hp),Same H H'->IsI H' (.clip n (plP p q r s lo) (plQ p q r s lo) r s (hi-lo)) u->Q u H')
theorem zV(T:Tx K mg a):FnOk P w K mg base CX0 5 a.A16 a.B16 ["clip","low","high"] (qIi K):=by
 refine T.D16.F.ok qIu (fun vs H Q E h=>?_) (fun cdv A outer s H vs Q E hr h=>?_)
 . obtain⟨v,n,p,q,r,s,len,lo,hi,rfl,_⟩:=h
   rfl
 refine qL fun _ Y=>?_;obtain⟨v,n,p,q,r,s',len,lo,hi,rfl,hI,⟨hq,hs,bp,bq,br,bs⟩,bl,kk⟩:=h;apply Y;refine⟨_,(qE (qM (ql (qA qR (qA (qK (pv 0)) (qA (qI T.D12 (zP T) hr rfl (qA (pv 0) (qA (pv 1) qB))) (qA (qK (pv 0)) (qA (qQ jS (pv 2) (pv 1)) qB)))))))),?_⟩
 try dsimp only[jN,qd]
 refine qL fun _ Y=>?_;obtain⟨z,z1,z2,rfl,h0,h1,h2⟩:=id hI;apply Y;refine(ixO h0 qI7 ⟨_,O,_,O,_,n,p,q,r,s',len,lo,O,qHi hI,hq,hs,bp,bq,br,bs,bl,fun y H1 s1 e1=>?_⟩);refine(ixO (s1 _ _ h0) qKe ⟨_,O,_,O,_,_,O,O,sL5,fun t ht=>?_⟩);have s2:=qF ht (.tup [.str "clip",.str n,.ref y,.ref z2,.int (hi-lo)]);exact kk _ _ (s1.trans s2) ⟨t,y,z2,O,qD,s2 _ _ e1,s2 _ _ (s1 _ _ h2)⟩
def zJ(p q r s l N:Int):Int:=zp (plP p q r s l*s) (1*r*plQ p q r s l) (plQ p q r s l*s) N
def zm(p q r s N:Int):Int:=zp (plP p q r s (-1)*s) (-1*r*plQ p q r s (-1)) (plQ p q r s (-1)*s) N
structure Rc(n:Str)(p q r s l:Int)(rl:Rls)(N:Int):Prop where
 g1:qRx 110 p q
 g2:qRx 110 r s
 bl:l.natAbs<2 ^ 30
 l1:1<=l
 rn:rl n=some N
 bN:N.natAbs<2 ^ 700
theorem Rc.bn{n:Str}{p q r s l N:Int}{rl:Rls}(h:Rc n p q r s l rl N):Bn 110 p q r s:=⟨h.g1.1,h.g2.1,h.g1.2.2.1,h.g1.2.2.2,h.g2.2.2.1,h.g2.2.2.2⟩
def qDl(b tl hd l l':Int):Int:=if 0<b then (if l'-1<tl then l'-1 else tl)else (if hd<l-1 then hd else l-1)
inductive qHz(K:W.Frag)(vs:List V)(H:Hp)(Q:VK)(_:XK):Prop
|mk (v u:V) (b:Int) (rd:Addr) (rl:Rls) (n n':Str) (p q r s l N p' q' r' s' l' N':Int) (_:vs=[v,u,.int b,.ref rd]) (_:IsI H (.clip n p q r s l) v) (_:IsI H (.clip n' p' q' r' s' l') u) (_:Rc n p q r s l rl N) (_:Rc n' p' q' r' s' l' rl N') (_:ReelsAt H rd rl) (_:∀H',Same H H'->Q (.int (qDl b (zJ p q r s l N) (zm p' q' r' s' N') l l')) H')
theorem qH6(T:Tx K mg a):FnOk P w K mg base CX0 6 a.A53 a.B53 ["left","right","by","reels"] (qHz K):=by
 refine T.D53.F.ok qIh (fun vs H Q E h=>?_) (fun cdv A outer s H vs Q E hr h=>?_)
 . obtain⟨v,u,b,rd,rl,n,n',p,q,r,s,l,N,p',q',r',s',l',N',rfl,_⟩:=h
   rfl
 refine qL fun _ Y=>?_;obtain⟨v,u,b,rd,rl,n,n',p,q,r,s1,l,N,p',q',r',s2,l',N',rfl,hv,hu,c1,c2,hrl,kk⟩:=h;apply Y;refine⟨_,(qC (qW (qJ wL (pv 2) qG (qP _)) (qE (qM (qU (zQ rfl) rfl T.b_min rfl (qA (qI T.D20 (vf T) hr rfl (qA (pv 0) (qA (pv 3) qB))) (qA (qQ jS (qK (pv 1)) qG) qB))))) qN)
  (qE (qM (qU (zQ rfl) rfl T.b_min rfl (qA (qQ jS (qK (pv 0)) qG) (qA (qI T.D19 (vV T) hr rfl (qA (pv 1) (qA (pv 3) qB))) qB)))))),?_⟩
 try dsimp only[jN,qd]
 unfold qDl at kk;refine⟨_,O,_,_,O,O,_,O,jo (fun c=>?_) (fun c=>?_)⟩
 . rw[if_pos (by simpa using c)]at kk
   refine qL fun _ Y=>?_;obtain⟨zu,xu,yu,rfl,hzu,_⟩:=id hu;apply Y;refine⟨_,O,_,O,v,n,p,q,r,s1,l,N,rd,O,qHi hv,c1.g1,c1.g2,c1.bl,hrl _ _ c1.rn,c1.bN,fun H1 e1=>?_⟩;exact(ixO (e1 _ _ hzu) qCq ⟨_,_,O,O,_,_,O,kk H1 e1⟩)
 . rw[if_neg (by simpa using c)]at kk
   refine qL fun _ Y=>?_;obtain⟨zv,xv,yv,rfl,hzv,_⟩:=id hv;apply Y;refine(ixO hzv qCq ⟨_,_,O,O,?_⟩);refine⟨_,O,_,O,u,n',p',q',r',s2,l',N',rd,O,qHi hu,c2.g1,c2.g2,hrl _ _ c2.rn,c2.bN,fun H1 e1=>?_⟩;exact⟨_,_,O,kk H1 e1⟩
theorem IsIs.set{H:Hp}:∀{ms:List Im} {vs:List V} {i:Nat} {m:Im} {v:V},IsIs H ms vs->IsI H m v->IsIs H (ms.set i m) (vs.set i v)
 |[],[],_,_,_,_,_=>trivial
 |_::_,_::_,0,_,_,h,h'=>⟨h',h.2⟩
 |_::_,_::_,_+1,_,_,h,h'=>⟨h.1,h.2.set h'⟩
 |[],_::_,_,_,_,h,_=>h.elim
 |_::_,[],_,_,_,h,_=>h.elim
theorem qGs{n i:Nat}(h:i<n):ixN n (i:Int)=some i:=by unfold ixN;rw[if_pos (by omega),if_pos (by omega)];congr 1
def qS6(ms:List Im)(i j:Nat)(b:Int)(n:Str)(p q r s l:Int)(n':Str)(p' q' r' s' l':Int):List Im:=(ms.set i (.clip n p q r s (l+b))).set j (.clip n' (plP p' q' r' s' b) (plQ p' q' r' s' b) r' s' (l'-b))
inductive wM(S:Addr)(vs:List V)(H:Hp)(Q:VK)(E:XK):Prop
|mk (z rd:Addr) (ms:List Im) (i j:Nat) (b:Int) (rl:Rls) (n n':Str) (p q r s l N p' q' r' s' l' N':Int) (_:vs=[.ref z,.int (i:Int),.int (j:Int),.int b,.ref rd]) (_:Tr H z ms) (_:ms.length<=300) (_:ms[i]?=some (.clip n p q r s l)) (_:ms[j]?=some (.clip n' p' q' r' s' l')) (_:Rc n p q r s l rl N) (_:Rc n' p' q' r' s' l' rl N') (_:ReelsAt H rd rl) (_:b.natAbs<=1000000) (_:(wG b<=qDl b (zJ p q r s l N) (zm p' q' r' s' N') l l'->∀(y:Addr) (H':Hp),Same H H'->H y=none->Tr H' y (qS6 ms i j b n p q r s l n' p' q' r' s' l')->Q (.ref y) H')) (_:(¬wG b<=qDl b (zJ p q r s l N) (zm p' q' r' s' N') l l'->∀(dx:Addr) (H':Hp),Same H H'->H' dx=some (.xd [("most",.int (sgM b (qDl b (zJ p q r s l N) (zm p' q' r' s' N') l l')))])->E (.ref S) (some dx) H'))
theorem wO(T:Tx K mg a):FnOk P w K mg base (CXR P w) 7 a.A55 a.B55 ["track","first","last","by","reels"] (wM a.k_Short):=by
 refine okX T.D55.F jg (fun vs H Q E h=>?_) (fun cdv A outer s H vs Q E hr h=>?_)
 . obtain⟨z,rd,ms,i,j,b,rl,n,n',p,q,r,s,l,N,p',q',r',s',l',N',rfl,_⟩:=h
   rfl
 refine qL fun _ Y=>?_;obtain⟨z,rd,ms,i,j,b,rl,n,n',p,q,r,s1,l,N,p',q',r',s2,l',N',rfl,tT,hln,hi,hj,c1,c2,hrl,hb,kg,kb⟩:=h;apply Y;refine⟨_,(qC (qZ 5 jg.nd (jU qz (pv 0) (pv 1) (fun _ _=>rfl)))
  (qC (qZ 6 jg.nd (jU qz (pv 0) (pv 2) (fun _ _=>rfl)))
  (qC (q9 (xP T.D51 (wB T) hr rfl (qA (qI T.D53 (qH6 T) hr rfl (qA (pv 5) (qA (pv 6) (qA (pv 3) (qA (pv 4) qB))))) (qA (pv 3) qB))))
  (qC (qZ 7 jg.nd (z8 xV rfl T.b_list rfl (qA (pv 0) qB)))
  (qC (qMn (qI T.D16 (zV T) hr rfl (qA (pv 5) (qA qG (qA (qQ qr (qK (pv 5)) (pv 3)) qB)))) (qL7 (pv 7) (pv 1) qDd))
  (qC (qMn (qI T.D16 (zV T) hr rfl (qA (pv 6) (qA (pv 3) (qA (qK (pv 6)) qB)))) (qL7 (pv 7) (pv 2) qDd))
  (qE (qM (pv 7))))))))),?_⟩
 try dsimp only[jN,qd]
 refine qL fun _ Y=>?_;obtain⟨vs,hz,his⟩:=id tT;obtain⟨va,hva,Ia⟩:=his.get' hi;obtain⟨vb,hvb,Ib⟩:=his.get' hj;apply Y;have hlv:=his.len;have li:i<vs.length:=(glt hva);have lj:j<vs.length:=(glt hvb);refine⟨_,O,_,O,z,_,_,_,O,O,SqL.of hz,jI hva,?_⟩;refine⟨_,O,_,O,z,_,_,_,O,O,SqL.of hz,jI hvb,?_⟩;refine⟨_,O,_,O,_,O,_,O,va,vb,b,rd,rl,n,n',p,q,r,s1,l,N,p',q',r',s2,l',N',O,Ia,Ib,c1,c2,hrl,fun H1 e1=>?_⟩;refine⟨_,O,_,b,O,fun hc=>?_,fun hc dx H' e' hdx=>kb hc dx H' (e1.trans e') hdx⟩;refine⟨_,O,z,vs,O,.inl (SqL.of (e1 _ _ hz)),fun y hy=>?_⟩;have w2:=qF hy (.lst vs);have e2:=e1.trans w2;have hy0:H y=none:=by
  cases q0:H y with
  |none=>rfl
  |some o=>rw[e1 _ _ q0]at hy;cases hy
 refine qL fun _ Y=>?_;obtain⟨za,xa,ya,rfl,hza,hxa,hya⟩:=id Ia;apply Y;have b1:=c1.bn.mono (m:=700);have b2:=c2.bn.mono (m:=700);have bb7:b.natAbs<2 ^ 700:=Nat.lt_of_le_of_lt hb (by decide);have hy2:upd H1 y (.lst vs) y=some (.lst vs):=qD;generalize upd H1 y (.lst vs)=H2 at w2 e2 hy2⊢;refine⟨_,O,ixO (e2 _ _ hza) qCq ⟨_,O,_,_,O,O,_,n,p,q,r,s1,l,0,_,O,Ia.ts (qY e2),b1,by decide,fun u H3 e3 I3=>?_⟩⟩;rw[(qEr c1.bn.q0 c1.bn.s0 c1.g1.2.1).1,(qEr c1.bn.q0 c1.bn.s0 c1.g1.2.1).2,Int.sub_zero]at I3;refine⟨_,O,_,O,y,vs,_,i,O,O,e3 _ _ hy2,qGs li,?_⟩;have e4:Same H (upd H3 y (.lst (vs.set i u))):=ju (e2.trans e3) hy0;have t4:TS H3 (upd H3 y (.lst (vs.set i u))):=xM (e3 _ _ hy2);have hy4:upd H3 y (.lst (vs.set i u)) y=some (.lst (vs.set i u)):=qD;have I4:=I3.ts t4;have is4:=(his.ts (qY e4)).set (i:=i) I4;generalize upd H3 y (.lst (vs.set i u))=H4 at e4 hy4 I4 is4⊢;refine qL fun _ Y=>?_;obtain⟨zb,xb,yb,rfl,hzb,hxb,hyb⟩:=id Ib;apply Y;refine⟨_,O,_,O,ixO (e4 _ _ hzb) qCq ⟨_,n',p',q',r',s2,l',b,_,O,Ib.ts (qY e4),b2,bb7,fun u' H5 e5 I5=>?_⟩⟩;refine⟨_,O,_,O,y,_,_,j,O,O,e5 _ _ hy4,qGs (by rw[List.length_set];exact lj),?_⟩;have e6:Same H (upd H5 y (.lst ((vs.set i u).set j u'))):=ju (e4.trans e5) hy0;have t6:TS H5 (upd H5 y (.lst ((vs.set i u).set j u'))):=xM (e5 _ _ hy4);exact⟨_,O,kg hc y _ e6 hy0 ⟨_,qD,((is4.ts (qY e5)).ts t6).set (I5.ts t6)⟩⟩
theorem TrsAt.set{H:Hp}:∀{ts:List (List Im)} {vs:List V} {i:Nat} {ms:List Im} {z:Addr},TrsAt H ts vs->Tr H z ms->TrsAt H (ts.set i ms) (vs.set i (.ref z))
 |[],[],_,_,_,_,_=>trivial
 |_::_,_::_,0,_,z,h,h'=>⟨⟨z,rfl,h'⟩,h.2⟩
 |_::_,_::_,_+1,_,_,h,h'=>⟨h.1,h.2.set h'⟩
 |[],_::_,_,_,_,h,_=>h.elim
 |_::_,[],_,_,_,h,_=>h.elim
inductive qGw(vs:List V)(H:Hp)(Q:VK)(_:XK):Prop
|mk (tz y:Addr) (n:Nat) (ts:List (List Im)) (tie:List Int) (ms:List Im) (_:vs=[.ref tz,.int (n:Int),.ref y]) (_:TabF H (.ref tz) ts tie) (_:Tr H y ms) (_:n<ts.length) (_:ts.length<=300) (_:∀(t:Addr) (H':Hp),Same H H'->TabF H' (.ref t) (ts.set n ms) tie->Q (.ref t) H')
theorem jz(T:Tx K mg a):FnOk P w K mg base CX0 1 a.A56 a.B56 ["table","number","track"] qGw:=by
 refine T.D56.F.ok qAl (fun vs H Q E h=>?_) (fun cdv A outer s H vs Q E hr h=>?_)
 . obtain⟨tz,y,n,ts,tie,ms,rfl,_⟩:=h
   rfl
 refine qL fun _ Y=>?_;obtain⟨tz,y,n,ts,tie,ms,rfl,⟨tt,tl,ti,zs,e0,h2,h3,h4,h5⟩,hy,hn,hl,kk⟩:=h;cases e0;apply Y;have hzl:=h4.len;refine⟨_,(qC (qTd (i:=3) [] [] qAl.nd rfl rfl rfl (jM (qK (pv 0))) (fun _ _ _ _=>(z8 (qA3 (K:=K) rfl) rfl T.b_list rfl (qA (pv 0) qB))))
  (qC (qMn (pv 2) (qL7 (pv 3) (pv 1) qDd))
  (qE (qM (ql (qA (pv 3) (qA (z8 xV rfl T.b_list rfl (qA (qK (pv 0)) qB)) qB))))))),?_⟩
 try dsimp only[jN,qd]
 refine(ixO h2 at0 ⟨tl,O,⟨_,SqL.of h3⟩,zB (K:=K) (a:=tl) (xs:=zs) (fun j acc H2=>TrsAt H2 (ts.take j) acc/\Same H H2) ⟨trivial,Same.refl _⟩ ?_ ?_ ?_⟩)
 . rintro j acc H2 hj ⟨ht,e2⟩
   exact⟨SqL.of (e2 _ _ h3),qc (by rw[ht.len,List.length_take];omega)⟩
 . rintro j x acc H2 hj hx ⟨ht,e2⟩
   refine qL fun _ Y=>?_;obtain⟨ms1,z,hms,rfl,us,hz,his⟩:=h4.get hx;apply Y;refine⟨_,O,z,us,O,.inl (SqL.of (e2 _ _ hz)),fun l hl'=>Nxt.mk hj ⟨?_,e2.trans (qF hl' _)⟩⟩;have w3:=qF hl' (.lst us);have etk:ts.take (j+1)=ts.take j++[ms1]:=by rw[List.take_add_one,hms];rfl
   rw[etk];exact qHh (ht.same w3) ⟨us,qD,his.ts (qY (e2.trans w3))⟩
 rintro acc H2 ⟨ht,e2⟩ d hd;rw[hzl,List.take_length]at ht;refine⟨_,O,_,O,_,O,d,acc,_,n,O,O,qD,qGs (by rw[ht.len];exact hn),?_⟩;rw[qBh];have w4:=qF hd (.lst (acc.set n (.ref y)));have e4:=e2.trans w4;refine⟨_,O,ixO (e4 _ _ h2) at1 ⟨ti,_,O,.inl (SqL.of (e4 _ _ h5)),fun l hl'=>⟨sL2,fun t ht'=>?_⟩⟩⟩;have w5:=qF hl' (.lst (tie.map V.int));have w6:=qF ht' (.tup [.ref d,.ref l]);have w56:=w5.trans w6;exact kk t _ (e4.trans w56) ⟨t,d,l,_,O,qD,w56 _ _ qD,((ht.same w4).set (hy.same e4)).same w56,w6 _ _ qD⟩
theorem qEp{x0 x1 x2 x3:V}:atI [x0,x1,x2,x3] 0=some x0:=rfl
theorem qFt{x0 x1 x2 x3:V}:atI [x0,x1,x2,x3] 1=some x1:=rfl
theorem qBn{x0 x1 x2 x3:V}:atI [x0,x1,x2,x3] 2=some x2:=rfl
theorem qAu{x0 x1 x2 x3:V}:atI [x0,x1,x2,x3] 3=some x3:=rfl
theorem qQl{x0:V}:atI [x0] 0=some x0:=rfl
inductive qEz(vs:List V)(H:Hp)(Q:VK)(_:XK):Prop
|mk (z:Addr) (ms:List Im) (i:Int) (_:vs=[.ref z,.int i]) (_:Tr H z ms) (_:Q (.int (if jG ms (i+1)="mix" then i+2 else i+1)) H)
theorem qD9(T:Tx K mg a):FnOk P w K mg base CX0 2 a.A32 a.B32 ["track","place"] qEz:=by
 refine T.D32.F.ok qEf (fun vs H Q E h=>?_) (fun cdv A outer s H vs Q E hr h=>?_)
 . obtain⟨z,ms,i,rfl,_⟩:=h
   rfl
 refine qL fun _ Y=>?_;obtain⟨z,ms,i,rfl,tT,q⟩:=h;apply Y;refine⟨_,(qE (qM (vA (qJ ja (qI T.D29 (jH T) hr rfl (qA (pv 0) (qA (qQ qr (pv 1) qG) qB))) qR (qP _)) (qQ qr (pv 1) qG) (qQ qr (pv 1) qG)))),?_⟩
 try dsimp only[jN,qd]
 refine⟨_,O,_,O,_,_,O,O,z,ms,_,O,tT,O,_,O,jo (fun c=>?_) (fun c=>?_)⟩
 . rw[if_pos (by simpa using c)]at q
   exact⟨_,O,_,_,O,O,q⟩
 . rw[if_neg (by simpa using c)]at q
   exact⟨_,O,_,_,O,O,q⟩
inductive qI1(K:W.Frag)(vs:List V)(H:Hp)(Q:VK)(_:XK):Prop
|mk (v:V) (b:Int) (rd:Addr) (rl:Rls) (n:Str) (p q r s l N:Int) (_:vs=[v,.int b,.ref rd]) (_:IsI H (.clip n p q r s l) v) (_:Rc n p q r s l rl N) (_:ReelsAt H rd rl) (_:∀H',Same H H'->Q (.int (if 0<b then zJ p q r s l N else zm p q r s N)) H')
theorem qHy(T:Tx K mg a):FnOk P w K mg base CX0 6 a.A52 a.B52 ["clip","by","reels"] (qI1 K):=by
 refine T.D52.F.ok qIg (fun vs H Q E h=>?_) (fun cdv A outer s H vs Q E hr h=>?_)
 . obtain⟨v,b,rd,rl,n,p,q,r,s,l,N,rfl,_⟩:=h
   rfl
 refine qL fun _ Y=>?_;obtain⟨v,b,rd,rl,n,p,q,r,s1,l,N,rfl,hv,c1,hrl,kk⟩:=h;apply Y;refine⟨_,(qE (qM (vA (qJ wL (pv 1) qG (qP _)) (qI T.D20 (vf T) hr rfl (qA (pv 0) (qA (pv 2) qB))) (qI T.D19 (vV T) hr rfl (qA (pv 0) (qA (pv 2) qB)))))),?_⟩
 try dsimp only[jN,qd]
 refine⟨_,O,_,_,O,O,_,O,jo (fun c=>?_) (fun c=>?_)⟩
 . refine⟨_,O,_,O,v,n,p,q,r,s1,l,N,rd,O,qHi hv,c1.g1,c1.g2,c1.bl,hrl _ _ c1.rn,c1.bN,fun H1 e1=>?_⟩
   have:=kk H1 e1;rw[if_pos (by simpa using c)]at this;exact this
 . refine⟨_,O,_,O,v,n,p,q,r,s1,l,N,rd,O,qHi hv,c1.g1,c1.g2,hrl _ _ c1.rn,c1.bN,fun H1 e1=>?_⟩
   have:=kk H1 e1;rw[if_neg (by simpa using c)]at this;exact this
inductive qK5(S:Addr)(vs:List V)(H:Hp)(Q:VK)(E:XK):Prop
|mk (z rd:Addr) (ms:List Im) (i:Nat) (b:Int) (rl:Rls) (n:Str) (p q r s l N:Int) (_:vs=[.ref z,.int (i:Int),.int b,.ref rd]) (_:Tr H z ms) (_:ms.length<=300) (_:ms[i]?=some (.clip n p q r s l)) (_:Rc n p q r s l rl N) (_:ReelsAt H rd rl) (_:b.natAbs<=1000000) (_:(wG b<=(if 0<b then zJ p q r s l N else zm p q r s N)->∀(y:Addr) (H':Hp),Same H H'->H y=none->Tr H' y (ms.set i (.clip n (plP p q r s b) (plQ p q r s b) r s l))->Q (.ref y) H')) (_:(¬wG b<=(if 0<b then zJ p q r s l N else zm p q r s N)->∀(dx:Addr) (H':Hp),Same H H'->H' dx=some (.xd [("most",.int (sgM b (if 0<b then zJ p q r s l N else zm p q r s N)))])->E (.ref S) (some dx) H'))
theorem qKq(T:Tx K mg a):FnOk P w K mg base (CXR P w) 7 a.A54 a.B54 ["track","place","by","reels"] (qK5 a.k_Short):=by
 refine okX T.D54.F qBl (fun vs H Q E h=>?_) (fun cdv A outer s H vs Q E hr h=>?_)
 . obtain⟨z,rd,ms,i,b,rl,n,p,q,r,s,l,N,rfl,_⟩:=h
   rfl
 refine qL fun _ Y=>?_;obtain⟨z,rd,ms,i,b,rl,n,p,q,r,s1,l,N,rfl,tT,hln,hi,c1,hrl,hb,kg,kb⟩:=h;apply Y;refine⟨_,(qC (qZ 4 qBl.nd (jU qz (pv 0) (pv 1) (fun _ _=>rfl)))
  (qC (q9 (xP T.D51 (wB T) hr rfl (qA (qI T.D52 (qHy T) hr rfl (qA (pv 4) (qA (pv 2) (qA (pv 3) qB)))) (qA (pv 2) qB))))
  (qC (qZ 5 qBl.nd (z8 xV rfl T.b_list rfl (qA (pv 0) qB)))
  (qC (qMn (qI T.D16 (zV T) hr rfl (qA (pv 4) (qA (pv 2) (qA (qQ qr (pv 2) (qK (pv 4))) qB)))) (qL7 (pv 5) (pv 1) qDd))
  (qE (qM (pv 5))))))),?_⟩
 try dsimp only[jN,qd]
 refine qL fun _ Y=>?_;obtain⟨vs,hz,his⟩:=id tT;obtain⟨va,hva,Ia⟩:=his.get' hi;apply Y;have hlv:=his.len;have li:i<vs.length:=(glt hva);refine⟨_,O,_,O,z,_,_,_,O,O,SqL.of hz,jI hva,?_⟩;refine⟨_,O,_,O,_,O,va,b,rd,rl,n,p,q,r,s1,l,N,O,Ia,c1,hrl,fun H1 e1=>?_⟩;refine⟨_,O,_,b,O,fun hc=>?_,fun hc dx H' e' hdx=>kb hc dx H' (e1.trans e') hdx⟩;refine⟨_,O,z,vs,O,.inl (SqL.of (e1 _ _ hz)),fun y hy=>?_⟩;have w2:=qF hy (.lst vs);have e2:=e1.trans w2;have hy0:H y=none:=e1.free hy;refine qL fun _ Y=>?_;obtain⟨za,xa,ya,rfl,hza,hxa,hya⟩:=id Ia;apply Y;have b1:=c1.bn.mono (m:=700);have bb7:b.natAbs<2 ^ 700:=Nat.lt_of_le_of_lt hb (by decide);have hy2:upd H1 y (.lst vs) y=some (.lst vs):=qD;generalize upd H1 y (.lst vs)=H2 at w2 e2 hy2⊢;refine⟨_,O,_,O,_,O,ixO (e2 _ _ hza) qCq ⟨_,_,O,O,_,n,p,q,r,s1,l,b,_,O,Ia.ts (qY e2),b1,bb7,fun u H3 e3 I3=>?_⟩⟩;rw[show b+l-b=l by omega]at I3;refine⟨_,O,_,O,y,vs,_,i,O,O,e3 _ _ hy2,qGs li,?_⟩;have e4:Same H (upd H3 y (.lst (vs.set i u))):=ju (e2.trans e3) hy0;have t4:TS H3 (upd H3 y (.lst (vs.set i u))):=xM (e3 _ _ hy2);exact⟨_,O,kg hc y _ e4 hy0 ⟨_,qD,(his.ts (qY e4)).set (i:=i) (I3.ts t4)⟩⟩
def Pos(ms:List Im):Prop:= ∀m∈ms,0<m.mo/\m.wd≠"mix"
theorem qUc:(4:Nat)<=sizeLine:=by decide
def paF(ms:List Im)(i:Int):Int:=if jG ms (i-1)="mix" then i-2 else i-1
def pbF(ms:List Im)(i:Int):Int:=if jG ms (i+1)="mix" then i+2 else i+1
def ctF(ms:List Im)(t:Int):Option Nat:=match zU 0 0 ms t with
 |some (i,_)=>if jG ms (i:Int)="clip" then some i else none
 |none=>none
def csF(ms:List Im)(t:Int):Option (List Int):=match ctF ms t with
 |some i=>if jG ms (paF ms i)="clip"/\jG ms (pbF ms i)="clip" then some [paF ms i,(i:Int),pbF ms i]else none
 |none=>none
def qXc(H:Hp)(Q:VK)(r:Option (List Int)):Prop:=match r with
 |none=> ∀H',Same H H'->Q .non H'
 |some is=> ∀(p:Addr) (H':Hp),Same H H'->H' p=some (.tup (is.map V.int))->Q (.ref p) H'
def plF(wd:Str)(ms:List Im)(t:Int):Option (List Int):=if wd="roll" then (cbF ms t).map (fun p=>[p.1,p.2])else if wd="slip" then (ctF ms t).map (fun i=>[(i:Int)])else csF ms t
inductive qGb(vs:List V)(H:Hp)(Q:VK)(_:XK):Prop
|mk (z:Addr) (ms:List Im) (t:Int) (_:vs=[.ref z,.int t]) (_:Tr H z ms) (_:qXc H Q ((ctF ms t).map fun i=>[(i:Int)]))
theorem qAy(T:Tx K mg a):FnOk P w K mg base CX0 4 a.A47 a.B47 ["track","moment"] qGb:=by
 refine T.D47.F.ok qA0 (fun vs H Q E h=>?_) (fun cdv A outer s H vs Q E hr h=>?_)
 . obtain⟨z,ms,t,rfl,_⟩:=h
   rfl
 refine qL fun _ Y=>?_;obtain⟨z,ms,t,rfl,tT,kk⟩:=h;apply Y;refine⟨_,(qC (qZ 2 qA0.nd (qI T.D28 (qBx T) hr rfl (qA (pv 0) (qA (pv 1) qB))))
  (qC (qW (PW.pt (jd (vD (qBf (pv 2))) (jK (qJ zD (qI T.D29 (jH T) hr rfl (qA (pv 0) (qA (qK (pv 2)) qB))) qR (qP _))))) (qE (qM qBe)) qN)
  (qE (qM (ql (qA (qK (pv 2)) qB)))))),?_⟩
 try dsimp only[jN,qd]
 refine⟨_,O,_,O,z,ms,_,O,tT,?_⟩;unfold ctF at kk;cases hit:zU 0 0 ms t with
 |none=>
  rw[hit]at kk;intro H1 e1;exact⟨_,O,_,O,v9 (by decide) (jl (kk H1 e1))⟩
 |some r=>
  obtain⟨i,d⟩:=r;rw[hit]at kk;dsimp only at kk;intro p H1 e1 hp;refine⟨_,O,_,O,jo (fun c=>absurd c (by simp)) (fun _=>?_)⟩;refine⟨_,O,ixO hp at0 ⟨z,ms,_,O,tT.same e1,O,_,O,jo (fun c=>?_) (fun c=>?_)⟩⟩
  . have hk:¬jG ms (i:Int)="clip":=by simpa using c
    rw[if_neg hk]at kk;exact kk H1 e1
  . have hk:jG ms (i:Int)="clip":=by simpa using c
    rw[if_pos hk]at kk;refine(ixO hp at0 ⟨sL1,fun q hq=>?_⟩);exact kk q _ (e1.trans (qF hq _)) qD
inductive qBr(vs:List V)(H:Hp)(Q:VK)(_:XK):Prop
|mk (z:Addr) (ms:List Im) (t:Int) (_:vs=[.ref z,.int t]) (_:Tr H z ms) (_:qXc H Q (csF ms t))
theorem qB9(T:Tx K mg a):FnOk P w K mg base CX0 5 a.A48 a.B48 ["track","moment"] qBr:=by
 refine T.D48.F.ok j3 (fun vs H Q E h=>?_) (fun cdv A outer s H vs Q E hr h=>?_)
 . obtain⟨z,ms,t,rfl,_⟩:=h
   rfl
 refine qL fun _ Y=>?_;obtain⟨z,ms,t,rfl,tT,kk⟩:=h;apply Y;refine⟨_,(qC (qZ 2 j3.nd (qI T.D47 (qAy T) hr rfl (qA (pv 0) (qA (pv 1) qB))))
  (qC (qW (vD (qBf (pv 2))) (qE (qM qBe)) qN)
  (qC (qZ 3 j3.nd (qI T.D31 (wY T) hr rfl (qA (pv 0) (qA (qK (pv 2)) qB))))
  (qC (qZ 4 j3.nd (qI T.D32 (qD9 T) hr rfl (qA (pv 0) (qA (qK (pv 2)) qB))))
  (qC (qW (PW.pt (jd (qJ zD (qI T.D29 (jH T) hr rfl (qA (pv 0) (qA (pv 3) qB))) qR (qP _)) (jK (qJ zD (qI T.D29 (jH T) hr rfl (qA (pv 0) (qA (pv 4) qB))) qR (qP _))))) (qE (qM qBe)) qN)
  (qE (qM (ql (qA (pv 3) (qA (qK (pv 2)) (qA (pv 4) qB))))))))))),?_⟩
 try dsimp only[jN,qd]
 refine⟨_,O,_,O,z,ms,_,O,tT,?_⟩;unfold csF at kk;cases hc:ctF ms t with
 |none=>
  rw[hc]at kk;intro H1 e1;exact⟨_,O,_,O,v9 (by decide) (kk H1 e1)⟩
 |some i=>
  rw[hc]at kk;dsimp only at kk;unfold paF pbF at kk;intro p H1 e1 hp1;refine⟨_,O,_,O,jo (fun c=>absurd c (by simp)) (fun _=>?_)⟩;refine⟨_,O,ixO hp1 qQl ⟨z,ms,_,O,tT.same e1,?_⟩⟩;refine⟨_,O,ixO hp1 qQl ⟨z,ms,_,O,tT.same e1,?_⟩⟩;generalize (if jG ms ((i:Int)-1)="mix" then (i:Int)-2 else (i:Int)-1)=L at kk⊢;generalize (if jG ms ((i:Int)+1)="mix" then (i:Int)+2 else (i:Int)+1)=R at kk⊢;refine⟨_,O,_,O,z,ms,_,O,tT.same e1,O,_,O,jo (fun c=>?_) (fun c=>?_)⟩
  . have hk:¬jG ms L="clip":=by simpa using c
    rw[if_neg (fun z=>hk z.1)]at kk;exact jl (kk H1 e1)
  have hk1:jG ms L="clip":=by simpa using c
  refine⟨_,O,_,O,z,ms,_,O,tT.same e1,O,_,O,jo (fun c=>?_) (fun c=>?_)⟩
  . have hk:¬jG ms R="clip":=by simpa using c
    rw[if_neg (fun z=>hk z.2)]at kk;exact kk H1 e1
  have hk2:jG ms R="clip":=by simpa using c
  rw[if_pos ⟨hk1,hk2⟩]at kk;refine⟨_,O,ixO hp1 qQl ⟨_,O,sL3,fun q hq=>?_⟩⟩;exact kk q _ (e1.trans (qF hq _)) qD
def Wd3(wd:Str):Prop:=wd="roll"\/wd="slip"\/wd="slide"
inductive qD3(vs:List V)(H:Hp)(Q:VK)(_:XK):Prop
|mk (z dz:Addr) (ms:List Im) (n b:V) (t:Int) (wd:Str) (_:vs=[.ref z,.ref dz]) (_:Tr H z ms) (_:H dz=some (.tup [.str wd,n,.int t,b])) (_:Wd3 wd) (_:qXc H Q (plF wd ms t))
theorem qDo(T:Tx K mg a):FnOk P w K mg base CX0 6 a.A49 a.B49 ["track","deed"] qD3:=by
 refine T.D49.F.ok qEb (fun vs H Q E h=>?_) (fun cdv A outer s H vs Q E hr h=>?_)
 . obtain⟨z,dz,ms,n,b,t,wd,rfl,_⟩:=h
   rfl
 refine qL fun _ Y=>?_;obtain⟨z,dz,ms,n,b,t,wd,rfl,tT,hd,hw,kk⟩:=h;apply Y;refine⟨_,(qC (qW (qJ ja (qK (pv 1)) qR (qP _)) (qE (qM (qI T.D34 (jm T) hr rfl (qA (pv 0) (qA (qK (pv 1)) qB))))) qN)
  (qC (qW (qJ ja (qK (pv 1)) qR (qP _)) (qE (qM (qI T.D47 (qAy T) hr rfl (qA (pv 0) (qA (qK (pv 1)) qB))))) qN)
  (qC (qW (qJ ja (qK (pv 1)) qR (qP _)) (qE (qM (qI T.D48 (qB9 T) hr rfl (qA (pv 0) (qA (qK (pv 1)) qB))))) qN)
  (qE (qM qBe))))),?_⟩
 try dsimp only[jN,qd]
 unfold plF at kk;rcases hw with rfl|rfl|rfl
 . rw[if_pos rfl]at kk
   refine(ixO hd qEp ⟨O,_,O,jl ?_⟩);refine⟨_,O,ixO hd qBn ⟨z,ms,t,O,tT,?_⟩⟩;cases hc:cbF ms t with
   |none=>rw[hc]at kk;exact kk
   |some r=>obtain⟨i,j⟩:=r;rw[hc]at kk;exact kk
 . rw[if_neg (by decide+kernel),if_pos rfl]at kk
   refine(ixO hd qEp ⟨O,_,O,qt ?_⟩);refine(ixO hd qEp ⟨O,_,O,jl ?_⟩);exact⟨_,O,ixO hd qBn ⟨z,ms,t,O,tT,kk⟩⟩
 . rw[if_neg (by decide+kernel),if_neg (by decide+kernel)]at kk
   refine(ixO hd qEp ⟨O,_,O,qt ?_⟩);refine(ixO hd qEp ⟨O,_,O,qt ?_⟩);refine(ixO hd qEp ⟨O,_,O,jl ?_⟩);exact⟨_,O,ixO hd qBn ⟨z,ms,t,O,tT,kk⟩⟩
theorem xD{ms:List Im}{x:Int}(h:jG ms x="clip"):∃(i:Nat) (n:Str) (p q r s l:Int),x=(i:Int)/\ms[i]?=some (.clip n p q r s l):=by
 unfold jG at h;split at h
 . exact absurd h (by decide+kernel)
 . rename_i h0
   cases hm:ms[x.toNat]? with
   |none=>rw[hm]at h;exact absurd h (by decide+kernel)
   |some m=>
    rw[hm]at h;dsimp only at h;cases m with
    |clip n p q r s l=>exact⟨x.toNat,n,p,q,r,s,l,by omega,hm⟩
    |gap=>exact absurd (show ("gap":Str)="clip" from h) (by decide+kernel)
    |nest=>exact absurd (show ("nest":Str)="clip" from h) (by decide+kernel)
    |mix=>exact absurd (show ("mix":Str)="clip" from h) (by decide+kernel)
def jb(ms:List Im)(x:Int):Im:=(ms[x.toNat]?).getD (.gap 0)
def qQ7(rl:Rls)(m:Im)(b:Int):Int:=match m with
 |.clip n p q r s l=>(match rl n with
  |some N=>if 0<b then zJ p q r s l N else zm p q r s N
  |none=>0)
 |_=>0
def qTj(rl:Rls)(m m':Im)(b:Int):Int:=match m,m' with
 |.clip n p q r s l,.clip n' p' q' r' s' l'=>(match rl n,rl n' with
  |some N,some N'=>qDl b (zJ p q r s l N) (zm p' q' r' s' N') l l'
  |_,_=>0)
 |_,_=>0
def qHt(rl:Rls)(ms:List Im)(wd:Str)(is:List Int)(b:Int):Int:=if wd="slip" then qQ7 rl (jb ms (is.headD 0)) b else qTj rl (jb ms (is.headD 0)) (jb ms (is.getLastD 0)) b
def qSq(ms:List Im)(wd:Str)(is:List Int)(b:Int):List Im:=if wd="slip" then (match jb ms (is.headD 0)with
 |.clip n p q r s l=>ms.set (is.headD 0).toNat (.clip n (plP p q r s b) (plQ p q r s b) r s l)
 |_=>ms)
 else match jb ms (is.headD 0),jb ms (is.getLastD 0)with
  |.clip n p q r s l,.clip n' p' q' r' s' l'=>qS6 ms (is.headD 0).toNat (is.getLastD 0).toNat b n p q r s l n' p' q' r' s' l'
  |_,_=>ms
theorem kT{ms:List Im}{t i j:Int}(h:cbF ms t=some (i,j)):jG ms i="clip"/\jG ms j="clip":=by
 unfold cbF at h;split at h
 . split at h
   . rename_i c;cases h;exact c
   . cases h
 . cases h
theorem qWk{ms:List Im}{t i j:Int}(h:cbF ms t=some (i,j)):i<j:=by
 unfold cbF at h;split at h
 . rename_i hn
   split at h
   . cases h
     unfold nbF at hn;split at hn
     . split at hn
       . cases hn
       . cases hn
         split <;> omega
     . cases hn
   . cases h
 . cases h
def qYa(rl:Rls)(ms:List Im)(w:Str)(is:List Int):Prop:=is.length<=3/\∃(i j:Nat) (n:Str) (p q r s l N:Int) (n':Str) (p' q' r' s' l' N':Int),i<j/\(i:Int)∈is/\(j:Int)∈is/\atI (is.map V.int) 0=some (.int (i:Int))/\atI (is.map V.int) (-1)=some (.int (j:Int))/\ms[i]?=some (.clip n p q r s l)/\ms[j]?=some (.clip n' p' q' r' s' l')/\rl n=some N/\rl n'=some N'/\
 ∀b,qHt rl ms w is b=qDl b (zJ p q r s l N) (zm p' q' r' s' N') l l'/\qSq ms w is b=qS6 ms i j b n p q r s l n' p' q' r' s' l'
theorem qXt{rl:Rls}{ms:List Im}{w:Str}{t:Int}{is:List Int}(hc:∀n p q r s l,Im.clip n p q r s l∈ms->∃N,rl n=some N)(hw:Wd3 w)(hp:plF w ms t=some is):
 (w="slip"/\∃(i:Nat) (n:Str) (p q r s l N:Int),is=[(i:Int)]/\ms[i]?=some (.clip n p q r s l)/\rl n=some N/\∀b,qHt rl ms w is b=(if 0<b then zJ p q r s l N else zm p q r s N)/\qSq ms w is b=ms.set i (.clip n (plP p q r s b) (plQ p q r s b) r s l))\/
 (w≠"slip"/\qYa rl ms w is):=by
 have ec:∀{i:Nat} {m:Im},ms[i]?=some m->jb ms (i:Int)=m:=fun h=>by unfold jb;rw[Int.toNat_natCast,h];rfl
 have fin:∀x y:Int,w≠"slip"->is.length<=3->x<y->is.headD 0=x->is.getLastD 0=y->x∈is->y∈is->atI (is.map V.int) 0=some (.int x)->atI (is.map V.int) (-1)=some (.int y)->jG ms x="clip"->jG ms y="clip"->w≠"slip"/\qYa rl ms w is:=fun x y ns h3 hlt hh hl m1 m2 a0 a1 hk hk'=>by
  obtain⟨i,n,p,q,r,s,l,rfl,hm⟩:=xD hk;obtain⟨j,n',p',q',r',s',l',rfl,hm'⟩:=xD hk';obtain⟨N,hN⟩:=hc _ _ _ _ _ _ (List.mem_of_getElem? hm);obtain⟨N',hN'⟩:=hc _ _ _ _ _ _ (List.mem_of_getElem? hm');refine⟨ns,h3,i,j,n,p,q,r,s,l,N,n',p',q',r',s',l',N',by omega,m1,m2,a0,a1,hm,hm',hN,hN',fun b=>⟨?_,?_⟩⟩
  . unfold qHt
    rw[if_neg ns,hh,hl,ec hm,ec hm'];unfold qTj;dsimp only;rw[hN,hN']
  . unfold qSq
    rw[if_neg ns,hh,hl,ec hm,ec hm',Int.toNat_natCast,Int.toNat_natCast]
 have hp0:=hp;unfold plF at hp;rcases hw with rfl|rfl|rfl
 . rw[if_pos rfl]at hp
   cases hq:cbF ms t with
   |none=>rw[hq]at hp;cases hp
   |some x=>
    obtain⟨x,y⟩:=x;rw[hq]at hp;cases hp;obtain⟨k1,k2⟩:=kT hq;exact .inr (fin x y (by decide+kernel) (by show 2<=3;decide) (qWk hq) rfl rfl (by simp) (by simp) rfl rfl k1 k2)
 . rw[if_neg (by decide+kernel),if_pos rfl]at hp
   cases hq:ctF ms t with
   |none=>rw[hq]at hp;cases hp
   |some x=>
    rw[hq]at hp;cases hp;have hk:jG ms (x:Int)="clip":=by
     unfold ctF at hq;split at hq
     . split at hq
       . rename_i c;cases hq;exact c
       . cases hq
     . cases hq
    obtain⟨i,n,p,q,r,s,l,e,hm⟩:=xD hk;have e:x=i:=by omega
    subst e;obtain⟨N,hN⟩:=hc _ _ _ _ _ _ (List.mem_of_getElem? hm);refine .inl ⟨O,x,n,p,q,r,s,l,N,O,hm,hN,fun b=>⟨?_,?_⟩⟩
    . unfold qHt
      rw[if_pos rfl];show qQ7 rl (jb ms (x:Int)) b=_;rw[ec hm];unfold qQ7;dsimp only;rw[hN]
    . unfold qSq
      rw[if_pos rfl];show (match jb ms (x:Int)with|.clip n p q r s l=>ms.set ((x:Int)).toNat (.clip n (plP p q r s b) (plQ p q r s b) r s l)|_=>ms)=_;rw[ec hm,Int.toNat_natCast]
 . rw[if_neg (by decide+kernel),if_neg (by decide+kernel)]at hp
   unfold csF at hp;cases hq:ctF ms t with
   |none=>rw[hq]at hp;cases hp
   |some i=>
    rw[hq]at hp;dsimp only at hp;split at hp
    . rename_i c
      cases hp;exact .inr (fin (paF ms i) (pbF ms i) (by decide+kernel) (by show 3<=3;decide) (by unfold paF pbF;split <;> split <;> omega) rfl rfl (by simp) (by simp) rfl rfl c.1 c.2)
    . cases hp
def ItR(rl:Rls)(m:Im):Prop:= ∀n p q r s l,m=.clip n p q r s l->∃N,Rc n p q r s l rl N
inductive qNn(N M S:Addr)(vs:List V)(H:Hp)(Q:VK)(E:XK):Prop
|mk (tz dz rd:Addr) (ts:List (List Im)) (tie:List Int) (wd:Str) (nt:Nat) (t b:Int) (ms:List Im) (rl:Rls) (_:vs=[.ref tz,.ref dz,.ref rd]) (_:TabF H (.ref tz) ts tie) (_:H dz=some (.tup [.str wd,.int (nt:Int),.int t,.int b])) (_:Wd3 wd) (_:ts[nt]?=some ms) (_:0<=t) (_:b.natAbs<=1000000) (_:ts.length<=300) (_:ms.length<=300) (_:(∀m∈ms,ItR rl m)) (_:ReelsAt H rd rl) (_:(plF wd ms t=none->∀H',Same H H'->E (.ref N) none H')) (_:∀is,plF wd ms t=some is->(is.any (hmB ms)=true->∀H',Same H H'->E (.ref M) none H')/\(is.any (hmB ms)=false->(wG b<=qHt rl ms wd is b->∀(t':Addr) (H':Hp),Same H H'->TabF H' (.ref t') (ts.set nt (qSq ms wd is b)) tie->Q (.ref t') H')/\(¬wG b<=qHt rl ms wd is b->∀(dx:Addr) (H':Hp),Same H H'->H' dx=some (.xd [("most",.int (sgM b (qHt rl ms wd is b)))])->E (.ref S) (some dx) H')))
theorem qMs(T:Tx K mg a):FnOk P w K mg base (CXR P w) 8 a.A57 a.B57 ["table","deed","reels"] (qNn a.k_NoPlace a.k_Mixed a.k_Short):=by
 refine okX T.D57.F qEv (fun vs H Q E h=>?_) (fun cdv A outer s H vs Q E hr h=>?_)
 . obtain⟨tz,dz,rd,ts,tie,wd,nt,t,b,ms,rl,rfl,_⟩:=h
   rfl
 refine qL fun _ Y=>?_;obtain⟨tz,dz,rd,ts,tie,wd,nt,t,b,ms,rl,rfl,hT,hd,hw,hms,t0,hbb,htl,hml,hmi,hre,k0,k1⟩:=h;apply Y;refine⟨_,(qC (q9 (qI T.D45 (wU T) hr rfl (qA (pv 0) (qA (qK (pv 1)) (qA (qK (pv 1)) qB)))))
  (qC (q9 (qI T.D46 (qKa T) hr rfl (qA (qK (pv 1)) qB)))
  (qC (qLz (i:=3) qEv.nd rfl (Or.inr rfl) (jU qz (qK (pv 0)) (qK (pv 1)) (fun _ _=>rfl)))
  (qC (qZ 4 qEv.nd (qI T.D49 (qDo T) hr rfl (qA (pv 3) (qA (pv 1) qB))))
  (qC (qW (vD (qBf (pv 4))) (qE (xt rfl rfl T.c_NoPlace T.x_NoPlace (qA qR qB))) qN)
  (qC (qW (qg (qU (qPe rfl) rfl T.b_any rfl (qA (kf ["track"] [3] rfl (qVp (pv 4)) (fun _ _ _ _=>(qI T.D50 (qMy T) hr rfl (qA (pv 1) (qA (pv 0) qB))))) qB))) (qE (xt rfl rfl T.c_Mixed T.x_Mixed (qA qR qB))) qN)
  (qC (qW (qJ ja (qK (pv 1)) qR (qP _)) (qE (qM (qI T.D56 (jz T) hr rfl (qA (pv 0) (qA (qK (pv 1)) (qA (xP T.D54 (qKq T) hr rfl (qA (pv 3) (qA (qK (pv 4)) (qA (qK (pv 1)) (qA (pv 2) qB))))) qB)))))) qN)
  (qE (qM (qI T.D56 (jz T) hr rfl (qA (pv 0) (qA (qK (pv 1)) (qA (xP T.D55 (wO T) hr rfl (qA (pv 3) (qA (qK (pv 4)) (qA (jU qF2 (pv 4) (qAs ze qG) (fun _ _=>rfl)) (qA (qK (pv 1)) (qA (pv 2) qB)))))) qB))))))))))))),?_⟩
 try dsimp only[jN,qd]
 have one:(1:Nat)<=sizeLine:=by decide
 refine qL fun _ Y=>?_;obtain⟨tt,tl,ti,zs,e0,g2,g3,g4,g5⟩:=id hT;cases e0;apply Y;have hzl:=g4.len;have hnt:=(glt hms);refine⟨_,O,ixO hd qFt (ixO hd qBn ⟨tz,tl,ti,zs,_,_,O,g2,g3,by omega,by omega,t0,?_⟩)⟩;refine(ixO hd qAu ⟨b,O,hbb,?_⟩);have ez:zs[nt]?=some zs[nt]:=List.getElem?_eq_getElem (by omega);refine qL fun _ Y=>?_;obtain⟨ms1,z,hms1,ezz,tT⟩:=g4.get ez;rw[hms]at hms1;cases hms1;apply Y;rw[ezz]at ez;refine(ixO g2 at0 (ixO hd qFt ⟨tl,_,_,_,O,O,SqL.of g3,jI ez,?_⟩));refine⟨_,O,_,O,z,dz,ms,_,_,t,wd,O,tT,hd,hw,?_⟩;cases hpl:plF wd ms t with
 |none=>
  intro H1 e1;exact⟨_,O,_,O,v9 (by decide) ⟨one,k0 hpl H1 e1⟩⟩
 |some is=>
 obtain⟨k1,k2⟩:=k1 is hpl;intro pz H1 e1 hpz;refine⟨_,O,_,O,jo (fun c=>absurd c (by simp)) (fun _=>?_)⟩;have hends:=qXt (fun n p q r s l hm=>let ⟨N,c⟩:=hmi _ hm _ _ _ _ _ _ rfl;⟨N,c.rn⟩) hw hpl;have hisl:is.length<=3:=by
  rcases hends with ⟨_,x,_,_,_,_,_,_,_,rfl,_⟩|⟨_,h,_⟩
  . show 1<=3;decide
  . exact h
 refine⟨_,O,pz,O,⟨_,SqT.of hpz⟩,qQ3 (K:=K) (a:=pz) (xs:=is.map V.int) (fun j acc H2=>acc=((is.take j).map (hmB ms)).map V.bl/\H2=H1) ⟨O,O⟩ ?_ ?_ ?_⟩
 . rintro j acc H2 hj ⟨rfl,rfl⟩
   exact⟨SqT.of hpz,by rw[List.length_map,List.length_map,List.length_take];exact qc (by omega)⟩
 . rintro j x acc H2 hj hx ⟨rfl,rfl⟩
   refine qL fun _ Y=>?_;obtain⟨k,hk,rfl⟩:∃k:Int,is[j]?=some k/\x=.int k:=by
    rw[List.getElem?_map]at hx;cases hq:is[j]? with
    |none=>rw[hq]at hx;cases hx
    |some k=>rw[hq]at hx;cases hx;exact⟨k,rfl,rfl⟩
   apply Y;refine⟨_,O,_,O,z,ms,k,O,tT.same e1,Nxt.mk hj ⟨?_,O⟩⟩;rw[List.take_add_one,hk];simp
 rintro acc H2 ⟨rfl,rfl⟩ d hd';rw[List.length_map,List.take_length];have w2:=qF hd' (.lst ((is.map (hmB ms)).map V.bl));have e2:=e1.trans w2;have hany:(is.map (hmB ms)).any id=is.any (hmB ms):=by rw[List.any_map];rfl
 refine⟨d,is.map (hmB ms),O,SqL.of qD,?_⟩;rw[hany];have hpz2:=w2 _ _ hpz;generalize upd H2 d (.lst ((is.map (hmB ms)).map V.bl))=H3 at w2 e2 hpz2⊢;have hd3:=e2 _ _ hd;cases hmx:is.any (hmB ms)with
 |true=>exact⟨true,rfl,jl ⟨one,k1 hmx H3 e2⟩⟩
 |false=>
 obtain⟨kq,ks⟩:=k2 hmx;refine⟨false,O,qt ?_⟩;have rc:∀{i:Nat} {n:Str} {p q r s l N:Int},ms[i]?=some (.clip n p q r s l)->rl n=some N->Rc n p q r s l rl N:=fun{i n p q r s l N} hm hr=>by obtain⟨N',hc⟩:=hmi _ (List.mem_of_getElem? hm) _ _ _ _ _ _ rfl;have:=hc.rn;rw[hr]at this;cases this;exact hc
 rcases hends with ⟨rfl,i,nn,p,q,r,s',l,N,rfl,hm,hN,hv⟩|⟨hwn,_,i,j,nn,p,q,r,s',l,N,nn',p',q',r',s'',l',N',_,_,_,hx0,hy0,hm,hm',hN,hN',hv⟩
 . have hc:=rc hm hN
   rw[(hv b).1,(hv b).2]at kq;rw[(hv b).1]at ks;refine(ixO hd3 qEp ⟨O,_,O,jl ?_⟩);refine⟨_,O,ixO hd3 qFt ?_⟩;refine⟨_,O,ixO hpz2 qQl (ixO hd3 qAu ⟨_,O,?_⟩)⟩;refine⟨z,rd,ms,i,b,rl,_,_,_,_,_,_,_,O,tT.same e2,hml,hm,hc,hre.same e2,hbb,fun hc y H4 e4 hy tY=>?_,fun hc dx H4 e4 hdx=>ks hc dx H4 (e2.trans e4) hdx⟩;refine⟨tz,y,nt,ts,tie,_,O,hT.same (e2.trans e4),tY,hnt,htl,fun t H5 e5 hN=>?_⟩;exact kq hc t H5 ((e2.trans e4).trans e5) hN
 . have hc:=rc hm hN
   have hc':=rc hm' hN';rw[(hv b).1,(hv b).2]at kq;rw[(hv b).1]at ks;have dw:decide (V.str wd=V.str "slip")=false:=by rw[qTq];exact decide_eq_false hwn
   refine(ixO hd3 qEp ⟨O,_,O,kx dw ?_⟩);refine⟨_,O,ixO hd3 qFt ?_⟩;refine⟨_,O,_,O,pz,_,_,_,O,O,SqT.of hpz2,hx0,_,O,1,O,pz,_,_,_,O,O,SqT.of hpz2,hy0,ixO hd3 qAu ⟨_,O,?_⟩⟩;refine⟨z,rd,ms,i,j,b,rl,_,_,_,_,_,_,_,_,_,_,_,_,_,_,O,tT.same e2,hml,hm,hm',hc,hc',hre.same e2,hbb,fun hc y H4 e4 hy tY=>?_,fun hc dx H4 e4 hdx=>ks hc dx H4 (e2.trans e4) hdx⟩;refine⟨tz,y,nt,ts,tie,_,O,hT.same (e2.trans e4),tY,hnt,htl,fun t H5 e5 hN=>?_⟩;exact kq hc t H5 ((e2.trans e4).trans e5) hN
theorem qVg{w:Str}:inV (.str w) [.str "clip",.str "nest"]=(decide (w="clip") || decide (w="nest")):=by
 unfold inV;rw[Bool.eq_iff_iff];simp[eqV];constructor
 . rintro(h|h)
   . exact .inl h.symm
   . exact .inr h.symm
 . rintro(h|h)
   . exact .inl h.symm
   . exact .inr h.symm
def vt(ms:List Im)(t:Int):Bool:=match zU 0 0 ms t with
 |some (i,d)=>decide (d>0) && (decide (jG ms (i:Int)="clip") || decide (jG ms (i:Int)="nest"))
 |none=>false
inductive qE3(vs:List V)(H:Hp)(Q:VK)(_:XK):Prop
|mk (z:Addr) (ms:List Im) (t:Int) (_:vs=[.ref z,.int t]) (_:Tr H z ms) (_:∀H',Same H H'->Q (.bl (vt ms t)) H')
theorem qFl(T:Tx K mg a):FnOk P w K mg base CX0 4 a.A35 a.B35 ["track","moment"] qE3:=by
 refine T.D35.F.ok wQ (fun vs H Q E h=>?_) (fun cdv A outer s H vs Q E hr h=>?_)
 . obtain⟨z,ms,t,rfl,_⟩:=h
   rfl
 refine qL fun _ Y=>?_;obtain⟨z,ms,t,rfl,tT,kk⟩:=h;apply Y;refine⟨_,(qC (qZ 2 wQ.nd (qI T.D28 (qBx T) hr rfl (qA (pv 0) (qA (pv 1) qB))))
  (qE (qM (xp (qSr (qOy (pv 2))) (xp (jL wL (qK (pv 2)) qG (qP _)) (z7 (jL jc (qI T.D29 (jH T) hr rfl (qA (pv 0) (qA (qK (pv 2)) qB))) (ql (qA qR (qA qR qB))) rfl))))))),?_⟩
 try dsimp only[jN,qd]
 refine⟨_,O,_,O,z,ms,_,O,tT,?_⟩;unfold vt at kk;cases hit:zU 0 0 ms t with
 |none=>
  rw[hit]at kk;intro H1 e1;exact⟨_,O,_,O,qt (kk H1 e1)⟩
 |some x=>
  obtain⟨i,d⟩:=x;rw[hit]at kk;dsimp only at kk;intro p H1 e1 hp;refine⟨_,O,_,O,jl ?_⟩;refine(ixO hp at1 ⟨_,_,O,O,_,O,jo (fun c=>?_) (fun c=>?_)⟩)
  . have hd:d>0:=by simpa using c
    rw[decide_eq_true hd,Bool.true_and]at kk;refine⟨_,O,ixO hp at0 ⟨z,ms,_,O,tT.same e1,sL2,fun q hq=>?_⟩⟩;have:=kk _ (e1.trans (qF hq (.tup [.str "clip",.str "nest"])));rw[<-qVg]at this;exact⟨q,_,O,.inr (SqT.of qD),O,O,this⟩
  . have hd:¬d>0:=by simpa using c
    rw[decide_eq_false hd,Bool.false_and]at kk;exact kk H1 e1
def xc:Im->Int->Int->Im
 |.clip n p q r s _,lo,hi=>.clip n (plP p q r s lo) (plQ p q r s lo) r s (hi-lo)
 |.nest n b _,lo,hi=>.nest n (b+lo) (hi-lo)
 |.gap _,lo,hi=>.gap (hi-lo)
 |.mix _,lo,hi=>.gap (hi-lo)
def ImB(m:Im):Prop:=match m with
 |.clip _ p q r s _=>Bn 700 p q r s
 |_=>True
inductive qH5(vs:List V)(H:Hp)(Q:VK)(_:XK):Prop
|mk (v:V) (m:Im) (lo hi:Int) (_:vs=[v,.int lo,.int hi]) (_:IsI H m v) (_:ImB m) (_:lo.natAbs<2 ^ 700) (_:m.wd≠"mix") (_:∀(u:V) (H':Hp),Same H H'->IsI H' (xc m lo hi) u->Q u H')
theorem qJh(T:Tx K mg a):FnOk P w K mg base CX0 6 a.A36 a.B36 ["item","low","high"] qH5:=by
 refine T.D36.F.ok qIo (fun vs H Q E h=>?_) (fun cdv A outer s H vs Q E hr h=>?_)
 . obtain⟨v,m,lo,hi,rfl,_⟩:=h
   rfl
 refine qL fun _ Y=>?_;obtain⟨v,m,lo,hi,rfl,hI,hB,bl,hnm,kk⟩:=h;apply Y;refine⟨_,(qC (qW (qJ ja (qK (pv 0)) qR (qP _)) (qE (qM (qI T.D16 (zV T) hr rfl (qA (pv 0) (qA (pv 1) (qA (pv 2) qB)))))) qN)
  (qC (qW (qJ ja (qK (pv 0)) qR (qP _)) (qE (qM (ql (qA qR (qA (qK (pv 0)) (qA (qQ qr (qK (pv 0)) (pv 1)) (qA (qQ jS (pv 2) (pv 1)) qB))))))) qN)
  (qE (qM (ql (qA qR (qA (qQ jS (pv 2) (pv 1)) qB))))))),?_⟩
 try dsimp only[jN,qd]
 cases m with
 |mix l=>exact absurd rfl hnm
 |clip n p q r s1 l=>
  refine qL fun _ Y=>?_;obtain⟨z,x,y,rfl,hz,hx,hy⟩:=id hI;apply Y;refine(ixO hz qU4 ⟨O,_,O,jl ?_⟩);exact⟨_,O,_,O,_,O,_,n,p,q,r,s1,l,lo,hi,O,hI,hB,bl,kk⟩
 |nest n b l=>
  refine qL fun _ Y=>?_;obtain⟨z,rfl,hz⟩:=id hI;apply Y;have a0:atI [V.str "nest",.str n,.int b,.int l] 0=some (.str "nest"):=rfl;have a1:atI [V.str "nest",.str n,.int b,.int l] 1=some (.str n):=rfl;have a2:atI [V.str "nest",.str n,.int b,.int l] 2=some (.int b):=rfl;refine(ixO hz a0 ⟨O,_,O,qt ?_⟩);refine(ixO hz a0 ⟨O,_,O,jl ?_⟩);refine(ixO hz a1 (ixO hz a2 ⟨_,O,_,_,O,O,_,O,_,O,_,_,O,O,sL4,fun t ht=>?_⟩));exact kk _ _ (qF ht _) (isN qD)
 |gap l=>
  refine qL fun _ Y=>?_;obtain⟨z,rfl,hz⟩:=id hI;apply Y;refine(ixO hz at0 ⟨O,_,O,qt ?_⟩);refine(ixO hz at0 ⟨O,_,O,qt ?_⟩);refine⟨_,O,_,O,_,_,O,O,sL2,fun t ht=>?_⟩;exact kk _ _ (qF ht _) (isG qD)
def vJ(i j:Int):Int:=if j>i then j else i
def qK8(i j:Int):Int:=if j<i then j else i
def zG(lo hi:Int):Int->List Im->List Im
 |_,[]=>[]
 |b,m::r=>(if m.wd="mix" then (if lo<b/\b<hi then [m]else [])else if vJ lo b<qK8 hi (b+m.mo)then [xc m (vJ lo b-b) (qK8 hi (b+m.mo)-b)]else [])++zG lo hi (b+m.mo) r
theorem qDi(lo hi:Int):∀(b:Int) (ms:List Im),(zG lo hi b ms).length<=ms.length
 |_,[]=>by simp[zG]
 |b,m::r=>by have:=qDi lo hi (b+m.mo) r;rw[zG,List.length_append,List.length_cons];split <;> split <;> simp <;> omega
def MsB(ms:List Im):Prop:=(∀m∈ms,ImB m/\0<=m.mo)/\ms.length<=300
inductive qC6(vs:List V)(H:Hp)(Q:VK)(_:XK):Prop
|mk (z:Addr) (ms:List Im) (lo hi:Int) (_:vs=[.ref z,.int lo,.int hi]) (_:Tr H z ms) (_:MsB ms) (_:0<=lo) (_:lo<=2 ^ 500) (_:∀(y:Addr) (H':Hp),Same H H'->H y=none->Tr H' y (zG lo hi 0 ms)->Q (.ref y) H')
theorem vH(T:Tx K mg a):FnOk P w K mg base CX0 7 a.A37 a.B37 ["track","low","high"] qC6:=by
 refine T.D37.F.ok jE (fun vs H Q E h=>?_) (fun cdv A outer s H vs Q E hr h=>?_)
 . obtain⟨z,ms,lo,hi,rfl,_⟩:=h
   rfl
 refine qL fun _ Y=>?_;obtain⟨z,ms,lo,hi,rfl,⟨vs,hz,his⟩,⟨hB,hln⟩,h0,h1,kk⟩:=h;apply Y;refine⟨_,(qC (qZ 3 jE.nd (jR qB))
  (qC (qZ 4 jE.nd qG)
  (qC (j6 PassesOwn.never rfl (jM (pv 0)) (jA (i:=5) jE.nd rfl (Or.inl rfl)) (qC (qZ 6 jE.nd (qQ qr (pv 4) (qI T.D24 (jf T) hr rfl (qA (pv 5) qB))))
  (qC (qZ 7 jE.nd (qU (qA1 rfl) rfl T.b_max rfl (qA (pv 1) (qA (pv 4) qB))))
  (qC (qZ 8 jE.nd (qU (zQ rfl) rfl T.b_min rfl (qA (pv 2) (qA (pv 6) qB))))
  (qC (qW (qJ ja (qK (pv 5)) qR (qP _)) (qE (qW (PW.pt (xW (qJ zy (pv 1) (pv 4) (qP _)) (xA (qJ zy (pv 4) (pv 2) (qP _))))) (qE (q9 (qCn F.plainAttrs_list F.slot_list_append F.type_list_append jv (pv 3) (qA (pv 5) qB)))) qN)) (qE (qW (qJ zy (pv 7) (pv 8) (qP _)) (qE (q9 (qCn F.plainAttrs_list F.slot_list_append F.type_list_append jv (pv 3) (qA (qI T.D36 (qJh T) hr rfl (qA (pv 5) (qA (qQ jS (pv 7) (pv 4)) (qA (qQ jS (pv 8) (pv 4)) qB)))) qB)))) qN)))
  (qE (qZ 4 jE.nd (pv 6))))))))
  (qE (qM (pv 3)))))),?_⟩
 try dsimp only[jN,qd]
 refine⟨sL0,fun y hy=>?_⟩;have w0:=qF hy (.lst []);have hvl:=his.len;refine⟨_,O,z,O,⟨_,SqL.of (w0 _ _ hz)⟩,jn (K:=K) (a:=z) (xs:=vs) (fun i σ H'=> ∃(o1 o2 o3 o4:Option V) (b:Int) (ps:List Im),σ=[some (.ref z),some (.int lo),some (.int hi),some (.ref y),some (.int b),o1,o2,o3,o4]/\Tr H' y ps/\ps++zG lo hi b (ms.drop i)=zG lo hi 0 ms/\ps.length<=i/\0<=b/\Same H H')
  ⟨none,none,none,none,0,[],rfl,⟨[],qD,trivial⟩,rfl,Nat.le_refl _,by decide,w0⟩ ?_ ?_ ?_⟩
 . rintro i σ H' hi' ⟨o1,o2,o3,o4,b,ps,rfl,_,_,_,_,e⟩
   exact SqL.of (e _ _ hz)
 . rintro i x σ H' hx ⟨o1,o2,o3,o4,b,ps,rfl,tP,hap,hpl,b0,e⟩
   refine qL fun _ Y=>?_;obtain⟨m,hm,hIx⟩:=his.get hx;have hI:=hIx.ts (qY e);have hin:i<ms.length:=(glt hm);obtain⟨hBm,hmo⟩:=hB m (List.mem_of_getElem? hm);obtain⟨us,hyu,hisP⟩:=tP;apply Y;have hul:=hisP.len;rw[zF hm,zG]at hap;refine⟨_,O,_,O,x,m,O,hI,_,_,O,O,?_⟩;refine⟨_,O,_,O,_,_,O,?_⟩;refine⟨_,O,_,O,_,_,O,?_⟩;dsimp only;change qX9 _ _ _ _ _;refine qL fun _ Y=>?_;obtain⟨zi,xi,rfl,hzi,a0,_⟩:=hI.opn;apply Y;have skip:∀(q:List Im),ps++([]++q)=ps++q:=fun q=>by simp
   refine⟨_,O,zi,xi,_,_,O,O,SqT.of hzi,a0,O,_,O,jo (fun c=>?_) (fun c=>?_)⟩
   . have hw:m.wd="mix":=by simpa using c
     rw[if_pos hw]at hap;refine⟨_,O,_,O,_,_,O,O,_,O,jo (fun c1=>?_) (fun c1=>?_)⟩
     . refine⟨_,O,_,O,_,_,O,O,_,O,jo (fun c2=>?_) (fun c2=>?_)⟩
       . rw[if_pos ⟨by simpa using c1,by simpa using c2⟩]at hap
         refine⟨_,O,.inl ⟨O,_,SqL.of hyu⟩,_,O,y,_,_,O,O,hyu,qc (by omega),?_⟩;exact⟨_,O,_,_,_,_,_,ps++[m],O,⟨_,qD,(hisP.app (.one hI)).ts (xM hyu)⟩,by rw[List.append_assoc];exact hap,by rw[List.length_append];show ps.length+1<=i+1;omega,by omega,ju e hy⟩
       . rw[if_neg (fun z=>c2 (by simpa using z.2)),skip]at hap
         exact⟨_,O,_,_,_,_,_,ps,O,⟨_,hyu,hisP⟩,hap,by omega,by omega,e⟩
     . rw[if_neg (fun z=>c1 (by simpa using z.1)),skip]at hap
       exact qt ⟨_,O,_,_,_,_,_,ps,O,⟨_,hyu,hisP⟩,hap,by omega,by omega,e⟩
   . have hw:m.wd≠"mix":=by simpa using c
     rw[if_neg hw]at hap;refine⟨_,O,_,O,_,_,O,O,_,O,jo (fun c1=>?_) (fun c1=>?_)⟩
     . rw[if_pos (of_decide_eq_true (show decide (vJ lo b<qK8 hi (b+m.mo))=true from c1))]at hap
       refine⟨_,O,.inl ⟨O,_,SqL.of hyu⟩,_,O,_,O,_,O,_,_,O,O,_,O,_,O,_,_,O,O,_,m,vJ lo b-b,qK8 hi (b+m.mo)-b,O,hI,hBm,?_,hw,fun u H5 e5 hI5=>?_⟩
       . have:(vJ lo b-b).natAbs<=(2 ^ 500:Nat):=by
          have h1':lo.natAbs<=2 ^ 500:=by
           have:=Int.natAbs_of_nonneg h0;have h1'':((lo.natAbs:Nat):Int)<=((2 ^ 500:Nat):Int):=by rw[this];exact_mod_cast h1
           exact_mod_cast h1''
          refine Nat.le_trans ?_ h1';unfold vJ;split <;> omega
         exact Nat.lt_of_le_of_lt this (Nat.pow_lt_pow_right (by decide) (by decide))
       refine⟨y,_,_,O,O,e5 _ _ hyu,qc (by omega),?_⟩;exact⟨_,O,_,_,_,_,_,ps++[xc m (vJ lo b-b) (qK8 hi (b+m.mo)-b)],O,⟨_,qD,((hisP.ts (qY e5)).app (.one hI5)).ts (xM (e5 _ _ hyu))⟩,by rw[List.append_assoc];exact hap,by rw[List.length_append];show ps.length+1<=i+1;omega,by omega,ju (e.trans e5) hy⟩
     . rw[if_neg (fun z=>c1 (show decide (vJ lo b<qK8 hi (b+m.mo))=true from decide_eq_true z)),skip]at hap
       exact⟨_,O,_,_,_,_,_,ps,O,⟨_,hyu,hisP⟩,hap,by omega,by omega,e⟩
 . rintro σ H' ⟨o1,o2,o3,o4,b,ps,rfl,tP,hap,hpl,b0,e⟩
   rw[hvl,List.drop_length,zG,List.append_nil]at hap;rw[hap]at tP;exact⟨_,O,kk y H' e hy tP⟩
inductive Dk where
 |cut (t:Int)
 |hel (t:Int)
 |opn (t l:Int)
 |cls (t u:Int)
 |lft (t u:Int)
 |lin (t:Int) (m:Im)
 |lov (t:Int) (m:Im)
def Dk.wd:Dk->Str
 |.cut _=>"cut"
 |.hel _=>"heal"
 |.opn .. =>"open"
 |.cls .. =>"close"
 |.lft .. =>"lift"
 |.lin .. =>"lay_in"
 |.lov .. =>"lay_over"
def Dk.t:Dk->Int
 |.cut t=>t
 |.hel t=>t
 |.opn t _=>t
 |.cls t _=>t
 |.lft t _=>t
 |.lin t _=>t
 |.lov t _=>t
def Dk.hi:Dk->Int
 |.cut t=>t
 |.hel t=>t
 |.opn t _=>t
 |.cls _ u=>u
 |.lft _ u=>u
 |.lin t _=>t
 |.lov t m=>t+m.mo
def Dk.laid:Dk->List Im
 |.opn _ l=>[.gap l]
 |.lft t u=>[.gap (u-t)]
 |.lin _ m=>[m]
 |.lov _ m=>[m]
 |_=>[]
def Dk.push:Dk->Bool
 |.opn .. =>true
 |.cls .. =>true
 |.lin .. =>true
 |_=>false
def DAt(H:Hp)(dz:Addr)(n:Int):Dk->Prop
 |.cut t=>H dz=some (.tup [.str "cut",.int n,.int t])
 |.hel t=>H dz=some (.tup [.str "heal",.int n,.int t])
 |.opn t l=>H dz=some (.tup [.str "open",.int n,.int t,.int l])
 |.cls t u=>H dz=some (.tup [.str "close",.int n,.int t,.int u])
 |.lft t u=>H dz=some (.tup [.str "lift",.int n,.int t,.int u])
 |.lin t m=> ∃v,H dz=some (.tup [.str "lay_in",.int n,.int t,v])/\IsI H m v
 |.lov t m=> ∃v,H dz=some (.tup [.str "lay_over",.int n,.int t,v])/\IsI H m v
theorem DAt.same{H H':Hp}{dz:Addr}{n:Int}{d:Dk}(e:Same H H')(h:DAt H dz n d):DAt H' dz n d:=by
 cases d with
 |lin t m=>obtain⟨v,h1,h2⟩:=h;exact⟨v,e _ _ h1,h2.ts (qY e)⟩
 |lov t m=>obtain⟨v,h1,h2⟩:=h;exact⟨v,e _ _ h1,h2.ts (qY e)⟩
 |_=>exact e _ _ h
theorem DAt.opn{H:Hp}{dz:Addr}{n:Int}{d:Dk}(h:DAt H dz n d):∃xs,H dz=some (.tup xs)/\atI xs 0=some (.str d.wd)/\atI xs 1=some (.int n)/\atI xs 2=some (.int d.t):=by
 cases d with
 |lin t m=>obtain⟨v,h1,_⟩:=h;exact⟨_,h1,rfl,rfl,rfl⟩
 |lov t m=>obtain⟨v,h1,_⟩:=h;exact⟨_,h1,rfl,rfl,rfl⟩
 |_=>exact⟨_,h,rfl,rfl,rfl⟩
theorem xg{w:Str}{ws:List V}{b:Bool}(h:inV (.str w) ws=b):V.bl (if false=true then !inV (.str w) ws else inV (.str w) ws)=V.bl b:=by rw[if_neg (by decide),h]
theorem qPx{w:Str}{ws:List V}{b:Bool}(h:inV (.str w) ws=b):V.bl (if true=true then !inV (.str w) ws else inV (.str w) ws)=V.bl (!b):=by rw[if_pos rfl,h]
inductive qGd(vs:List V)(H:Hp)(Q:VK)(_:XK):Prop
|mk (dz:Addr) (n:Int) (d:Dk) (_:vs=[.ref dz]) (_:DAt H dz n d) (_:∀(p:Addr) (H':Hp),Same H H'->H' p=some (.tup [.int d.t,.int d.hi])->Q (.ref p) H')
theorem qAw(T:Tx K mg a):FnOk P w K mg base CX0 2 a.A58 a.B58 ["deed"] qGd:=by
 refine T.D58.F.ok qHd (fun vs H Q E h=>?_) (fun cdv A outer s H vs Q E hr h=>?_)
 . obtain⟨dz,n,d,rfl,_⟩:=h
   rfl
 refine qL fun _ Y=>?_;obtain⟨dz,n,d,rfl,hD,kk⟩:=h;apply Y;refine⟨_,(qC (qW (qJ jc (qK (pv 0)) (ql (qA qR (qA qR qB))) rfl) (qE (qM (ql (qA (qK (pv 0)) (qA (qK (pv 0)) qB))))) qN)
  (qC (qW (qJ ja (qK (pv 0)) qR (qP _)) (qE (qM (ql (qA (qK (pv 0)) (qA (qQ qr (qK (pv 0)) (qI T.D24 (jf T) hr rfl (qA (qK (pv 0)) qB))) qB))))) qN)
  (qE (qM (ql (qA (qK (pv 0)) (qA (qK (pv 0)) qB))))))),?_⟩
 try dsimp only[jN,qd]
 refine qL fun _ Y=>?_;obtain⟨xs,hd,a0,a1,a2⟩:=hD.opn;apply Y;have two:(2:Nat)<=sizeLine:=by decide
 refine(ixO hd a0 ⟨two,fun q hq=>?_⟩);have w1:=qF hq (.tup [.str "close",.str "lift"]);have hd1:=w1 _ _ hd;cases d with
 |cls t u=>
  refine⟨q,_,O,.inr (SqT.of qD),O,O,true,(xg (w:="close") (by decide+kernel)),jl ?_⟩;exact(ixO (w1 _ _ hD) qBn (ixO (w1 _ _ hD) qAu ⟨two,fun p hp=>kk p _ (w1.trans (qF hp _)) qD⟩))
 |lft t u=>
  refine⟨q,_,O,.inr (SqT.of qD),O,O,true,(xg (w:="lift") (by decide+kernel)),jl ?_⟩;exact(ixO (w1 _ _ hD) qBn (ixO (w1 _ _ hD) qAu ⟨two,fun p hp=>kk p _ (w1.trans (qF hp _)) qD⟩))
 |lov t m=>
  refine qL fun _ Y=>?_;obtain⟨v,hv,hI⟩:=hD;apply Y;refine⟨q,_,O,.inr (SqT.of qD),O,O,false,(xg (w:="lay_over") (by decide+kernel)),qt ?_⟩;refine(ixO hd1 a0 ⟨O,_,O,jl ?_⟩);exact(ixO hd1 a2 (ixO hd1 a2 (ixO (w1 _ _ hv) qAu ⟨v,m,O,hI.ts (qY w1),_,_,O,O,two,fun p hp=>kk p _ (w1.trans (qF hp _)) qD⟩)))
 |cut t=>
  refine⟨q,_,O,.inr (SqT.of qD),O,O,false,(xg (w:="cut") (by decide+kernel)),qt ?_⟩;refine(ixO hd1 a0 ⟨O,_,O,qt ?_⟩);exact(ixO hd1 a2 (ixO hd1 a2 ⟨two,fun p hp=>kk p _ (w1.trans (qF hp _)) qD⟩))
 |hel t=>
  refine⟨q,_,O,.inr (SqT.of qD),O,O,false,(xg (w:="heal") (by decide+kernel)),qt ?_⟩;refine(ixO hd1 a0 ⟨O,_,O,qt ?_⟩);exact(ixO hd1 a2 (ixO hd1 a2 ⟨two,fun p hp=>kk p _ (w1.trans (qF hp _)) qD⟩))
 |opn t l=>
  refine⟨q,_,O,.inr (SqT.of qD),O,O,false,(xg (w:="open") (by decide+kernel)),qt ?_⟩;refine(ixO hd1 a0 ⟨O,_,O,qt ?_⟩);exact(ixO hd1 a2 (ixO hd1 a2 ⟨two,fun p hp=>kk p _ (w1.trans (qF hp _)) qD⟩))
 |lin t m=>
  refine⟨q,_,O,.inr (SqT.of qD),O,O,false,(xg (w:="lay_in") (by decide+kernel)),qt ?_⟩;refine(ixO hd1 a0 ⟨O,_,O,qt ?_⟩);exact(ixO hd1 a2 (ixO hd1 a2 ⟨two,fun p hp=>kk p _ (w1.trans (qF hp _)) qD⟩))
inductive qNs(vs:List V)(H:Hp)(Q:VK)(_:XK):Prop
|mk (dz:Addr) (n:Int) (d:Dk) (_:vs=[.ref dz]) (_:DAt H dz n d) (_:∀(y:Addr) (H':Hp),Same H H'->H y=none->Tr H' y d.laid->Q (.ref y) H')
theorem qF4(T:Tx K mg a):FnOk P w K mg base CX0 1 a.A59 a.B59 ["deed"] qNs:=by
 refine T.D59.F.ok qNu (fun vs H Q E h=>?_) (fun cdv A outer s H vs Q E hr h=>?_)
 . obtain⟨dz,n,d,rfl,_⟩:=h
   rfl
 refine qL fun _ Y=>?_;obtain⟨dz,n,d,rfl,hD,kk⟩:=h;apply Y;refine⟨_,(qC (qW (qJ jc (qK (pv 0)) (jq (v:=.ref a.n_LAYS) rfl T.g_LAYS rfl) rfl) (qE (qM (jR (qA (qK (pv 0)) qB)))) qN)
  (qC (qW (qJ ja (qK (pv 0)) qR (qP _)) (qE (qM (jR (qA (ql (qA qR (qA (qK (pv 0)) qB))) qB)))) qN)
  (qC (qW (qJ ja (qK (pv 0)) qR (qP _)) (qE (qM (jR (qA (ql (qA qR (qA (qQ jS (qK (pv 0)) (qK (pv 0))) qB))) qB)))) qN)
  (qE (qM (jR qB)))))),?_⟩
 try dsimp only[jN,qd]
 refine qL fun _ Y=>?_;obtain⟨xs,hd,a0,a1,a2⟩:=hD.opn;apply Y;have one:(1:Nat)<=sizeLine:=by decide
 have two:(2:Nat)<=sizeLine:=by decide
 have zero:(0:Nat)<=sizeLine:=by decide
 refine(ixO hd a0 ⟨a.n_LAYS,_,O,.inr (T.sq_LAYS _),O,O,?_⟩);cases d with
 |lin t m=>
  refine qL fun _ Y=>?_;obtain⟨v,hv,hI⟩:=hD;apply Y;refine⟨true,(xg (w:="lay_in") (by decide+kernel)),jl (ixO hv qAu ⟨one,fun p hp=>?_⟩)⟩;exact kk p _ (qF hp _) hp ⟨_,qD,hI.ts (qY (qF hp _)),trivial⟩
 |lov t m=>
  refine qL fun _ Y=>?_;obtain⟨v,hv,hI⟩:=hD;apply Y;refine⟨true,(xg (w:="lay_over") (by decide+kernel)),jl (ixO hv qAu ⟨one,fun p hp=>?_⟩)⟩;exact kk p _ (qF hp _) hp ⟨_,qD,hI.ts (qY (qF hp _)),trivial⟩
 |opn t l=>
  refine⟨false,(xg (w:="open") (by decide+kernel)),qt ?_⟩;refine(ixO hd a0 ⟨O,_,O,jl ?_⟩);refine(ixO hD qAu ⟨two,fun g hg=>⟨one,fun p hp=>?_⟩⟩);exact kk p _ ((qF hg _).trans (qF hp _)) ((qF hg _).free hp) ⟨_,qD,isG ((qF hp _) _ _ qD),trivial⟩
 |lft t u=>
  refine⟨false,(xg (w:="lift") (by decide+kernel)),qt ?_⟩;refine(ixO hd a0 ⟨O,_,O,qt ?_⟩);refine(ixO hd a0 ⟨O,_,O,jl ?_⟩);refine(ixO hD qAu (ixO hD qBn ⟨_,_,O,O,two,fun g hg=>⟨one,fun p hp=>?_⟩⟩));exact kk p _ ((qF hg _).trans (qF hp _)) ((qF hg _).free hp) ⟨_,qD,isG ((qF hp _) _ _ qD),trivial⟩
 |cut t=>
  refine⟨false,(xg (w:="cut") (by decide+kernel)),qt ?_⟩;refine(ixO hd a0 ⟨O,_,O,qt ?_⟩);refine(ixO hd a0 ⟨O,_,O,qt ?_⟩);exact⟨zero,fun p hp=>kk p _ (qF hp _) hp ⟨[],qD,trivial⟩⟩
 |hel t=>
  refine⟨false,(xg (w:="heal") (by decide+kernel)),qt ?_⟩;refine(ixO hd a0 ⟨O,_,O,qt ?_⟩);refine(ixO hd a0 ⟨O,_,O,qt ?_⟩);exact⟨zero,fun p hp=>kk p _ (qF hp _) hp ⟨[],qD,trivial⟩⟩
 |cls t u=>
  refine⟨false,(xg (w:="close") (by decide+kernel)),qt ?_⟩;refine(ixO hd a0 ⟨O,_,O,qt ?_⟩);refine(ixO hd a0 ⟨O,_,O,qt ?_⟩);exact⟨zero,fun p hp=>kk p _ (qF hp _) hp ⟨[],qD,trivial⟩⟩
def chF(tie:List Int)(n:Int)(push:Bool):List Int:=if push=true/\n∈tie then n::tie.filter (fun x=>decide (x≠n))else [n]
theorem qQz{i:Int}{ps:List Int}:inV (.int i) (ps.map V.int)=decide (i∈ps):=by unfold inV;rw[Bool.eq_iff_iff];simp[eqV]
theorem qM4(ps:List Int):(ps.map V.int).all kj=true:=by rw[List.all_map,List.all_eq_true];intro _ _;rfl
theorem Dk.push_in(d:Dk):inV (.str d.wd) [.str "lay_in",.str "open",.str "close"]=d.push:=by
 cases d with
 |cut t=>show inV (.str "cut") _=false;decide+kernel
 |hel t=>show inV (.str "heal") _=false;decide+kernel
 |opn t l=>show inV (.str "open") _=true;decide+kernel
 |cls t u=>show inV (.str "close") _=true;decide+kernel
 |lft t u=>show inV (.str "lift") _=false;decide+kernel
 |lin t m=>show inV (.str "lay_in") _=true;decide+kernel
 |lov t m=>show inV (.str "lay_over") _=false;decide+kernel
inductive qDm(vs:List V)(H:Hp)(Q:VK)(_:XK):Prop
|mk (dz:Addr) (n:Int) (d:Dk) (_:vs=[.ref dz]) (_:DAt H dz n d) (_:∀(y:Addr) (H':Hp),Same H H'->H y=none->Tr H' y (d.laid.map fun m=>.gap m.mo)->Q (.ref y) H')
theorem Dk.laid_len(d:Dk):d.laid.length<=1:=by cases d <;> simp[Dk.laid]
theorem qEo(T:Tx K mg a):FnOk P w K mg base CX0 2 a.A60 a.B60 ["deed"] qDm:=by
 refine T.D60.F.ok qD8 (fun vs H Q E h=>?_) (fun cdv A outer s H vs Q E hr h=>?_)
 . obtain⟨dz,n,d,rfl,_⟩:=h
   rfl
 refine qL fun _ Y=>?_;obtain⟨dz,n,d,rfl,hD,kk⟩:=h;apply Y;refine⟨_,(qE (qM (kf [] [] rfl (jM (qI T.D59 (qF4 T) hr rfl (qA (pv 0) qB))) (fun _ _ _ _=>(ql (qA qR (qA (qI T.D24 (jf T) hr rfl (qA (pv 0) qB)) qB))))))),?_⟩
 try dsimp only[jN,qd]
 refine⟨_,rfl,dz,n,d,rfl,hD,fun l H1 e1 hl ⟨us,hlu,his⟩=>?_⟩;have hll:=d.laid_len;have hul:=his.len;refine⟨l,O,⟨_,SqL.of hlu⟩,zB (K:=K) (a:=l) (xs:=us) (fun j acc H2=>IsIs H2 ((d.laid.take j).map fun m=>.gap m.mo) acc/\Same H1 H2) ⟨trivial,Same.refl _⟩ ?_ ?_ ?_⟩
 . rintro j acc H2 hj ⟨ht,e2⟩
   exact⟨SqL.of (e2 _ _ hlu),qc (by rw[ht.len,List.length_map,List.length_take];omega)⟩
 . rintro j x acc H2 hj hx ⟨ht,e2⟩
   refine qL fun _ Y=>?_;obtain⟨m,hm,hI⟩:=his.get hx;apply Y;refine⟨_,O,x,m,O,hI.ts (qY e2),sL2,fun g hg=>Nxt.mk hj ⟨?_,e2.trans (qF hg _)⟩⟩;rw[List.take_add_one,hm,List.map_append];exact(ht.ts (qY (qF hg _))).app (.one (isG qD))
 rintro acc H2 ⟨ht,e2⟩ y hy;rw[hul,List.take_length]at ht;exact kk y _ ((e1.trans e2).trans (qF hy _)) ((e1.trans e2).free hy) ⟨_,qD,ht.ts (qY (qF hy _))⟩
inductive qCa(vs:List V)(H:Hp)(Q:VK)(_:XK):Prop
|mk (tz tl ti dz:Addr) (tie:List Int) (n:Int) (d:Dk) (_:vs=[.ref tz,.ref dz]) (_:H tz=some (.tup [.ref tl,.ref ti])) (_:H ti=some (.lst (tie.map V.int))) (_:tie.length<=300) (_:DAt H dz n d) (_:∀(y:Addr) (H':Hp),Same H H'->H y=none->H' y=some (.lst ((chF tie n d.push).map V.int))->Q (.ref y) H')
theorem kF(T:Tx K mg a):FnOk P w K mg base CX0 1 a.A61 a.B61 ["table","deed"] qCa:=by
 refine T.D61.F.ok qB2 (fun vs H Q E h=>?_) (fun cdv A outer s H vs Q E hr h=>?_)
 . obtain⟨tz,tl,ti,dz,tie,n,d,rfl,_⟩:=h
   rfl
 refine qL fun _ Y=>?_;obtain⟨tz,tl,ti,dz,tie,n,d,rfl,htz,hti,htl,hD,kk⟩:=h;apply Y;refine⟨_,(qC (qW (PW.pt (jd (qJ vR (qK (pv 1)) (jq (v:=.ref a.n_PUSHES) rfl T.g_PUSHES rfl) rfl) (jK (qJ vR (qK (pv 1)) (qK (pv 0)) rfl)))) (qE (qM (jR (qA (qK (pv 1)) qB)))) qN)
  (qE (qM (qQ qAt (jR (qA (qK (pv 1)) qB)) (qHr ["deed"] [1] rfl (jM (qK (pv 0))) (fun _ _ _ _=>(qJ zD (pv 0) (jU (vd (K:=K) rfl) (pv 1) qG (fun _ _=>rfl)) (qP _))) (fun _ _ _ _=>(pv 0))))))),?_⟩
 try dsimp only[jN,qd]
 refine qL fun _ Y=>?_;obtain⟨xs,hd,a0,a1,a2⟩:=hD.opn;apply Y;have one:(1:Nat)<=sizeLine:=by decide
 have fin1:¬(d.push=true/\n∈tie)->∀p,H p=none->Q (.ref p) (upd H p (.lst [.int n])):=fun hc p hp=>by refine kk p _ (qF hp _) hp ?_;unfold chF;rw[if_neg hc,qD];rfl
 refine(ixO hd a0 ⟨a.n_PUSHES,_,O,.inr (T.sq_PUSHES _),O,O,!d.push,qPx d.push_in,?_⟩);cases hp:d.push with
 |false=>
  refine jl (jl (ixO hd a1 ⟨one,fun p hp'=>fin1 (fun z=>?_) p hp'⟩));rw[hp]at z;exact absurd z.1 (by simp)
 |true=>
  refine qt (ixO hd a1 (ixO htz at1 ⟨ti,_,O,.inl (SqL.of hti),O,qM4 tie,!decide (n∈tie),?_,?_⟩))
  . show V.bl (!inV (.int n) (tie.map V.int))=_
    rw[qQz]
  by_cases hm:n∈tie
  . rw[decide_eq_true hm]
    refine qt (ixO hd a1 ⟨one,fun l1 hl1=>?_⟩);have w1:=qF hl1 (.lst [.int n]);have k1:upd H l1 (.lst [.int n]) l1=some (.lst [.int n]):=qD;have hl10:=hl1;change _;generalize upd H l1 (.lst [.int n])=H1 at w1 k1;refine(ixO (w1 _ _ htz) at1 ⟨ti,O,⟨_,SqL.of (w1 _ _ hti)⟩,qBv (K:=K) (a:=ti) (xs:=tie.map V.int) (fun j acc H2=>acc=((tie.take j).filter (fun x=>decide (x≠n))).map V.int/\H2=H1) ⟨O,O⟩ ?_ ?_ ?_⟩)
    . rintro j acc H2 hj ⟨rfl,rfl⟩
      refine⟨SqL.of (w1 _ _ hti),qc ?_⟩;rw[List.length_map];have:=List.length_filter_le (fun x=>decide (x≠n)) (tie.take j);have:=List.length_take_le j tie;rw[List.length_take]at*;omega
    . rintro j x acc H2 hj hx ⟨rfl,rfl⟩
      refine qL fun _ Y=>?_;obtain⟨xi,hxi,rfl⟩:∃xi:Int,tie[j]?=some xi/\x=.int xi:=by
       rw[List.getElem?_map]at hx;cases hq:tie[j]? with
       |none=>rw[hq]at hx;cases hx
       |some k=>rw[hq]at hx;cases hx;exact⟨k,rfl,rfl⟩
      apply Y;have etk:tie.take (j+1)=tie.take j++[xi]:=by rw[List.take_add_one,hxi];rfl
      refine⟨_,O,ixO (w1 _ _ hd) a1 ⟨O,_,O,jo (fun c=>?_) (fun c=>?_)⟩⟩
      . have hne:xi≠n:=by simpa using c
        refine⟨_,O,Nxt.mk hj ⟨?_,O⟩⟩;rw[etk,List.filter_append,List.map_append];simp[hne]
      . have hne:xi=n:=by simpa using c
        refine Nxt.mk hj ⟨?_,O⟩;rw[etk,List.filter_append,List.map_append];simp[hne]
    rintro acc H2 ⟨rfl,rfl⟩ l2 hl2;rw[List.length_map,List.take_length];have w2:=qF hl2 (.lst ((tie.filter (fun x=>decide (x≠n))).map V.int));refine⟨l1,l2,_,_,O,O,w2 _ _ k1,qD,?_,fun y hy=>?_⟩
    . have:=qc (n:=1+((tie.filter (fun x=>decide (x≠n))).map V.int).length) (by rw[List.length_map];have:=List.length_filter_le (fun x=>decide (x≠n)) tie;omega)
      show 1+((tie.filter (fun x=>decide (x≠n))).map V.int).length<=sizeLine;omega
    refine kk y _ ((w1.trans w2).trans (qF hy _)) ((w1.trans w2).free hy) ?_;unfold chF;rw[if_pos ⟨hp,hm⟩,qD];rfl
  . rw[decide_eq_false hm]
    exact jl (ixO hd a1 ⟨one,fun p hp'=>fin1 (fun z=>hm z.2) p hp'⟩)
inductive qG2(vs:List V)(H:Hp)(Q:VK)(_:XK):Prop
|mk (l:Int) (_:vs=[.int l]) (_:Q (.int (l.fdiv 2)) H)
theorem qA6(T:Tx K mg a):FnOk P w K mg base CX0 1 a.A38 a.B38 ["length"] qG2:=by
 refine T.D38.F.ok qGy (fun vs H Q E h=>?_) (fun cdv A outer s H vs Q E hr h=>?_)
 . obtain⟨l,rfl,_⟩:=h
   rfl
 refine qL fun _ Y=>?_;obtain⟨l,rfl,kk⟩:=h;apply Y;refine⟨_,(qE (qM (qQ qf (pv 0) qG))),?_⟩
 try dsimp only[jN,qd]
 exact⟨_,O,_,_,O,O,cdB (by decide) (by decide),kk⟩
inductive qFr(vs:List V)(H:Hp)(Q:VK)(_:XK):Prop
|mk (l:Int) (_:vs=[.int l]) (_:Q (.int (l-l.fdiv 2)) H)
theorem wS(T:Tx K mg a):FnOk P w K mg base CX0 1 a.A39 a.B39 ["length"] qFr:=by
 refine T.D39.F.ok qFe (fun vs H Q E h=>?_) (fun cdv A outer s H vs Q E hr h=>?_)
 . obtain⟨l,rfl,_⟩:=h
   rfl
 refine qL fun _ Y=>?_;obtain⟨l,rfl,kk⟩:=h;apply Y;refine⟨_,(qE (qM (qQ jS (pv 0) (qQ qf (pv 0) qG)))),?_⟩
 try dsimp only[jN,qd]
 exact⟨_,O,_,O,_,_,O,O,cdB (by decide) (by decide),_,_,O,O,kk⟩
def qq:Int->List Im->List (Int×Int×Int)
 |_,[]=>[]
 |b,.mix l::ms=>(b-l.fdiv 2,b,b+(l-l.fdiv 2))::qq b ms
 |b,.clip _ _ _ _ _ l::ms=>qq (b+l) ms
 |b,.nest _ _ l::ms=>qq (b+l) ms
 |b,.gap l::ms=>qq (b+l) ms
theorem qv{m:Im}(h:m.wd≠"mix")(b:Int)(ms:List Im):qq b (m::ms)=qq (b+m.mo) ms:=by
 cases m with
 |mix l=>exact absurd rfl h
 |_=>rfl
theorem qEa:∀(b:Int) (ms:List Im),(qq b ms).length<=ms.length
 |_,[]=>by simp[qq]
 |b,m::ms=>by
  by_cases h:m.wd="mix"
  . obtain⟨l,rfl⟩:=jV h
    have:=qEa b ms;rw[qq,List.length_cons,List.length_cons];omega
  . have:=qEa (b+m.mo) ms
    rw[qv h,List.length_cons];omega
def jr:Nat->List Im->List Nat
 |_,[]=>[]
 |i,.mix _::ms=>i::jr (i+1) ms
 |i,.clip _ _ _ _ _ _::ms=>jr (i+1) ms
 |i,.nest _ _ _::ms=>jr (i+1) ms
 |i,.gap _::ms=>jr (i+1) ms
theorem zW{m:Im}(h:m.wd≠"mix")(i:Nat)(ms:List Im):jr i (m::ms)=jr (i+1) ms:=by
 cases m with
 |mix l=>exact absurd rfl h
 |_=>rfl
def qWz:List Nat->List (Int×Int×Int)->Int->Option (Nat×Int)
 |p::ps,(x,_,z)::ss,t=>if x<=t/\t<z then some (p,t-x)else qWz ps ss t
 |_,_,_=>none
def SpAt(H:Hp):List (Int×Int×Int)->List V->Prop
 |[],[]=>True
 |(x,y,z)::ss,v::vs=>(∃p:Addr,v=.ref p/\H p=some (.tup [.int x,.int y,.int z]))/\SpAt H ss vs
 |_,_=>False
theorem SpAt.len{H:Hp}:∀{ss:List (Int×Int×Int)} {vs:List V},SpAt H ss vs->vs.length=ss.length
 |[],[],_=>rfl
 |(_,_,_)::_,_::_,h=>by rw[List.length_cons,List.length_cons,SpAt.len h.2]
 |[],_::_,h=>h.elim
 |(_,_,_)::_,[],h=>h.elim
theorem SpAt.ts{H H':Hp}(e:TS H H'):∀{ss:List (Int×Int×Int)} {vs:List V},SpAt H ss vs->SpAt H' ss vs
 |[],[],_=>trivial
 |(_,_,_)::_,_::_,⟨⟨p,h1,h2⟩,h⟩=>⟨⟨p,h1,e _ _ h2⟩,SpAt.ts e h⟩
 |[],_::_,h=>h.elim
 |(_,_,_)::_,[],h=>h.elim
theorem SpAt.app{H:Hp}:∀{ss:List (Int×Int×Int)} {vs:List V} {ss':List (Int×Int×Int)} {vs':List V},SpAt H ss vs->SpAt H ss' vs'->SpAt H (ss++ss') (vs++vs')
 |[],[],_,_,_,h'=>h'
 |(_,_,_)::_,_::_,_,_,h,h'=>⟨h.1,h.2.app h'⟩
 |[],_::_,_,_,h,_=>h.elim
 |(_,_,_)::_,[],_,_,h,_=>h.elim
theorem SpAt.one{H:Hp}{x y z:Int}{p:Addr}(h:H p=some (.tup [.int x,.int y,.int z])):SpAt H [(x,y,z)] [.ref p]:=⟨⟨p,rfl,h⟩,trivial⟩
theorem SpAt.get{H:Hp}:∀{ss:List (Int×Int×Int)} {vs:List V} {i:Nat} {v:V},SpAt H ss vs->vs[i]?=some v->∃(x y z:Int) (p:Addr),ss[i]?=some (x,y,z)/\v=.ref p/\H p=some (.tup [.int x,.int y,.int z])
 |[],[],_,_,_,h=>by simp at h
 |(x,y,z)::_,u::_,0,v,h,e=>by
  have e':u=v:=by simpa using e
  subst e';obtain⟨⟨p,h1,h2⟩,_⟩:=h;exact⟨x,y,z,p,O,h1,h2⟩
 |(_,_,_)::ss,_::vs,i+1,v,h,e=>by obtain⟨x,y,z,p,h1,h2⟩:=SpAt.get (i:=i) h.2 (by simpa using e);exact⟨x,y,z,p,by simpa using h1,h2⟩
 |[],_::_,_,_,h,_=>h.elim
 |(_,_,_)::_,[],_,_,h,_=>h.elim
inductive qJp(vs:List V)(H:Hp)(Q:VK)(_:XK):Prop
|mk (z:Addr) (ms:List Im) (_:vs=[.ref z]) (_:Tr H z ms) (_:ms.length<=300) (_:∀(y:Addr) (us:List V) (H':Hp),Same H H'->H y=none->H' y=some (.lst us)->SpAt H' (qq 0 ms) us->Q (.ref y) H')
theorem qCh(T:Tx K mg a):FnOk P w K mg base CX0 2 a.A40 a.B40 ["track"] qJp:=by
 refine T.D40.F.ok xU (fun vs H Q E h=>?_) (fun cdv A outer s H vs Q E hr h=>?_)
 . obtain⟨z,ms,rfl,_⟩:=h
   rfl
 refine qL fun _ Y=>?_;obtain⟨z,ms,rfl,⟨xs,hz,his⟩,hl,kk⟩:=h;apply Y;refine⟨_,(qC (qZ 1 xU.nd (jR qB))
  (qC (qZ 2 xU.nd qG)
  (qC (j6 PassesOwn.never rfl (jM (pv 0)) (jA (i:=3) xU.nd rfl (Or.inl rfl)) (qC (qW (qJ ja (qK (pv 3)) qR (qP _)) (qE (q9 (qCn F.plainAttrs_list F.slot_list_append F.type_list_append jv (pv 1) (qA (ql (qA (qQ jS (pv 2) (qI T.D38 (qA6 T) hr rfl (qA (qK (pv 3)) qB))) (qA (pv 2) (qA (qQ qr (pv 2) (qI T.D39 (wS T) hr rfl (qA (qK (pv 3)) qB))) qB)))) qB)))) qN)
  (qE (qZ 2 xU.nd (qQ qr (pv 2) (qI T.D24 (jf T) hr rfl (qA (pv 3) qB)))))))
  (qE (qM (pv 1)))))),?_⟩
 try dsimp only[jN,qd]
 refine⟨sL0,fun y hy=>?_⟩;refine⟨_,O,z,O,⟨_,SqL.of ((qF hy _) _ _ hz)⟩,jn (K:=K) (a:=z) (xs:=xs) (fun i σ H'=> ∃(b:Int) (as:List (Int×Int×Int)) (o:Option V) (us:List V),σ=[some (.ref z),some (.ref y),some (.int b),o]/\H' y=some (.lst us)/\SpAt H' as us/\as.length<=i/\as++qq b (ms.drop i)=qq 0 ms/\Same H H')
  ⟨0,[],none,[],rfl,qD,trivial,by simp,rfl,qF hy _⟩ ?_ ?_ ?_⟩
 . rintro i σ H' hi ⟨b,as,o,us,rfl,_,_,_,_,e⟩
   exact SqL.of (e _ _ hz)
 . rintro i x σ H' hx ⟨b,as,o,us,rfl,hv,hsp,hal,hap,e⟩
   refine qL fun _ Y=>?_;obtain⟨m,hm,hIx⟩:=his.get hx;have hI:=hIx.ts (qY e);have hi:i<ms.length:=(glt hm);rw[zF hm]at hap;obtain⟨zi,xi,rfl,hzi,h0,h1⟩:=hI.opn;apply Y;refine⟨_,O,zi,xi,_,_,O,O,SqT.of hzi,h0,O,_,O,jo (fun c=>?_) (fun c=>?_)⟩
   . obtain⟨l,rfl⟩:=jV (by simpa using c)
     refine qL fun _ Y=>?_;obtain⟨z2,e2,hz2⟩:=id hI;cases e2;apply Y;rw[qq]at hap;refine⟨_,O,.inl ⟨O,_,SqL.of hv⟩,_,O,ixO hz2 at1 ⟨_,O,_,_,O,O,_,O,_,O,ixO hz2 at1 ⟨_,O,_,_,O,O,sL3,fun g hg=>?_⟩⟩⟩;have w1:=qF hg (.tup [.int (b-l.fdiv 2),.int b,.int (b+(l-l.fdiv 2))]);refine⟨y,_,_,O,O,w1 _ _ hv,qc (by rw[hsp.len];omega),?_⟩;have t2:TS (upd H' g (.tup [.int (b-l.fdiv 2),.int b,.int (b+(l-l.fdiv 2))])) (upd (upd H' g (.tup [.int (b-l.fdiv 2),.int b,.int (b+(l-l.fdiv 2))])) y (.lst (us++[.ref g]))):=xM (w1 _ _ hv);refine⟨_,O,_,O,_,.mix l,O,(hI.ts (qY w1)).ts t2,_,_,O,O,b,as++[(b-l.fdiv 2,b,b+(l-l.fdiv 2))],some (.ref zi),us++[.ref g],?_,qD,((hsp.ts (qY w1)).app (.one qD)).ts t2,by simp;omega,?_,ju (e.trans w1) hy⟩
     . show [some (V.ref z),some (V.ref y),some (V.int (b+0)),some (V.ref zi)]=_
       rw[Int.add_zero]
     . rw[<-hap];simp
   . have hne:m.wd≠"mix":=by simpa using c
     rw[qv hne]at hap;exact⟨_,O,_,O,_,m,O,hI,_,_,O,O,_,as,_,us,O,hv,hsp,by omega,hap,e⟩
 . rintro σ H' ⟨b,as,o,us,rfl,hv,hsp,hal,hap,e⟩
   rw[his.len,List.drop_length,qq,List.append_nil]at hap;rw[hap]at hsp;exact⟨_,O,kk y us H' e hy hv hsp⟩
inductive qJg(vs:List V)(H:Hp)(Q:VK)(_:XK):Prop
|mk (i:Int) (_:vs=[.int i]) (_:1<=i) (_:Q (.bl true) H)
theorem vx(T:Tx K mg a):FnOk P w K mg base CX0 2 a.A21 a.B21 ["thing"] qJg:=by
 refine T.D21.F.ok qIb (fun vs H Q E h=>?_) (fun cdv A outer s H vs Q E hr h=>?_)
 . obtain⟨i,rfl,_⟩:=h
   rfl
 refine qL fun _ Y=>?_;obtain⟨i,rfl,hi,q⟩:=h;apply Y;refine⟨_,(qE (qM (xp (qI T.D0 (jC T) hr rfl (qA (pv 0) qB)) (z7 (jL qCr (pv 0) qG (qP _)))))),?_⟩
 try dsimp only[jN,qd]
 rw[<-decide_eq_true hi]at q;exact⟨_,O,i,O,true,O,jl ⟨_,O,_,_,O,O,q⟩⟩
def qWr:Im->Bool
 |.nest .. =>true
 |_=>false
def NeO:Im->Prop
 |.nest n b l=>qFo n=true/\0<=b/\1<=l
 |_=>True
inductive qCz(K:W.Frag)(vs:List V)(H:Hp)(Q:VK)(_:XK):Prop
|mk (v:V) (m:Im) (_:vs=[v]) (_:IsI H m v) (_:NeO m) (_:∀H',Same H H'->Q (.bl (qWr m)) H')
theorem vI(T:Tx K mg a):FnOk P w K mg base CX0 3 a.A22 a.B22 ["item"] (qCz K):=by
 refine T.D22.F.ok qC3 (fun vs H Q E h=>?_) (fun cdv A outer s H vs Q E hr h=>?_)
 . obtain⟨v,m,rfl,_⟩:=h
   rfl
 refine qL fun _ Y=>?_;obtain⟨v,m,rfl,hI,hm,kk⟩:=h;apply Y;refine⟨_,(qC (qW (PW.pt (jd (q8 (qg (qU qi rfl T.b_isinstance rfl (qA (pv 0) (qA (zw rfl T.b_tuple rfl) qB))))) (jK (qJ zD (qU qh rfl T.b_len rfl (qA (pv 0) qB)) qG (qP _))))) (qE (qM xk)) qN)
  (qC (qW (PW.pt (jd (qJ zD (qK (pv 0)) qR (qP _)) (jK (q8 (qg (qI T.D10 (wF T) hr rfl (qA (qK (pv 0)) qB))))))) (qE (qM xk)) qN)
  (qE (qM (xp (qI T.D0 (jC T) hr rfl (qA (qK (pv 0)) qB)) (xp (jL qCr (qK (pv 0)) qG (qP _)) (z7 (qI T.D21 (vx T) hr rfl (qA (qK (pv 0)) qB))))))))),?_⟩
 try dsimp only[jN,qd]
 refine qL fun _ Y=>?_;obtain⟨z,xs,rfl,e,_⟩:=id hI.opn;apply Y;refine⟨_,O,_,_,_,true,O,.tup e,⟨_,.inl ⟨O,by kernel_rfl⟩⟩,true,O,qt ?_⟩;refine⟨_,O,_,_,O,.inr (SqT.of e),O,_,O,?_⟩;have k0:=kk H (Same.refl _);cases m with
 |nest n b l=>
  refine qL fun _ Y=>?_;obtain⟨h1,hb,hl⟩:=hm;obtain⟨z',e',hz⟩:=hI;cases e';rw[hz]at e;cases e;apply Y;refine qt (ixO hz qEp ⟨O,_,O,qU9 rfl ?_⟩);refine(ixO hz qFt ⟨n,O,h1,fun H1 s1=>⟨true,O,qt ?_⟩⟩);have e1:=SqT.of (K:=K) (s1 _ _ hz);refine⟨_,O,_,_,_,_,O,O,e1,qBn,b,O,true,O,jl ⟨_,O,_,_,_,_,O,O,e1,qBn,_,_,O,O,_,O,v9 (decide_eq_true hb) ?_⟩⟩;exact⟨_,O,_,_,_,_,O,O,e1,qAu,l,O,hl,kk H1 s1⟩
 |clip n p q r s l=>
  refine qL fun _ Y=>?_;obtain⟨z',x,y,e',hz,_⟩:=hI;cases e';rw[hz]at e;cases e;apply Y;exact jl k0
 |gap l=>
  refine qL fun _ Y=>?_;obtain⟨z',e',hz⟩:=hI;cases e';rw[hz]at e;cases e;apply Y;exact jl k0
 |mix l=>
  refine qL fun _ Y=>?_;obtain⟨z',e',hz⟩:=hI;cases e';rw[hz]at e;cases e;apply Y;exact jl k0
def qWs(xs:List V)(w:Str)(t:Int):Prop:=atI xs 0=some (.str w)/\atI xs 2=some (.int t)/\(w="open"\/w="mix"->∃l:Int,atI xs 3=some (.int l)/\1<=l)/\(w="close"\/w="lift"->∃u:Int,atI xs 3=some (.int u)/\t<u)
theorem qYd{w x y:Str}:inV (.str w) [.str x,.str y]=decide (w=x\/w=y):=by unfold inV;rw[Bool.eq_iff_iff];simp[eqV];exact⟨fun h=>h.imp Eq.symm Eq.symm,fun h=>h.imp Eq.symm Eq.symm⟩
inductive qCw(vs:List V)(H:Hp)(Q:VK)(_:XK):Prop
|mk (dz:Addr) (xs:List V) (w:Str) (t:Int) (_:vs=[.ref dz]) (_:H dz=some (.tup xs)) (_:qWs xs w t) (_:∀H',Same H H'->Q .non H')
theorem qCv(T:Tx K mg a):FnOk P w K mg base CX0 3 a.A62 a.B62 ["deed"] qCw:=by
 refine T.D62.F.ok qCs (fun vs H Q E h=>?_) (fun cdv A outer s H vs Q E hr h=>?_)
 . obtain⟨dz,xs,w,t,rfl,_⟩:=h
   rfl
 refine qL fun _ Y=>?_;obtain⟨dz,xs,w,t,rfl,hd,⟨a0,a2,h1,h2⟩,kg⟩:=h;apply Y;refine⟨_,(qC (zC (qW (PW.pt (xW (qJ jc (qK (pv 0)) (ql (qA qR (qA qR qB))) rfl) (xA (q8 (qg (qI T.D21 (vx T) hr rfl (qA (qK (pv 0)) qB))))))) qk qN))
  (qE (qW (PW.pt (xW (qJ jc (qK (pv 0)) (ql (qA qR (qA qR qB))) rfl) (xA (PW.pt (jd (q8 (qg (qI T.D0 (jC T) hr rfl (qA (qK (pv 0)) qB)))) (jK (qJ qCr (qK (pv 0)) (qK (pv 0)) (qP _)))))))) qk qN))),?_⟩
 try dsimp only[jN,qd]
 have two:(2:Nat)<=sizeLine:=by decide
 refine⟨fun σ H1=>σ=[some (.ref dz)]/\Same H H1,?_,?_⟩
 . refine(ixO hd a0 ⟨two,fun q hq=>⟨q,_,O,.inr (SqT.of qD),O,O,_,xg qYd,jo (fun c=>?_) (fun _=>qt ⟨O,qF hq _⟩)⟩⟩)
   refine qL fun _ Y=>?_;obtain⟨l,a3,hl⟩:=h1 (of_decide_eq_true c);apply Y;have e1:=qF hq (.tup [.str "open",.str "mix"]);exact(ixO (e1 _ _ hd) a3 ⟨l,O,hl,true,O,qt ⟨O,e1⟩⟩)
 rintro σ H1 ⟨rfl,e1⟩;refine(ixO (e1 _ _ hd) a0 ⟨two,fun q hq=>⟨q,_,O,.inr (SqT.of qD),O,O,_,xg qYd,jo (fun c=>?_) (fun _=>qt (kg _ (e1.trans (qF hq _))))⟩⟩);refine qL fun _ Y=>?_;obtain⟨u,a3,hu⟩:=h2 (of_decide_eq_true c);apply Y;have e2:=e1.trans (qF hq (.tup [.str "close",.str "lift"]));have hd2:=e2 _ _ hd;exact(ixO hd2 a3 ⟨u,O,true,O,qt (ixO hd2 a2 (ixO hd2 a3 ⟨_,_,O,O,_,O,kx (decide_eq_false (by omega)) (kg _ e2)⟩))⟩)
def qR8(lo hi:Int)(s:Int×Int×Int):Bool:=(decide (s.1<hi) && decide (lo<s.2.2)) || (decide (lo<=s.2.1) && decide (s.2.1<=hi))
def zA(ms:List Im)(lo hi:Int):Bool:=(qq 0 ms).any (qR8 lo hi)
inductive qFn(vs:List V)(H:Hp)(Q:VK)(_:XK):Prop
|mk (z:Addr) (ms:List Im) (lo hi:Int) (_:vs=[.ref z,.int lo,.int hi]) (_:Tr H z ms) (_:ms.length<=300) (_:∀H',Same H H'->Q (.bl (zA ms lo hi)) H')
theorem qE6(T:Tx K mg a):FnOk P w K mg base CX0 3 a.A63 a.B63 ["track","low","high"] qFn:=by
 refine T.D63.F.ok wR (fun vs H Q E h=>?_) (fun cdv A outer s H vs Q E hr h=>?_)
 . obtain⟨z,ms,lo,hi,rfl,_⟩:=h
   rfl
 refine qL fun _ Y=>?_;obtain⟨z,ms,lo,hi,rfl,tT,hml,kk⟩:=h;apply Y;refine⟨_,(qC (j6 PassesOwn.never rfl (jM (qI T.D40 (qCh T) hr rfl (qA (pv 0) qB))) (jA (i:=3) wR.nd rfl (Or.inl rfl)) (qE (qW (qF6 (PW.pt (jd (PW.pt (xW (qJ zy (qK (pv 3)) (pv 2) (qP _)) (xA (qJ zy (pv 1) (qK (pv 3)) (qP _))))) (jK (PW.pt (xW (qJ qNa (pv 1) (qK (pv 3)) (qP _)) (xA (qJ qNa (qK (pv 3)) (pv 2) (qP _))))))))) (qE (qM xk)) qN)))
  (qE (qM xk))),?_⟩
 try dsimp only[jN,qd]
 unfold zA at kk;refine⟨_,O,z,ms,O,tT,hml,fun y us H1 e1 hy hy1 hsp=>?_⟩;generalize qq 0 ms=ss at hsp kk;refine⟨y,O,⟨_,SqL.of hy1⟩,jn (K:=K) (a:=y) (xs:=us) (fun i σ H'=> ∃o:Option V,σ=[some (.ref z),some (.int lo),some (.int hi),o]/\H'=H1/\(ss.take i).any (qR8 lo hi)=false) ⟨none,O,O,O⟩ ?_ ?_ ?_⟩
 . rintro i σ H' hi ⟨o,rfl,rfl,_⟩
   exact SqL.of hy1
 . rintro i x σ H' hx ⟨o,rfl,rfl,hno⟩
   refine qL fun _ Y=>?_;obtain⟨x0,x1,x2,p,hs,rfl,hp⟩:=hsp.get hx;apply Y;have q:=SqT.of (K:=K) hp;have b0:atI [V.int x0,.int x1,.int x2] 0=some (.int x0):=rfl;have b1:atI [V.int x0,.int x1,.int x2] 1=some (.int x1):=rfl;have b2:atI [V.int x0,.int x1,.int x2] 2=some (.int x2):=rfl;refine⟨fun t' H2=>H2=H'/\t'=qR8 lo hi (x0,x1,x2),?_,?_⟩
   . unfold qR8
     dsimp only;refine⟨_,O,p,_,_,_,O,O,q,b0,_,O,_,_,O,O,_,O,?_⟩;by_cases h1:x0<hi
     . rw[decide_eq_true h1,Bool.true_and]
       refine jl ⟨_,O,_,O,p,_,_,_,O,O,q,b2,_,_,O,O,_,O,?_⟩;by_cases h2:lo<x2
       . rw[decide_eq_true h2,Bool.true_or]
         exact jl ⟨O,O⟩
       rw[decide_eq_false h2,Bool.false_or];refine qt ⟨_,O,_,O,p,_,_,_,O,O,q,b1,_,_,O,O,_,O,?_⟩;by_cases h3:lo<=x1
       . rw[decide_eq_true h3,Bool.true_and]
         exact jl ⟨_,O,p,_,_,_,O,O,q,b1,_,O,_,_,O,O,_,O,O,O⟩
       . rw[decide_eq_false h3,Bool.false_and]
         exact qt ⟨O,O⟩
     . rw[decide_eq_false h1,Bool.false_and,Bool.false_or]
       refine qt (qt ⟨_,O,_,O,p,_,_,_,O,O,q,b1,_,_,O,O,_,O,?_⟩);by_cases h3:lo<=x1
       . rw[decide_eq_true h3,Bool.true_and]
         exact jl ⟨_,O,p,_,_,_,O,O,q,b1,_,O,_,_,O,O,_,O,O,O⟩
       . rw[decide_eq_false h3,Bool.false_and]
         exact qt ⟨O,O⟩
   rintro t' H2 ⟨rfl,rfl⟩;cases ht:qR8 lo hi (x0,x1,x2)with
   |true=>
    have:ss.any (qR8 lo hi)=true:=List.any_eq_true.mpr ⟨_,List.mem_of_getElem? hs,ht⟩;rw[this]at kk;exact jl (kk _ e1)
   |false=>
    refine qt ⟨_,O,O,?_⟩;rw[List.take_add_one,hs,List.any_append,hno];show (false || (qR8 lo hi (x0,x1,x2) || false))=false;rw[ht];rfl
 . rintro σ H' ⟨o,rfl,rfl,hno⟩
   rw[hsp.len,List.take_length]at hno;rw[hno]at kk;exact kk _ e1
structure TabG(H:Hp)(tz:Addr)(ts:List (List Im))(tie:List Int)(n:Nat):Prop where
 tab:TabF H (.ref tz) ts tie
 ok:∀ms∈ts,MsB ms/\ms.length<=100
 nt:n<ts.length
 len:ts.length<=8
 tl:tie.length<=8
 tin:∀x∈tie,∃k:Nat,x=(k:Int)/\k<ts.length
theorem TabG.same{H H':Hp}{tz:Addr}{ts:List (List Im)}{tie:List Int}{n:Nat}(e:Same H H')(h:TabG H tz ts tie n):TabG H' tz ts tie n:=⟨h.tab.same e,h.ok,h.nt,h.len,h.tl,h.tin⟩
theorem TabG.ch{H:Hp}{tz:Addr}{ts:List (List Im)}{tie:List Int}{n:Nat}(h:TabG H tz ts tie n)(push:Bool):(chF tie (n:Int) push).length<=10/\∀x∈chF tie (n:Int) push,∃k:Nat,x=(k:Int)/\k<ts.length:=by
 unfold chF;split
 . refine⟨?_,fun x hx=>?_⟩
   . rw[List.length_cons]
     have:=List.length_filter_le (fun x=>decide (x≠(n:Int))) tie;have:=h.tl;omega
   . rcases List.mem_cons.mp hx with rfl|hx
     . exact⟨n,O,h.nt⟩
     . exact h.tin x (List.mem_filter.mp hx).1
 . refine⟨by show 1<=10;decide,fun x hx=>?_⟩
   have:x=(n:Int):=by simpa using hx
   exact⟨n,this,h.nt⟩
def xQ(ts:List (List Im))(ns:List Int)(lo hi:Int):Bool:=ns.any fun k=>zA (ts.getD k.toNat []) lo hi
inductive qDu(M:Addr)(vs:List V)(H:Hp)(Q:VK)(E:XK):Prop
|mk (tz dz:Addr) (ts:List (List Im)) (tie:List Int) (n:Nat) (d:Dk) (_:vs=[.ref tz,.ref dz]) (_:TabG H tz ts tie n) (_:DAt H dz (n:Int) d) (_:(xQ ts (chF tie (n:Int) d.push) d.t d.hi=true->∀H',Same H H'->E (.ref M) none H')) (_:(xQ ts (chF tie (n:Int) d.push) d.t d.hi=false->∀H',Same H H'->Q .non H'))
theorem vP(T:Tx K mg a):FnOk P w K mg base (CXR P w) 4 a.A64 a.B64 ["table","deed"] (qDu a.k_Mixed):=by
 refine okX T.D64.F zf (fun vs H Q E h=>?_) (fun cdv A outer s H vs Q E hr h=>?_)
 . obtain⟨tz,dz,ts,tie,n,d,rfl,_⟩:=h
   rfl
 refine qL fun _ Y=>?_;obtain⟨tz,dz,ts,tie,n,d,rfl,hP,hD,kb,kg⟩:=h;apply Y;refine⟨_,(qC (qZ 2 zf.nd (qI T.D58 (qAw T) hr rfl (qA (pv 1) qB)))
  (qE (j6 (qXs rfl rfl rfl rfl) rfl (jM (qI T.D61 (kF T) hr rfl (qA (pv 0) (qA (pv 1) qB)))) (jA (i:=3) zf.nd rfl (Or.inl rfl)) (qE (qW (qg (qI T.D63 (qE6 T) hr rfl (qA (jU qz (qK (pv 0)) (pv 3) (fun _ _=>rfl)) (qA (qK (pv 2)) (qA (qK (pv 2)) qB))))) (qE (xt rfl rfl T.c_Mixed T.x_Mixed (qA qR qB))) qN))))),?_⟩
 try dsimp only[jN,qd]
 have one:(1:Nat)<=sizeLine:=by decide
 refine qL fun _ Y=>?_;obtain⟨tt,tl,ti,zs,e0,g2,g3,g4,g5⟩:=id hP.tab;cases e0;have hzl:=g4.len;obtain⟨hcl,hch⟩:=hP.ch d.push;apply Y;unfold xQ at kb kg;refine⟨_,O,dz,_,d,O,hD,fun p H1 e1 hp=>?_⟩;refine⟨_,rfl,_,rfl,tz,tl,ti,dz,tie,_,d,rfl,e1 _ _ g2,e1 _ _ g5,by have:=hP.tl;omega,hD.same e1,fun y H2 e2 hy hy2=>?_⟩;generalize chF tie (n:Int) d.push=ns at hy2 hcl hch kb kg;refine⟨y,O,⟨_,SqL.of hy2⟩,jn (K:=K) (a:=y) (xs:=ns.map V.int) (fun i σ H'=> ∃o:Option V,σ=[some (.ref tz),some (.ref dz),some (.ref p),o]/\Same H2 H'/\(ns.take i).any (fun k=>zA (ts.getD k.toNat []) d.t d.hi)=false) ⟨none,O,Same.refl _,O⟩ ?_ ?_ ?_⟩
 . rintro i σ H' hi ⟨o,rfl,e,_⟩
   exact SqL.of (e _ _ hy2)
 . rintro i x σ H' hx ⟨o,rfl,e,hno⟩
   refine qL fun _ Y=>?_;obtain⟨xi,hxi,rfl⟩:∃xi:Int,ns[i]?=some xi/\x=.int xi:=by
    rw[List.getElem?_map]at hx;cases hq:ns[i]? with
    |none=>rw[hq]at hx;cases hx
    |some k=>rw[hq]at hx;cases hx;exact⟨k,rfl,rfl⟩
   obtain⟨k,rfl,hk⟩:=hch xi (List.mem_of_getElem? hxi);have e02:=e1.trans (e2.trans e);have ez:zs[k]?=some zs[k]:=List.getElem?_eq_getElem (by omega);obtain⟨ms,z,hms,ezz,tT⟩:=g4.get ez;apply Y;rw[ezz]at ez;have egd:ts.getD ((k:Int)).toNat []=ms:=by rw[Int.toNat_natCast,List.getD_eq_getElem?_getD,hms];rfl
   have hml:=(hP.ok ms (List.mem_of_getElem? hms)).2;refine(ixO (e02 _ _ g2) at0 ⟨_,O,tl,_,_,_,O,O,SqL.of (e02 _ _ g3),jI ez,zS rfl (SqT.of ((e2.trans e) _ _ hp)) at0 (zS rfl (SqT.of ((e2.trans e) _ _ hp)) at1 ⟨z,ms,_,_,O,tT.same e02,by omega,fun H3 e3=>?_⟩)⟩);refine⟨_,O,?_⟩;cases ht:zA ms d.t d.hi with
   |true=>
    refine jl ⟨one,kb ?_ _ (e02.trans e3)⟩;exact List.any_eq_true.mpr ⟨_,List.mem_of_getElem? hxi,by rw[egd];exact ht⟩
   |false=>
    refine qt ⟨_,O,e.trans e3,?_⟩;rw[List.take_add_one,hxi,List.any_append,hno];show (false || (zA (ts.getD ((k:Int)).toNat []) d.t d.hi || false))=false;rw[egd,ht];rfl
 . rintro σ H' ⟨o,rfl,e,hno⟩
   rw[List.length_map,List.take_length]at hno;exact kg hno H' (e1.trans (e2.trans e))
def qp(ms:List Im):Int:=(ms.map Im.mo).sum
def qKx(ms:List Im)(lo hi:Int)(ls:List Im):List Im:=xf 0 (zG 0 lo 0 ms++[.gap (vJ (lo-qp ms) 0)]++ls++zG hi (qp ms) 0 ms)
inductive qP5(vs:List V)(H:Hp)(Q:VK)(_:XK):Prop
|mk (z l:Addr) (ms ls:List Im) (lo hi:Int) (_:vs=[.ref z,.int lo,.int hi,.ref l]) (_:Tr H z ms) (_:Tr H l ls) (_:MsB ms) (_:ms.length<=100) (_:ls.length<=10) (_:0<=hi) (_:hi<=2 ^ 500) (_:∀(y:Addr) (H':Hp),Same H H'->H y=none->Tr H' y (qKx ms lo hi ls)->Q (.ref y) H')
theorem qOf(T:Tx K mg a):FnOk P w K mg base CX0 8 a.A71 a.B71 ["track","low","high","laid"] qP5:=by
 refine T.D71.F.ok qHu (fun vs H Q E h=>?_) (fun cdv A outer s H vs Q E hr h=>?_)
 . obtain⟨z,l,ms,ls,lo,hi,rfl,_⟩:=h
   rfl
 refine qL fun _ Y=>?_;obtain⟨z,l,ms,ls,lo,hi,rfl,tT,tL,hB,hl1,hl2,h0,h1,kk⟩:=h;apply Y;refine⟨_,(qC (qZ 4 qHu.nd (ql (qA qR (qA (qU (qA1 rfl) rfl T.b_max rfl (qA (qQ jS (pv 1) (qI T.D26 (qCm T) hr rfl (qA (pv 0) qB))) (qA qG qB))) qB))))
  (qE (qM (qI T.D25 (qDy T) hr rfl (qA (qQ qAt (qQ qAt (qQ qAt (qI T.D37 (vH T) hr rfl (qA (pv 0) (qA qG (qA (pv 1) qB)))) (jR (qA (pv 4) qB))) (pv 3)) (qI T.D37 (vH T) hr rfl (qA (pv 0) (qA (pv 2) (qA (qI T.D26 (qCm T) hr rfl (qA (pv 0) qB)) qB))))) qB))))),?_⟩
 try dsimp only[jN,qd]
 have two:(2:Nat)<=sizeLine:=by decide
 have one:(1:Nat)<=sizeLine:=by decide
 have sm:∀j:Nat,j<=1000->j<=sizeLine:=fun j h=>by have:=qc (n:=j) (by omega);omega
 refine⟨_,O,_,O,z,ms,O,tT,by omega,fun H1 e1=>?_⟩;refine⟨_,_,O,O,_,_,O,two,fun g hg=>?_⟩;have w2:=qF hg (.tup [.str "gap",.int (if (0:Int)>lo-(ms.map Im.mo).sum then 0 else lo-(ms.map Im.mo).sum)]);have kg:upd H1 g (.tup [.str "gap",.int (if (0:Int)>lo-(ms.map Im.mo).sum then 0 else lo-(ms.map Im.mo).sum)]) g=some (.tup [.str "gap",.int (vJ (lo-qp ms) 0)]):=qD;have e2:=e1.trans w2;change _;generalize upd H1 g (.tup [.str "gap",.int (if (0:Int)>lo-(ms.map Im.mo).sum then 0 else lo-(ms.map Im.mo).sum)])=H2 at w2 kg e2;refine⟨_,rfl,_,rfl,z,ms,0,lo,rfl,tT.same e2,hB,by decide,by decide,fun y1 H3 e3 hy1 ⟨us1,k1,i1⟩=>?_⟩;have n1:=i1.len;have n1':=qDi 0 lo 0 ms;refine⟨_,O,one,fun l2 hl2=>?_⟩;have w4:=qF hl2 (.lst [.ref g]);refine⟨y1,l2,_,_,O,O,w4 _ _ k1,qD,sm _ (by show us1.length+1<=1000;omega),fun y2 hy2=>?_⟩;have w5:=qF hy2 (.lst (us1++[.ref g]));have w45:=w4.trans w5;have e5:=(e2.trans e3).trans w45;have k2:(upd (upd H3 l2 (.lst [.ref g])) y2 (.lst (us1++[.ref g]))) y2=some (.lst (us1++[.ref g])):=qD;have i2:IsIs (upd (upd H3 l2 (.lst [.ref g])) y2 (.lst (us1++[.ref g]))) (zG 0 lo 0 ms++[.gap (vJ (lo-qp ms) 0)]) (us1++[.ref g]):=(i1.ts (qY w45)).app (.one (isG ((e3.trans w45) _ _ kg)));change _;generalize upd (upd H3 l2 (.lst [.ref g])) y2 (.lst (us1++[.ref g]))=H5 at w45 e5 k2 i2;refine qL fun _ Y=>?_;obtain⟨ul,kl,il⟩:=tL.same e5;apply Y;have nl:=il.len;have n2:=i2.len;rw[List.length_append,List.length_append]at n2;refine⟨_,O,y2,l,_,_,O,O,k2,kl,sm _ (by rw[List.length_append];show us1.length+1+ul.length<=1000;omega),fun y3 hy3=>?_⟩;have w6:=qF hy3 (.lst (us1++[.ref g]++ul));have e6:=e5.trans w6;have k3:(upd H5 y3 (.lst (us1++[.ref g]++ul))) y3=some (.lst (us1++[.ref g]++ul)):=qD;have i3:IsIs (upd H5 y3 (.lst (us1++[.ref g]++ul))) (zG 0 lo 0 ms++[.gap (vJ (lo-qp ms) 0)]++ls) (us1++[.ref g]++ul):=(i2.app il).ts (qY w6);change _;generalize upd H5 y3 (.lst (us1++[.ref g]++ul))=H6 at w6 e6 k3 i3;refine⟨_,O,_,O,_,O,z,ms,O,tT.same e6,by omega,fun H7 e7=>?_⟩;refine⟨z,ms,hi,qp ms,rfl,tT.same (e6.trans e7),hB,h0,h1,fun y4 H8 e8 hy4 ⟨us4,k4,i4⟩=>?_⟩;have n4:=i4.len;have n4':=qDi hi (qp ms) 0 ms;have e78:=e7.trans e8;have hlen:(us1++[V.ref g]++ul).length=us1.length+1+ul.length:=by rw[List.length_append,List.length_append];rfl
 refine⟨y3,y4,_,_,O,O,e78 _ _ k3,k4,sm _ (by omega),fun y5 hy5=>?_⟩;have w9:=qF hy5 (.lst (us1++[.ref g]++ul++us4));have e9:=(e6.trans e78).trans w9;refine⟨y5,_,O,⟨_,qD,((i3.ts (qY e78)).app i4).ts (qY w9)⟩,?_,fun y H10 e10 hy tY=>kk y H10 (e9.trans e10) (e9.free hy) tY⟩;rw[List.length_append,List.length_append,List.length_append];show (zG 0 lo 0 ms).length+1+ls.length+(zG hi (qp ms) 0 ms).length<=300;omega
def LayOk(H:Hp)(rd:Addr):Im->Prop
 |.clip n p q r s l=> ∃N,Reel H rd n N/\GF n p q r s l/\InR (Vk p q r s 0) (q*s) N/\InR (Vk p q r s (l-1)) (q*s) N
 |.nest n b l=>qFo n=true/\0<=b/\1<=l
 |_=>False
theorem LayOk.same{H H':Hp}{rd:Addr}{m:Im}(e:Same H H')(h:LayOk H rd m):LayOk H' rd m:=by
 cases m with
 |clip n p q r s l=>obtain⟨N,h1,h2⟩:=h;exact⟨N,h1.same e,h2⟩
 |nest n b l=>exact h
 |gap=>exact h
 |mix=>exact h
def DOk(H:Hp)(rd:Addr)(ms:List Im):Dk->Prop
 |.cut t=>0<=t/\t<=2 ^ 400/\vt ms t=true
 |.hel _=>False
 |.opn t l=>0<=t/\t<=2 ^ 400/\1<=l
 |.cls t u=>0<=t/\t<u/\u<=2 ^ 400
 |.lft t u=>0<=t/\t<u/\u<=2 ^ 400
 |.lin t m=>0<=t/\t<=2 ^ 400/\LayOk H rd m
 |.lov t m=>0<=t/\t<=2 ^ 400/\LayOk H rd m/\0<=m.mo/\m.mo<=2 ^ 400
def Dk.lay:Dk->Option Im
 |.lin _ m=>some m
 |.lov _ m=>some m
 |_=>none
theorem Dk.lay_in(d:Dk):inV (.str d.wd) [.str "lay_in",.str "lay_over"]=d.lay.isSome:=by
 cases d with
 |cut t=>show inV (.str "cut") _=false;decide+kernel
 |hel t=>show inV (.str "heal") _=false;decide+kernel
 |opn t l=>show inV (.str "open") _=false;decide+kernel
 |cls t u=>show inV (.str "close") _=false;decide+kernel
 |lft t u=>show inV (.str "lift") _=false;decide+kernel
 |lin t m=>show inV (.str "lay_in") _=true;decide+kernel
 |lov t m=>show inV (.str "lay_over") _=true;decide+kernel
theorem DAt.lay{H:Hp}{dz:Addr}{n:Int}{d:Dk}{m:Im}(h:DAt H dz n d)(hl:d.lay=some m):∃xs v,H dz=some (.tup xs)/\atI xs 3=some v/\IsI H m v:=by
 cases d with
 |lin t m'=>cases hl;obtain⟨v,h1,h2⟩:=h;exact⟨_,v,h1,rfl,h2⟩
 |lov t m'=>cases hl;obtain⟨v,h1,h2⟩:=h;exact⟨_,v,h1,rfl,h2⟩
 |_=>cases hl
theorem DOk.lay{H:Hp}{rd:Addr}{ms:List Im}{d:Dk}{m:Im}(h:DOk H rd ms d)(hl:d.lay=some m):LayOk H rd m:=by
 cases d with
 |lin t m'=>cases hl;exact h.2.2
 |lov t m'=>cases hl;exact h.2.2.1
 |_=>cases hl
theorem DOk.ch{H:Hp}{rd:Addr}{ms:List Im}{d:Dk}(h:DOk H rd ms d):inV (.str d.wd) [.str "cut",.str "lay_in",.str "open",.str "close",.str "lift",.str "lay_over"]=true:=by
 cases d with
 |cut t=>show inV (.str "cut") _=true;decide+kernel
 |hel t=>exact h.elim
 |opn t l=>show inV (.str "open") _=true;decide+kernel
 |cls t u=>show inV (.str "close") _=true;decide+kernel
 |lft t u=>show inV (.str "lift") _=true;decide+kernel
 |lin t m=>show inV (.str "lay_in") _=true;decide+kernel
 |lov t m=>show inV (.str "lay_over") _=true;decide+kernel
theorem Dk.cut_wd{d:Dk}(h:d.wd="cut"):∃t,d=.cut t:=by
 cases d with
 |cut t=>exact⟨t,rfl⟩
 |hel t=>exact absurd (show ("heal":Str)="cut" from h) (by decide+kernel)
 |opn t l=>exact absurd (show ("open":Str)="cut" from h) (by decide+kernel)
 |cls t l=>exact absurd (show ("close":Str)="cut" from h) (by decide+kernel)
 |lft t l=>exact absurd (show ("lift":Str)="cut" from h) (by decide+kernel)
 |lin t l=>exact absurd (show ("lay_in":Str)="cut" from h) (by decide+kernel)
 |lov t l=>exact absurd (show ("lay_over":Str)="cut" from h) (by decide+kernel)
theorem DOk.same{H H':Hp}{rd:Addr}{ms:List Im}{d:Dk}(e:Same H H')(h:DOk H rd ms d):DOk H' rd ms d:=by
 cases d with
 |lin t m=>exact⟨h.1,h.2.1,h.2.2.same e⟩
 |lov t m=>exact⟨h.1,h.2.1,h.2.2.1.same e,h.2.2.2⟩
 |_=>exact h
inductive ChO(K:W.Frag)(H:Hp)(rd dz:Addr)(n:Nat)(ts:List (List Im))(tie:List Int)(ms:List Im):Nat->Prop where
 |cut0 {t:Int} (hd:H dz=some (.tup [.str "cut",.int (n:Int),.int t])) (h:vt ms t=false):ChO K H rd dz n ts tie ms 0
 |ok {d:Dk} {c:Nat} (hD:DAt H dz (n:Int) d) (hO:DOk H rd ms d) (hc:c=if xQ ts (chF tie (n:Int) d.push) d.t d.hi=true then 1 else 2):ChO K H rd dz n ts tie ms c
theorem ChO.same{H H':Hp}(e:Same H H'){rd dz:Addr}{n:Nat}{ts:List (List Im)}{tie:List Int}{ms:List Im}{c:Nat}(h:ChO K H rd dz n ts tie ms c):ChO K H' rd dz n ts tie ms c:=by
 cases h with
 |cut0 hd h=>exact .cut0 (e _ _ hd) h
 |ok hD hO hc=>exact .ok (hD.same e) (hO.same e) hc
inductive qC4(K:W.Frag)(N M:Addr)(vs:List V)(H:Hp)(Q:VK)(E:XK):Prop
|mk (tz dz rd:Addr) (ts:List (List Im)) (tie:List Int) (n:Nat) (ms:List Im) (c:Nat) (_:vs=[.ref tz,.ref dz,.ref rd]) (_:TabG H tz ts tie n) (_:ts[n]?=some ms) (_:ChO K H rd dz n ts tie ms c) (_:(c=0->∀H',Same H H'->E (.ref N) none H')) (_:(c=1->∀H',Same H H'->E (.ref M) none H')) (_:(c=2->∀H',Same H H'->Q .non H'))
theorem qC0(T:Tx K mg a):FnOk P w K mg base (CXR P w) 7 a.A65 a.B65 ["table","deed","reels"] (qC4 K a.k_NoPlace a.k_Mixed):=by
 refine okX T.D65.F qD2 (fun vs H Q E h=>?_) (fun cdv A outer s H vs Q E hr h=>?_)
 . obtain⟨tz,dz,rd,ts,tie,n,ms,c,rfl,_⟩:=h
   rfl
 refine qL fun _ Y=>?_;obtain⟨tz,dz,rd,ts,tie,n,ms,c,rfl,hP,hms,hC,k0,k1,k2⟩:=h;apply Y;refine⟨_,(qC (qW (qJ vR (qK (pv 1)) (jq (v:=.ref a.n_CHANGES) rfl T.g_CHANGES rfl) rfl) (qE (xt rfl rfl T.c_NoPlace T.x_NoPlace (qA qR qB))) qN)
  (qC (zC (qW (PW.pt (xW (qJ ja (qK (pv 1)) qR (qP _)) (xA (q8 (qg (qI T.D35 (qFl T) hr rfl (qA (jU qz (qK (pv 0)) (qK (pv 1)) (fun _ _=>rfl)) (qA (qK (pv 1)) qB)))))))) (qE (xt rfl rfl T.c_NoPlace T.x_NoPlace (qA qR qB))) qN))
  (qC (zC (qW (PW.pt (xW (qJ jc (qK (pv 1)) (jq (v:=.ref a.n_LAYS) rfl T.g_LAYS rfl) rfl) (xA (q8 (qg (qI T.D22 (vI T) hr rfl (qA (qK (pv 1)) qB))))))) (qE (q9 (qI T.D15 (qBd T) hr rfl (qA (qK (pv 1)) (qA (pv 2) qB))))) qN))
  (qE (q9 (xP T.D64 (vP T) hr rfl (qA (pv 0) (qA (pv 1) qB)))))))),?_⟩
 try dsimp only[jN,qd]
 have one:(1:Nat)<=sizeLine:=by decide
 refine qL fun _ Y=>?_;obtain⟨tt,tl,ti,zs,e0,g2,g3,g4,g5⟩:=id hP.tab;cases e0;have hzl:=g4.len;have hnt:=hP.nt;have ez:zs[n]?=some (zs[n]'(by omega)):=List.getElem?_eq_getElem (by omega);obtain⟨ms',z,hms',ezz,tT⟩:=g4.get ez;rw[hms]at hms';cases hms';apply Y;rw[ezz]at ez;cases hC with
 | @cut0 t hd h=>
  have a0:atI [V.str "cut",.int (n:Int),.int t] 0=some (.str "cut"):=rfl;have a1:atI [V.str "cut",.int (n:Int),.int t] 1=some (.int (n:Int)):=rfl;have a2:atI [V.str "cut",.int (n:Int),.int t] 2=some (.int t):=rfl;refine(ixO hd a0 ⟨a.n_CHANGES,_,O,.inr (T.sq_CHANGES _),O,O,false,qPx (b:=true) (by decide+kernel),qt ?_⟩);refine⟨fun σ H1=>False,?_,fun _ _ h=>h.elim⟩;refine(ixO hd a0 ⟨O,_,O,v9 (by decide+kernel) ?_⟩);refine(ixO g2 at0 (ixO hd a1 ⟨tl,_,_,_,O,O,SqL.of g3,jI ez,ixO hd a2 ⟨z,ms,t,O,tT,fun H1 e1=>?_⟩⟩));rw[h];exact⟨false,O,jl ⟨one,k0 rfl H1 e1⟩⟩
 | @ok d c hD hO hc=>
  refine qL fun _ Y=>?_;obtain⟨xs,hd,a0,a1,a2⟩:=hD.opn;apply Y;refine(ixO hd a0 ⟨a.n_CHANGES,_,O,.inr (T.sq_CHANGES _),O,O,false,qPx hO.ch,qt ?_⟩);refine⟨fun σ H1=>σ=[some (.ref tz),some (.ref dz),some (.ref rd)]/\Same H H1,?_,?_⟩
  . refine(ixO hd a0 ⟨O,_,O,jo (fun c=>?_) (fun c=>qt ⟨O,Same.refl _⟩)⟩)
    obtain⟨t,rfl⟩:=Dk.cut_wd (by simpa using c);refine(ixO g2 at0 (ixO hd a1 ⟨tl,_,_,_,O,O,SqL.of g3,jI ez,ixO hd a2 ⟨z,ms,t,O,tT,fun H1 e1=>?_⟩⟩));rw[hO.2.2];exact⟨true,O,qt ⟨O,e1⟩⟩
  rintro σ H1 ⟨rfl,e1⟩;refine⟨fun σ H2=>σ=[some (.ref tz),some (.ref dz),some (.ref rd)]/\Same H H2,?_,?_⟩
  . refine(ixO (e1 _ _ hd) a0 ⟨a.n_LAYS,_,O,.inr (T.sq_LAYS _),O,O,d.lay.isSome,xg d.lay_in,?_⟩)
    cases hl:d.lay with
    |none=>exact qt (qt ⟨rfl,e1⟩)
    |some m=>
     refine qL fun _ Y=>?_;obtain⟨xs',v,hd',a3,hI⟩:=(hD.same e1).lay hl;apply Y;have hL:=(hO.lay hl).same e1;cases m with
     |nest nn b l=>
      exact jl (ixO hd' a3 ⟨v,_,O,hI,hL,fun H2 e2=>⟨true,O,qt ⟨O,e1.trans e2⟩⟩⟩)
     |gap l=>exact hL.elim
     |mix l=>exact hL.elim
     |clip nn p q r s1 l=>
      refine qL fun _ Y=>?_;obtain⟨N,hr1,hg,i0,i1⟩:=hL;apply Y;refine jl (ixO hd' a3 ⟨v,_,O,hI,trivial,fun H2 e2=>⟨false,O,jl ?_⟩⟩);exact(ixO (e2 _ _ hd') a3 ⟨_,O,v,rd,_,_,_,_,_,_,N,O,hI.ts (qY e2),hg,hr1.same e2,i0,i1,fun H3 e3=>⟨O,(e1.trans e2).trans e3⟩⟩)
  rintro σ H2 ⟨rfl,e2⟩;refine⟨_,O,_,O,tz,dz,ts,tie,n,d,O,hP.same e2,hD.same e2,fun ht H3 e3=>?_,fun ht H3 e3=>?_⟩
  . rw[ht,if_pos rfl]at hc
    exact k1 hc H3 (e2.trans e3)
  . rw[ht,if_neg (by decide)]at hc
    exact k2 hc H3 (e2.trans e3)
def goB(n n':Str)(p q r s len p' q' r' s':Int):Bool:=decide (n=n') && ((r==r' && s==s') && (p'==plP p q r s len && q'==plQ p q r s len))
inductive qNt(K:W.Frag)(vs:List V)(H:Hp)(Q:VK)(_:XK):Prop
|mk (v u:V) (n n':Str) (p q r s len p' q' r' s' len':Int) (_:vs=[v,u]) (_:Cp K H v n p q r s len) (_:Cp K H u n' p' q' r' s' len') (_:Bn 700 p q r s) (_:len.natAbs<2 ^ 700) (_:∀H',Same H H'->Q (.bl (goB n n' p q r s len p' q' r' s')) H')
theorem qM1(T:Tx K mg a):FnOk P w K mg base CX0 5 a.A17 a.B17 ["one","other"] (qNt K):=by
 refine T.D17.F.ok qNw (fun vs H Q E h=>?_) (fun cdv A outer s H vs Q E hr h=>?_)
 . obtain⟨v,u,n,n',p,q,r,s,len,p',q',r',s',len',rfl,_⟩:=h
   rfl
 refine qL fun _ Y=>?_;obtain⟨v,u,n,n',p,q,r,s,len,p',q',r',s',len',rfl,hc,hd,⟨hq,hs,bp,bq,br,bs⟩,bl,kk⟩:=h;apply Y;have hu:=hr.units0;refine⟨_,(qC (qW (PW.pt (jd (qJ zD (qK (pv 0)) (qK (pv 1)) (qP _)) (jK (qJ (qV8 hu) (qK (pv 0)) (qK (pv 1)) (qP _))))) (qE (qM xk)) qN)
  (qE (qM (jL (qSg hu) (qK (pv 1)) (qI T.D12 (zP T) hr rfl (qA (pv 0) (qA (qK (pv 0)) qB))) (qP _))))),?_⟩
 try dsimp only[jN,qd]
 have hc0:=hc;refine qL fun _ Y=>?_;obtain⟨z,z1,z2,e,h0,h1,h2⟩:=hc0.ex;subst e;obtain⟨y,y1,y2,e,d0,d1,d2⟩:=hd.ex;subst e;apply Y;refine(zS rfl h0 qI7 ⟨_,O,y,_,_,_,O,O,d0,qI7,O,_,O,?_⟩);by_cases en:n=n'
 rotate_left
 . have e:(!decide (V.str n=V.str n'))=true:=by simp[en]
   rw[e];refine jl (jl ?_);have g:goB n n' p q r s len p' q' r' s'=false:=by simp[goB,en]
   have:=kk H (Same.refl _);rw[g]at this;exact this
 have e:(!decide (V.str n=V.str n'))=false:=by simp[en]
 rw[e];refine qt ?_;refine(zS rfl h0 qKe ⟨_,O,y,_,_,_,O,O,d0,qKe,_,_,_,_,O,O,h2,d2,O,O,_,O,?_⟩);rw[eq2];by_cases er:(r==r' && s==s')=true
 rotate_left
 . have er':(r==r' && s==s')=false:=by simpa using er
   rw[er'];refine jl ?_;have g:goB n n' p q r s len p' q' r' s'=false:=by unfold goB;rw[er'];simp
   have:=kk H (Same.refl _);rw[g]at this;exact this
 rw[er];refine qt ?_;refine⟨_,O,y,_,_,_,O,O,d0,qT4,_,O,zS rfl h0 qCq ⟨_,n,p,q,r,s,len,len,O,hc,hq,hs,bp,bq,br,bs,bl,fun x H1 s1 e1=>?_⟩⟩;refine⟨_,_,_,_,O,O,L3.Same.tup s1 d1,SqT.of e1,O,O,?_⟩;have g:goB n n' p q r s len p' q' r' s'=(if false=true then !qIy [.int p',.int q'] [.int (xB (p*s+len*r*q) (q*s)),.int (jh (p*s+len*r*q) (q*s))]else qIy [.int p',.int q'] [.int (xB (p*s+len*r*q) (q*s)),.int (jh (p*s+len*r*q) (q*s))]):=by rw[if_neg (by decide),eq2];unfold goB;rw[er];simp[en,plP,plQ]
 rw[<-g];exact kk H1 s1
theorem qS2{x0 x1 x2:V}:atI [x0,x1,x2] 1=some x1:=rfl
theorem qVx{x0 x1 x2:V}:atI [x0,x1,x2] 2=some x2:=rfl
theorem qDb(vs:List V)(i:Nat):zT vs none (some (i:Int))=vs.take i:=by
 unfold zT;rw[HT.sIx_none,HT.sIx_nat,List.drop_zero,Nat.sub_zero];by_cases h:i<=vs.length
 . rw[Nat.min_eq_left h]
 . rw[Nat.min_eq_right (by omega),List.take_of_length_le (Nat.le_refl _),List.take_of_length_le (by omega)]
theorem qHl(vs:List V)(i:Nat):zT vs (some (i:Int)) none=vs.drop i:=by
 unfold zT;rw[HT.sIx_none,HT.sIx_nat];by_cases h:i<=vs.length
 . rw[Nat.min_eq_left h,List.take_of_length_le (by rw[List.length_drop];omega)]
 . rw[Nat.min_eq_right (by omega),List.drop_of_length_le (by omega),List.drop_of_length_le (by omega)]
   simp
theorem IsIs.take{H:Hp}:∀{ms:List Im} {vs:List V} {i:Nat},IsIs H ms vs->IsIs H (ms.take i) (vs.take i)
 |[],[],_,_=>by simp[IsIs]
 |_::_,_::_,0,_=>trivial
 |_::_,_::_,_+1,h=>⟨h.1,h.2.take⟩
 |[],_::_,_,h=>h.elim
 |_::_,[],_,h=>h.elim
theorem IsIs.drop{H:Hp}:∀{ms:List Im} {vs:List V} {i:Nat},IsIs H ms vs->IsIs H (ms.drop i) (vs.drop i)
 |[],[],_,_=>by simp[IsIs]
 |_::_,_::_,0,h=>h
 |_::_,_::_,_+1,h=>h.2.drop (i:=_)
 |[],_::_,_,h=>h.elim
 |_::_,[],_,h=>h.elim
theorem DOk.hi{H:Hp}{rd:Addr}{ms:List Im}{d:Dk}(h:DOk H rd ms d):0<=d.t/\0<=d.hi/\d.hi<=2 ^ 500:=by
 have e:(2:Int) ^ 400+2 ^ 400<=2 ^ 500:=by decide
 have e2:(0:Int)<=2 ^ 400:=by decide
 generalize (2:Int) ^ 500=B at e⊢;cases d with
 |cut t=>obtain⟨h1,h2,_⟩:=h;exact⟨h1,h1,by show t<=B;omega⟩
 |hel t=>exact h.elim
 |opn t l=>obtain⟨h1,h2,_⟩:=h;exact⟨h1,h1,by show t<=B;omega⟩
 |cls t u=>obtain⟨h1,h2,h3⟩:=h;exact⟨h1,by show 0<=u;omega,by show u<=B;omega⟩
 |lft t u=>obtain⟨h1,h2,h3⟩:=h;exact⟨h1,by show 0<=u;omega,by show u<=B;omega⟩
 |lin t m=>obtain⟨h1,h2,_⟩:=h;exact⟨h1,h1,by show t<=B;omega⟩
 |lov t m=>obtain⟨h1,h2,h3,h4,h5⟩:=h;exact⟨h1,by show 0<=t+m.mo;omega,by show t+m.mo<=B;omega⟩
def qXu(ms:List Im)(t:Int):Prop:=cbF ms t=none\/∃i j:Int,cbF ms t=some (i,j)/\j≠i+1
structure TabD(H:Hp)(tz rd:Addr)(rl:Rls)(ts:List (List Im))(tie:List Int):Prop where
 tab:TabF H (.ref tz) ts tie
 ok:∀ms∈ts,MsB ms/\ms.length<=100/\∀m∈ms,ItR rl m
 len:ts.length<=8
 tl:tie.length<=8
 tin:∀x∈tie,∃k:Nat,x=(k:Int)/\k<ts.length
 re:ReelsAt H rd rl
theorem TabD.g{H:Hp}{tz rd:Addr}{rl:Rls}{ts:List (List Im)}{tie:List Int}{n:Nat}(h:TabD H tz rd rl ts tie)(hn:n<ts.length):TabG H tz ts tie n:=⟨h.tab,fun ms hm=>⟨(h.ok ms hm).1,(h.ok ms hm).2.1⟩,hn,h.len,h.tl,h.tin⟩
theorem TabD.same{H H':Hp}{tz rd:Addr}{rl:Rls}{ts:List (List Im)}{tie:List Int}(e:Same H H')(h:TabD H tz rd rl ts tie):TabD H' tz rd rl ts tie:=⟨h.tab.same e,h.ok,h.len,h.tl,h.tin,h.re.same e⟩
instance (w:Str):Decidable (Wd3 w):=by unfold Wd3;infer_instance
theorem qL9{w:Str}:inV (.str w) [.str "roll",.str "slip",.str "slide"]=decide (Wd3 w):=by
 by_cases h1:w="roll"
 . subst h1;decide+kernel
 by_cases h2:w="slip"
 . subst h2;decide+kernel
 by_cases h3:w="slide"
 . subst h3;decide+kernel
 have:¬Wd3 w:=by rintro(h|h|h);exact h1 h;exact h2 h;exact h3 h
 rw[decide_eq_false this];simp[inV,eqV,h1,h2,h3,Ne.symm h1,Ne.symm h2,Ne.symm h3]
def qBi(d:Dk)(n k:Int):List Im:=if k=n then d.laid else d.laid.map fun m=>.gap m.mo
def qN1(ts0:List (List Im))(d:Dk)(n:Int)(ns:List Int):List (List Im):=ns.foldl (fun ts k=>ts.set k.toNat (qKx (ts0.getD k.toNat []) d.t d.hi (qBi d n k))) ts0
theorem qOp(ts0:List (List Im))(d:Dk)(n:Int):∀ns:List Int,(qN1 ts0 d n ns).length=ts0.length:=fun ns=>by
 unfold qN1;have:∀(ns:List Int) (ts:List (List Im)),(ns.foldl (fun ts k=>ts.set k.toNat (qKx (ts0.getD k.toNat []) d.t d.hi (qBi d n k))) ts).length=ts.length:=fun ns=>by
  induction ns with
  |nil=>intro ts;rfl
  |cons k ns ih=>intro ts;rw[List.foldl_cons,ih,List.length_set]
 exact this ns ts0
theorem qRs(ts0:List (List Im))(d:Dk)(n:Int)(ns:List Int)(k:Int):qN1 ts0 d n (ns++[k])=(qN1 ts0 d n ns).set k.toNat (qKx (ts0.getD k.toNat []) d.t d.hi (qBi d n k)):=by unfold qN1;rw[List.foldl_append];rfl
inductive qIw(vs:List V)(H:Hp)(Q:VK)(_:XK):Prop
|mk (tz dz rd:Addr) (ts:List (List Im)) (tie:List Int) (n:Nat) (d:Dk) (ms:List Im) (_:vs=[.ref tz,.ref dz]) (_:TabG H tz ts tie n) (_:DAt H dz (n:Int) d) (_:DOk H rd ms d) (_:∀(t:Addr) (H':Hp),Same H H'->TabF H' (.ref t) (qN1 ts d (n:Int) (chF tie (n:Int) d.push)) tie->Q (.ref t) H')
theorem qI0(T:Tx K mg a):FnOk P w K mg base CX0 9 a.A72 a.B72 ["table","deed"] qIw:=by
 refine T.D72.F.ok x9 (fun vs H Q E h=>?_) (fun cdv A outer s H vs Q E hr h=>?_)
 . obtain⟨tz,dz,rd,ts,tie,n,d,ms,rfl,_⟩:=h
   rfl
 refine qL fun _ Y=>?_;obtain⟨tz,dz,rd,ts,tie,n,d,ms,rfl,hP,hD,hO,kk⟩:=h;apply Y;refine⟨_,(qC (qZ 2 x9.nd (qI T.D58 (qAw T) hr rfl (qA (pv 1) qB)))
  (qC (qZ 3 x9.nd (pv 0))
  (qC (j6 PassesOwn.never rfl (jM (qI T.D61 (kF T) hr rfl (qA (pv 0) (qA (pv 1) qB)))) (jA (i:=4) x9.nd rfl (Or.inl rfl)) (qC (zC (qZ 5 x9.nd (vA (qJ ja (pv 4) (qK (pv 1)) (qP _)) (qI T.D59 (qF4 T) hr rfl (qA (pv 1) qB)) (qI T.D60 (qEo T) hr rfl (qA (pv 1) qB)))))
  (qE (qZ 3 x9.nd (qI T.D56 (jz T) hr rfl (qA (pv 3) (qA (pv 4) (qA (qI T.D71 (qOf T) hr rfl (qA (jU qz (qK (pv 0)) (pv 4) (fun _ _=>rfl)) (qA (qK (pv 2)) (qA (qK (pv 2)) (qA (pv 5) qB))))) qB))))))))
  (qE (qM (pv 3)))))),?_⟩
 try dsimp only[jN,qd]
 refine qL fun _ Y=>?_;obtain⟨tt,tl,ti,zs,e0,g2,g3,g4,g5⟩:=id hP.tab;cases e0;have hzl:=g4.len;obtain⟨hcl,hch⟩:=hP.ch d.push;obtain⟨xs,hd,a0,a1,a2⟩:=hD.opn;obtain⟨ht0,hh0,hh1⟩:=hO.hi;apply Y;refine⟨_,O,dz,_,d,O,hD,fun p H1 e1 hp=>?_⟩;refine⟨_,rfl,_,rfl,_,rfl,tz,tl,ti,dz,tie,_,d,rfl,e1 _ _ g2,e1 _ _ g5,by have:=hP.tl;omega,hD.same e1,fun y H2 e2 hy hy2=>?_⟩;generalize chF tie (n:Int) d.push=ns at hy2 hcl hch kk;refine⟨y,O,⟨_,SqL.of hy2⟩,jn (K:=K) (a:=y) (xs:=ns.map V.int) (fun i σ H'=> ∃(o1 o2:Option V) (tt':Addr),σ=[some (.ref tz),some (.ref dz),some (.ref p),some (.ref tt'),o1,o2]/\TabF H' (.ref tt') (qN1 ts d (n:Int) (ns.take i)) tie/\Same H2 H') ⟨none,none,tz,O,(hP.tab.same e1).same e2,Same.refl _⟩ ?_ ?_ ?_⟩
 . rintro i σ H' hi ⟨o1,o2,tt',rfl,_,e⟩
   exact SqL.of (e _ _ hy2)
 . rintro i x σ H' hx ⟨o1,o2,tt',rfl,hT',e⟩
   refine qL fun _ Y=>?_;obtain⟨xi,hxi,rfl⟩:∃xi:Int,ns[i]?=some xi/\x=.int xi:=by
    rw[List.getElem?_map]at hx;cases hq:ns[i]? with
    |none=>rw[hq]at hx;cases hx
    |some k=>rw[hq]at hx;cases hx;exact⟨k,rfl,rfl⟩
   obtain⟨k,rfl,hk⟩:=hch xi (List.mem_of_getElem? hxi);have e02:=e1.trans (e2.trans e);have ez:zs[k]?=some (zs[k]'(by omega)):=List.getElem?_eq_getElem (by omega);obtain⟨ms1,z,hms,ezz,tT⟩:=g4.get ez;rw[ezz]at ez;obtain⟨hMB,hM1⟩:=hP.ok ms1 (List.mem_of_getElem? hms);apply Y;have dl:=d.laid_len;have egd:ts.getD ((k:Int)).toNat []=ms1:=by rw[Int.toNat_natCast,List.getD_eq_getElem?_getD,hms];rfl
   refine⟨fun σ H3=> ∃(l:Addr),σ=[some (.ref tz),some (.ref dz),some (.ref p),some (.ref tt'),some (.int (k:Int)),some (.ref l)]/\Same H' H3/\Tr H3 l (qBi d (n:Int) (k:Int)),?_,?_⟩
   . unfold qBi
     refine⟨_,O,ixO (e02 _ _ hd) a1 ⟨O,_,O,jo (fun c=>?_) (fun c=>?_)⟩⟩
     . have hc:(k:Int)=(n:Int):=by have:V.int (k:Int)=V.int (n:Int):=by simpa using c
                                   exact V.int.inj this
       rw[if_pos hc];exact⟨_,O,dz,_,d,O,hD.same e02,fun l H3 e3 hl tL=>⟨l,O,e3,tL⟩⟩
     . have hc:¬(k:Int)=(n:Int):=fun z=>by rw[z]at c;simp at c
       rw[if_neg hc];exact⟨_,O,dz,_,d,O,hD.same e02,fun l H3 e3 hl tL=>⟨l,O,e3,tL⟩⟩
   rintro σ H3 ⟨l,rfl,e3,tL⟩;have hls:(qBi d (n:Int) (k:Int)).length<=10:=by
    unfold qBi;split
    . omega
    . rw[List.length_map];omega
   have e03:=e02.trans e3;refine⟨_,O,_,O,ixO (e03 _ _ g2) at0 ⟨_,O,tl,_,_,_,O,O,SqL.of (e03 _ _ g3),jI ez,zS rfl (SqT.of ((e2.trans (e.trans e3)) _ _ hp)) at0 (zS rfl (SqT.of ((e2.trans (e.trans e3)) _ _ hp)) at1 ⟨_,O,z,l,ms1,_,_,_,O,tT.same e03,tL,hMB,hM1,hls,hh0,hh1,fun yy H4 e4 hyy tY=>?_⟩)⟩⟩;refine⟨tt',yy,k,_,tie,_,rfl,(hT'.same e3).same e4,tY,by rw[qOp];omega,by rw[qOp];have:=hP.len;omega,fun t H5 e5 hN=>?_⟩;have ets:qN1 ts d (n:Int) (ns.take (i+1))=(qN1 ts d (n:Int) (ns.take i)).set k (qKx ms1 d.t d.hi (qBi d (n:Int) (k:Int))):=by rw[List.take_add_one,hxi];show qN1 ts d (n:Int) (ns.take i++[(k:Int)])=_;rw[qRs,egd,Int.toNat_natCast]
   rw[ets];exact⟨_,_,t,O,hN,((e.trans e3).trans e4).trans e5⟩
 . rintro σ H' ⟨o1,o2,tt',rfl,hN,e⟩
   rw[List.length_map,List.take_length]at hN;exact⟨_,O,kk _ H' (e1.trans (e2.trans e)) hN⟩
def tbF(ms:List Im)(k:Nat):Int:=if k=0 then 0 else match ms[k-1]? with
 |some (.mix l)=>l-l.fdiv 2
 |_=>0
def teF(ms:List Im)(k:Nat):Int:=match ms[k+1]? with
 |some (.mix l)=>l.fdiv 2
 |_=>0
theorem qH9{ms:List Im}{k:Int}(h:jG ms k="mix"):∃l,0<=k/\ms[k.toNat]?=some (.mix l):=by
 unfold jG at h;by_cases h0:k<0
 . rw[if_pos h0]at h
   exact absurd h (by decide+kernel)
 . rw[if_neg h0]at h
   cases hm:ms[k.toNat]? with
   |none=>rw[hm]at h;exact absurd h (by decide+kernel)
   |some m=>
    rw[hm]at h;obtain⟨l,rfl⟩:=jV h;exact⟨l,by omega,O⟩
inductive qCc(vs:List V)(H:Hp)(Q:VK)(_:XK):Prop
|mk (z:Addr) (ms:List Im) (k:Nat) (_:vs=[.ref z,.int (k:Int)]) (_:Tr H z ms) (_:Q (.int (tbF ms k)) H)
theorem qBy(T:Tx K mg a):FnOk P w K mg base CX0 2 a.A41 a.B41 ["track","place"] qCc:=by
 refine T.D41.F.ok qBu (fun vs H Q E h=>?_) (fun cdv A outer s H vs Q E hr h=>?_)
 . obtain⟨z,ms,k,rfl,_⟩:=h
   rfl
 refine qL fun _ Y=>?_;obtain⟨z,ms,k,rfl,tT,q⟩:=h;apply Y;refine⟨_,(qC (qW (qJ zD (qI T.D29 (jH T) hr rfl (qA (pv 0) (qA (qQ jS (pv 1) qG) qB))) qR (qP _)) (qE (qM qG)) qN)
  (qE (qM (qI T.D39 (wS T) hr rfl (qA (qK (jU qz (pv 0) (qQ jS (pv 1) qG) (fun _ _=>rfl))) qB))))),?_⟩
 try dsimp only[jN,qd]
 refine⟨_,O,_,O,_,_,O,O,z,ms,_,O,tT,O,_,O,jo (fun c=>?_) (fun c=>?_)⟩
 . have hn:jG ms ((k:Int)-1)≠"mix":=by simpa using c
   have e:tbF ms k=0:=by
    unfold tbF;by_cases k0:k=0
    . rw[if_pos k0]
    . rw[if_neg k0]
      split
      . next l hl=>exact absurd (jw hl (by omega)) hn
      . rfl
   rw[e]at q;exact q
 . have hk:jG ms ((k:Int)-1)="mix":=by simpa using c
   refine qL fun _ Y=>?_;obtain⟨l,k1,hl⟩:=qH9 hk;have ek:((k:Int)-1).toNat=k-1:=by omega
   rw[ek]at hl;have e:tbF ms k=l-l.fdiv 2:=by unfold tbF;rw[if_neg (by omega),hl]
   rw[e]at q;obtain⟨vs,hz,his⟩:=tT;obtain⟨v,hv,hI⟩:=his.get' hl;obtain⟨zi,rfl,hzi⟩:=hI;apply Y;have hat:atI vs ((k:Int)-1)=some (.ref zi):=by
    have e:(k:Int)-1=((k-1:Nat):Int):=by omega
    rw[e];exact jI hv
   exact⟨_,O,_,O,_,_,O,O,z,_,_,_,O,O,SqL.of hz,hat,ixT (SqT.of hzi) at1 ⟨l,O,q⟩⟩
inductive qDj(vs:List V)(H:Hp)(Q:VK)(_:XK):Prop
|mk (z:Addr) (ms:List Im) (k:Nat) (_:vs=[.ref z,.int (k:Int)]) (_:Tr H z ms) (_:Q (.int (teF ms k)) H)
theorem qE0(T:Tx K mg a):FnOk P w K mg base CX0 2 a.A42 a.B42 ["track","place"] qDj:=by
 refine T.D42.F.ok qDt (fun vs H Q E h=>?_) (fun cdv A outer s H vs Q E hr h=>?_)
 . obtain⟨z,ms,k,rfl,_⟩:=h
   rfl
 refine qL fun _ Y=>?_;obtain⟨z,ms,k,rfl,tT,q⟩:=h;apply Y;refine⟨_,(qC (qW (qJ zD (qI T.D29 (jH T) hr rfl (qA (pv 0) (qA (qQ qr (pv 1) qG) qB))) qR (qP _)) (qE (qM qG)) qN)
  (qE (qM (qI T.D38 (qA6 T) hr rfl (qA (qK (jU qz (pv 0) (qQ qr (pv 1) qG) (fun _ _=>rfl))) qB))))),?_⟩
 try dsimp only[jN,qd]
 refine⟨_,O,_,O,_,_,O,O,z,ms,_,O,tT,O,_,O,jo (fun c=>?_) (fun c=>?_)⟩
 . have hn:jG ms ((k:Int)+1)≠"mix":=by simpa using c
   have e:teF ms k=0:=by
    unfold teF;split
    . next l hl=>exact absurd (jw hl (by omega)) hn
    . rfl
   rw[e]at q;exact q
 . have hk:jG ms ((k:Int)+1)="mix":=by simpa using c
   refine qL fun _ Y=>?_;obtain⟨l,k1,hl⟩:=qH9 hk;have ek:((k:Int)+1).toNat=k+1:=by omega
   rw[ek]at hl;have e:teF ms k=l.fdiv 2:=by unfold teF;rw[hl]
   rw[e]at q;obtain⟨vs,hz,his⟩:=tT;obtain⟨v,hv,hI⟩:=his.get' hl;obtain⟨zi,rfl,hzi⟩:=hI;apply Y;have hat:atI vs ((k:Int)+1)=some (.ref zi):=by
    have e:(k:Int)+1=((k+1:Nat):Int):=by omega
    rw[e];exact jI hv
   exact⟨_,O,_,O,_,_,O,O,z,_,_,_,O,O,SqL.of hz,hat,ixT (SqT.of hzi) at1 ⟨l,O,q⟩⟩
def qT9(x y:Int):Int:=if y<x then y else x
def qUz(x y:Int):Int:=if y>x then y else x
def mmV(A B:Int):Int:=if B>A then qUz (2*A+1) 0 else qUz (2*B) 0
def mmF(rl:Rls)(ms:List Im)(t:Int):Option Int:=match cbF ms t with
 |none=>none
 |some (i,j)=>match jb ms i,jb ms j with
  |.clip n p q r s l,.clip n' p' q' r' s' l'=>(match rl n,rl n' with
   |some N,some N'=>some (mmV (qT9 (l-tbF ms i.toNat) (zm p' q' r' s' N')) (qT9 (l'-teF ms j.toNat) (zJ p q r s l N)))
   |_,_=>none)
  |_,_=>none
inductive qIr(N:Addr)(vs:List V)(H:Hp)(Q:VK)(E:XK):Prop
|mk (z rd:Addr) (ms:List Im) (t:Int) (rl:Rls) (_:vs=[.ref z,.int t,.ref rd]) (_:Tr H z ms) (_:(∀m∈ms,ItR rl m)) (_:ReelsAt H rd rl) (_:(mmF rl ms t=none->∀H',Same H H'->E (.ref N) none H')) (_:∀M,mmF rl ms t=some M->∀H',Same H H'->Q (.int M) H')
theorem v6(T:Tx K mg a):FnOk P w K mg base (CXR P w) 6 a.A43 a.B43 ["track","moment","reels"] (qIr a.k_NoPlace):=by
 refine okX T.D43.F xK (fun vs H Q E h=>?_) (fun cdv A outer s H vs Q E hr h=>?_)
 . obtain⟨z,rd,ms,t,rl,rfl,_⟩:=h
   rfl
 refine qL fun _ Y=>?_;obtain⟨z,rd,ms,t,rl,rfl,tT,hit,hrl,kb,kg⟩:=h;apply Y;refine⟨_,(qC (qZ 3 xK.nd (vA (qg (qI T.D0 (jC T) hr rfl (qA (pv 1) qB))) (qI T.D34 (jm T) hr rfl (qA (pv 0) (qA (pv 1) qB))) qBe))
  (qC (qW (vD (qBf (pv 3))) (qE (xt rfl rfl T.c_NoPlace T.x_NoPlace (qA qR qB))) qN)
  (qC (qZ 4 xK.nd (jU qz (pv 0) (qK (pv 3)) (fun _ _=>rfl)))
  (qC (qZ 5 xK.nd (jU qz (pv 0) (qK (pv 3)) (fun _ _=>rfl)))
  (qC (qZ 6 xK.nd (qU (zQ rfl) rfl T.b_min rfl (qA (qQ jS (qK (pv 4)) (qI T.D41 (qBy T) hr rfl (qA (pv 0) (qA (qK (pv 3)) qB)))) (qA (qI T.D19 (vV T) hr rfl (qA (pv 5) (qA (pv 2) qB))) qB))))
  (qC (qZ 7 xK.nd (qU (zQ rfl) rfl T.b_min rfl (qA (qQ jS (qK (pv 5)) (qI T.D42 (qE0 T) hr rfl (qA (pv 0) (qA (qK (pv 3)) qB)))) (qA (qI T.D20 (vf T) hr rfl (qA (pv 4) (qA (pv 2) qB))) qB))))
  (qC (qW (qJ wL (pv 7) (pv 6) (qP _)) (qE (qM (qU (qA1 rfl) rfl T.b_max rfl (qA (qQ qr (qQ jJ qG (pv 6)) qG) (qA qG qB))))) qN)
  (qE (qM (qU (qA1 rfl) rfl T.b_max rfl (qA (qQ jJ qG (pv 7)) (qA qG qB)))))))))))),?_⟩
 try dsimp only[jN,qd]
 have one:(1:Nat)<=sizeLine:=by decide
 refine⟨_,O,t,O,true,O,jl ?_⟩;refine⟨_,O,_,O,z,ms,_,O,tT,?_⟩;unfold mmF at kb kg;cases hcb:cbF ms t with
 |none=>
  rw[hcb]at kb;intro H1 e1;exact⟨_,O,_,O,v9 (by decide) ⟨one,kb rfl H1 e1⟩⟩
 |some r=>
 refine qL fun _ Y=>?_;obtain⟨ii,jj⟩:=r;rw[hcb]at kg;obtain⟨hk1,hk2⟩:=kT hcb;obtain⟨i,n,p,q,r,s1,l,rfl,hi⟩:=xD hk1;obtain⟨j,n',p',q',r',s2,l',rfl,hj⟩:=xD hk2;obtain⟨N,c1⟩:=hit _ (List.mem_of_getElem? hi) _ _ _ _ _ _ rfl;obtain⟨N',c2⟩:=hit _ (List.mem_of_getElem? hj) _ _ _ _ _ _ rfl;apply Y;have ei:jb ms (i:Int)=.clip n p q r s1 l:=by unfold jb;rw[Int.toNat_natCast,hi];rfl
 have ej:jb ms (j:Int)=.clip n' p' q' r' s2 l':=by unfold jb;rw[Int.toNat_natCast,hj];rfl
 dsimp only at kg;rw[ei,ej]at kg;dsimp only at kg;rw[c1.rn,c2.rn,Int.toNat_natCast,Int.toNat_natCast]at kg;have kg:=kg _ rfl;intro pp H1 e1 hpp;refine⟨_,O,_,O,jo (fun c=>absurd c (by simp)) (fun _=>?_)⟩;refine qL fun _ Y=>?_;obtain⟨vs,hz,his⟩:=tT.same e1;obtain⟨va,hva,Ia⟩:=his.get' hi;obtain⟨vb,hvb,Ib⟩:=his.get' hj;apply Y;refine⟨_,O,ixO hpp at0 ⟨z,_,_,_,O,O,SqL.of hz,jI hva,?_⟩⟩;refine⟨_,O,ixO hpp at1 ⟨z,_,_,_,O,O,SqL.of hz,jI hvb,?_⟩⟩;refine qL fun _ Y=>?_;obtain⟨za,xa,ya,rfl,hza,hxa,hya⟩:=id Ia;obtain⟨zb,xb,yb,rfl,hzb,hxb,hyb⟩:=id Ib;apply Y;have tT1:Tr H1 z ms:=⟨vs,hz,his⟩;refine(ixO hza qCq ⟨_,O,ixO hpp at0 ⟨z,ms,i,O,tT1,_,_,O,O,?_⟩⟩);refine⟨_,O,_,O,_,n',p',q',r',s2,l',N',rd,O,qHi Ib,c2.g1,c2.g2,(hrl _ _ c2.rn).same e1,c2.bN,fun H2 e2=>?_⟩;refine⟨_,_,O,?_⟩;refine(ixO (e2 _ _ hzb) qCq ⟨_,O,ixO (e2 _ _ hpp) at1 ⟨z,ms,j,O,tT1.same e2,_,_,O,O,?_⟩⟩);refine⟨_,O,_,O,_,n,p,q,r,s1,l,N,rd,O,qHi (Ia.ts (qY e2)),c1.g1,c1.g2,c1.bl,(hrl _ _ c1.rn).same (e1.trans e2),c1.bN,fun H3 e3=>?_⟩;refine⟨_,_,O,?_⟩;have kk':=kg H3 ((e1.trans e2).trans e3);unfold mmV qT9 at kk';unfold zm zJ at kk';dsimp only;generalize (if zp (plP p' q' r' s2 (-1)*s2) (-1*r'*plQ p' q' r' s2 (-1)) (plQ p' q' r' s2 (-1)*s2) N'<l-tbF ms i then zp (plP p' q' r' s2 (-1)*s2) (-1*r'*plQ p' q' r' s2 (-1)) (plQ p' q' r' s2 (-1)*s2) N' else l-tbF ms i)=MA at kk'⊢;generalize (if zp (plP p q r s1 l*s1) (1*r*plQ p q r s1 l) (plQ p q r s1 l*s1) N<l'-teF ms j then zp (plP p q r s1 l*s1) (1*r*plQ p q r s1 l) (plQ p q r s1 l*s1) N else l'-teF ms j)=MB at kk'⊢;refine⟨_,O,_,O,_,_,O,O,_,O,jo (fun c=>?_) (fun c=>?_)⟩
 . have c':MB>MA:=by simpa using c
   rw[if_pos c']at kk';exact⟨_,O,_,_,O,O,cmL (by decide) (by decide),_,_,O,O,_,_,O,kk'⟩
 . have c':¬MB>MA:=by simpa using c
   rw[if_neg c']at kk';exact⟨_,O,_,_,O,O,cmL (by decide) (by decide),_,_,O,kk'⟩
inductive qKw(N S:Addr)(vs:List V)(H:Hp)(Q:VK)(E:XK):Prop
|mk (tz dz rd:Addr) (ts:List (List Im)) (tie:List Int) (n0:Nat) (ms:List Im) (t l:Int) (rl:Rls) (_:vs=[.ref tz,.ref dz,.ref rd]) (_:TabG H tz ts tie n0) (_:ts[n0]?=some ms) (_:H dz=some (.tup [.str "mix",.int (n0:Int),.int t,.int l])) (_:(∀m∈ms,ItR rl m)) (_:ReelsAt H rd rl) (_:(qXu ms t->∀H',Same H H'->E (.ref N) none H')) (_:(∀(i:Nat) (M:Int),cbF ms t=some ((i:Int),((i+1:Nat):Int))->mmF rl ms t=some M->(M<l->∀(dx:Addr) (H':Hp),Same H H'->H' dx=some (.xd [("most",.int M)])->E (.ref S) (some dx) H')/\(l<=M->∀(t':Addr) (H':Hp),Same H H'->TabF H' (.ref t') (ts.set n0 (ms.take (i+1)++[.mix l]++ms.drop (i+1))) tie->Q (.ref t') H')))
theorem qTb{rl:Rls}{ms:List Im}{t i j:Int}(hit:∀m∈ms,ItR rl m)(h:cbF ms t=some (i,j)):∃M,mmF rl ms t=some M:=by
 obtain⟨hk1,hk2⟩:=kT h;obtain⟨i,n,p,q,r,s1,l,rfl,hi⟩:=xD hk1;obtain⟨j,n',p',q',r',s2,l',rfl,hj⟩:=xD hk2;obtain⟨N,c1⟩:=hit _ (List.mem_of_getElem? hi) _ _ _ _ _ _ rfl;obtain⟨N',c2⟩:=hit _ (List.mem_of_getElem? hj) _ _ _ _ _ _ rfl;have ei:jb ms (i:Int)=.clip n p q r s1 l:=by unfold jb;rw[Int.toNat_natCast,hi];rfl
 have ej:jb ms (j:Int)=.clip n' p' q' r' s2 l':=by unfold jb;rw[Int.toNat_natCast,hj];rfl
 unfold mmF;rw[h];dsimp only;rw[ei,ej];dsimp only;rw[c1.rn,c2.rn];exact⟨_,O⟩
theorem qLh(T:Tx K mg a):FnOk P w K mg base (CXR P w) 7 a.A69 a.B69 ["table","deed","reels"] (qKw a.k_NoPlace a.k_Short):=by
 refine okX T.D69.F qC8 (fun vs H Q E h=>?_) (fun cdv A outer s H vs Q E hr h=>?_)
 . obtain⟨tz,dz,rd,ts,tie,n0,ms,t,l,rl,rfl,_⟩:=h
   rfl
 refine qL fun _ Y=>?_;obtain⟨tz,dz,rd,ts,tie,n0,ms,t,l,rl,rfl,hP,hms,hd,hit,hrl,kb,kk⟩:=h;apply Y;refine⟨_,(qC (qZ 3 qC8.nd (jU qz (qK (pv 0)) (qK (pv 1)) (fun _ _=>rfl)))
  (qC (qZ 4 qC8.nd (qI T.D34 (jm T) hr rfl (qA (pv 3) (qA (qK (pv 1)) qB))))
  (qC (qW (PW.pt (jd (vD (qBf (pv 4))) (jK (qJ zD (qK (pv 4)) (qQ qr (qK (pv 4)) qG) (qP _))))) (qE (xt rfl rfl T.c_NoPlace T.x_NoPlace (qA qR qB))) qN)
  (qC (qZ 5 qC8.nd (xP T.D43 (v6 T) hr rfl (qA (pv 3) (qA (qK (pv 1)) (qA (pv 2) qB)))))
  (qC (qW (qJ wL (qK (pv 1)) (pv 5) (qP _)) (qE (qH8 T.m_Short (qA7 T) T.ib_Short (hr.mono (by decide)) rfl rfl T.c_Short (qA (pv 5) qB))) qN)
  (qE (qM (qI T.D56 (jz T) hr rfl (qA (pv 0) (qA (qK (pv 1)) (qA (qQ qAt (qQ qAt (xx wn (pv 3) vX (zL (qK (pv 4)))) (jR (qA (ql (qA qR (qA (qK (pv 1)) qB))) qB))) (xx wn (pv 3) (zL (qK (pv 4))) vX)) qB))))))))))),?_⟩
 try dsimp only[jN,qd]
 have one:(1:Nat)<=sizeLine:=by decide
 refine qL fun _ Y=>?_;obtain⟨tt,tl,ti,zs,e0,g2,g3,g4,g5⟩:=id hP.tab;cases e0;have hzl:=g4.len;have hnt:=hP.nt;have ez:zs[n0]?=some (zs[n0]'(by omega)):=List.getElem?_eq_getElem (by omega);obtain⟨ms',z,hms',ezz,tT⟩:=g4.get ez;rw[hms]at hms';cases hms';rw[ezz]at ez;obtain⟨hMB,hM1⟩:=hP.ok ms (List.mem_of_getElem? hms);apply Y;have sm:∀j:Nat,j<=1000->j<=sizeLine:=fun j h=>by have:=qc (n:=j) (by omega);omega
 refine(ixO g2 at0 (ixO hd qFt ⟨tl,_,_,_,O,O,SqL.of g3,jI ez,?_⟩));refine⟨_,O,ixO hd qBn ⟨z,ms,_,O,tT,?_⟩⟩;cases hcb:cbF ms t with
 |none=>
  intro H1 e1;exact⟨_,O,_,O,v9 (by decide) (jl ⟨one,kb (.inl hcb) H1 e1⟩)⟩
 |some rr=>
 obtain⟨ii,jj⟩:=rr;intro pz H1 e1 hpz;refine⟨_,O,_,O,jo (fun c=>absurd c (by simp)) (fun _=>?_)⟩;refine(ixO hpz at1 (ixO hpz at0 ⟨_,_,O,O,O,_,O,?_⟩));by_cases hij:jj=ii+1
 case neg=>
  have hne:(!decide (V.int jj=V.int (ii+1)))=true:=by rw[decide_eq_false (fun z=>hij (V.int.inj z))];rfl
  exact v9 hne ⟨one,kb (.inr ⟨ii,jj,hcb,hij⟩) H1 e1⟩
 have hne:(!decide (V.int jj=V.int (ii+1)))=false:=by rw[hij];simp
 refine kx hne ?_;refine qL fun _ Y=>?_;obtain⟨hk1,_⟩:=kT hcb;obtain⟨i,n,p,q,r,s1,l1,rfl,hi⟩:=xD hk1;apply Y;obtain rfl:jj=((i+1:Nat):Int):=by omega
 refine qL fun _ Y=>?_;obtain⟨M,hM⟩:=qTb hit hcb;obtain⟨kS,kQ⟩:=kk i M hcb hM;apply Y;refine⟨_,rfl,ixO (e1 _ _ hd) qBn ⟨_,rfl,z,rd,ms,t,rl,rfl,tT.same e1,hit,hrl.same e1,fun h=>(by have h':mmF rl ms t=none:=h;rw[hM]at h';cases h'),fun M' h H2 e2=>?_⟩⟩;obtain rfl:M'=M:=by have h':mmF rl ms t=some M':=h;rw[hM]at h';exact(Option.some.inj h').symm
 have e12:=e1.trans e2;refine(ixO (e12 _ _ hd) qAu ⟨_,O,_,_,O,O,_,O,jo (fun c=>?_) (fun c=>?_)⟩)
 . have hc:M'<l:=by simpa using c
   exact⟨_,O,_,O,fun dx hdx=>kS hc dx _ (e12.trans (qF hdx _)) qD⟩
 have hc:l<=M':=by have:¬M'<l:=by simpa using c
                   omega
 refine⟨_,O,ixO (e12 _ _ hd) qFt ?_⟩;refine qL fun _ Y=>?_;obtain⟨vs,hz,his⟩:=tT.same e12;apply Y;have hvl:=his.len;have hpz2:=e2 _ _ hpz;refine⟨_,O,ixO hpz2 at1 ⟨_,O,z,_,O,SqL.of hz,fun a1' ha1=>?_⟩⟩;rw[qDb];have v1:=qF ha1 (.lst (vs.take (i+1)));refine(zS rfl (SqT.of ((e12.trans v1) _ _ hd)) qAu ⟨sL2,fun g hg=>⟨sL1,fun a2' ha2=>?_⟩⟩);have vg:=qF hg (.tup [.str "mix",.int l]);have v2:=qF ha2 (.lst [.ref g]);refine⟨a1',a2',_,_,O,O,v2 _ _ (vg _ _ qD),qD,sm _ (by rw[List.length_take];show min (i+1) _+1<=1000;omega),fun a3 ha3=>?_⟩;have v3:=qF ha3 (.lst (vs.take (i+1)++[.ref g]));have v13:=((v1.trans vg).trans v2).trans v3;have kg:(upd (upd (upd (upd H2 a1' (.lst (vs.take (i+1)))) g (.tup [.str "mix",.int l])) a2' (.lst [.ref g])) a3 (.lst (vs.take (i+1)++[.ref g]))) g=some (.tup [.str "mix",.int l]):=(v2.trans v3) _ _ qD;have k3:(upd (upd (upd (upd H2 a1' (.lst (vs.take (i+1)))) g (.tup [.str "mix",.int l])) a2' (.lst [.ref g])) a3 (.lst (vs.take (i+1)++[.ref g]))) a3=some (.lst (vs.take (i+1)++[.ref g])):=qD;change _;generalize upd (upd (upd (upd H2 a1' (.lst (vs.take (i+1)))) g (.tup [.str "mix",.int l])) a2' (.lst [.ref g])) a3 (.lst (vs.take (i+1)++[.ref g]))=H3 at v13 kg k3;refine⟨_,O,ixO (v13 _ _ hpz2) at1 ⟨_,O,z,_,O,SqL.of (v13 _ _ hz),fun a4 ha4=>?_⟩⟩;rw[qHl];have v4:=qF ha4 (.lst (vs.drop (i+1)));refine⟨a3,a4,_,_,O,O,v4 _ _ k3,qD,sm _ (by rw[List.length_append,List.length_take,List.length_drop];show min (i+1) _+1+_<=1000;omega),fun a5 ha5=>?_⟩;have v5:=qF ha5 (.lst (vs.take (i+1)++[.ref g]++vs.drop (i+1)));have v45:=v4.trans v5;have e5:=(e12.trans v13).trans v45;have hisE:=(his.ts (qY v13)).ts (qY v45);exact⟨tz,a5,n0,ts,tie,ms.take (i+1)++[.mix l]++ms.drop (i+1),rfl,hP.tab.same e5,⟨_,qD,(hisE.take.app (.one (isM (v45 _ _ kg)))).app hisE.drop⟩,hnt,by have:=hP.len;omega,fun t' H6 e6 hN=>kQ hc t' H6 (e5.trans e6) hN⟩
inductive qGz(N:Addr)(vs:List V)(H:Hp)(Q:VK)(E:XK):Prop
|mk (tz dz:Addr) (ts:List (List Im)) (tie:List Int) (n0:Nat) (ms:List Im) (t:Int) (_:vs=[.ref tz,.ref dz]) (_:TabG H tz ts tie n0) (_:ts[n0]?=some ms) (_:H dz=some (.tup [.str "unmix",.int (n0:Int),.int t])) (_:((cbF ms t=none\/∃i:Int,cbF ms t=some (i,i+1))->∀H',Same H H'->E (.ref N) none H')) (_:∀i:Nat,cbF ms t=some ((i:Int),((i+2:Nat):Int))->∀(t':Addr) (H':Hp),Same H H'->TabF H' (.ref t') (ts.set n0 (ms.take (i+1)++ms.drop (i+2))) tie->Q (.ref t') H')
theorem qOw{ms:List Im}{t i j:Int}(h:cbF ms t=some (i,j)):j=i+1\/j=i+2:=by
 unfold cbF at h;cases hn:nbF ms t with
 |none=>rw[hn]at h;cases h
 |some r=>
  obtain⟨x,y⟩:=r;rw[hn]at h;dsimp only at h;split at h
  . cases h
    unfold nbF at hn;split at hn
    . split at hn
      . cases hn
      . cases hn
        split <;> omega
    . cases hn
  . cases h
theorem qGg(T:Tx K mg a):FnOk P w K mg base (CXR P w) 6 a.A70 a.B70 ["table","deed"] (qGz a.k_NoPlace):=by
 refine okX T.D70.F qBm (fun vs H Q E h=>?_) (fun cdv A outer s H vs Q E hr h=>?_)
 . obtain⟨tz,dz,ts,tie,n0,ms,t,rfl,_⟩:=h
   rfl
 refine qL fun _ Y=>?_;obtain⟨tz,dz,ts,tie,n0,ms,t,rfl,hP,hms,hd,kb,kk⟩:=h;apply Y;refine⟨_,(qC (qZ 2 qBm.nd (jU qz (qK (pv 0)) (qK (pv 1)) (fun _ _=>rfl)))
  (qC (qZ 3 qBm.nd (qI T.D34 (jm T) hr rfl (qA (pv 2) (qA (qK (pv 1)) qB))))
  (qC (qW (PW.pt (jd (vD (qBf (pv 3))) (jK (qJ ja (qK (pv 3)) (qQ qr (qK (pv 3)) qG) (qP _))))) (qE (xt rfl rfl T.c_NoPlace T.x_NoPlace (qA qR qB))) qN)
  (qE (qM (qI T.D56 (jz T) hr rfl (qA (pv 0) (qA (qK (pv 1)) (qA (qQ qAt (xx wn (pv 2) vX (zL (qQ qr (qK (pv 3)) qG))) (xx wn (pv 2) (zL (qK (pv 3))) vX)) qB))))))))),?_⟩
 try dsimp only[jN,qd]
 have one:(1:Nat)<=sizeLine:=by decide
 have hT:=hP.tab;refine qL fun _ Y=>?_;obtain⟨tt,tl,ti,zs,e0,g2,g3,g4,g5⟩:=id hT;cases e0;have hzl:=g4.len;have hl8:=hP.len;have hml:=(hP.ok ms (List.mem_of_getElem? hms)).2;have hnt:n0<ts.length:=(glt hms);have ez:zs[n0]?=some (zs[n0]'(by omega)):=List.getElem?_eq_getElem (by omega);obtain⟨ms',z,hms',ezz,tT⟩:=g4.get ez;rw[hms]at hms';cases hms';apply Y;rw[ezz]at ez;have sm:∀j:Nat,j<=1000->j<=sizeLine:=fun j h=>by have:=qc (n:=j) (by omega);omega
 refine(ixO g2 at0 (ixO hd qS2 ⟨tl,_,_,_,O,O,SqL.of g3,jI ez,?_⟩));refine⟨_,O,ixO hd qVx ⟨z,ms,_,O,tT,?_⟩⟩;cases hcb:cbF ms t with
 |none=>
  intro H1 e1;exact⟨_,O,_,O,v9 (by decide) (jl ⟨one,kb (.inl hcb) H1 e1⟩)⟩
 |some rr=>
 obtain⟨ii,jj⟩:=rr;intro pz H1 e1 hpz;refine⟨_,O,_,O,jo (fun c=>absurd c (by simp)) (fun _=>?_)⟩;rcases qOw hcb with hj|hj
 . refine(ixO hpz at1 (ixO hpz at0 ⟨_,_,O,O,O,_,O,v9 ?_ ⟨one,kb (.inr ⟨ii,by rw[hcb,hj]⟩) H1 e1⟩⟩))
   show decide (V.int jj=V.int (ii+1))=true;rw[hj];simp
 refine qL fun _ Y=>?_;obtain⟨hk1,_⟩:=kT hcb;obtain⟨i,n,p,q,r,s1,l1,rfl,hi⟩:=xD hk1;apply Y;obtain rfl:jj=((i+2:Nat):Int):=by omega
 have kk:=kk i hcb;refine(ixO hpz at1 (ixO hpz at0 ⟨_,_,O,O,O,_,O,?_⟩));rw[show decide (V.int ((i+2:Nat):Int)=(fun i j=>V.int (i+j)) (i:Int) 1)=false from decide_eq_false (by intro z;have:((i+2:Nat):Int)=(i:Int)+1:=V.int.inj z;omega)]
 refine qt ⟨_,O,ixO (e1 _ _ hd) qS2 ?_⟩;refine qL fun _ Y=>?_;obtain⟨vs,hz,his⟩:=tT.same e1;apply Y;have hvl:=his.len;refine⟨_,O,ixO hpz at0 ⟨_,_,O,O,_,O,z,_,O,SqL.of hz,fun a1' ha1=>?_⟩⟩;have ed:zT vs none (some ((i:Int)+1))=vs.take (i+1):=by rw[show (i:Int)+1=((i+1:Nat):Int) by omega];exact qDb vs (i+1)
 rw[ed];have v1:=qF ha1 (.lst (vs.take (i+1)));refine⟨_,O,ixO (v1 _ _ hpz) at1 ⟨_,O,z,_,O,SqL.of (v1 _ _ hz),fun a4 ha4=>?_⟩⟩;rw[qHl];have v4:=qF ha4 (.lst (vs.drop (i+2)));refine⟨a1',a4,_,_,O,O,v4 _ _ qD,qD,sm _ (by rw[List.length_take,List.length_drop];omega),fun a5 ha5=>?_⟩;have v5:=qF ha5 (.lst (vs.take (i+1)++vs.drop (i+2)));have v15:=(v1.trans v4).trans v5;have e5:=e1.trans v15;have hisE:=his.ts (qY v15);exact⟨tz,a5,n0,ts,tie,ms.take (i+1)++ms.drop (i+2),O,hT.same e5,⟨_,qD,hisE.take.app hisE.drop⟩,hnt,by omega,fun t' H6 e6 hN=>kk t' H6 (e5.trans e6) hN⟩
inductive qD1(vs:List V)(H:Hp)(Q:VK)(_:XK):Prop
|mk (v u:V) (n n':Str) (b l b' l':Int) (_:vs=[v,u]) (_:IsI H (.nest n b l) v) (_:IsI H (.nest n' b' l') u) (_:Q (.bl (decide (n=n') && decide (b'=b+l))) H)
theorem qD4(T:Tx K mg a):FnOk P w K mg base CX0 1 a.A66 a.B66 ["one","other"] qD1:=by
 refine T.D66.F.ok qEn (fun vs H Q E h=>?_) (fun cdv A outer s H vs Q E hr h=>?_)
 . obtain⟨v,u,n,n',b,l,b',l',rfl,_⟩:=h
   rfl
 refine qL fun _ Y=>?_;obtain⟨v,u,n,n',b,l,b',l',rfl,⟨z,rfl,hz⟩,⟨y,rfl,hy⟩,kk⟩:=h;apply Y;refine⟨_,(qE (qM (xp (jL ja (qK (pv 0)) (qK (pv 1)) (qP _)) (z7 (jL ja (qK (pv 1)) (qQ qr (qK (pv 0)) (qK (pv 0))) (qP _)))))),?_⟩
 try dsimp only[jN,qd]
 refine(ixO hz qFt (ixO hy qFt ⟨O,_,O,?_⟩));rw[qTq];by_cases hn:n=n'
 . rw[decide_eq_true hn]at kk⊢
   refine jl (ixO hy qBn (ixO hz qBn (ixO hz qAu ⟨_,_,O,O,O,?_⟩)));have e:decide (V.int b'=V.int (b+l))=decide (b'=b+l):=by rw[Bool.eq_iff_iff];simp
   show Q (.bl (decide (V.int b'=V.int (b+l)))) H;rw[e];exact kk
 . rw[decide_eq_false hn]at kk⊢
   exact qt kk
theorem qPd{m:Im}(h:m.wd="clip"):∃n p q r s l,m=.clip n p q r s l:=by
 cases m with
 |clip n p q r s l=>exact⟨n,p,q,r,s,l,rfl⟩
 |gap=>exact absurd (show ("gap":Str)="clip" from h) (by decide+kernel)
 |nest=>exact absurd (show ("nest":Str)="clip" from h) (by decide+kernel)
 |mix=>exact absurd (show ("mix":Str)="clip" from h) (by decide+kernel)
theorem qLc{m:Im}(h:m.wd="nest"):∃n b l,m=.nest n b l:=by
 cases m with
 |nest n b l=>exact⟨n,b,l,rfl⟩
 |gap=>exact absurd (show ("gap":Str)="nest" from h) (by decide+kernel)
 |clip=>exact absurd (show ("clip":Str)="nest" from h) (by decide+kernel)
 |mix=>exact absurd (show ("mix":Str)="nest" from h) (by decide+kernel)
def qJ2:Im->Im->Bool
 |.clip n p q r s l,.clip n' p' q' r' s' _=>goB n n' p q r s l p' q' r' s'
 |.nest n b l,.nest n' b' _=>decide (n=n') && decide (b'=b+l)
 |_,_=>false
theorem z9{m m':Im}(h:qJ2 m m'=true):(∃n p q r s l n' p' q' r' s' l',m=.clip n p q r s l/\m'=.clip n' p' q' r' s' l')\/∃n b l n' b' l',m=.nest n b l/\m'=.nest n' b' l':=by cases m <;> cases m' <;> first|cases h|exact .inl ⟨_,_,_,_,_,_,_,_,_,_,_,_,rfl,rfl⟩|exact .inr ⟨_,_,_,_,_,_,rfl,rfl⟩
def ImH:Im->Prop
 |.clip _ p q r s l=>Bn 700 p q r s/\l.natAbs<2 ^ 700
 |_=>True
inductive qGp(vs:List V)(H:Hp)(Q:VK)(_:XK):Prop
|mk (z:Addr) (v:V) (ms:List Im) (b:Bool) (_:vs=[.ref z,v]) (_:Tr H z ms) (_:((v=.non/\b=false)\/∃(pz:Addr) (i j:Nat) (m m':Im),v=.ref pz/\H pz=some (.tup [.int (i:Int),.int (j:Int)])/\ms[i]?=some m/\ms[j]?=some m'/\ImH m/\b=qJ2 m m')) (_:∀H',Same H H'->Q (.bl b) H')
theorem qGj(T:Tx K mg a):FnOk P w K mg base CX0 6 a.A67 a.B67 ["track","places"] qGp:=by
 refine T.D67.F.ok wg (fun vs H Q E h=>?_) (fun cdv A outer s H vs Q E hr h=>?_)
 . obtain⟨z,v,ms,b,rfl,_⟩:=h
   rfl
 refine qL fun _ Y=>?_;obtain⟨z,v,ms,b,rfl,⟨vs,hz,his⟩,hv,kk⟩:=h;apply Y;refine⟨_,(qC (qW (vD (qBf (pv 1))) (qE (qM xk)) qN)
  (qC (qZ 2 wg.nd (jU qz (pv 0) (qK (pv 1)) (fun _ _=>rfl)))
  (qC (qZ 3 wg.nd (jU qz (pv 0) (qK (pv 1)) (fun _ _=>rfl)))
  (qC (qW (PW.pt (xW (qJ ja (qK (pv 2)) qR (qP _)) (xA (qJ ja (qK (pv 3)) qR (qP _))))) (qE (qM (qI T.D17 (qM1 T) hr rfl (qA (pv 2) (qA (pv 3) qB))))) qN)
  (qE (qM (xp (jL ja (qK (pv 2)) qR (qP _)) (xp (jL ja (qK (pv 3)) qR (qP _)) (z7 (qI T.D66 (qD4 T) hr rfl (qA (pv 2) (qA (pv 3) qB)))))))))))),?_⟩
 try dsimp only[jN,qd]
 rcases hv with ⟨rfl,rfl⟩|⟨pz,i,j,m,m',rfl,hp,hi,hj,hb,rfl⟩
 . exact⟨_,O,_,O,v9 (by decide) (kk _ (Same.refl _))⟩
 refine qL fun _ Y=>?_;obtain⟨va,hva,Ia⟩:=his.get' hi;obtain⟨vb,hvb,Ib⟩:=his.get' hj;obtain⟨za,xa,rfl,hza,a0,_⟩:=Ia.opn;obtain⟨zb,xb,rfl,hzb,b0,_⟩:=Ib.opn;apply Y;have k0:=kk H (Same.refl _);refine⟨_,O,_,O,jo (fun c=>absurd c (by simp)) (fun _=>?_)⟩;refine⟨_,O,ixO hp at0 ⟨z,_,_,_,O,O,SqL.of hz,jI hva,?_⟩⟩;refine⟨_,O,ixO hp at1 ⟨z,_,_,_,O,O,SqL.of hz,jI hvb,?_⟩⟩;have dw:∀{x:Im} {w:Str},x.wd=w->decide (V.str x.wd=V.str w)=true:=fun h=>by rw[h];simp
 have dn:∀{x:Im} {w:Str},x.wd≠w->decide (V.str x.wd=V.str w)=false:=fun h=>by rw[qTq];exact decide_eq_false h
 have cn:("clip":Str)≠"nest":=by decide+kernel
 have nc:("nest":Str)≠"clip":=by decide+kernel
 have fin:¬(m.wd="clip"/\m'.wd="clip")->¬(m.wd="nest"/\m'.wd="nest")->qJ2 m m'=false:=fun h1 h2=>by cases m <;> cases m' <;> first|rfl|exact absurd ⟨rfl,rfl⟩ h1|exact absurd ⟨rfl,rfl⟩ h2
 have last:¬(m.wd="clip"/\m'.wd="clip")->m.wd≠"nest"->qJ2 m m'=false:=fun h1 h2=>fin h1 fun z=>h2 z.1;by_cases h1:m.wd="clip"
 . refine(ixO hza a0 ⟨O,_,O,v9 (dw h1) ?_⟩)
   by_cases h2:m'.wd="clip"
   . refine(ixO hzb b0 ⟨O,_,O,v9 (dw h2) ?_⟩)
     refine qL fun _ Y=>?_;obtain⟨n,p,q,r,s1,l,rfl⟩:=qPd h1;obtain⟨n',p',q',r',s2,l',rfl⟩:=qPd h2;apply Y;exact⟨_,O,_,O,_,_,n,n',p,q,r,s1,l,p',q',r',s2,l',O,qHi Ia,qHi Ib,hb.1,hb.2,fun H1 e1=>kk H1 e1⟩
   . refine(ixO hzb b0 ⟨O,_,O,kx (dn h2) ?_⟩)
     rw[last (fun z=>h2 z.2) (by rw[h1];exact cn)]at k0;exact(ixO hza a0 ⟨O,_,O,kx (dn (by rw[h1];exact cn)) k0⟩)
 . refine(ixO hza a0 ⟨O,_,O,kx (dn h1) (qt ?_)⟩)
   by_cases h3:m.wd="nest"
   . refine(ixO hza a0 ⟨O,_,O,v9 (dw h3) ?_⟩)
     by_cases h4:m'.wd="nest"
     . refine(ixO hzb b0 ⟨O,_,O,v9 (dw h4) ?_⟩)
       refine qL fun _ Y=>?_;obtain⟨n,b,l,rfl⟩:=qLc h3;obtain⟨n',b',l',rfl⟩:=qLc h4;apply Y;exact⟨_,O,_,O,_,_,n,n',b,l,b',l',O,Ia,Ib,k0⟩
     . rw[fin (fun z=>h1 z.1) (fun z=>h4 z.2)]at k0
       exact(ixO hzb b0 ⟨O,_,O,kx (dn h4) k0⟩)
   . rw[last (fun z=>h1 z.1) h3]at k0
     exact(ixO hza a0 ⟨O,_,O,kx (dn h3) k0⟩)
def glue:Im->Im->Im
 |.clip n p q r s l,m'=>.clip n p q r s (l+m'.l)
 |.nest n b l,m'=>.nest n b (l+m'.l)
 |m,_=>m
def qGn(ms:List Im)(t:Int):Option (List Im):=match nbF ms t with
 |none=>none
 |some (i,j)=>match ms[i.toNat]?,ms[j.toNat]? with
  |some m,some m'=>if qJ2 m m'=true then some (ms.take i.toNat++[glue m m']++ms.drop (j.toNat+1))else none
  |_,_=>none
theorem qLt:∀(ms:List Im) (b:Int) (i:Nat) (t:Int) (j:Nat) (d:Int),zU b i ms t=some (j,d)->j<i+ms.length
 |[],_,_,_,_,_,h=>by cases h
 |m::ms,b,i,t,j,d,h=>by
  rw[zU]at h;rw[List.length_cons];split at h
  . cases h;omega
  . have:=qLt ms _ _ _ _ _ h;omega
theorem qVh{ms:List Im}{t i j:Int}(h:nbF ms t=some (i,j)):∃k:Nat,j=(k:Int)/\k<ms.length/\i<j:=by
 unfold nbF at h;split at h
 . rename_i k d hi
   split at h
   . cases h
   . cases h
     have:=qLt _ _ _ _ _ _ hi;exact⟨k,O,by omega,by split <;> omega⟩
 . cases h
inductive qIz(N M:Addr)(vs:List V)(H:Hp)(Q:VK)(E:XK):Prop
|mk (tz dz:Addr) (ts:List (List Im)) (tie:List Int) (n0:Nat) (ms:List Im) (t:Int) (_:vs=[.ref tz,.ref dz]) (_:TabG H tz ts tie n0) (_:ts[n0]?=some ms) (_:H dz=some (.tup [.str "heal",.int (n0:Int),.int t])) (_:(∀m∈ms,ImH m)) (_:(∀i j,nbF ms t=some (i,j)->0<=i)) (_:(qGn ms t=none->∀H',Same H H'->E (.ref N) none H')) (_:∀r,qGn ms t=some r->(xQ ts (chF tie (n0:Int) false) t t=true->∀H',Same H H'->E (.ref M) none H')/\(xQ ts (chF tie (n0:Int) false) t t=false->∀(t':Addr) (H':Hp),Same H H'->TabF H' (.ref t') (ts.set n0 r) tie->Q (.ref t') H'))
theorem qQt{H:Hp}{m m':Im}{v v':V}(hc:qJ2 m m'=true)(h:IsI H m v)(h':IsI H m' v'):∃(za zb:Addr) (xa xb:List V) (l l':Int),v=.ref za/\v'=.ref zb/\H za=some (.tup xa)/\H zb=some (.tup xb)/\atI xa (-1)=some (.int l)/\atI xb (-1)=some (.int l')/\¬(HT.sIx xa.length 0 none=0/\HT.sIx xa.length xa.length (some (-1))=xa.length)/\(zT xa none (some (-1))).length<=4/\zT xa none (some (-1))≠[]/\∀(H':Hp) (t:Addr),Same H H'->H' t=some (.tup (zT xa none (some (-1))++[.int (l+l')]))->IsI H' (glue m m') (.ref t):=by
 rcases z9 hc with ⟨n,p,q,r,s,l,n',p',q',r',s',l',rfl,rfl⟩|⟨n,b,l,n',b',l',rfl,rfl⟩
 . obtain⟨za,x,y,rfl,hz,hx,hy⟩:=h
   obtain⟨zb,x',y',rfl,hz',_⟩:=h';exact⟨za,zb,_,_,l,l',O,O,hz,hz',O,O,by show ¬(HT.sIx 5 0 none=0/\HT.sIx 5 5 (some (-1))=5);decide,by show 4<=4;decide,List.cons_ne_nil _ _,fun H' t e ht=>⟨t,x,y,O,ht,e _ _ hx,e _ _ hy⟩⟩
 . obtain⟨za,rfl,hz⟩:=h
   obtain⟨zb,rfl,hz'⟩:=h';exact⟨za,zb,_,_,l,l',O,O,hz,hz',O,O,by show ¬(HT.sIx 4 0 none=0/\HT.sIx 4 4 (some (-1))=4);decide,by show 3<=4;decide,List.cons_ne_nil _ _,fun H' t e ht=>⟨t,O,ht⟩⟩
theorem qIl(T:Tx K mg a):FnOk P w K mg base (CXR P w) 7 a.A68 a.B68 ["table","deed"] (qIz a.k_NoPlace a.k_Mixed):=by
 refine okX T.D68.F v8 (fun vs H Q E h=>?_) (fun cdv A outer s H vs Q E hr h=>?_)
 . obtain⟨tz,dz,ts,tie,n0,ms,t,rfl,_⟩:=h
   rfl
 refine qL fun _ Y=>?_;obtain⟨tz,dz,ts,tie,n0,ms,t,rfl,hP,hms,hd,hIm,hpo,kb,kg⟩:=h;apply Y;refine⟨_,(qC (qZ 2 v8.nd (jU qz (qK (pv 0)) (qK (pv 1)) (fun _ _=>rfl)))
  (qC (qZ 3 v8.nd (qI T.D33 (vK T) hr rfl (qA (pv 2) (qA (qK (pv 1)) qB))))
  (qC (qW (q8 (qg (qI T.D67 (qGj T) hr rfl (qA (pv 2) (qA (pv 3) qB))))) (qE (xt rfl rfl T.c_NoPlace T.x_NoPlace (qA qR qB))) qN)
  (qC (q9 (xP T.D64 (vP T) hr rfl (qA (pv 0) (qA (pv 1) qB))))
  (qC (qZ 4 v8.nd (jU qz (pv 2) (qK (pv 3)) (fun _ _=>rfl)))
  (qC (qZ 5 v8.nd (qQ qO4 (xx qSj (pv 4) vX (zL (qAs ze qG))) (ql (qA (qQ qr (jU qF2 (pv 4) (qAs ze qG) (fun _ _=>rfl)) (jU qF2 (jU qz (pv 2) (qK (pv 3)) (fun _ _=>rfl)) (qAs ze qG) (fun _ _=>rfl))) qB))))
  (qE (qM (qI T.D56 (jz T) hr rfl (qA (pv 0) (qA (qK (pv 1)) (qA (qQ qAt (qQ qAt (xx wn (pv 2) vX (zL (qK (pv 3)))) (jR (qA (pv 5) qB))) (xx wn (pv 2) (zL (qQ qr (qK (pv 3)) qG)) vX)) qB)))))))))))),?_⟩
 try dsimp only[jN,qd]
 have one:(1:Nat)<=sizeLine:=by decide
 have a1:atI [V.str "heal",.int (n0:Int),.int t] 1=some (.int (n0:Int)):=rfl;have sm:∀j:Nat,j<=1000->j<=sizeLine:=fun j h=>by have:=qc (n:=j) (by omega);omega
 refine qL fun _ Y=>?_;obtain⟨tt,tl,ti,zs,e0,g2,g3,g4,g5⟩:=id hP.tab;cases e0;have hzl:=g4.len;have hnt:=hP.nt;have ez:zs[n0]?=some (zs[n0]'(by omega)):=List.getElem?_eq_getElem (by omega);obtain⟨ms',z,hms',ezz,tT⟩:=g4.get ez;rw[hms]at hms';cases hms';rw[ezz]at ez;obtain⟨hMB,hM1⟩:=hP.ok ms (List.mem_of_getElem? hms);apply Y;refine(ixO g2 at0 (ixO hd qS2 ⟨tl,_,_,_,O,O,SqL.of g3,jI ez,?_⟩));refine⟨_,O,ixO hd qVx ⟨z,ms,_,O,tT,?_⟩⟩;unfold qGn at kb kg;cases hnb:nbF ms t with
 |none=>
  rw[hnb]at kb;intro H1 e1;exact⟨_,O,_,O,z,_,ms,false,O,tT.same e1,.inl ⟨O,O⟩,fun H2 e2=>⟨false,O,jl ⟨one,kb rfl H2 (e1.trans e2)⟩⟩⟩
 |some rr=>
 refine qL fun _ Y=>?_;obtain⟨ii,jj⟩:=rr;obtain⟨k,rfl,hk,hij⟩:=qVh hnb;have hi0:=hpo _ _ hnb;obtain⟨i,rfl⟩:∃i:Nat,ii=(i:Int):=⟨ii.toNat,by omega⟩;obtain⟨m,hi⟩:∃m,ms[i]?=some m:=⟨_,List.getElem?_eq_getElem (by omega)⟩;obtain⟨m',hj⟩:∃m,ms[k]?=some m:=⟨_,List.getElem?_eq_getElem hk⟩;apply Y;rw[hnb]at kb kg;dsimp only at kb kg;rw[Int.toNat_natCast,Int.toNat_natCast,hi,hj]at kb kg;dsimp only at kb kg;intro pz H1 e1 hpz;refine⟨_,O,_,O,z,_,ms,qJ2 m m',O,tT.same e1,.inr ⟨pz,i,k,m,m',O,hpz,hi,hj,hIm m (List.mem_of_getElem? hi),O⟩,fun H2 e2=>⟨_,O,?_⟩⟩;have e12:=e1.trans e2;cases hcan:qJ2 m m' with
 |false=>
  rw[hcan]at kb;exact jl ⟨one,kb rfl H2 e12⟩
 |true=>
 rw[hcan]at kg;obtain⟨kM,kQ⟩:=kg _ rfl;refine qt ⟨_,O,_,O,tz,dz,ts,tie,n0,.hel t,O,hP.same e12,e12 _ _ hd,fun ht H3 e3=>kM ht H3 (e12.trans e3),fun ht H3 e3=>?_⟩;have kQ:=kQ ht;have e13:=e12.trans e3;have hpz3:=(e2.trans e3) _ _ hpz;refine qL fun _ Y=>?_;obtain⟨vs,hz,his⟩:=tT.same e13;have hvl:=his.len;obtain⟨va,hva,Ia⟩:=his.get' hi;obtain⟨vb,hvb,Ib⟩:=his.get' hj;obtain⟨za,zb,xa,xb,l,l',rfl,rfl,hza,hzb,am1,bm1,num1,hcl,hne,hgl⟩:=qQt hcan Ia Ib;apply Y;refine⟨_,O,ixO hpz3 at0 ⟨z,_,_,_,O,O,SqL.of hz,jI hva,?_⟩⟩;refine⟨_,O,1,O,_,O,za,_,O,SqT.of hza,num1,fun t ht=>?_⟩;have y1:=qF ht (.tup (zT xa none (some (-1))));refine⟨_,O,1,O,za,_,_,_,O,O,SqT.of (y1 _ _ hza),am1,_,O,ixO (y1 _ _ hpz3) at1 ⟨z,_,_,_,O,O,SqL.of (y1 _ _ hz),jI hvb,1,O,zb,_,_,_,O,O,SqT.of (y1 _ _ hzb),bm1,_,_,O,O,one,fun t2 ht2=>?_⟩⟩;have y2:=qF ht2 (.tup [.int (l+l')]);refine⟨t,t2,_,_,O,O,SqT.of (y2 _ _ qD),SqT.of qD,hne,sm _ (by show (zT xa none (some (-1))).length+1<=1000;omega),fun z=>absurd z (by simp),fun _ t3 ht3=>?_⟩;have y3:=qF ht3 (.tup (zT xa none (some (-1))++[.int (l+l')]));have y13:=(y1.trans y2).trans y3;have IW:=hgl _ t3 y13 qD;change _;generalize upd (upd (upd H3 t (.tup (zT xa none (some (-1))))) t2 (.tup [.int (l+l')])) t3 (.tup (zT xa none (some (-1))++[.int (l+l')]))=H4 at y13 IW;have e4:=e13.trans y13;refine⟨_,O,ixO (e4 _ _ hd) a1 ?_⟩;refine⟨_,O,ixO (y13 _ _ hpz3) at0 ⟨_,O,z,_,O,SqL.of (y13 _ _ hz),fun a1' ha1=>?_⟩⟩;have v1:=qF ha1 (.lst (zT vs none (some (i:Int))));refine⟨_,O,one,fun a2' ha2=>?_⟩;have v2:=qF ha2 (.lst [.ref t3]);have c1:=kR vs none (some (i:Int));have c2:=kR vs (some ((k:Int)+1)) none;refine⟨a1',a2',_,_,O,O,v2 _ _ qD,qD,sm _ (by show (zT vs none (some (i:Int))).length+1<=1000;omega),fun a3 ha3=>?_⟩;have v3:=qF ha3 (.lst (zT vs none (some (i:Int))++[.ref t3]));have v13:=(v1.trans v2).trans v3;refine⟨_,O,zS rfl (SqT.of ((y13.trans v13) _ _ hpz3)) at1 ⟨_,_,O,O,_,O,z,_,O,SqL.of ((y13.trans v13) _ _ hz),fun a4 ha4=>?_⟩⟩;have v4:=qF ha4 (.lst (zT vs (some ((k:Int)+1)) none));refine⟨a3,a4,_,_,O,O,v4 _ _ qD,qD,sm _ (by rw[List.length_append];show (zT vs none (some (i:Int))).length+1+_<=1000;omega),fun a5 ha5=>?_⟩;have v5:=qF ha5 (.lst (zT vs none (some (i:Int))++[.ref t3]++zT vs (some ((k:Int)+1)) none));have v15:=(v13.trans v4).trans v5;have e5:=e4.trans v15;have ed:zT vs (some ((k:Int)+1)) none=vs.drop (k+1):=by rw[show (k:Int)+1=((k+1:Nat):Int) by omega];exact qHl vs (k+1)
 have hisE:=(his.ts (qY y13)).ts (qY v15);have IWE:=IW.ts (qY v15);have kE:(upd (upd (upd (upd (upd H4 a1' (.lst (zT vs none (some (i:Int))))) a2' (.lst [.ref t3])) a3 (.lst (zT vs none (some (i:Int))++[.ref t3]))) a4 (.lst (zT vs (some ((k:Int)+1)) none))) a5 (.lst (zT vs none (some (i:Int))++[.ref t3]++zT vs (some ((k:Int)+1)) none))) a5=some (.lst (zT vs none (some (i:Int))++[.ref t3]++zT vs (some ((k:Int)+1)) none)):=qD;change _;generalize (upd (upd (upd (upd (upd H4 a1' (.lst (zT vs none (some (i:Int))))) a2' (.lst [.ref t3])) a3 (.lst (zT vs none (some (i:Int))++[.ref t3]))) a4 (.lst (zT vs (some ((k:Int)+1)) none))) a5 (.lst (zT vs none (some (i:Int))++[.ref t3]++zT vs (some ((k:Int)+1)) none)))=HB at e5 hisE IWE kE;rw[qDb,ed]at kE;exact⟨tz,a5,n0,ts,tie,ms.take i++[glue m m']++ms.drop (k+1),rfl,hP.tab.same e5,⟨_,kE,(hisE.take.app (.one IWE)).app hisE.drop⟩,hnt,by have:=hP.len;omega,fun t' H6 e6 hN=>kQ t' H6 (e5.trans e6) hN⟩
inductive Res where
 |place
 |mixed
 |short (M:Int)
 |good (ts:List (List Im))
inductive De where
 |hel (t:Int)
 |mix (t l:Int)
 |unm (t:Int)
 |rol (w:Str) (t b:Int)
 |chg (d:Dk)
def DeAt(H:Hp)(dz:Addr)(n:Nat):De->Prop
 |.hel t=>H dz=some (.tup [.str "heal",.int (n:Int),.int t])
 |.mix t l=>H dz=some (.tup [.str "mix",.int (n:Int),.int t,.int l])
 |.unm t=>H dz=some (.tup [.str "unmix",.int (n:Int),.int t])
 |.rol w t b=>Wd3 w/\H dz=some (.tup [.str w,.int (n:Int),.int t,.int b])
 |.chg d=>DAt H dz (n:Int) d/\∀t,d≠ .hel t
theorem DeAt.same{H H':Hp}{dz:Addr}{n:Nat}{d:De}(e:Same H H')(h:DeAt H dz n d):DeAt H' dz n d:=by
 cases d with
 |rol w t b=>exact⟨h.1,e _ _ h.2⟩
 |chg d=>exact⟨h.1.same e,h.2⟩
 |_=>exact e _ _ h
def qWe(H:Hp)(rd:Addr)(ms:List Im):De->Prop
 |.hel t=>0<=t/\(∀m∈ms,ImH m)/\∀i j,nbF ms t=some (i,j)->0<=i
 |.mix t l=>0<=t/\1<=l
 |.unm t=>0<=t
 |.rol _ t b=>0<=t/\b.natAbs<=1000000
 |.chg d=>(∃t,d=.cut t/\0<=t/\vt ms t=false)\/DOk H rd ms d
def wiB(ms:List Im):Dk->Bool
 |.cut t=>vt ms t
 |_=>true
def qAj(rl:Rls)(ts:List (List Im))(tie:List Int)(n:Nat)(ms:List Im):De->Res
 |.hel t=>match qGn ms t with
  |none=>.place
  |some ms'=>if xQ ts (chF tie (n:Int) false) t t=true then .mixed else .good (ts.set n ms')
 |.mix t l=>match cbF ms t with
  |none=>.place
  |some (i,j)=>if j=i+1 then (match mmF rl ms t with
   |none=>.place
   |some M=>if M<l then .short M else .good (ts.set n (ms.take (i.toNat+1)++[.mix l]++ms.drop (i.toNat+1))))else .place
 |.unm t=>match cbF ms t with
  |none=>.place
  |some (i,j)=>if j=i+1 then .place else .good (ts.set n (ms.take (i.toNat+1)++ms.drop (i.toNat+2)))
 |.rol w t b=>match plF w ms t with
  |none=>.place
  |some is=>if is.any (hmB ms)=true then .mixed else if wG b<=qHt rl ms w is b then .good (ts.set n (qSq ms w is b))else .short (sgM b (qHt rl ms w is b))
 |.chg d=>if wiB ms d=true then (if xQ ts (chF tie (n:Int) d.push) d.t d.hi=true then .mixed else .good (qN1 ts d (n:Int) (chF tie (n:Int) d.push)))else .place
def De.t:De->Int
 |.hel t=>t
 |.mix t _=>t
 |.unm t=>t
 |.rol _ t _=>t
 |.chg d=>d.t
def DdX(_:W.Frag)(H:Hp)(rd dz:Addr)(rl:Rls)(ts:List (List Im))(tie:List Int)(r:Res):Prop:= ∃(n:Nat) (ms:List Im) (d:De),ts[n]?=some ms/\DeAt H dz n d/\qWe H rd ms d/\r=qAj rl ts tie n ms d
inductive qDh(K:W.Frag)(N M S:Addr)(vs:List V)(H:Hp)(Q:VK)(E:XK):Prop
|mk (tz dz rd:Addr) (rl:Rls) (ts:List (List Im)) (tie:List Int) (r:Res) (_:vs=[.ref tz,.ref dz,.ref rd]) (_:TabD H tz rd rl ts tie) (_:DdX K H rd dz rl ts tie r) (_:(r=.place->∀H',Same H H'->E (.ref N) none H')) (_:(r=.mixed->∀H',Same H H'->E (.ref M) none H')) (_:(∀m,r=.short m->∀(dx:Addr) (H':Hp),Same H H'->H' dx=some (.xd [("most",.int m)])->E (.ref S) (some dx) H')) (_:(∀ts',r=.good ts'->∀(t':Addr) (H':Hp),Same H H'->TabF H' (.ref t') ts' tie->Q (.ref t') H'))
theorem qSc{ms:List Im}{t i j:Int}(h:cbF ms t=some (i,j)):∃k:Nat,i=(k:Int)/\(j=((k+1:Nat):Int)\/j=((k+2:Nat):Int)):=by obtain⟨k,_,_,_,_,_,_,rfl,_⟩:=xD (kT h).1;exact⟨k,rfl,by have:=qOw h;omega⟩
structure DeW(H:Hp)(dz:Addr)(n:Nat)(d:De)(xs:List V)(w:Str):Prop where
 hd:H dz=some (.tup xs)
 a1:atI xs 1=some (.int (n:Int))
 nc:qWs xs w d.t
 nw:¬Wd3 w
 t0:0<=d.t
def De.k:De->Nat
 |.hel _=>0
 |.mix .. =>1
 |.unm _=>2
 |.chg _=>3
 |.rol .. =>4
def KW(w:Str)(k:Nat):Prop:=(w="heal"↔k=0)/\(w="mix"↔k=1)/\(w="unmix"↔k=2)
instance (w:Str) (k:Nat):Decidable (KW w k):=by unfold KW;infer_instance
theorem qQr{H:Hp}{dz rd:Addr}{n:Nat}{d:De}{ms:List Im}(h:DeAt H dz n d)(ho:qWe H rd ms d)(hr:d.k≠4):∃xs w,DeW H dz n d xs w/\KW w d.k:=by
 have no:∀{w x y:Str} {p:Prop},w≠x/\w≠y->w=x\/w=y->p:=fun h1 h2=>h2.elim (fun e=>absurd e h1.1) (fun e=>absurd e h1.2);have fin:∀{xs:List V} {w:Str},(¬Wd3 w/\KW w d.k)->H dz=some (.tup xs)->atI xs 1=some (.int (n:Int))->0<=d.t->qWs xs w d.t->∃xs w,DeW H dz n d xs w/\KW w d.k:=fun{xs w} h1 h2 h3 h4 h5=>⟨xs,w,⟨h2,h3,h5,h1.1,h4⟩,h1.2⟩;have kw:((¬Wd3 "heal"/\KW "heal" 0)/\(¬Wd3 "mix"/\KW "mix" 1)/\(¬Wd3 "unmix"/\KW "unmix" 2))/\(¬Wd3 "cut"/\KW "cut" 3)/\(¬Wd3 "open"/\KW "open" 3)/\(¬Wd3 "close"/\KW "close" 3)/\(¬Wd3 "lift"/\KW "lift" 3)/\(¬Wd3 "lay_in"/\KW "lay_in" 3)/\(¬Wd3 "lay_over"/\KW "lay_over" 3):=by decide+kernel
 cases d with
 |rol w t b=>exact absurd rfl hr
 |hel t=>exact fin kw.1.1 h rfl ho.1 ⟨rfl,rfl,no (by decide+kernel),no (by decide+kernel)⟩
 |mix t l=>exact fin kw.1.2.1 h rfl ho.1 ⟨rfl,rfl,fun _=>⟨l,rfl,ho.2⟩,no (by decide+kernel)⟩
 |unm t=>exact fin kw.1.2.2 h rfl ho ⟨rfl,rfl,no (by decide+kernel),no (by decide+kernel)⟩
 |chg d=>
  obtain⟨h,hne⟩:=h;cases d with
  |hel t=>exact absurd rfl (hne t)
  |cut t=>exact fin kw.2.1 h rfl (ho.elim (fun⟨_,e,q,_⟩=>by cases e;exact q) (fun q=>q.1)) ⟨rfl,rfl,no (by decide+kernel),no (by decide+kernel)⟩
  |opn t l=>
   have ho:=ho.elim (fun⟨_,e,_⟩=>by cases e) id;exact fin kw.2.2.1 h rfl ho.1 ⟨O,O,fun _=>⟨l,O,ho.2.2⟩,no (by decide+kernel)⟩
  |cls t u=>
   have ho:=ho.elim (fun⟨_,e,_⟩=>by cases e) id;exact fin kw.2.2.2.1 h rfl ho.1 ⟨O,O,no (by decide+kernel),fun _=>⟨u,O,ho.2.1⟩⟩
  |lft t u=>
   have ho:=ho.elim (fun⟨_,e,_⟩=>by cases e) id;exact fin kw.2.2.2.2.1 h rfl ho.1 ⟨O,O,no (by decide+kernel),fun _=>⟨u,O,ho.2.1⟩⟩
  |lin t m=>
   have ho:=ho.elim (fun⟨_,e,_⟩=>by cases e) id;obtain⟨v,h,_⟩:=h;exact fin kw.2.2.2.2.2.1 h rfl ho.1 ⟨O,O,no (by decide+kernel),no (by decide+kernel)⟩
  |lov t m=>
   have ho:=ho.elim (fun⟨_,e,_⟩=>by cases e) id;obtain⟨v,h,_⟩:=h;exact fin kw.2.2.2.2.2.2 h rfl ho.1 ⟨O,O,no (by decide+kernel),no (by decide+kernel)⟩
theorem vh(T:Tx K mg a):FnOk P w K mg base (CXR P w) 10 a.A73 a.B73 ["table","deed","reels"] (qDh K a.k_NoPlace a.k_Mixed a.k_Short):=by
 refine okX T.D73.F qJk (fun vs H Q E h=>?_) (fun cdv A outer s H vs Q E hr h=>?_)
 . obtain⟨tz,dz,rd,rl,ts,tie,r,rfl,_⟩:=h
   rfl
 refine qL fun _ Y=>?_;obtain⟨tz,dz,rd,rl,ts,tie,r,rfl,hP,⟨n,ms,d,hm,hA,hO,hR⟩,k0,k1,k4,k2⟩:=h;apply Y;refine⟨_,(qC (qW (qJ jc (qK (pv 1)) (jq (v:=.ref a.n_ROLLS) rfl T.g_ROLLS rfl) rfl) (qE (qM (xP T.D57 (qMs T) hr rfl (qA (pv 0) (qA (pv 1) (qA (pv 2) qB)))))) qN)
  (qC (q9 (qI T.D45 (wU T) hr rfl (qA (pv 0) (qA (qK (pv 1)) (qA (qK (pv 1)) qB)))))
  (qC (q9 (qI T.D62 (qCv T) hr rfl (qA (pv 1) qB)))
  (qC (qW (qJ ja (qK (pv 1)) qR (qP _)) (qE (qM (xP T.D68 (qIl T) hr rfl (qA (pv 0) (qA (pv 1) qB))))) qN)
  (qC (qW (qJ ja (qK (pv 1)) qR (qP _)) (qE (qM (xP T.D69 (qLh T) hr rfl (qA (pv 0) (qA (pv 1) (qA (pv 2) qB)))))) qN)
  (qC (qW (qJ ja (qK (pv 1)) qR (qP _)) (qE (qM (xP T.D70 (qGg T) hr rfl (qA (pv 0) (qA (pv 1) qB))))) qN)
  (qC (q9 (xP T.D65 (qC0 T) hr rfl (qA (pv 0) (qA (pv 1) (qA (pv 2) qB)))))
  (qE (qM (qI T.D72 (qI0 T) hr rfl (qA (pv 0) (qA (pv 1) qB)))))))))))),?_⟩
 try dsimp only[jN,qd]
 refine qL fun _ Y=>?_;obtain⟨tt,tl,ti,zs,e0,g2,g3,g4,g5⟩:=id hP.tab;cases e0;apply Y;have hzl:=g4.len;have hn:=(glt hm);by_cases hk:d.k=4
 . cases d with
   |rol wd t b=>
    refine qL fun _ Y=>?_;obtain⟨hw,hd⟩:=hA;obtain⟨_,hml,hit⟩:=hP.ok ms (List.mem_of_getElem? hm);apply Y;rw[qAj]at hR;refine(ixO hd qEp ⟨a.n_ROLLS,_,O,.inr (T.sq_ROLLS _),O,O,true,xg (by rw[qL9];exact decide_eq_true hw),jl ?_⟩);refine⟨_,rfl,_,rfl,_,rfl,tz,dz,rd,ts,tie,wd,n,t,b,ms,rl,rfl,hP.tab,hd,hw,hm,hO.1,hO.2,by have:=hP.len;omega,by omega,hit,hP.re,fun hp=>?_,fun is hp=>⟨fun hx=>?_,fun hx=>⟨fun hc=>?_,fun hc=>?_⟩⟩⟩
    . rw[hp]at hR
      exact k0 hR
    . rw[hp]at hR
      dsimp only at hR;rw[if_pos hx]at hR;exact k1 hR
    . rw[hp]at hR
      dsimp only at hR;rw[if_neg (by rw[hx];decide),if_pos hc]at hR;exact k2 _ hR
    . rw[hp]at hR
      dsimp only at hR;rw[if_neg (by rw[hx];decide),if_neg hc]at hR;exact k4 _ hR
   |_=>cases hk
 refine qL fun _ Y=>?_;obtain⟨xs,w,hW,hKW⟩:=qQr hA hO hk;obtain⟨hd,a1,hN,hw,t0⟩:=id hW;apply Y;have a0:=hN.1;have a2:=hN.2.1;have hG:=hP.g hn;have dT:∀{x:Str},w=x->decide (V.str w=V.str x)=true:=fun h=>by rw[h];simp
 have dF:∀{x:Str},w≠x->decide (V.str w=V.str x)=false:=fun h=>by rw[qTq];exact decide_eq_false h
 refine(ixO hd a0 ⟨a.n_ROLLS,_,O,.inr (T.sq_ROLLS _),O,O,false,xg (by rw[qL9];exact decide_eq_false hw),qt ?_⟩);refine⟨_,O,ixO hd a1 (ixO hd a2 ⟨tz,tl,ti,zs,_,_,O,g2,g3,by omega,by omega,t0,?_⟩)⟩;refine⟨_,O,dz,xs,w,d.t,O,hd,hN,fun H1 e1=>?_⟩;have hG1:=hG.same e1;have hA1:=hA.same e1;refine(ixO (e1 _ _ hd) a0 ⟨O,_,O,jo (fun c=>?_) (fun c=>?_)⟩)
 . obtain⟨t,rfl⟩:∃t,d=.hel t:=by
    have:=hKW.1.mp (by simpa using c);cases d with
    |hel t=>exact⟨t,rfl⟩
    |_=>cases this
   refine qL fun _ Y=>?_;obtain⟨_,hIm,hpo⟩:=hO;apply Y;refine⟨_,O,_,O,tz,dz,ts,tie,n,ms,t,O,hG1,hm,hA1,hIm,hpo,fun h H2 e2=>?_,fun ms' h=>⟨fun ht H2 e2=>?_,fun ht t' H2 e2 hN=>?_⟩⟩
   . rw[qAj]at hR
     rw[h]at hR;exact k0 hR H2 (e1.trans e2)
   . rw[qAj]at hR
     rw[h]at hR;dsimp only at hR;rw[ht,if_pos rfl]at hR;exact k1 hR H2 (e1.trans e2)
   . rw[qAj]at hR
     rw[h]at hR;dsimp only at hR;rw[ht,if_neg (by decide)]at hR;exact k2 _ hR t' H2 (e1.trans e2) hN
 have n0:d.k≠0:=fun z=>c (dT (hKW.1.mpr z));refine(ixO (e1 _ _ hd) a0 ⟨O,_,O,jo (fun c=>?_) (fun c=>?_)⟩)
 . obtain⟨t,l,rfl⟩:∃t l,d=.mix t l:=by
    have:=hKW.2.1.mp (by simpa using c);cases d with
    |mix t l=>exact⟨t,l,rfl⟩
    |_=>cases this
   have hit:=(hP.ok ms (List.mem_of_getElem? hm)).2.2;refine⟨_,O,_,O,_,O,tz,dz,rd,ts,tie,n,ms,t,l,rl,O,hG1,hm,hA1,hit,hP.re.same e1,fun h H2 e2=>?_,fun i M hc hM=>⟨fun hlt dx H2 e2 hx=>?_,fun hle t' H2 e2 hN=>?_⟩⟩
   . refine k0 ?_ H2 (e1.trans e2)
     rw[hR];rw[qAj];rcases h with h|⟨x,y,h,hxy⟩
     . rw[h]
     . rw[h]
       dsimp only;rw[if_neg hxy]
   . refine k4 M ?_ dx H2 (e1.trans e2) hx
     rw[hR];rw[qAj];rw[hc];dsimp only;rw[if_pos (by omega),hM];dsimp only;rw[if_pos hlt]
   . refine k2 _ ?_ t' H2 (e1.trans e2) hN
     rw[hR];rw[qAj];rw[hc];dsimp only;rw[if_pos (by omega),hM];dsimp only;rw[if_neg (by omega),Int.toNat_natCast]
 have n1:d.k≠1:=fun z=>c (dT (hKW.2.1.mpr z));refine(ixO (e1 _ _ hd) a0 ⟨O,_,O,jo (fun c=>?_) (fun c=>?_)⟩)
 . obtain⟨t,rfl⟩:∃t,d=.unm t:=by
    have:=hKW.2.2.mp (by simpa using c);cases d with
    |unm t=>exact⟨t,rfl⟩
    |_=>cases this
   refine⟨_,O,_,O,tz,dz,ts,tie,n,ms,t,O,hG1,hm,hA1,fun h H2 e2=>?_,fun i hc t' H2 e2 hN=>?_⟩
   . refine k0 ?_ H2 (e1.trans e2)
     rw[hR];rw[qAj];rcases h with h|⟨x,h⟩
     . rw[h]
     . rw[h]
       dsimp only;rw[if_pos rfl]
   . refine k2 _ ?_ t' H2 (e1.trans e2) hN
     rw[hR];rw[qAj];rw[hc];dsimp only;rw[if_neg (by omega),Int.toNat_natCast]
 have n2:d.k≠2:=fun z=>c (dT (hKW.2.2.mpr z));obtain⟨d',rfl⟩:∃d',d=.chg d':=by
  cases d with
  |chg d=>exact⟨d,rfl⟩
  |hel=>exact absurd rfl n0
  |mix=>exact absurd rfl n1
  |unm=>exact absurd rfl n2
  |rol=>exact absurd rfl hk
 rw[qAj]at hR;rcases id hO with ⟨t,rfl,h0,hwi⟩|hO'
 . rw[if_neg (by show ¬vt ms t=true;rw[hwi];decide)]at hR
   exact⟨_,rfl,_,rfl,_,rfl,tz,dz,rd,ts,tie,n,ms,0,rfl,hG1,hm,.cut0 hA1.1 hwi,fun _ H2 e2=>k0 hR H2 (e1.trans e2),(fun hc=>by cases hc),fun hc=>by cases hc⟩
 have hwi:wiB ms d'=true:=by
  cases d' with
  |cut t=>exact hO'.2.2
  |_=>rfl
 rw[if_pos hwi]at hR;refine⟨_,O,_,O,_,O,tz,dz,rd,ts,tie,n,ms,_,O,hG1,hm,(ChO.ok hA.1 hO' rfl).same e1,fun hc=>?_,fun hc H2 e2=>?_,fun hc H2 e2=>?_⟩
 . split at hc <;> cases hc
 . split at hc
   . rename_i ht
     rw[if_pos ht]at hR;exact k1 hR H2 (e1.trans e2)
   . cases hc
 . split at hc
   . cases hc
   . rename_i ht
     rw[if_neg ht]at hR;have e12:=e1.trans e2;exact⟨_,O,_,O,tz,dz,rd,ts,tie,n,d',ms,O,hG.same e12,hA.1.same e12,hO'.same e12,fun t' H3 e3 hN=>k2 _ hR t' H3 (e12.trans e3) hN⟩
theorem DdX.mix{K:W.Frag}{H:Hp}{rd dz:Addr}{rl:Rls}{ts:List (List Im)}{tie:List Int}{n i:Nat}{t l M:Int}{ms:List Im}{r:Res}(hd:H dz=some (.tup [.str "mix",.int (n:Int),.int t,.int l]))(hm:ts[n]?=some ms)(h0:0<=t)(hl:1<=l)(hc:cbF ms t=some ((i:Int),((i+1:Nat):Int)))(hM:mmF rl ms t=some M)(hr:r=if M<l then .short M else .good (ts.set n (ms.take (i+1)++[.mix l]++ms.drop (i+1)))):DdX K H rd dz rl ts tie r:=by refine⟨n,ms,.mix t l,hm,hd,⟨h0,hl⟩,?_⟩;rw[hr,qAj,hc];dsimp only;rw[if_pos (show ((i+1:Nat):Int)=(i:Int)+1 by omega),hM];dsimp only;rw[Int.toNat_natCast]
inductive qE4(vs:List V)(H:Hp)(Q:VK)(_:XK):Prop
|mk (c n:Int) (_:vs=[.int c,.int n]) (_:0<=n) (_:n<=400) (_:∀(z:Addr) (xs:List Int) (H':Hp),Same H H'->H z=none->H' z=some (.lst (xs.map V.int))->xs.length=n.toNat->(∀x∈xs,0<=x/\x<10000000019)->Q (.ref z) H')
theorem zl(T:Tx K mg a):FnOk P w K mg base CX0 1 a.A86 a.B86 ["_law_cell","_law_size"] qE4:=by
 refine T.D86.F.ok jO (fun vs H Q E h=>?_) (fun cdv A outer s H vs Q E hr h=>?_)
 . obtain⟨c,n,rfl,_⟩:=h
   rfl
 refine qL fun _ Y=>?_;obtain⟨c,n,rfl,n0,n1,kk⟩:=h;apply Y;refine⟨_,(qC (qZ 2 jO.nd (jR qB))
  (qC (qW (qJ qCr (pv 0) (qQ qSi qG qG) (qP _)) (qC (qZ 3 jO.nd (qQ qf (pv 0) qG))
  (qC (j6 PassesOwn.never rfl (kA rfl T.b_range (qA (pv 1) qB)) (jA (i:=4) jO.nd rfl (Or.inl rfl)) (qC (q9 (qCn F.plainAttrs_list F.slot_list_append F.type_list_append jv (pv 2) (qA (qQ qm (pv 3) qG) qB)))
  (qE (qZ 3 jO.nd (qQ qf (pv 3) qG)))))
  (qE (qM (qVq (pv 2)))))) qN)
  (qC (qZ 5 jO.nd (qQ qm (qQ jJ (qQ qr (qQ qm (pv 0) qG) qG) qG) qG))
  (qC (j6 PassesOwn.never rfl (kA rfl T.b_range (qA (pv 1) qB)) (jA (i:=4) jO.nd rfl (Or.inl rfl)) (qC (qZ 5 jO.nd (qQ qr (qQ qr (qQ qm (qQ jJ (pv 5) (qQ qr (qQ qf (pv 5) qG) qG)) qG) (pv 4)) qG))
  (qE (q9 (qCn F.plainAttrs_list F.slot_list_append F.type_list_append jv (pv 2) (qA (pv 5) qB))))))
  (qE (qM (pv 2))))))),?_⟩
 try dsimp only[jN,qd]
 refine⟨sL0,fun z hz=>?_⟩;have wz:∀(xs:List Int),Same H (upd H z (.lst (xs.map V.int))):=fun xs=>qF hz _;refine⟨_,O,_,_,O,O,cpw (n:=40) (by decide),_,_,O,O,_,O,jo (fun _=>?_) (fun _=>?_)⟩
 . refine⟨_,O,_,_,O,O,cdB (by decide) (by decide),?_⟩
   refine⟨_,O,n,O,by omega,by omega,vw (n:=n.toNat) (fun i σ H'=> ∃(xs:List Int) (r:Int) (o p:Option V),σ=[some (.int c),some (.int n),some (.ref z),some (.int r),o,p]/\H'=upd H z (.lst (xs.map V.int))/\xs.length=i/\(∀x∈xs,0<=x/\x<10000000019))
    ⟨[],_,none,none,rfl,rfl,rfl,(by simp)⟩ ?_ ?_⟩
   . rintro i σ H' hi ⟨xs,r,o,p,rfl,rfl,hl,hx⟩
     have f:=fm r (show (0:Int)<10000000019 by decide);refine⟨_,O,.inl ⟨O,_,SqL.of qD⟩,_,O,_,_,O,O,nz,z,_,_,O,O,qD,(by rw[List.length_map];exact qc (by omega)),?_⟩;refine⟨_,O,_,_,O,O,cdB (by decide) (by decide),xs++[r.fmod 10000000019],_,_,_,O,?_,?_,?_⟩
     . rw[qBh,List.map_append];rfl
     . rw[List.length_append,hl];rfl
     . intro y hy
       rcases List.mem_append.mp hy with hy|hy
       . exact hx y hy
       . have e:y=r.fmod 10000000019:=by simpa using hy
         rw[e];exact f
   . rintro σ H' ⟨xs,r,o,p,rfl,rfl,hl,hx⟩
     refine⟨_,O,z,_,O,SqL.of qD,fun y hy=>?_⟩;rw[<-List.map_reverse];exact kk y xs.reverse _ ((wz xs).trans (qF hy _)) ((wz xs).free hy) qD (by rw[List.length_reverse];exact hl) (fun x hx'=>hx x (List.mem_reverse.mp hx'))
 . have f0:=fm c (show (0:Int)<2147483647 by decide)
   refine⟨_,O,_,_,O,O,nz,_,_,O,O,_,_,O,O,cmR (by decide) (by decide),_,_,O,O,nz,?_⟩;have f1:=fm ((c.fmod 2147483647+1)*48271) (show (0:Int)<2147483647 by decide);refine⟨_,O,n,O,by omega,by omega,vw (n:=n.toNat) (fun i σ H'=> ∃(xs:List Int) (r:Int) (o p:Option V),σ=[some (.int c),some (.int n),some (.ref z),o,p,some (.int r)]/\H'=upd H z (.lst (xs.map V.int))/\xs.length=i/\(∀x∈xs,0<=x/\x<10000000019)/\0<=r/\r<2147484647)
    ⟨[],_,none,none,rfl,rfl,rfl,(by simp),f1.1,by omega⟩ ?_ ?_⟩
   . rintro i σ H' hi ⟨xs,r,o,p,rfl,rfl,hl,hx,r0,r1⟩
     have f:=fm (r*(r.fdiv 1009+69621)) (show (0:Int)<2147483647 by decide);refine⟨_,O,_,O,_,_,O,O,cdB (by decide) (by decide),_,_,O,O,_,_,O,O,cmL (by omega) (by omega),_,_,O,O,nz,_,O,_,_,O,O,_,_,O,O,?_⟩;refine⟨_,O,.inl ⟨O,_,SqL.of qD⟩,_,O,z,_,_,O,O,qD,(by rw[List.length_map];exact qc (by omega)),?_⟩;refine⟨xs++[(r*(r.fdiv 1009+69621)).fmod 2147483647+(0+(i:Int))+1],_,_,_,O,?_,?_,?_,by omega,by omega⟩
     . rw[qBh,List.map_append];rfl
     . rw[List.length_append,hl];rfl
     . intro y hy
       rcases List.mem_append.mp hy with hy|hy
       . exact hx y hy
       . have e:y=(r*(r.fdiv 1009+69621)).fmod 2147483647+(0+(i:Int))+1:=by simpa using hy
         rw[e];omega
   . rintro σ H' ⟨xs,r,o,p,rfl,rfl,hl,hx,_,_⟩
     exact⟨_,O,kk z xs _ (wz xs) hz qD hl hx⟩
def SB(z:Addr)(H H':Hp):Prop:= ∀b u,b≠z->H b=some u->H' b=some u
theorem SB.refl(z:Addr)(H:Hp):SB z H H:=fun _ _ _ h=>h
theorem SB.trans{z:Addr}{H H1 H2:Hp}(a:SB z H H1)(b:SB z H1 H2):SB z H H2:=fun c u n h=>b c u n (a c u n h)
theorem xF{z:Addr}{H H':Hp}(e:Same H H'):SB z H H':=fun b u _ h=>e b u h
theorem qN5{z:Addr}{H:Hp}{o:HO}:SB z H (upd H z o):=fun b u n h=>by rw[qX n];exact h
theorem SB.ts{z:Addr}{H H':Hp}{xs:List V}(e:SB z H H')(h:H z=some (.lst xs)):TS H H':=fun b ys hb=>e b _ (qM3 hb h (by intro q;cases q)) hb
inductive qFp(vs:List V)(H:Hp)(Q:VK)(_:XK):Prop
|mk (t b:Int) (_:vs=[.int t,.int b]) (_:0<b) (_:b.natAbs<2 ^ 8000) (_:qRz H Q (xB t b) (jh t b))
theorem wP(T:Tx K mg a):FnOk P w K mg base CX0 1 a.A87 a.B87 ["_law_top","_law_bottom"] qFp:=by
 refine T.D87.F.ok xR (fun vs H Q E h=>?_) (fun cdv A outer s H vs Q E hr h=>?_)
 . obtain⟨t,b,rfl,_⟩:=h
   rfl
 refine qL fun _ Y=>?_;obtain⟨t,b,rfl,hb,hb2,k⟩:=h;apply Y;refine⟨_,(qC (qZ 2 xR.nd (qU vB rfl T.b_abs rfl (qA (pv 0) qB)))
  (qC (qZ 3 xR.nd (pv 1))
  (qC (qMf PassesOwn.never (qJ zD (pv 3) qG (qP _)) (qE (qU0 (i:=2) (j:=3) rfl xR.nd rfl rfl (by decide) rfl rfl (qA (pv 3) (qA (qQ qm (pv 2) (pv 3)) qB)) rfl)))
  (qE (qM (ql (qA (qQ qf (pv 0) (pv 2)) (qA (qQ qf (pv 1) (pv 2)) qB)))))))),?_⟩
 try dsimp only[jN,qd]
 refine⟨_,O,t,O,_,O,?_⟩;refine qMc (fun σ H'=>H'=H/\∃x y:Int,σ=[some (.int t),some (.int b),some (.int x),some (.int y)]/\0<=x/\0<=y/\Int.gcd x y=Int.gcd t b)
  (fun σ _=>match σ with|[_,_,_,some (.int y)]=>y.natAbs|_=>0) ⟨rfl,_,_,rfl,?_,by omega,?_⟩ ?_ ?_
 . split <;> omega
 . have e1:(if t<0 then-t else t)=((t.natAbs:Nat):Int):=by split <;> omega
   rw[e1];rfl
 . rintro σ H1 ⟨rfl,x,y,rfl,h0,h1,e⟩
   refine⟨_,O,O,_,O,?_⟩;refine jo (fun c=>?_) (fun c=>?_)
   . have hy:y≠0:=by simpa using c
     refine⟨_,O,_,O,_,O,_,_,O,O,hy,_,_,O,⟨O,y,x.fmod y,O,h1,Int.fmod_nonneg_of_pos x (by omega),?_⟩,?_⟩
     . rw[qLj];exact e
     . exact qOc x y hy
   . have hy:y=0:=by simpa using c
     refine qL fun _ Y=>?_;subst hy;have e2:x=sg t b:=by unfold sg;rw[if_neg (by omega),<-e,Int.gcd_zero_right];omega
     obtain⟨d1,d2⟩:=qL0 (t:=t) (b:=b) (by omega) hb2;apply Y;have q':qRz H1 Q (t.fdiv x) (b.fdiv x):=by rw[e2];exact k
     exact⟨_,O,_,O,_,_,O,O,(by rw[e2];exact d1),_,O,_,O,_,_,O,O,(by rw[e2];exact d2),sL2,q'⟩
 . rintro σ H1 Q1 Q2 hq h
   refine qL fun _ Y=>?_;obtain⟨v,e,s,k,hk,z⟩:=h;apply Y;exact⟨v,e,s,k,hk,hq _ _ z⟩
theorem qDe{H:Hp}{zx:Addr}{ys:List Int}{x:Int}{Q:VK}(h:H zx=some (.lst ((ys++[x]).map V.int)))(q:∀H',SB zx H H'->H' zx=some (.lst (ys.map V.int))->(∀b,b≠zx->H' b=H b)->Q (.int x) H'):qX6 (.ref zx) [] H Q:=by
 refine⟨zx,_,.int x,O,O,h,?_,?_⟩
 . rw[List.map_append,List.length_append,List.length_map]
   simp
 . have e:((ys++[x]).map V.int).dropLast=ys.map V.int:=by rw[List.map_append];simp
   rw[e];exact q _ qN5 qD fun b hb=>qX hb
theorem xC{α:Type}{xs:List α}{n:Nat}(h:xs.length=n+1):∃ys x,xs=ys++[x]/\ys.length=n:=by
 have hne:xs≠[]:=by intro q;rw[q]at h;simp at h
 exact⟨xs.dropLast,xs.getLast hne,(List.dropLast_concat_getLast hne).symm,by rw[List.length_dropLast,h];rfl⟩
def RE(H:Hp)(re:Addr)(A:Int):Prop:=Rd H re (.dK [(Sum.inr "a",.int A),(Sum.inr "reelb",.int 1000000000)])/\60<=A/\A<360
theorem qWh{z:Addr}{H H':Hp}(e:SB z H H'){a:Addr}{u:HO}(n:a≠z)(h:Rd H a u):Rd H' a u:=by
 rcases h with h|⟨o,h⟩
 . exact .inl (e _ _ n h)
 . exact .inr ⟨o,e _ _ n h⟩
theorem RE.ne{H:Hp}{re z:Addr}{A:Int}{xs:List V}(h:RE H re A)(hz:H z=some (.lst xs)):re≠z:=by
 rcases h.1 with q|⟨o,q⟩
 . exact qM3 q hz (by intro q;cases q)
 . exact qM3 q hz (by intro q;cases q)
theorem RE.sb{z:Addr}{H H':Hp}(e:SB z H H'){re:Addr}{A:Int}(n:re≠z)(h:RE H re A):RE H' re A:=⟨qWh e n h.1,h.2⟩
theorem RE.same{H H':Hp}(e:Same H H'){re:Addr}{A:Int}(h:RE H re A):RE H' re A:=⟨qK7 e h.1,h.2⟩
theorem RE.ga{H:Hp}{re:Addr}{A:Int}(h:RE H re A):DGet H re (.str "a") (some (.int A)):=.inl ⟨_,Sum.inr "a",h.1,rfl,rfl⟩
theorem RE.gb{H:Hp}{re:Addr}{A:Int}(h:RE H re A):DGet H re (.str "reelb") (some (.int 1000000000)):=.inl ⟨_,Sum.inr "reelb",h.1,rfl,rfl⟩
def stF(lo rs to bo len:Int):Int:=if to<0 then lo*7*bo+rs*bo-7*(len-1)*to else lo*7*bo+rs*bo
def qCj(i:Int):Int:=if i<0 then-i else i
def CF(A:Int)(m:Im):Prop:= ∃(nm:Str) (N lo rs to bo len:Int),((nm="a"/\N=A)\/(nm="reelb"/\N=1000000000))/\1<=len/\len<=10/\ -6<=to/\to<=6/\1<=bo/\bo<=5/\0<=lo/\lo+(((len-1)*qCj to).fdiv bo+1)<N/\0<=rs/\rs<7/\
 m=.clip nm (xB (stF lo rs to bo len) (7*bo)) (jh (stF lo rs to bo len) (7*bo)) (xB to bo) (jh to bo) len
theorem qL3{x y X Y:Int}(hx: -X<=x/\x<=X)(hy: -Y<=y/\y<=Y)(hX:0<=X)(hY:0<=Y): -(X*Y)<=x*y/\x*y<=X*Y:=by
 have h1:(x*y).natAbs<=X.natAbs*Y.natAbs:=by rw[Int.natAbs_mul];exact Nat.mul_le_mul (by omega) (by omega)
 have h2:((X.natAbs*Y.natAbs:Nat):Int)=X*Y:=by
  rw[Int.natCast_mul];have e1:(X.natAbs:Int)=X:=by omega
  have e2:(Y.natAbs:Int)=Y:=by omega
  rw[e1,e2]
 omega
theorem qUp{lo rs to bo len:Int}(l0:0<=lo)(l1:lo<=1000000000)(r0:0<=rs)(r1:rs<7)(t0: -6<=to)(t1:to<=6)(b0:1<=bo)(b1:bo<=5)(n0:1<=len)(n1:len<=10):(stF lo rs to bo len).natAbs<2 ^ 60:=by have h1:=qL3 (x:=lo*7) (y:=bo) (X:=7000000000) (Y:=5) ⟨by omega,by omega⟩ ⟨by omega,by omega⟩ (by decide) (by decide);have h2:=qL3 (x:=rs) (y:=bo) (X:=7) (Y:=5) ⟨by omega,by omega⟩ ⟨by omega,by omega⟩ (by decide) (by decide);have h3:=qL3 (x:=7*(len-1)) (y:=to) (X:=63) (Y:=6) ⟨by omega,by omega⟩ ⟨by omega,by omega⟩ (by decide) (by decide);unfold stF;split <;> omega
def rlE(A:Int):Rls:=fun n=>if n="a" then some A else if n="reelb" then some 1000000000 else none
theorem CF.it{A:Int}{m:Im}(h:CF A m)(hA0:60<=A)(hA:A<360):ItR (rlE A) m/\ImB m/\1<=m.mo/\m.mo<=10:=by
 obtain⟨nm,N,lo,rs,to,bo,len,hn,n0,n1,t0,t1,b0,b1,l0,l1,r0,r1,rfl⟩:=h;have hf:0<=((len-1)*qCj to).fdiv bo:=by
  have:=qo (p:=(len-1)*qCj to) (q:=bo) (by omega);have h0:0<=(len-1)*qCj to:=Int.mul_nonneg (by omega) (by unfold qCj;split <;> omega);have:¬(((len-1)*qCj to).fdiv bo+1<=0):=fun q=>by have:=Int.mul_le_mul_of_nonneg_right (c:=bo) q (by omega);omega
  omega
 have lo1:lo<=1000000000:=by rcases hn with ⟨_,rfl⟩|⟨_,rfl⟩ <;> omega
 have hs:=qUp l0 lo1 r0 r1 t0 t1 b0 b1 n0 n1;have p110:∀{i:Int},i.natAbs<2 ^ 60->i.natAbs<2 ^ 110:=fun h=>Nat.lt_of_lt_of_le h (Nat.pow_le_pow_right (by decide) (by decide));have e60:(100:Nat)<2 ^ 60:=by decide
 have g1:qRx 110 (xB (stF lo rs to bo len) (7*bo)) (jh (stF lo rs to bo len) (7*bo)):=qMr (by omega) (p110 hs) (p110 (by omega));have g2:qRx 110 (xB to bo) (jh to bo):=qMr (by omega) (p110 (by omega)) (p110 (by omega));have hr:rlE A nm=some N:=by
  unfold rlE;rcases hn with ⟨rfl,rfl⟩|⟨rfl,rfl⟩
  . rw[if_pos rfl]
  . rw[if_neg (by decide+kernel),if_pos rfl]
 have hc:Rc nm (xB (stF lo rs to bo len) (7*bo)) (jh (stF lo rs to bo len) (7*bo)) (xB to bo) (jh to bo) len (rlE A) N:=⟨g1,g2,Nat.lt_of_le_of_lt (show len.natAbs<=10 by omega) (by decide),n0,hr,Nat.lt_of_le_of_lt (show N.natAbs<=1000000000 by rcases hn with ⟨_,rfl⟩|⟨_,rfl⟩ <;> omega) (by decide)⟩;refine⟨fun n p q r s l e=>?_,hc.bn.mono (m:=700),n0,n1⟩;cases e;exact⟨N,hc⟩
inductive qJi(vs:List V)(H:Hp)(Q:VK)(_:XK):Prop
|mk (zx re:Addr) (xs:List Int) (A sz:Int) (_:vs=[.ref zx,.ref re,.int sz]) (_:H zx=some (.lst (xs.map V.int))) (_:6<=xs.length) (_:RE H re A) (_:1<=sz) (_:sz<=10) (_:∀(v:V) (m:Im) (xs':List Int) (H':Hp),SB zx H H'->H' zx=some (.lst (xs'.map V.int))->xs'.length+6=xs.length->CF A m->IsI H' m v->Q v H')
theorem vW(T:Tx K mg a):FnOk P w K mg base CX0 2 a.A88 a.B88 ["_law_xs","_law_reels_here","_law_size"] qJi:=by
 refine T.D88.F.ok jD (fun vs H Q E h=>?_) (fun cdv A outer s H vs Q E hr h=>?_)
 . obtain⟨zx,re,xs,A',sz,rfl,_⟩:=h
   rfl
 refine qL fun _ Y=>?_;obtain⟨zx,re,xs,A',sz,rfl,hz,hl,hre,hs1,hs2,kk⟩:=h;have hu:=hr.units;have hu1:(A.deeper (PyProof.Rows.envOfC (Str.ofString "_law_clip") (qH kO) s.heap.objs.size a.A88 cdv)).units+1<cLine:=by omega
 obtain⟨n,hn⟩:∃n,xs.length=n+6:=⟨xs.length-6,by omega⟩;obtain⟨y1,x1,rfl,l1⟩:=xC (n:=n+5) (by omega);obtain⟨y2,x2,rfl,l2⟩:=xC (n:=n+4) l1;obtain⟨y3,x3,rfl,l3⟩:=xC (n:=n+3) l2;obtain⟨y4,x4,rfl,l4⟩:=xC (n:=n+2) l3;obtain⟨y5,x5,rfl,l5⟩:=xC (n:=n+1) l4;obtain⟨y6,x6,rfl,l6⟩:=xC (n:=n) l5;apply Y;have nre:=hre.ne hz;refine⟨_,(qC (qZ 3 jD.nd (jU qz (jR (qA qR (qA qR qB))) (qQ qm (qQ qf (ji F.plainAttrs_list F.slot_list_pop F.type_list_pop jk (pv 0)) qG) qG) (fun _ _=>rfl)))
  (qC (qZ 4 jD.nd (qQ qr qG (qQ qm (qQ qf (ji F.plainAttrs_list F.slot_list_pop F.type_list_pop jk (pv 0)) qG) (pv 2))))
  (qC (qZ 5 jD.nd (qQ jS (qQ qm (qQ qf (ji F.plainAttrs_list F.slot_list_pop F.type_list_pop jk (pv 0)) qG) qG) qG))
  (qC (qZ 6 jD.nd (qQ qr qG (qQ qm (qQ qf (ji F.plainAttrs_list F.slot_list_pop F.type_list_pop jk (pv 0)) qG) qG)))
  (qC (qZ 7 jD.nd (qQ qr (qQ qf (qQ jJ (qQ jS (pv 4) qG) (qU vB rfl T.b_abs rfl (qA (pv 5) qB))) (pv 6)) qG))
  (qC (zC (qW (qJ qCr (pv 7) (qBk hu1 (pv 1) (pv 3) (fun _ _=>rfl)) (qP _)) (qC (qZ 5 jD.nd qG)
  (qE (qZ 7 jD.nd qG))) qN))
  (qC (qZ 8 jD.nd (qQ qm (ji F.plainAttrs_list F.slot_list_pop F.type_list_pop jk (pv 0)) (qQ jS (qBk hu1 (pv 1) (pv 3) (fun _ _=>rfl)) (pv 7))))
  (qC (qZ 9 jD.nd (qQ qm (qQ qf (ji F.plainAttrs_list F.slot_list_pop F.type_list_pop jk (pv 0)) qG) qG))
  (qC (qZ 10 jD.nd (qQ qr (qQ jJ (qQ jJ (pv 8) qG) (pv 6)) (qQ jJ (pv 9) (pv 6))))
  (qC (zC (qW (qJ zy (pv 5) qG (qP _)) (qE (qZ 10 jD.nd (qQ jS (pv 10) (qQ jJ (qQ jJ qG (qQ jS (pv 4) qG)) (pv 5))))) qN))
  (qE (qM (ql (qA qR (qA (pv 3) (qA (qI T.D87 (wP T) hr rfl (qA (pv 10) (qA (qQ jJ qG (pv 6)) qB))) (qA (qI T.D87 (wP T) hr rfl (qA (pv 5) (qA (pv 6) qB))) (qA (pv 4) qB)))))))))))))))))),?_⟩
 try dsimp only[jN,qd]
 refine⟨sL2,fun ld hld=>?_⟩;have w0:=qF hld (.lst [.str "a",.str "reelb"]);have hz0:=w0 _ _ hz;have nld:ld≠zx:=(qV hz hld).symm;refine⟨_,O,.inl ⟨O,_,SqL.of hz0⟩,qDe hz0 fun H1 s1 hz1 k1=>?_⟩;have f1:=fm (x1.fdiv 3) (show (0:Int)<2 by decide);refine qL fun _ Y=>?_;obtain⟨v,hv,hor⟩:=at2 (x:=V.str "a") (y:=.str "reelb") f1.1 f1.2;apply Y;refine⟨_,_,O,O,cdB (by decide) (by decide),_,_,O,O,nz,ld,_,_,v,O,O,SqL.of (s1 _ _ nld qD),hv,?_⟩;have sb1:SB zx H H1:=(xF w0).trans s1;have re1:=hre.sb sb1 nre;refine qL fun _ Y=>?_;obtain⟨nm,N,rfl,hnm,hget⟩:∃(nm:Str) (N:Int),v=.str nm/\((nm="a"/\N=A')\/(nm="reelb"/\N=1000000000))/\∀{H':Hp},RE H' re A'->DGet H' re (.str nm) (some (.int N)):=by
  rcases hor with rfl|rfl
  . exact⟨"a",A',O,.inl ⟨O,O⟩,fun h=>h.ga⟩
  . exact⟨"reelb",1000000000,O,.inr ⟨O,O⟩,fun h=>h.gb⟩
 apply Y;have hN:60<=N/\N<=1000000000:=by have:=hre.2;rcases hnm with ⟨_,rfl⟩|⟨_,rfl⟩ <;> omega
 refine⟨_,O,.inl ⟨O,_,SqL.of hz1⟩,qDe hz1 fun H2 s2 hz2 k2=>?_⟩;have f2:=fm (x2.fdiv 3) (show (0:Int)<sz by omega);refine⟨_,_,O,O,cdB (by decide) (by decide),_,O,_,_,O,O,(by omega),_,_,O,O,?_⟩;refine⟨_,O,.inl ⟨O,_,SqL.of hz2⟩,qDe hz2 fun H3 s3 hz3 k3=>?_⟩;have f3:=fm (x3.fdiv 3) (show (0:Int)<13 by decide);refine⟨_,_,O,O,cdB (by decide) (by decide),_,_,O,O,nz,_,_,O,O,?_⟩;refine⟨_,O,.inl ⟨O,_,SqL.of hz3⟩,qDe hz3 fun H4 s4 hz4 k4=>?_⟩;have f4:=fm (x4.fdiv 3) (show (0:Int)<5 by decide);refine⟨_,_,O,O,cdB (by decide) (by decide),_,_,O,O,nz,_,_,O,O,?_⟩;have sb4:SB zx H H4:=((sb1.trans s2).trans s3).trans s4;dsimp only;generalize hlen:1+(x2.fdiv 3).fmod sz=len;generalize hto:(x3.fdiv 3).fmod 13-6=to;generalize hbo:1+(x4.fdiv 3).fmod 5=bo;have n0:1<=len:=by omega
 have n1:len<=10:=by omega
 have t0: -6<=to:=by omega
 have t1:to<=6:=by omega
 have b0:1<=bo:=by omega
 have b1:bo<=5:=by omega
 refine⟨_,O,_,_,O,O,_,O,_,O,_,_,O,O,cmL (by omega) (by omega),_,O,_,_,O,O,cdB (by omega) (by omega),_,_,O,O,?_⟩;have ha:(if to<0 then-to else to)=qCj to:=rfl;rw[ha];have pos:∀i:Int,0<=i->0<=((len-1)*i).fdiv bo:=fun i hi=>by
  have h1:=qo (p:=(len-1)*i) (q:=bo) (by omega);have h0:0<=(len-1)*i:=Int.mul_nonneg (by omega) hi;have:¬(((len-1)*i).fdiv bo+1<=0):=fun q=>by have:=Int.mul_le_mul_of_nonneg_right (c:=bo) q (by omega);omega
  omega
 have abs0:∀i:Int,0<=qCj i:=fun i=>by unfold qCj;split <;> omega
 refine⟨fun σ' H'=>H'=H4/\∃to:Int,σ'=[some (.ref zx),some (.ref re),some (.int sz),some (.str nm),some (.int len),some (.int to),some (.int bo),some (.int (((len-1)*qCj to).fdiv bo+1)),none,none,none]/\ -6<=to/\to<=6/\((len-1)*qCj to).fdiv bo+1<N,?_,?_⟩
 . refine⟨_,O,_,O,_,O,re,_,O,hget (hre.sb sb4 nre),_,_,O,O,_,O,jo (fun _=>?_) (fun c=>?_)⟩
   . have ez:((len-1)*qCj 0).fdiv bo+1=1:=by have:qCj 0=0:=rfl;rw[this,Int.mul_zero,Int.zero_fdiv];rfl
     refine⟨O,0,?_,by decide,by decide,by rw[ez];omega⟩;rw[ez];rfl
   . exact⟨O,to,O,t0,t1,by simpa using c⟩
 rintro σ' H' ⟨rfl,to,rfl,t0,t1,hfar⟩;have hf0:=pos (qCj to) (abs0 to);refine⟨_,O,.inl ⟨O,_,SqL.of hz4⟩,qDe hz4 fun H5 s5 hz5 k5=>?_⟩;have sb5:=sb4.trans s5;refine⟨_,O,_,O,re,_,O,hget (hre.sb sb5 nre),_,O,_,_,O,O,_,_,O,O,(by omega),?_⟩;have f5:=fm x5 (show (0:Int)<N-(((len-1)*qCj to).fdiv bo+1) by omega);dsimp only;generalize x5.fmod (N-(((len-1)*qCj to).fdiv bo+1))=lo at f5⊢;refine⟨_,O,.inl ⟨O,_,SqL.of hz5⟩,qDe hz5 fun H6 s6 hz6 k6=>?_⟩;have sb6:=sb5.trans s6;have f6:=fm (x6.fdiv 3) (show (0:Int)<7 by decide);refine⟨_,_,O,O,cdB (by decide) (by decide),_,_,O,O,nz,?_⟩;dsimp only;generalize (x6.fdiv 3).fmod 7=rs at f6⊢;have m1:=qL3 (x:=lo*7) (y:=bo) (X:=7000000000) (Y:=5) ⟨by omega,by omega⟩ ⟨by omega,by omega⟩ (by decide) (by decide);refine⟨_,O,_,_,O,O,cmR (by decide) (by decide),_,O,_,_,O,O,cmR (by omega) (by omega),_,O,_,O,_,_,O,O,cmR (by omega) (by omega),_,_,O,O,?_⟩;refine⟨fun σ' H'=>H'=H6/\∃st:Int,σ'=[some (.ref zx),some (.ref re),some (.int sz),some (.str nm),some (.int len),some (.int to),some (.int bo),some (.int (((len-1)*qCj to).fdiv bo+1)),some (.int lo),some (.int rs),some (.int st)]/\st=stF lo rs to bo len,?_,?_⟩
 . refine⟨_,O,_,_,O,O,_,O,jo (fun c=>?_) (fun c=>?_)⟩
   . have c':to<0:=by simpa using c
     refine⟨_,O,_,O,_,_,O,O,_,_,O,O,cmL (by decide) (by decide),_,O,_,_,O,O,cmR (by omega) (by omega),_,_,O,O,O,_,O,?_⟩;unfold stF;rw[if_pos c']
   . have c':¬to<0:=by simpa using c
     refine⟨O,_,O,?_⟩;unfold stF;rw[if_neg c']
 rintro σ' H' ⟨rfl,st,rfl,hst⟩;refine⟨_,O,_,O,_,O,_,_,O,O,cmL (by decide) (by decide),st,7*bo,O,by omega,?_,fun p hp=>?_⟩
 . have:(7*bo).natAbs<2 ^ 6:=by omega
   exact Nat.lt_of_lt_of_le this (Nat.pow_le_pow_right (by decide) (by decide))
 have w7:=qF hp (.tup [.int (xB st (7*bo)),.int (jh st (7*bo))]);refine⟨_,O,_,O,to,bo,O,by omega,?_,fun q hq=>?_⟩
 . have:bo.natAbs<2 ^ 6:=by omega
   exact Nat.lt_of_lt_of_le this (Nat.pow_le_pow_right (by decide) (by decide))
 have w8:=qF hq (.tup [.int (xB to bo),.int (jh to bo)]);refine⟨_,O,sL5,fun u hu'=>?_⟩;have w9:=qF hu' (.tup [.str "clip",.str nm,.ref p,.ref q,.int len]);have w79:=(w7.trans w8).trans w9;refine kk _ (.clip nm (xB st (7*bo)) (jh st (7*bo)) (xB to bo) (jh to bo) len) y6 _ (sb6.trans (xF w79)) (w79 _ _ hz6) (by simp) ?_ (isC qD (w9 _ _ (w8 _ _ qD)) (w9 _ _ qD));exact⟨nm,N,lo,rs,to,bo,len,hnm,n0,n1,t0,t1,b0,b1,f5.1,by omega,f6.1,f6.2,by rw[hst]⟩
def TI(A:Int)(m:Im):Prop:=(∃l,m=.gap l/\1<=l/\l<=10)\/(∃b l,m=.nest "low" b l/\0<=b/\b<9/\1<=l/\l<=10)\/CF A m
def GG(ms:List Im):Prop:= ∀(i:Nat) (l l':Int),ms[i]?=some (.gap l)->ms[i+1]?=some (.gap l')->False
def qCi(ms:List Im):Prop:= ∀l,ms[ms.length-1]?≠some (.gap l)
theorem qLb{ms:List Im}{m:Im}(h:GG ms)(hl:qCi ms\/ ∀l,m≠ .gap l):GG (ms++[m]):=by
 intro i l l' h1 h2;have hi:i+1<(ms++[m]).length:=(glt h2);rw[List.length_append,List.length_singleton]at hi;by_cases hc:i+1<ms.length
 . rw[List.getElem?_append_left (by omega)]at h1
   rw[List.getElem?_append_left hc]at h2;exact h i l l' h1 h2
 . have e:i+1=ms.length:=by omega
   rw[List.getElem?_append_left (by omega)]at h1;rw[List.getElem?_append_right (by omega),e,Nat.sub_self]at h2;have e2:m=.gap l':=by simpa using h2
   have e3:ms.length-1=i:=by omega
   rcases hl with hl|hl
   . exact hl l (by rw[e3];exact h1)
   . exact hl l' e2
theorem qXo{ms:List Im}(h:GG ms):GG ms.dropLast:=by intro i l l' h1 h2;have hi:=(glt h2);rw[List.length_dropLast]at hi;rw[List.getElem?_dropLast,if_pos (by omega)]at h1 h2;exact h i l l' h1 h2
theorem qUt{ms:List Im}{l:Int}(h:GG ms)(hl:ms[ms.length-1]?=some (.gap l)):qCi ms.dropLast:=by
 intro l' h1;have hi:=(glt h1);rw[List.length_dropLast]at hi h1;rw[List.getElem?_dropLast,if_pos (by omega)]at h1;have e:ms.length-1-1+1=ms.length-1:=by omega
 exact h _ l' l h1 (by rw[e];exact hl)
theorem qGi{z y:Addr}{H H':Hp}{o:HO}(e:SB z H H')(h:H y=none):SB z H (upd H' y o):=fun b u n hb=>by rw[qX (qV hb h)];exact e b u n hb
theorem qKb{H:Hp}{ms:List Im}{vs:List V}(h:IsIs H ms vs)(hne:ms≠[]):∃v m,vs[vs.length-1]?=some v/\ms[ms.length-1]?=some m/\IsI H m v:=by
 have hl:0<ms.length:=List.length_pos_iff.mpr hne;have hi:vs.length-1<vs.length:=by rw[h.len];omega
 have ev:vs[vs.length-1]?=some vs[vs.length-1]:=List.getElem?_eq_getElem hi;obtain⟨m,h1,h2⟩:=h.get ev;refine⟨_,m,ev,?_,h2⟩;rw[h.len]at h1;exact h1
inductive qHo(vs:List V)(H:Hp)(Q:VK)(_:XK):Prop
|mk (zx re:Addr) (xs:List Int) (A:Int) (_:vs=[.ref zx,.ref re,.int 10]) (_:H zx=some (.lst (xs.map V.int))) (_:36<=xs.length) (_:RE H re A) (_:∀(y:Addr) (ms:List Im) (xs':List Int) (H':Hp),SB zx H H'->H y=none->H' zx=some (.lst (xs'.map V.int))->xs.length<=xs'.length+36->Tr H' y ms->ms.length<=5->(∀m∈ms,TI A m)->GG ms->qCi ms->Q (.ref y) H')
theorem qGo(T:Tx K mg a):FnOk P w K mg base CX0 3 a.A89 a.B89 ["_law_xs","_law_reels_here","_law_size"] qHo:=by
 refine T.D89.F.ok xq (fun vs H Q E h=>?_) (fun cdv A outer s H vs Q E hr h=>?_)
 . obtain⟨zx,re,xs,A',rfl,_⟩:=h
   rfl
 refine qL fun _ Y=>?_;obtain⟨zx,re,xs,A',rfl,hz,hl,hre,kk⟩:=h;apply Y;have hu:=hr.units;have nre:=hre.ne hz;refine⟨_,(qC (qZ 3 xq.nd (jR qB))
  (qC (j6 PassesOwn.never rfl (kA rfl T.b_range (qA (qQ qm (qQ qf (ji F.plainAttrs_list F.slot_list_pop F.type_list_pop jk (pv 0)) qG) qG) qB)) (jA (i:=4) xq.nd rfl (Or.inl rfl)) (qC (qZ 5 xq.nd (qQ qm (qQ qf (ji F.plainAttrs_list F.slot_list_pop F.type_list_pop jk (pv 0)) qG) qG))
  (qE (qW (qF6 (PW.pt (xW (qJ ja (pv 5) qG (qP _)) (xA (PW.pt (jd (qJ (qV4 hu) (pv 3) (jR qB) (qP _)) (jK (qJ zD (qK (jU qz (pv 3) (qAs ze qG) (fun _ _=>rfl))) qR (qP _))))))))) (qE (q9 (qCn F.plainAttrs_list F.slot_list_append F.type_list_append jv (pv 3) (qA (ql (qA qR (qA (qQ qr qG (qQ qm (qQ qf (ji F.plainAttrs_list F.slot_list_pop F.type_list_pop jk (pv 0)) qG) (pv 2))) qB))) qB)))) (qE (qW (qJ ja (pv 5) qG (qP _)) (qE (q9 (qCn F.plainAttrs_list F.slot_list_append F.type_list_append jv (pv 3) (qA (ql (qA qR (qA qR (qA (qQ qm (qQ qf (ji F.plainAttrs_list F.slot_list_pop F.type_list_pop jk (pv 0)) qG) qG) (qA (qQ qr qG (qQ qm (qQ qf (ji F.plainAttrs_list F.slot_list_pop F.type_list_pop jk (pv 0)) qG) (pv 2))) qB))))) qB)))) (qE (q9 (qCn F.plainAttrs_list F.slot_list_append F.type_list_append jv (pv 3) (qA (qI T.D88 (vW T) hr rfl (qA (pv 0) (qA (pv 1) (qA (pv 2) qB)))) qB))))))))))
  (qC (qW (qF6 (PW.pt (xW (qJ (qOa hu) (pv 3) (jR qB) (qP _)) (xA (qJ ja (qK (jU qz (pv 3) (qAs ze qG) (fun _ _=>rfl))) qR (qP _)))))) (qE (q9 (ji F.plainAttrs_list F.slot_list_pop F.type_list_pop jk (pv 3)))) qN)
  (qE (qM (pv 3)))))),?_⟩
 try dsimp only[jN,qd]
 refine⟨sL0,fun y hy=>?_⟩;have w0:=qF hy (.lst []);have ny:y≠zx:=(qV hz hy).symm;refine qL fun _ Y=>?_;obtain⟨n,hn⟩:∃n,xs.length=n+1:=⟨xs.length-1,by omega⟩;obtain⟨y1,x1,rfl,l1⟩:=xC hn;apply Y;refine⟨_,O,.inl ⟨O,_,SqL.of (w0 _ _ hz)⟩,qDe (w0 _ _ hz) fun H1 s1 hz1 k1=>?_⟩;have f1:=fm (x1.fdiv 3) (show (0:Int)<6 by decide);refine⟨_,_,O,O,cdB (by decide) (by decide),_,_,O,O,nz,_,O,by omega,by omega,vw (n:=((x1.fdiv 3).fmod 6).toNat) (fun i σ H'=> ∃(o1 o2:Option V) (ms:List Im) (vs:List V) (xs':List Int),σ=[some (.ref zx),some (.ref re),some (.int 10),some (.ref y),o1,o2]/\H' zx=some (.lst (xs'.map V.int))/\n<=xs'.length+7*i/\H' y=some (.lst vs)/\IsIs H' ms vs/\ms.length<=i/\(∀m∈ms,TI A' m)/\GG ms/\SB zx H H')
  ⟨none,none,[],[],y1,rfl,hz1,by omega,s1 _ _ ny qD,trivial,by simp,by simp,by intro i l l' h1;simp at h1,(xF w0).trans s1⟩ ?_ ?_⟩
 . rintro i σ H' hi ⟨o1,o2,ms,vs,xs',rfl,hzx,hxl,hv,hiv,hml,hti,hgg,sb⟩
   refine qL fun _ Y=>?_;obtain⟨n',hn'⟩:∃n,xs'.length=n+7:=⟨xs'.length-7,by omega⟩;obtain⟨u1,p1,rfl,lu1⟩:=xC (n:=n'+6) (by omega);apply Y;have hvl:vs.length<=i:=by rw[hiv.len];exact hml
   refine⟨_,O,.inl ⟨O,_,SqL.of hzx⟩,qDe hzx fun H2 s2 hz2 k2=>?_⟩;have hiv2:=hiv.ts (s2.ts hzx);have hv2:=s2 _ _ ny hv;have sb2:=sb.trans s2;refine⟨_,_,O,O,cdB (by decide) (by decide),_,_,O,O,nz,?_⟩;refine⟨fun b H'=>Same H2 H'/\(b=true->qCi ms),?_,?_⟩
   . refine⟨_,O,O,_,O,jo (fun _=>?_) (fun _=>⟨Same.refl _,by simp⟩)⟩
     refine⟨_,O,sL0,fun en hen=>qWu ⟨vs,(qF hen _) _ _ hv2,hiv2.ts (qY (qF hen _))⟩ qD ⟨_,O,?_⟩⟩;have w3:=qF hen (.lst []);by_cases hne:ms=[]
     . have e:ms.isEmpty=true:=by rw[hne];rfl
       rw[e];exact jl ⟨w3,fun _ l h=>by rw[hne]at h;simp at h⟩
     . have e:ms.isEmpty=false:=by
        cases ms with
        |nil=>exact absurd rfl hne
        |cons=>rfl
       rw[e];refine qt ?_;refine qL fun _ Y=>?_;obtain⟨v,m,h1,h2,h4⟩:=qKb (hiv2.ts (qY w3)) hne;obtain⟨zi,xi,rfl,hzi,h0,_⟩:=h4.opn;apply Y;refine⟨_,O,_,O,y,_,_,_,O,O,SqL.of (w3 _ _ hv2),qL4 h1,zi,xi,_,_,O,O,SqT.of hzi,h0,O,_,O,w3,fun c l q=>?_⟩;rw[h2]at q;have q:m=.gap l:=Option.some.inj q;subst q;revert c;show (!decide (V.str "gap"=V.str "gap"))=true->False;simp
   rintro b H3 ⟨w3,hb⟩;have hv3:=w3 _ _ hv2;have hiv3:=hiv2.ts (qY w3);have hz3:=w3 _ _ hz2;have sb3:=sb2.trans (xF w3);cases b with
   |true=>
    refine jl ?_;refine qL fun _ Y=>?_;obtain⟨u2,p2,rfl,lu2⟩:=xC (n:=n'+5) lu1;apply Y;refine⟨_,O,.inl ⟨O,_,SqL.of hv3⟩,_,O,.inl ⟨O,_,SqL.of hz3⟩,qDe hz3 fun H4 s4 hz4 k4=>?_⟩;have f2:=fm (p2.fdiv 3) (show (0:Int)<10 by decide);refine⟨_,_,O,O,cdB (by decide) (by decide),_,O,_,_,O,O,nz,_,_,O,O,sL2,fun g hg=>?_⟩;have w5:=qF hg (.tup [.str "gap",.int (1+(p2.fdiv 3).fmod 10)]);have hv5:=w5 _ _ (s4 _ _ ny hv3);refine⟨y,_,_,O,O,hv5,qc (by omega),?_⟩;refine⟨_,_,ms++[.gap (1+(p2.fdiv 3).fmod 10)],_,u2,O,?_,by omega,qD,(((hiv3.ts (s4.ts hz3)).ts (qY w5)).app (.one (isG qD))).ts (xM hv5),by simp;omega,?_,qLb hgg (.inl (hb rfl)),qGi ((sb3.trans s4).trans (xF w5)) hy⟩
    . rw[qX ny.symm];exact w5 _ _ hz4
    . intro m hm
      rcases List.mem_append.mp hm with hm|hm
      . exact hti m hm
      . have:m=.gap (1+(p2.fdiv 3).fmod 10):=by simpa using hm
        exact .inl ⟨_,this,by omega,by omega⟩
   |false=>
    refine qt ?_;refine⟨_,O,O,_,O,jo (fun _=>?_) (fun _=>?_)⟩
    . obtain⟨u2,p2,rfl,lu2⟩:=xC (n:=n'+5) lu1
      refine qL fun _ Y=>?_;obtain⟨u3,p3,rfl,lu3⟩:=xC (n:=n'+4) lu2;apply Y;refine⟨_,O,.inl ⟨O,_,SqL.of hv3⟩,_,O,.inl ⟨O,_,SqL.of hz3⟩,qDe hz3 fun H4 s4 hz4 k4=>?_⟩;have f2:=fm (p2.fdiv 3) (show (0:Int)<9 by decide);refine⟨_,_,O,O,cdB (by decide) (by decide),_,_,O,O,nz,_,O,.inl ⟨O,_,SqL.of hz4⟩,qDe hz4 fun H5 s5 hz5 k5=>?_⟩;have f3:=fm (p3.fdiv 3) (show (0:Int)<10 by decide);refine⟨_,_,O,O,cdB (by decide) (by decide),_,O,_,_,O,O,nz,_,_,O,O,sL4,fun g hg=>?_⟩;have w5:=qF hg (.tup [.str "nest",.str "low",.int ((p2.fdiv 3).fmod 9),.int (1+(p3.fdiv 3).fmod 10)]);have hv5:=w5 _ _ (s5 _ _ ny (s4 _ _ ny hv3));refine⟨y,_,_,O,O,hv5,qc (by omega),?_⟩;refine⟨_,_,ms++[.nest "low" ((p2.fdiv 3).fmod 9) (1+(p3.fdiv 3).fmod 10)],_,u3,O,?_,by omega,qD,((((hiv3.ts (s4.ts hz3)).ts (s5.ts hz4)).ts (qY w5)).app (.one (isN qD))).ts (xM hv5),by simp;omega,?_,qLb hgg (.inr fun l q=>nomatch q),qGi (((sb3.trans s4).trans s5).trans (xF w5)) hy⟩
      . rw[qX ny.symm];exact w5 _ _ hz5
      . intro m hm
        rcases List.mem_append.mp hm with hm|hm
        . exact hti m hm
        . have:m=.nest "low" ((p2.fdiv 3).fmod 9) (1+(p3.fdiv 3).fmod 10):=by simpa using hm
          exact .inr (.inl ⟨_,_,this,by omega,by omega,by omega,by omega⟩)
    . refine⟨_,O,.inl ⟨O,_,SqL.of hv3⟩,_,O,_,O,_,O,zx,re,u1,A',10,O,hz3,by omega,hre.sb sb3 nre,by decide,by decide,fun v m u' H4 s4 hz4 hl4 hcf hI=>?_⟩
      have hv5:=s4 _ _ ny hv3;refine⟨y,_,_,O,O,hv5,qc (by omega),?_⟩;have hng:∀l,m≠ .gap l:=fun l q=>by obtain⟨_,_,_,_,_,_,_,_,_,_,_,_,_,_,_,_,_,_,e⟩:=hcf;rw[q]at e;cases e
      refine⟨_,_,ms++[m],_,u',O,?_,by omega,qD,((hiv3.ts (s4.ts hz3)).app (.one hI)).ts (xM hv5),by simp;omega,?_,qLb hgg (.inr hng),qGi (sb3.trans s4) hy⟩
      . rw[qX ny.symm];exact hz4
      . intro m' hm
        rcases List.mem_append.mp hm with hm|hm
        . exact hti m' hm
        . have:m'=m:=by simpa using hm
          rw[this];exact .inr (.inr hcf)
 rintro σ H' ⟨o1,o2,ms,vs,xs',rfl,hzx,hxl,hv,hiv,hml,hti,hgg,sb⟩;have hm5:ms.length<=5:=by omega
 have hxl':(y1++[x1]).length<=xs'.length+36:=by rw[hn];omega
 refine⟨fun b H2=>Same H' H2/\(b=true->∃l,ms[ms.length-1]?=some (.gap l))/\(b=false->qCi ms),?_,?_⟩
 . refine⟨_,O,sL0,fun en hen=>qW9 ⟨vs,(qF hen _) _ _ hv,hiv.ts (qY (qF hen _))⟩ qD ⟨_,O,?_⟩⟩
   have w3:=qF hen (.lst []);by_cases hne:ms=[]
   . have e:ms.isEmpty=true:=by rw[hne];rfl
     rw[e];exact qt ⟨w3,by simp,fun _ l h=>by rw[hne]at h;simp at h⟩
   . have e:ms.isEmpty=false:=by
      cases ms with
      |nil=>exact absurd rfl hne
      |cons=>rfl
     rw[e];refine jl ?_;refine qL fun _ Y=>?_;obtain⟨v,m,h1,h2,h4⟩:=qKb (hiv.ts (qY w3)) hne;obtain⟨zi,xi,rfl,hzi,h0,_⟩:=h4.opn;apply Y;refine⟨_,O,_,O,y,_,_,_,O,O,SqL.of (w3 _ _ hv),qL4 h1,zi,xi,_,_,O,O,SqT.of hzi,h0,O,_,O,w3,fun c=>?_,fun c l q=>?_⟩
     . obtain⟨l,rfl⟩:=qAc (by simpa using c)
       exact⟨l,h2⟩
     . rw[h2]at q
       have q:m=.gap l:=Option.some.inj q;subst q;revert c;show decide (V.str "gap"=V.str "gap")=false->False;simp
 rintro b H2 ⟨w2,hb,hb'⟩;have hv2:=w2 _ _ hv;have hiv2:=hiv.ts (qY w2);cases b with
 |true=>
  refine qL fun _ Y=>?_;obtain⟨l,hl2⟩:=hb rfl;have hne:ms≠[]:=by intro q;rw[q]at hl2;simp at hl2
  obtain⟨v,m,h1,h2,h4⟩:=qKb hiv2 hne;apply Y;refine jl ⟨_,O,.inl ⟨O,_,SqL.of hv2⟩,y,_,v,O,O,hv2,h1,_,O,?_⟩;refine kk y ms.dropLast xs' _ (qGi (sb.trans (xF w2)) hy) hy ?_ hxl' ⟨_,qD,hiv2.dl.ts (xM hv2)⟩ (by rw[List.length_dropLast];omega) (fun m hm=>hti m (List.dropLast_subset _ hm)) (qXo hgg) (qUt hgg hl2);rw[qX ny.symm];exact w2 _ _ hzx
 |false=>exact qt ⟨_,rfl,kk y ms xs' _ (sb.trans (xF w2)) hy (w2 _ _ hzx) hxl' ⟨_,hv2,hiv2⟩ hm5 hti hgg (hb' rfl)⟩
inductive qG6(vs:List V)(H:Hp)(Q:VK)(_:XK):Prop
|mk (c:Int) (_:vs=[.int c]) (_:∀(re:Addr) (A:Int) (H':Hp),Same H H'->H re=none->H' re=some (.dK [(Sum.inr "a",.int A),(Sum.inr "reelb",.int 1000000000)])->60<=A->A<360->Q (.ref re) H')
theorem qGu(T:Tx K mg a):FnOk P w K mg base CX0 1 a.A90 a.B90 ["_law_cell"] qG6:=by
 refine T.D90.F.ok qGf (fun vs H Q E h=>?_) (fun cdv A outer s H vs Q E hr h=>?_)
 . obtain⟨c,rfl,_⟩:=h
   rfl
 refine qL fun _ Y=>?_;obtain⟨c,rfl,kk⟩:=h;apply Y;refine⟨_,(qE (qM (qJ4 (wD qR (qQ qr qG (qQ qm (pv 0) qG)) (wD qR (qQ qSi qG qG) qKd)) rfl rfl (by simp) (by decide)))),?_⟩
 try dsimp only[jN,qd]
 refine fun re hre=>?_;have f:=fm c (show (0:Int)<300 by decide);refine⟨_,O,_,_,O,O,nz,_,_,O,O,_,_,O,O,cpw (n:=9) (by decide),?_⟩;refine⟨qD,[(Sum.inr "a",.int (60+c.fmod 300)),(Sum.inr "reelb",.int (10 ^ (9:Int).toNat))],O,(by show 2<=15;decide),?_⟩;rw[qBh];have em:∀x y:V,qEi [] [((Sum.inr ("a":Str):Key),x),(Sum.inr ("reelb":Str),y)]=[(Sum.inr ("a":Str),x),(Sum.inr ("reelb":Str),y)]:=fun x y=>by rfl
 rw[em];have e9:(10:Int) ^ (9:Int).toNat=1000000000:=by decide
 rw[e9];exact kk re _ _ (qF hre _) hre qD (by omega) (by omega)
theorem qT0:∀(zs:List Im),(∀z∈zs,0<=z.mo)->0<=(zs.map Im.mo).sum:=fun zs=>by
 induction zs with
 |nil=>intro _;simp
 |cons z zs ih=>intro h;have:=ih fun y hy=>h y (by simp[hy]);have:=h z (by simp);rw[List.map_cons,List.sum_cons];omega
theorem TI.mo{A:Int}{m:Im}(h:TI A m):1<=m.mo/\m.mo<=10:=by
 rcases h with ⟨l,rfl,h1,h2⟩|⟨b,l,rfl,_,_,h1,h2⟩|⟨nm,N,lo,rs,to,bo,len,_,h1,h2,_,_,_,_,_,_,_,_,rfl⟩
 . exact⟨h1,h2⟩
 . exact⟨h1,h2⟩
 . exact⟨h1,h2⟩
theorem TI.nm{A:Int}{m:Im}(h:TI A m):m.wd≠"mix":=by
 rcases h with ⟨l,rfl,h1,h2⟩|⟨b,l,rfl,_,_,h1,h2⟩|⟨nm,N,lo,rs,to,bo,len,_,h1,h2,_,_,_,_,_,_,_,_,rfl⟩
 . show ("gap":Str)≠"mix";decide+kernel
 . show ("nest":Str)≠"mix";decide+kernel
 . show ("clip":Str)≠"mix";decide+kernel
theorem qV6{P:Program}{w:World}{K:W.Frag}{mg:Str->Option Value}{base:Heap}{k:Nat}{f:Addr}{fd:FuncData}{ps:List Str}{sp:Sp}(F:FnOk P w K mg base (CXR P w) k f fd ps sp):FnOk P w K mg base CX0 k f fd ps (fun vs H Q _=>sp vs H Q fun _ _ _=>False):=by
 refine⟨fun vs H Q E h=>F.len _ _ _ _ h,fun A outer s H args us vs Q E hr he hb hv hs=>codeAny_mono (F.run A outer s H args us vs Q (fun _ _ _=>False) hr he hb hv hs) fun r s' hq=>?_⟩;cases r with
 |error e=>
  refine qL fun _ Y=>?_;obtain⟨_,_,_,_,_,_,_,_,_,q⟩:=hq;apply Y;exact q.elim
 |ok fl=>cases fl <;> exact hq
inductive qIv(K:W.Frag)(vs:List V)(H:Hp)(Q:VK)(_:XK):Prop
|mk (tz dz rd:Addr) (rl:Rls) (ts:List (List Im)) (tie:List Int) (ts':List (List Im)) (_:vs=[.ref tz,.ref dz,.ref rd]) (_:TabD H tz rd rl ts tie) (_:DdX K H rd dz rl ts tie (.good ts')) (_:∀(t':Addr) (H':Hp),Same H H'->TabF H' (.ref t') ts' tie->Q (.ref t') H')
theorem qJe(T:Tx K mg a):FnOk P w K mg base CX0 10 a.A73 a.B73 ["table","deed","reels"] (qIv K):=
 (qV6 (vh T)).imp fun vs H Q E h=>by refine qL fun _ Y=>?_;obtain⟨tz,dz,rd,rl,ts,tie,ts',rfl,hP,hD,kk⟩:=h;apply Y;exact⟨tz,dz,rd,rl,ts,tie,_,rfl,hP,hD,(fun h=>by cases h),(fun h=>by cases h),(fun m h=>by cases h),fun ts'' h=>by cases h;exact kk⟩
theorem RE.at{H:Hp}{re:Addr}{A:Int}(h:RE H re A):ReelsAt H re (rlE A):=by
 intro n N e;unfold rlE at e;split at e
 . rename_i hn;cases e;subst hn;exact⟨_,h.1,rfl⟩
 . split at e
   . rename_i hn;cases e;subst hn;exact⟨_,h.1,rfl⟩
   . cases e
def NLM(A:List Im):Prop:= ∀l,A.getLast?≠some (.mix l)
def NHM(A:List Im):Prop:= ∀l,A.head?≠some (.mix l)
theorem qS(m:Im)(ms:List Im):qp (m::ms)=m.mo+qp ms:=by simp[qp]
theorem jB(A B:List Im):qp (A++B)=qp A+qp B:=by simp[qp]
theorem jF:qp []=0:=rfl
theorem xH(m:Im)(A:List Im):(m::A).getLast?=A.getLast?.or (some m):=by
 cases A with
 |nil=>rfl
 |cons a A=>rw[List.getLast?_cons_cons];cases h:(a::A).getLast? with
  |none=>simp at h
  |some x=>rfl
def Nn(ms:List Im):Prop:= ∀m∈ms,0<=m.mo
theorem Nn.tail{m:Im}{ms:List Im}(h:Nn (m::ms)):Nn ms:=fun x hx=>h x (by simp[hx])
theorem Nn.len{ms:List Im}(h:Nn ms):0<=qp ms:=qT0 ms h
def Wf(m:Im):Prop:=match m with
 |.clip _ p q r s l=>0<q/\0<s/\Int.gcd p q=1/\1<=l
 |.nest _ _ l=>1<=l
 |.gap l=>1<=l
 |.mix l=>1<=l
theorem Wf.mo{m:Im}(h:Wf m):0<=m.mo:=by
 cases m with
 |clip n p q r s l=>have:1<=l:=h.2.2.2;show 0<=l;omega
 |nest n b l=>have h:1<=l:=h;show 0<=l;omega
 |gap l=>have h:1<=l:=h;show 0<=l;omega
 |mix l=>exact Int.le_refl _
theorem qA8{m:Im}(lo hi:Int):(xc m lo hi).mo=hi-lo:=by cases m <;> rfl
theorem zd(m:Im)(lo hi:Int):(xc m lo hi).wd≠"mix":=by
 cases m
 . show ("clip":Str)≠"mix";decide+kernel
 . show ("nest":Str)≠"mix";decide+kernel
 . show ("gap":Str)≠"mix";decide+kernel
 . show ("gap":Str)≠"mix";decide+kernel
def jp:Int->List Im->List Im×List Im
 |_,[]=>([],[])
 |t,m::ms=>if m.mo<=t then (m::(jp (t-m.mo) ms).1,(jp (t-m.mo) ms).2)else if 0<t then ([xc m 0 t],xc m t m.mo::ms)else ([],m::ms)
theorem xT:∀(ms:List Im) (c:Int),0<=c->((jp c ms).1++(jp c ms).2=ms/\(qp (jp c ms).1=c\/(qp (jp c ms).1=qp ms/\qp ms<=c/\(jp c ms).2=[])))\/∃(A B:List Im) (m:Im) (d:Int),ms=A++m::B/\(jp c ms).1=A++[xc m 0 d]/\(jp c ms).2=xc m d m.mo::B/\0<d/\d<m.mo/\m.wd≠"mix"/\c=qp A+d
 |[],c,hc=>.inl ⟨rfl,.inr ⟨rfl,by rw[jF];exact hc,rfl⟩⟩
 |m::ms,c,hc=>by
  rw[jp];by_cases h:m.mo<=c
  . rw[if_pos h]
    dsimp only;rcases xT ms (c-m.mo) (by omega)with ⟨h1,h2⟩|⟨A,B,x,d,h1,h2,h3,h4,h5,h6,h7⟩
    . refine .inl ⟨by rw[List.cons_append,h1],?_⟩
      rw[qS,qS];rcases h2 with h2|⟨h2,h3,h4⟩
      . exact .inl (by omega)
      . exact .inr ⟨by omega,by omega,h4⟩
    . exact .inr ⟨m::A,B,x,d,by rw[h1];rfl,by rw[h2];rfl,h3,h4,h5,h6,by rw[qS];omega⟩
  . rw[if_neg h]
    by_cases h0:0<c
    . rw[if_pos h0]
      refine .inr ⟨[],ms,m,c,O,O,O,h0,by omega,fun e=>?_,by rw[jF];omega⟩;obtain⟨l,rfl⟩:=jV e;exact h (by show (0:Int)<=c;omega)
    . rw[if_neg h0]
      exact .inl ⟨O,.inl (by show qp []=c;rw[jF];omega)⟩
theorem qAa{m:Im}(hm:m.wd≠"mix")(hw:Wf m):xc m 0 m.mo=m:=by
 cases m with
 |mix l=>exact absurd rfl hm
 |clip n p q r s l=>
  obtain⟨h1,h2⟩:=qEr (r:=r) (s:=s) hw.1 hw.2.1 hw.2.2.1;show Im.clip n (plP p q r s 0) (plQ p q r s 0) r s (l-0)=_;rw[h1,h2,Int.sub_zero]
 |nest n b l=>show Im.nest n (b+0) (l-0)=_;rw[Int.add_zero,Int.sub_zero]
 |gap l=>show Im.gap (l-0)=_;rw[Int.sub_zero]
def NMA(b c:Int)(ms:List Im):Prop:= ∀x∈qq b ms,x.2.1≠c
theorem NMA.tail{b c:Int}{m:Im}{ms:List Im}(h:NMA b c (m::ms)):NMA (b+m.mo) c ms:=fun x hx=>by
 by_cases hm:m.wd="mix"
 . obtain⟨l,rfl⟩:=jV hm
   refine h x ?_;rw[qq];have e:b+(Im.mix l).mo=b:=by simp[Im.mo]
   rw[e]at hx;simp[hx]
 . refine h x ?_
   rw[qv hm];exact hx
theorem NMA.head{b c:Int}{l:Int}{ms:List Im}(h:NMA b c (.mix l::ms)):b≠c:=h (b-l.fdiv 2,b,b+(l-l.fdiv 2)) (by rw[qq];simp)
theorem Wf.pos{m:Im}(h:Wf m)(hm:m.wd≠"mix"):1<=m.mo:=by
 cases m with
 |clip n p q r s l=>exact h.2.2.2
 |nest n b l=>exact h
 |gap l=>exact h
 |mix l=>exact absurd rfl hm
theorem qJo:∀(ms:List Im) (b c:Int),(∀m∈ms,Wf m)->0<=b->c<=b->zG 0 c b ms=[]
 |[],_,_,_,_,_=>rfl
 |m::ms,b,c,hw,h0,hc=>by
  have hm0:=(hw m (by simp)).mo;rw[zG,qJo ms (b+m.mo) c (fun x hx=>hw x (by simp[hx])) (by omega) (by omega),List.append_nil];by_cases hm:m.wd="mix"
  . rw[if_pos hm,if_neg (by omega)]
  . rw[if_neg hm,if_neg]
    unfold vJ qK8;split <;> split <;> omega
theorem qTv:∀(ms:List Im) (b c:Int),(∀m∈ms,Wf m)->NMA b c ms->0<=b->b<=c->(b=0->NHM ms)->zG 0 c b ms=(jp (c-b) ms).1
 |[],_,_,_,_,_,_,_=>rfl
 |m::ms,b,c,hw,hn,h0,hc,hh=>by
  have hwm:=hw m (by simp);have hm0:=hwm.mo;rw[zG,jp];by_cases hm:m.wd="mix"
  . obtain⟨l,rfl⟩:=jV hm
    have e0:(Im.mix l).mo=0:=rfl;have hbc:=hn.head;have hb0:b≠0:=fun e=>hh e l rfl;rw[if_pos hm,if_pos ⟨by omega,by omega⟩,if_pos (by omega),e0,qTv ms (b+0) c (fun x hx=>hw x (by simp[hx])) hn.tail (by omega) (by omega) (fun e=>absurd e (by omega))];rw[show c-(b+0)=c-b-0 by omega];rfl
  . have hp:=hwm.pos hm
    have e1:vJ 0 b=b:=by unfold vJ;split <;> omega
    rw[if_neg hm,e1];by_cases h:m.mo<=c-b
    . have e2:qK8 c (b+m.mo)=b+m.mo:=by unfold qK8;split <;> omega
      rw[e2,if_pos (by omega),if_pos h,qTv ms (b+m.mo) c (fun x hx=>hw x (by simp[hx])) hn.tail (by omega) (by omega) (fun e=>absurd e (by omega)),show b-b=0 by omega,show b+m.mo-b=m.mo by omega,qAa hm hwm,show c-(b+m.mo)=c-b-m.mo by omega];rfl
    . have e2:qK8 c (b+m.mo)=c:=by unfold qK8;split <;> omega
      rw[e2,if_neg h,qJo ms (b+m.mo) c (fun x hx=>hw x (by simp[hx])) (by omega) (by omega),List.append_nil];by_cases hlt:0<c-b
      . rw[if_pos (by omega),if_pos hlt,show b-b=0 by omega]
      . rw[if_neg (by omega),if_neg hlt]
theorem qD0:∀(ms:List Im) (b c E:Int),(∀m∈ms,Wf m)->c<=b->(b=c->NHM ms)->E=b+qp ms->(∀x∈qq b ms,x.2.1<E)->zG c E b ms=ms
 |[],_,_,_,_,_,_,_,_=>rfl
 |m::ms,b,c,E,hw,hc,hh,hE,hx=>by
  have hwm:=hw m (by simp);have hm0:=hwm.mo;have hl:=Nn.len (ms:=ms) fun x hx=>(hw x (by simp[hx])).mo;rw[qS]at hE;rw[zG];by_cases hm:m.wd="mix"
  . obtain⟨l,rfl⟩:=jV hm
    have hb:b≠c:=fun e=>hh e l rfl;rw[qq]at hx;have hbE:b<E:=hx (b-l.fdiv 2,b,b+(l-l.fdiv 2)) (by simp);have e0:b+(Im.mix l).mo=b:=by simp[Im.mo]
    rw[if_pos hm,if_pos ⟨by omega,hbE⟩,e0,qD0 ms b c E (fun x hx=>hw x (by simp[hx])) hc (fun e=>absurd e hb) (by simp[Im.mo]at hE;omega) (fun x h=>hx x (by simp[h]))];rfl
  . have hp:=hwm.pos hm
    rw[qv hm]at hx;have e1:vJ c b=b:=by unfold vJ;split <;> omega
    have e2:qK8 E (b+m.mo)=b+m.mo:=by unfold qK8;split <;> omega
    rw[if_neg hm,e1,e2,if_pos (by omega),show b-b=0 by omega,show b+m.mo-b=m.mo by omega,qAa hm hwm,qD0 ms (b+m.mo) c E (fun x hx=>hw x (by simp[hx])) (by omega) (fun e=>absurd e (by omega)) (by omega) hx];rfl
theorem qTi:∀(ms:List Im) (b c E:Int),(∀m∈ms,Wf m)->NMA b c ms->b<=c->E=b+qp ms->(∀x∈qq b ms,x.2.1<E)->zG c E b ms=(jp (c-b) ms).2
 |[],_,_,_,_,_,_,_,_=>rfl
 |m::ms,b,c,E,hw,hn,hc,hE,hx=>by
  have hwm:=hw m (by simp);have hm0:=hwm.mo;have hl:=Nn.len (ms:=ms) fun x hx=>(hw x (by simp[hx])).mo;rw[qS]at hE;rw[zG,jp];by_cases hm:m.wd="mix"
  . obtain⟨l,rfl⟩:=jV hm
    have hbc:=hn.head;have e0:(Im.mix l).mo=0:=rfl;rw[if_pos hm,if_neg (by omega),if_pos (by omega),List.nil_append];dsimp only;have hn':=hn.tail;rw[e0]at hn'⊢;rw[qq]at hx;rw[qTi ms (b+0) c E (fun x hx=>hw x (by simp[hx])) hn' (by omega) (by omega) (fun x h=>hx x (by rw[Int.add_zero]at h;simp[h])),show c-(b+0)=c-b-0 by omega]
  . have hp:=hwm.pos hm
    rw[qv hm]at hx;rw[if_neg hm];have e1:vJ c b=c:=by unfold vJ;split <;> omega
    have e2:qK8 E (b+m.mo)=b+m.mo:=by unfold qK8;split <;> omega
    rw[e1,e2];by_cases h:m.mo<=c-b
    . rw[if_neg (by omega),if_pos h,List.nil_append]
      dsimp only;rw[qTi ms (b+m.mo) c E (fun x hx=>hw x (by simp[hx])) hn.tail (by omega) (by omega) hx,show c-(b+m.mo)=c-b-m.mo by omega]
    . rw[if_pos (by omega),if_neg h,show b+m.mo-b=m.mo by omega]
      have hh:b+m.mo=c->NHM ms:=fun e=>absurd e (by omega);rw[qD0 ms (b+m.mo) c E (fun x hx=>hw x (by simp[hx])) (by omega) hh (by omega) hx];by_cases hlt:0<c-b
      . rw[if_pos hlt];rfl
      . rw[if_neg hlt,show c-b=0 by omega,qAa hm hwm];rfl
def qMi(o:Option Im):Prop:= ∃n p q r s l,o=some (.clip n p q r s l)
def MO:Option Im->List Im->Prop
 |_,[]=>True
 |p,.mix l::ms=>(qMi p/\qMi ms.head?)/\MO (some (.mix l)) ms
 |_,.clip n p q r s l::ms=>MO (some (.clip n p q r s l)) ms
 |_,.nest n b l::ms=>MO (some (.nest n b l)) ms
 |_,.gap l::ms=>MO (some (.gap l)) ms
theorem qx{m:Im}(h:m.wd≠"mix")(p:Option Im)(ms:List Im):MO p (m::ms)=MO (some m) ms:=by
 cases m with
 |mix l=>exact absurd rfl h
 |_=>rfl
theorem MO.nh{p:Option Im}{ms:List Im}(h:MO p ms)(hp:¬qMi p):NHM ms:=by
 cases ms with
 |nil=>intro l e;cases e
 |cons m ms=>
  intro l e;cases e;exact hp h.1.1
theorem j4:∀(A B:List Im) (b:Int),qq b (A++B)=qq b A++qq (b+qp A) B
 |[],B,b=>by rw[jF,Int.add_zero];rfl
 |m::A,B,b=>by
  by_cases hm:m.wd="mix"
  . obtain⟨l,rfl⟩:=jV hm
    rw[List.cons_append,qq,qq,j4 A B b,qS,show b+((Im.mix l).mo+qp A)=b+qp A by simp[Im.mo]];rfl
  . rw[List.cons_append,qv hm,qv hm,j4 A B,qS,show b+(m.mo+qp A)=b+m.mo+qp A by omega]
theorem zX:∀(ms:List Im) (b:Int),(∀m∈ms,Wf m)->∀x∈qq b ms,x.1<=x.2.1/\x.2.1<x.2.2/\b<=x.2.1/\x.2.1<=b+qp ms
 |[],b,_,x,h=>by cases h
 |m::ms,b,hw,x,h=>by
  have hwm:=hw m (by simp);have hl:=Nn.len (ms:=ms) fun x hx=>(hw x (by simp[hx])).mo;have h0:=hwm.mo;rw[qS];by_cases hm:m.wd="mix"
  . obtain⟨l,rfl⟩:=jV hm
    have l1:1<=l:=hwm;have e0:(Im.mix l).mo=0:=rfl;rw[qq]at h;rcases List.mem_cons.mp h with rfl|h
    . dsimp only
      have:=qo (p:=l) (q:=2) (by decide);refine⟨by omega,by omega,by omega,by omega⟩
    . have:=zX ms b (fun x hx=>hw x (by simp[hx])) x h
      omega
  . rw[qv hm]at h
    have:=zX ms (b+m.mo) (fun x hx=>hw x (by simp[hx])) x h;omega
theorem qHk:∀(ms:List Im) (b:Int) (p:Option Im),(∀m∈ms,Wf m)->MO p ms->∀x∈qq b ms,x.2.1<b+qp ms
 |[],b,_,_,_,x,h=>by cases h
 |m::ms,b,p,hw,hM,x,h=>by
  have hwm:=hw m (by simp);have hw':∀m∈ms,Wf m:=fun x hx=>hw x (by simp[hx]);have h0:=hwm.mo;rw[qS];by_cases hm:m.wd="mix"
  . obtain⟨l,rfl⟩:=jV hm
    have e0:(Im.mix l).mo=0:=rfl;obtain⟨⟨h1,h2⟩,h3⟩:=hM;rw[qq]at h;rcases List.mem_cons.mp h with rfl|h
    . dsimp only
      obtain⟨n,p,q,r,s,k,h2⟩:=h2;cases ms with
      |nil=>cases h2
      |cons y ms=>
       cases h2;have hk:1<=k:=(hw' _ (List.mem_cons_self ..)).2.2.2;have hl:=Nn.len (ms:=ms) fun x hx=>(hw x (by simp[hx])).mo;rw[qS];show b<b+(0+(k+qp ms));omega
    . have:=qHk ms b _ hw' h3 x h
      omega
  . rw[qx hm]at hM
    rw[qv hm]at h;have:=qHk ms (b+m.mo) _ hw' hM x h;omega
theorem MO.nl:∀{ms:List Im} {p:Option Im},MO p ms->NLM ms
 |[],_,_=>fun l e=>by cases e
 |m::ms,p,h=>fun l e=>by
  rw[xH]at e;by_cases hm:m.wd="mix"
  . obtain⟨k,rfl⟩:=jV hm
    cases ms with
    |nil=>obtain⟨_,_,_,_,_,_,e⟩:=h.1.2;cases e
    |cons x ms=>
     refine h.2.nl l ?_;cases h':(x::ms).getLast? with
     |none=>simp at h'
     |some y=>rw[h']at e;exact e
  . rw[qx hm]at h
    cases ms with
    |nil=>cases e;exact hm rfl
    |cons x ms=>
     refine h.nl l ?_;cases h':(x::ms).getLast? with
     |none=>simp at h'
     |some y=>rw[h']at e;exact e
theorem qTy{ms:List Im}(h:∀m∈ms,m.wd≠"mix")(b:Int):qq b ms=[]:=by
 induction ms generalizing b with
 |nil=>rfl
 |cons m ms ih=>rw[qv (h m (by simp))];exact ih (fun x hx=>h x (by simp[hx])) _
theorem qEg(m:Im)(lo hi:Int):qp [xc m lo hi]=hi-lo:=by rw[qS,qA8,jF,Int.add_zero]
theorem qMa{ms:List Im}(hw:∀m∈ms,Wf m){c:Int}(hc:0<=c)(hn:NMA 0 c ms):(∀x∈qq 0 (jp c ms).1,x∈qq 0 ms/\x.2.1<c)/\(∀x∈qq c (jp c ms).2,x∈qq 0 ms/\c<x.2.1)/\((jp c ms).2=[]\/qp (jp c ms).1=c)/\qp (jp c ms).1<=c:=by
 have ord:=zX ms 0 hw;rcases xT ms c hc with ⟨h1,h2⟩|⟨A,B,m,d,h1,h2,h3,h4,h5,h6,h7⟩
 . have hwL:∀m∈(jp c ms).1,Wf m:=fun m hm=>hw m (by rw[<-h1];exact List.mem_append_left _ hm)
   have hwR:∀m∈(jp c ms).2,Wf m:=fun m hm=>hw m (by rw[<-h1];exact List.mem_append_right _ hm);have hs:qq 0 ms=qq 0 (jp c ms).1++qq (0+qp (jp c ms).1) (jp c ms).2:=by rw[<-j4,h1]
   refine⟨fun x hx=>?_,fun x hx=>?_,?_,?_⟩
   . have hx':x∈qq 0 ms:=by rw[hs];exact List.mem_append_left _ hx
     have h4:=zX _ 0 hwL x hx;have h5:=hn x hx';refine⟨hx',?_⟩;rcases h2 with h2|⟨h2,h3,_⟩ <;> omega
   . rcases h2 with h2|⟨h2,h3,h4⟩
     . rw[h2,Int.zero_add]at hs
       have hx':x∈qq 0 ms:=by rw[hs];exact List.mem_append_right _ hx
       have h4:=zX _ c hwR x hx;have h5:=hn x hx';exact⟨hx',by omega⟩
     . rw[h4]at hx;cases hx
   . rcases h2 with h2|⟨h2,h3,h4⟩
     . exact .inr h2
     . exact .inl h4
   . rcases h2 with h2|⟨h2,h3,h4⟩ <;> omega
 . have hwA:∀m∈A,Wf m:=fun x hx=>hw x (by rw[h1];simp[hx])
   have hwB:∀m∈B,Wf m:=fun x hx=>hw x (by rw[h1];simp[hx]);have hs:qq 0 ms=qq 0 A++qq (0+qp A+m.mo) B:=by rw[h1,j4,qv h6]
   rw[h2,h3];refine⟨fun x hx=>?_,fun x hx=>?_,.inr ?_,?_⟩
   . rw[j4,qv (zd m 0 d)]at hx
     rcases List.mem_append.mp hx with hx|hx
     . have h8:=zX _ 0 hwA x hx
       exact⟨by rw[hs];exact List.mem_append_left _ hx,by omega⟩
     . cases hx
   . rw[qv (zd m d m.mo),qA8,show c+(m.mo-d)=0+qp A+m.mo by omega]at hx
     have h8:=zX _ _ hwB x hx;exact⟨by rw[hs];exact List.mem_append_right _ hx,by omega⟩
   . rw[jB,qEg];omega
   . rw[jB,qEg];omega
theorem qOs{ms:List Im}(hw:∀m∈ms,Wf m){c:Int}(hc:0<=c)(hn:NMA 0 c ms)(hM:MO none ms):NLM (jp c ms).1:=by
 obtain⟨s1,_,s3,_⟩:=qMa hw hc hn;rcases xT ms c hc with ⟨h1,h2⟩|⟨A,B,m,d,h1,h2,h3,h4,h5,h6,h7⟩
 . intro l e
   rcases s3 with h|h
   . rw[h,List.append_nil]at h1
     rw[h1]at e;exact hM.nl l e
   . obtain⟨A,eA⟩:=List.getLast?_eq_some_iff.mp e
     have hx:(0+qp A-l.fdiv 2,0+qp A,0+qp A+(l-l.fdiv 2))∈qq 0 (jp c ms).1:=by rw[eA,j4];exact List.mem_append_right _ (by rw[qq];simp)
     have:=(s1 _ hx).2;rw[eA,jB,qS,jF]at h;have e0:(Im.mix l).mo=0:=rfl;dsimp only at this;omega
 . rw[h2]
   intro l e;rw[List.getLast?_append]at e;have e:xc m 0 d=.mix l:=by simpa using e
   exact zd m 0 d (by rw[e];rfl)
theorem qPw{ms:List Im}(hw:∀m∈ms,Wf m){c:Int}(hc:0<=c)(hn:NMA 0 c ms):NHM (jp c ms).2:=by
 obtain⟨_,s2,_,_⟩:=qMa hw hc hn;intro l e;cases h:(jp c ms).2 with
 |nil=>rw[h]at e;cases e
 |cons x R=>
  rw[h]at e s2;cases e;have:=(s2 (c-l.fdiv 2,c,c+(l-l.fdiv 2)) (by rw[qq];simp)).2;dsimp only at this;omega
theorem qP4(p p':Option Im)(A B:List Im)(hA:MO p A)(hB:MO (A.getLast?.or p) B):MO p (A++B):=by
 induction A generalizing p with
 |nil=>exact hB
 |cons m A ih=>
  have el:(m::A).getLast?.or p=A.getLast?.or (some m):=by rw[xH];cases A.getLast? <;> rfl
  rw[el]at hB;by_cases hm:m.wd="mix"
  . obtain⟨l,rfl⟩:=jV hm
    obtain⟨⟨h1,h2⟩,h3⟩:=hA;refine⟨⟨h1,?_⟩,ih _ h3 hB⟩;cases A with
    |nil=>obtain⟨_,_,_,_,_,_,e⟩:=h2;cases e
    |cons a A=>exact h2
  . rw[List.cons_append,qx hm]at*
    exact ih _ hA hB
theorem qRj{A:List Im}(h:∀m∈A,m.wd≠"mix")(p:Option Im):MO p A:=by
 induction A generalizing p with
 |nil=>exact trivial
 |cons m A ih=>rw[qx (h m (by simp))];exact ih (fun x hx=>h x (by simp[hx])) _
theorem qPu{B:List Im}(h:NHM B){p p':Option Im}(hB:MO p B):MO p' B:=by
 cases B with
 |nil=>exact trivial
 |cons m B=>
  by_cases hm:m.wd="mix"
  . obtain⟨l,rfl⟩:=jV hm
    exact absurd rfl (h l)
  . rw[qx hm]at*;exact hB
theorem qP2:∀{A B:List Im} {p:Option Im},MO p (A++B)->NLM A->MO p A
 |[],_,_,_,_=>trivial
 |m::A,B,p,h,hl=>by
  have hA:NLM A:=fun l e=>hl l (by rw[xH,e];rfl);by_cases hm:m.wd="mix"
  . obtain⟨l,rfl⟩:=jV hm
    have ne:A≠[]:=fun e=>hl l (by rw[e];rfl);obtain⟨⟨h1,h2⟩,h3⟩:=h;refine⟨⟨h1,?_⟩,qP2 (B:=B) h3 hA⟩;cases A with
    |nil=>exact absurd rfl ne
    |cons a A=>exact h2
  . rw[List.cons_append,qx hm]at h
    rw[qx hm];exact qP2 h hA
theorem qIj:∀{A B:List Im} {p:Option Im},MO p (A++B)->MO (A.getLast?.or p) B
 |[],_,_,h=>h
 |m::A,B,p,h=>by
  have el:(m::A).getLast?.or p=A.getLast?.or (some m):=by rw[xH];cases A.getLast? <;> rfl
  rw[el];by_cases hm:m.wd="mix"
  . obtain⟨l,rfl⟩:=jV hm
    exact qIj h.2
  . rw[List.cons_append,qx hm]at h
    exact qIj h
theorem qI5{m:Im}(lo hi:Int):qMi (some m)->qMi (some (xc m lo hi)):=by rintro⟨n,p,q,r,s,l,e⟩;cases e;exact⟨_,_,_,_,_,_,O⟩
theorem qSt{ms:List Im}(hw:∀m∈ms,Wf m){c:Int}(hc:0<=c)(hn:NMA 0 c ms)(hM:MO none ms):MO none (jp c ms).1/\∀p,MO p (jp c ms).2:=by
 have nl:=qOs hw hc hn hM;have nh:=qPw hw hc hn;rcases xT ms c hc with ⟨h1,h2⟩|⟨A,B,m,d,h1,h2,h3,h4,h5,h6,h7⟩
 . rw[<-h1]at hM
   exact⟨qP2 hM nl,fun p=>qPu nh (qIj hM)⟩
 . rw[h1]at hM
   rw[h2,h3]at*;have hs:=qIj hM;rw[qx h6]at hs;refine⟨?_,fun p=>?_⟩
   .
    have:∀(A:List Im) (p:Option Im),MO p (A++m::B)->MO p (A++[xc m 0 d]):=fun A=>by
     induction A with
     |nil=>intro p _;exact qRj (fun x hx=>by rw[List.nil_append,List.mem_singleton]at hx;subst hx;exact zd m 0 d) p
     |cons a A ih=>
      intro p h;by_cases ha:a.wd="mix"
      . obtain⟨l,rfl⟩:=jV ha
        obtain⟨⟨h1,h2⟩,h3⟩:=h;refine⟨⟨h1,?_⟩,ih _ h3⟩;cases A with
        |nil=>exact qI5 0 d h2
        |cons a A=>exact h2
      . rw[List.cons_append,qx ha]at*
        exact ih _ h
    exact this A none hM
   . rw[qx (zd m d m.mo)]
     cases B with
     |nil=>exact trivial
     |cons x B=>
      by_cases hx:x.wd="mix"
      . obtain⟨l,rfl⟩:=jV hx
        exact⟨⟨qI5 d m.mo hs.1.1,hs.1.2⟩,hs.2⟩
      . rw[qx hx]at hs⊢;exact hs
theorem qLm{m:Im}(hw:Wf m){lo hi:Int}(h:lo<hi):Wf (xc m lo hi):=by
 cases m with
 |clip n p q r s l=>exact⟨qF5 hw.1 hw.2.1,hw.2.1,qOi hw.1 hw.2.1,by show 1<=hi-lo;omega⟩
 |nest n b l=>show 1<=hi-lo;omega
 |gap l=>show 1<=hi-lo;omega
 |mix l=>show 1<=hi-lo;omega
theorem qIf{ms:List Im}(hw:∀m∈ms,Wf m){c:Int}(hc:0<=c):(∀m∈(jp c ms).1,Wf m)/\∀m∈(jp c ms).2,Wf m:=by
 rcases xT ms c hc with ⟨h1,h2⟩|⟨A,B,m,d,h1,h2,h3,h4,h5,h6,h7⟩
 . exact⟨fun m hm=>hw m (by rw[<-h1];exact List.mem_append_left _ hm),fun m hm=>hw m (by rw[<-h1];exact List.mem_append_right _ hm)⟩
 . rw[h2,h3]
   have hm:=hw m (by rw[h1];simp);refine⟨fun x hx=>?_,fun x hx=>?_⟩
   . rcases List.mem_append.mp hx with hx|hx
     . exact hw x (by rw[h1];simp[hx])
     . rw[List.mem_singleton]at hx;subst hx;exact qLm hm h4
   . rcases List.mem_cons.mp hx with rfl|hx
     . exact qLm hm h5
     . exact hw x (by rw[h1];simp[hx])
structure Rel(ms:List Im)(lo hi:Int)(ls:List Im):Prop where
 wf:∀m∈ms,Wf m
 mo:MO none ms
 l0:0<=lo
 lh:lo<=hi
 nt:zA ms lo hi=false
 lw:∀m∈ls,Wf m
 lm:∀m∈ls,m.wd≠"mix"
theorem Rel.far{ms:List Im}{lo hi:Int}{ls:List Im}(h:Rel ms lo hi ls):∀x∈qq 0 ms,(x.2.1<lo/\x.2.2<=lo)\/(hi<x.2.1/\hi<=x.1):=by
 intro x hx;have ord:=zX ms 0 h.wf x hx;have nt:=h.nt;have lh:=h.lh;unfold zA at nt;rw[List.any_eq_false]at nt;have:=nt x hx;unfold qR8 at this;simp only[Bool.or_eq_true,Bool.and_eq_true,decide_eq_true_eq]at this;by_cases h1:x.2.1<lo
 . left;refine⟨h1,?_⟩
   by_cases h2:x.2.2<=lo
   . exact h2
   . exact absurd (.inl ⟨by omega,by omega⟩) this
 . right
   have h2:hi<x.2.1:=by
    by_cases h3:hi<x.2.1
    . exact h3
    . exact absurd (.inr ⟨by omega,by omega⟩) this
   refine⟨h2,?_⟩;by_cases h4:hi<=x.1
   . exact h4
   . exact absurd (.inl ⟨by omega,by omega⟩) this
theorem Rel.nlo{ms:List Im}{lo hi:Int}{ls:List Im}(h:Rel ms lo hi ls):NMA 0 lo ms:=fun x hx=>by have:=h.far x hx;have:=h.lh;omega
theorem Rel.nhi{ms:List Im}{lo hi:Int}{ls:List Im}(h:Rel ms lo hi ls):NMA 0 hi ms:=fun x hx=>by have:=h.far x hx;have:=h.lh;omega
theorem Rel.eq{ms:List Im}{lo hi:Int}{ls:List Im}(h:Rel ms lo hi ls):qKx ms lo hi ls=xf 0 ((jp lo ms).1++[.gap (vJ (lo-qp ms) 0)]++ls++(jp hi ms).2):=by unfold qKx;rw[qTv ms 0 lo h.wf h.nlo (Int.le_refl 0) h.l0 (fun _=>h.mo.nh fun⟨_,_,_,_,_,_,e⟩=>by cases e),qTi ms 0 hi (qp ms) h.wf h.nhi (by have:=h.l0;have:=h.lh;omega) (by omega) (fun x hx=>by have:=qHk ms 0 none h.wf h.mo x hx;omega),Int.sub_zero,Int.sub_zero]
theorem qOh{ms:List Im}{c:Int}(hc:0<=c)(hw:∀m∈ms,Wf m):qp (jp c ms).1+vJ (c-qp ms) 0=c/\qp (jp c ms).1+qp (jp c ms).2=qp ms/\(c<=qp ms->qp (jp c ms).1=c):=by
 have hl:=Nn.len fun x hx=>(hw x hx).mo;rcases xT ms c hc with ⟨h1,h2⟩|⟨A,B,m,d,h1,h2,h3,h4,h5,h6,h7⟩
 . have e:qp (jp c ms).1+qp (jp c ms).2=qp ms:=by rw[<-jB,h1]
   have:=Nn.len fun x hx=>((qIf hw hc).2 x hx).mo;have:=Nn.len fun x hx=>((qIf hw hc).1 x hx).mo;unfold vJ;rcases h2 with h2|⟨h2,h3,h4⟩
   . refine⟨by split <;> omega,e,fun _=>h2⟩
   . refine⟨by split <;> omega,e,fun _=>by omega⟩
 . have hm:=hw m (by rw[h1];simp)
   have hlB:=Nn.len (ms:=B) fun x hx=>(hw x (by rw[h1];simp[hx])).mo;have e:qp ms=qp A+(m.mo+qp B):=by rw[h1,jB,qS]
   rw[h2,h3,jB,qEg,qS,qA8];unfold vJ;refine⟨by split <;> omega,by omega,fun _=>by omega⟩
def OS:Bool->List Im->Prop
 |g,[]=>g=false
 |g,.gap l::ms=>g=false/\1<=l/\OS true ms
 |_,.clip .. ::ms=>OS false ms
 |_,.nest .. ::ms=>OS false ms
 |_,.mix _::ms=>OS false ms
theorem jY{m:Im}(h:m.wd≠"gap")(g:Bool)(ms:List Im):OS g (m::ms)=OS false ms:=by
 cases m with
 |gap l=>exact absurd rfl h
 |_=>rfl
theorem OS.one:∀{ms:List Im},(OS false ms->xf 0 ms=ms)/\(OS true ms->∀w,0<w->xf w ms=.gap w::ms)
 |[]=>⟨fun _=>rfl,fun h=>by cases h⟩
 |m::ms=>by
  obtain⟨i1,i2⟩:=OS.one (ms:=ms);by_cases hg:m.wd="gap"
  . obtain⟨l,rfl⟩:=qAc hg
    refine⟨fun h=>?_,fun h=>?_⟩
    . rw[xf,i2 h.2.2 (0+l) (by have:=h.2.1;omega),Int.zero_add]
    . cases h.1
  . refine⟨fun h=>?_,fun h w hw=>?_⟩
    . rw[jY hg]at h
      rw[qy hg,if_neg (by omega),i1 h]
    . rw[jY hg]at h
      rw[qy hg,if_pos hw,i1 h]
theorem qPc{A B:Im}{rest:List Im}(l:Int)(hA:A.wd≠"gap")(hB:B.wd≠"gap"):∀(pre:List Im) (g:Bool),OS g (pre++A::B::rest)->OS g (pre++A:: .mix l::B::rest)
 |[],g,h=>by rw[List.nil_append,jY hA,jY hB]at h;rw[List.nil_append,jY hA];show OS false (B::rest);rw[jY hB];exact h
 |x::pre,g,h=>by
  by_cases hg:x.wd="gap"
  . obtain⟨k,rfl⟩:=qAc hg
    exact⟨h.1,h.2.1,qPc l hA hB pre _ h.2.2⟩
  . rw[List.cons_append,jY hg]at h⊢
    exact qPc l hA hB pre _ h
theorem qKc:∀(ms:List Im) (w:Int),Nn ms->0<=w->OS false (xf w ms)
 |[],_,_,_=>rfl
 |m::ms,w,hn,hw=>by
  have h0:=hn m (by simp);by_cases hg:m.wd="gap"
  . obtain⟨l,rfl⟩:=qAc hg
    have h0:0<=l:=h0;rw[xf];exact qKc ms _ hn.tail (by omega)
  . have ih:=qKc ms 0 hn.tail (Int.le_refl 0)
    rw[qy hg];by_cases hp:0<w
    . rw[if_pos hp]
      refine⟨O,by omega,?_⟩;rw[jY hg];exact ih
    . rw[if_neg hp,jY hg];exact ih
def tkE(ms:List Im):Int:=match ms.head? with
 |some (.mix l)=>l.fdiv 2
 |_=>0
def FS(R:Im->Int->Im->Prop):Int->Option Im->List Im->Prop
 |_,_,[]=>True
 |_,p,.mix l::ms=>(∀A B,p=some A->ms.head?=some B->R A l B)/\FS R (l-l.fdiv 2) (some (.mix l)) ms
 |tb,_,.clip n p q r s k::ms=>tb+tkE ms<=k/\FS R 0 (some (.clip n p q r s k)) ms
 |_,_,.nest n b l::ms=>FS R 0 (some (.nest n b l)) ms
 |_,_,.gap l::ms=>FS R 0 (some (.gap l)) ms
theorem qI3{R:Im->Int->Im->Prop}{n n':Str}{p q r s k p' q' r' s' k':Int}{rest:List Im}{l:Int}(h2:(l-l.fdiv 2)+tkE rest<=k')(hR:R (.clip n p q r s k) l (.clip n' p' q' r' s' k')):
 ∀(pre:List Im) (tb:Int) (po:Option Im),(match pre.getLast? with|none=>tb|some (.mix x)=>x-x.fdiv 2|_=>0)+l.fdiv 2<=k->FS R tb po (pre++ .clip n p q r s k:: .clip n' p' q' r' s' k'::rest)->FS R tb po (pre++ .clip n p q r s k:: .mix l:: .clip n' p' q' r' s' k'::rest)
 |[],tb,po,h1,h=>by refine⟨h1,fun A B eA eB=>?_,h2,h.2.2⟩;cases eA;cases eB;exact hR
 |x::pre,tb,po,h1,h=>by
  have hd:∀(X Y:List Im),(pre++ .clip n p q r s k::X).head?=(pre++ .clip n p q r s k::Y).head?:=fun X Y=>by cases pre <;> rfl
  have e1:∀tb',(x.wd≠"mix"->tb'=0)->(∀y,x=.mix y->tb'=y-y.fdiv 2)->(match pre.getLast? with|none=>tb'|some (.mix x)=>x-x.fdiv 2|_=>0)+l.fdiv 2<=k:=fun tb' ha hb=>by
   rw[xH]at h1;cases hg:pre.getLast? with
   |none=>
    rw[hg]at h1;cases x with
    |mix y=>rw[hb y rfl];exact h1
    |_=>rw[ha (by first|(show ("clip":Str)≠"mix";decide+kernel)|(show ("nest":Str)≠"mix";decide+kernel)|(show ("gap":Str)≠"mix";decide+kernel))];exact h1
   |some z=>rw[hg]at h1;cases z <;> exact h1
  cases x with
  |mix y=>
   obtain⟨a1,a2⟩:=h;refine⟨fun A B eA eB=>a1 A B eA (by rw[<-eB];exact hd _ _),qI3 h2 hR pre _ _ (e1 _ (fun c=>absurd rfl c) (fun y' e=>by cases e;rfl)) a2⟩
  |clip n1 p1 q1 r1 s1 k1=>
   obtain⟨a1,a2⟩:=h;refine⟨?_,qI3 h2 hR pre _ _ (e1 0 (fun _=>rfl) (fun y e=>by cases e)) a2⟩;unfold tkE at a1⊢;rw[List.append_eq]at*;rw[hd (.mix l:: .clip n' p' q' r' s' k'::rest) (.clip n' p' q' r' s' k'::rest)];exact a1
  |nest n1 b1 l1=>exact qI3 h2 hR pre _ _ (e1 0 (fun _=>rfl) (fun y e=>by cases e)) h
  |gap l1=>exact qI3 h2 hR pre _ _ (e1 0 (fun _=>rfl) (fun y e=>by cases e)) h
theorem qR4{R:Im->Int->Im->Prop}:∀{ms:List Im} (p:Option Im),(∀m∈ms,Wf m/\m.wd≠"mix")->FS R 0 p ms
 |[],_,_=>trivial
 |m::ms,p,h=>by
  have ih:=fun p=>qR4 (R:=R) (ms:=ms) p fun x hx=>h x (by simp[hx]);obtain⟨hw,hm⟩:=h m (by simp);cases m with
  |mix l=>exact absurd rfl hm
  |clip n p' q r s k=>
   refine⟨?_,ih _⟩;have e:tkE ms=0:=by
    unfold tkE;cases ms with
    |nil=>rfl
    |cons x ms=>
     have:=(h x (by simp)).2;cases x with
     |mix y=>exact absurd rfl this
     |_=>rfl
   rw[e];have:=hw.2.2.2;omega
  |nest n b l=>exact ih _
  |gap l=>exact ih _
theorem FS.span{R:Im->Int->Im->Prop}:∀{ms:List Im} {tb:Int} {p:Option Im} {b:Int},FS R tb p ms->MO p ms->(∀m∈ms,Wf m)->∀x∈qq b ms,x.2.2<=b+qp ms
 |[],_,_,_,_,_,_,x,hx=>by cases hx
 |m::ms,tb,p,b,h,hM,hw,x,hx=>by
  have hw':∀m∈ms,Wf m:=fun x hx=>hw x (by simp[hx]);have hl:=Nn.len fun x hx=>(hw' x hx).mo;have h0:=(hw m (by simp)).mo;rw[qS];by_cases hm:m.wd="mix"
  . obtain⟨l,rfl⟩:=jV hm
    have e0:(Im.mix l).mo=0:=rfl;rw[qq]at hx;rcases List.mem_cons.mp hx with rfl|hx
    . obtain⟨n,p,q,r,s,k,e⟩:=hM.1.2
      cases ms with
      |nil=>cases e
      |cons y ms=>
       cases e;have h1:l-l.fdiv 2+tkE ms<=k:=h.2.1;have hl':=Nn.len (ms:=ms) fun x hx=>(hw' x (by simp[hx])).mo;have tk:0<=tkE ms:=by
        unfold tkE;cases ms with
        |nil=>exact Int.le_refl _
        |cons z ms=>
         cases z with
         |mix y=>
          have:1<=y:=hw' (.mix y) (by simp);have:=qo (p:=y) (q:=2) (by decide);show 0<=y.fdiv 2;omega
         |_=>exact Int.le_refl _
       rw[qS];show b+(l-l.fdiv 2)<=b+(0+(k+qp ms));omega
    . have:=FS.span h.2 hM.2 hw' x hx
      omega
  . rw[qv hm]at hx
    rw[qx hm]at hM;have hF:FS R 0 (some m) ms:=by
     cases m with
     |mix l=>exact absurd rfl hm
     |clip n p q r s k=>exact h.2
     |nest n b l=>exact h
     |gap l=>exact h
    have:=FS.span hF hM hw' x hx;omega
theorem qP1{A B:Im}{rest:List Im}(l:Int)(hA:qMi (some A))(hB:qMi (some B)):∀(pre:List Im) (p:Option Im),MO p (pre++A::B::rest)->MO p (pre++A:: .mix l::B::rest)
 |[],p,h=>by obtain⟨n,p1,q,r,s,k,e⟩:=hA;cases e;obtain⟨n',p',q',r',s',k',e⟩:=hB;cases e;exact⟨⟨⟨_,_,_,_,_,_,O⟩,⟨_,_,_,_,_,_,O⟩⟩,h⟩
 |x::pre,p,h=>by
  by_cases hm:x.wd="mix"
  . obtain⟨y,rfl⟩:=jV hm
    refine⟨⟨h.1.1,?_⟩,qP1 l hA hB pre _ h.2⟩;have:=h.1.2;cases pre <;> exact this
  . rw[List.cons_append,qx hm]at h⊢
    exact qP1 l hA hB pre _ h
theorem qY4{ms:List Im}(hw:∀m∈ms,Wf m):0<=tkE ms:=by
 unfold tkE;cases ms with
 |nil=>exact Int.le_refl _
 |cons z ms=>
  cases z with
  |mix y=>
   have:1<=y:=hw (.mix y) (by simp);have:=qo (p:=y) (q:=2) (by decide);show 0<=y.fdiv 2;omega
  |_=>exact Int.le_refl _
theorem wW{ms:List Im}(h:NHM ms):tkE ms=0:=by
 unfold tkE;cases ms with
 |nil=>rfl
 |cons z ms=>
  cases z with
  |mix y=>exact absurd rfl (h y)
  |_=>rfl
theorem qj{R:Im->Int->Im->Prop}{m:Im}(hm:m.wd≠"mix"){tb:Int}{p:Option Im}{ms:List Im}:FS R tb p (m::ms)↔((m.wd="clip"->tb+tkE ms<=m.mo)/\FS R 0 (some m) ms):=by
 cases m with
 |mix l=>exact absurd rfl hm
 |clip n p q r s k=>exact⟨fun h=>⟨fun _=>h.1,h.2⟩,fun h=>⟨h.1 rfl,h.2⟩⟩
 |nest n b l=>exact⟨fun h=>⟨fun c=>absurd (show ("nest":Str)="clip" from c) (by decide+kernel),h⟩,fun h=>h.2⟩
 |gap l=>exact⟨fun h=>⟨fun c=>absurd (show ("gap":Str)="clip" from c) (by decide+kernel),h⟩,fun h=>h.2⟩
theorem qDz{R:Im->Int->Im->Prop}{l:Int}{tb:Int}{p:Option Im}{ms:List Im}:FS R tb p (.mix l::ms)↔((∀A B,p=some A->ms.head?=some B->R A l B)/\FS R (l-l.fdiv 2) (some (.mix l)) ms):=Iff.rfl
theorem qO3{R:Im->Int->Im->Prop}{B:List Im}(h:NHM B){tb:Int}{p p':Option Im}(hB:FS R tb p B):FS R tb p' B:=by
 cases B with
 |nil=>exact trivial
 |cons m B=>
  by_cases hm:m.wd="mix"
  . obtain⟨l,rfl⟩:=jV hm
    exact absurd rfl (h l)
  . exact(qj hm).mpr ((qj hm).mp hB)
theorem qSe{A B:List Im}(h:A≠[]):(A++B).head?=A.head?:=by
 cases A with
 |nil=>exact absurd rfl h
 |cons a A=>rfl
theorem qV5{A B:List Im}(hB:NHM B):tkE (A++B)=tkE A:=by
 cases A with
 |nil=>exact(wW hB).trans rfl
 |cons a A=>rfl
theorem qJn{R:Im->Int->Im->Prop}{B:List Im}(hB:NHM B)(fB:∀p,FS R 0 p B):∀(A:List Im) (tb:Int) (p:Option Im),NLM A->(A=[]->tb=0)->FS R tb p A->FS R tb p (A++B)
 |[],tb,p,_,h,_=>by rw[h rfl];exact fB p
 |m::A,tb,p,hl,h,hA=>by
  have hl':NLM A:=fun l e=>hl l (by rw[xH,e];rfl);by_cases hm:m.wd="mix"
  . obtain⟨l,rfl⟩:=jV hm
    have ne:A≠[]:=fun e=>hl l (by rw[e];rfl);rw[List.cons_append,qDz]at*;refine⟨fun X Y eX eY=>hA.1 X Y eX (by rw[<-eY,qSe ne]),qJn hB fB A _ _ hl' (fun e=>absurd e ne) hA.2⟩
  . rw[List.cons_append]
    obtain⟨h1,h2⟩:=(qj hm).mp hA;exact(qj hm).mpr ⟨fun c=>by rw[qV5 hB];exact h1 c,qJn hB fB A _ _ hl' (fun _=>rfl) h2⟩
theorem qMe{R:Im->Int->Im->Prop}{X:List Im}(hX:∀m∈X,Wf m):∀(A:List Im) (tb:Int) (p:Option Im),NLM A->FS R tb p (A++X)->FS R tb p A
 |[],_,_,_,_=>trivial
 |m::A,tb,p,hl,h=>by
  have hl':NLM A:=fun l e=>hl l (by rw[xH,e];rfl);by_cases hm:m.wd="mix"
  . obtain⟨l,rfl⟩:=jV hm
    have ne:A≠[]:=fun e=>hl l (by rw[e];rfl);rw[List.cons_append,qDz]at h;refine⟨fun X' Y eX eY=>h.1 X' Y eX (by rw[qSe ne,eY]),qMe hX A _ _ hl' h.2⟩
  . rw[List.cons_append]at h
    obtain⟨h1,h2⟩:=(qj hm).mp h;refine(qj hm).mpr ⟨fun c=>?_,qMe hX A _ _ hl' h2⟩;have:=h1 c;cases A with
    |nil=>
     have e:tkE []=0:=rfl;have:=qY4 hX;rw[List.nil_append]at*;omega
    |cons a A=>exact this
theorem qLv{R:Im->Int->Im->Prop}{B:List Im}(hB:NHM B):∀(A:List Im) (tb:Int) (p p':Option Im),NLM A->(A=[]->tb=0)->FS R tb p (A++B)->FS R 0 p' B
 |[],tb,p,p',_,h,h'=>by rw[h rfl]at h';exact qO3 hB h'
 |m::A,tb,p,p',hl,_,h=>by
  have hl':NLM A:=fun l e=>hl l (by rw[xH,e];rfl);by_cases hm:m.wd="mix"
  . obtain⟨l,rfl⟩:=jV hm
    have ne:A≠[]:=fun e=>hl l (by rw[e];rfl);exact qLv hB A _ _ p' hl' (fun e=>absurd e ne) h.2
  . rw[List.cons_append]at h
    exact qLv hB A _ _ p' hl' (fun _=>rfl) ((qj hm).mp h).2
def tbL(tb:Int)(A:List Im):Int:=match A.getLast? with
 |none=>tb
 |some (.mix x)=>x-x.fdiv 2
 |_=>0
theorem qMk{tb:Int}{m:Im}{A:List Im}:tbL tb (m::A)=tbL (match m with|.mix x=>x-x.fdiv 2|_=>0) A:=by
 unfold tbL;rw[xH];cases A.getLast? with
 |none=>cases m <;> rfl
 |some z=>cases z <;> rfl
structure qVu(R:Im->Int->Im->Prop):Prop where
 beg:∀{A m:Im} {l hi:Int},Wf m->R A l m->R A l (xc m 0 hi)
 fin:∀{m B:Im} {l lo:Int},Wf m->R m l B->R (xc m lo m.mo) l B
theorem qLe{R:Im->Int->Im->Prop}(hR:qVu R){m:Im}(hm:m.wd≠"mix")(hw:Wf m){B:List Im}{d:Int}:∀(A:List Im) (tb:Int) (p:Option Im),tbL tb A<=d->FS R tb p (A++m::B)->FS R tb p (A++[xc m 0 d])
 |[],tb,p,hd,h=>by obtain⟨h1,h2⟩:=(qj hm).mp h;refine(qj (zd m 0 d)).mpr ⟨fun _=>?_,trivial⟩;have e:tkE []=0:=rfl;have hd:tb<=d:=hd;rw[e,qA8];omega
 |x::A,tb,p,hd,h=>by
  rw[qMk]at hd;by_cases hx:x.wd="mix"
  . obtain⟨l,rfl⟩:=jV hx
    rw[List.cons_append,qDz]at h⊢;refine⟨fun X Y eX eY=>?_,qLe hR hm hw A _ _ hd h.2⟩;cases A with
    |nil=>
     cases eY;exact hR.beg hw (h.1 X m eX rfl)
    |cons a A=>exact h.1 X Y eX eY
  . rw[List.cons_append]at h⊢
    obtain⟨h1,h2⟩:=(qj hx).mp h;refine(qj hx).mpr ⟨fun c=>?_,qLe hR hm hw A _ _ ?_ h2⟩
    . have:=h1 c
      have e:tkE (A++[xc m 0 d])=tkE (A++m::B):=by
       cases A with
       |nil=>rw[List.nil_append,List.nil_append,wW,wW]
             . intro l e;cases e;exact hm rfl
             . intro l e
               have e:xc m 0 d=.mix l:=by simpa using e
               exact zd m 0 d (by rw[e];rfl)
       |cons a A=>rfl
      rw[e];exact this
    . cases x with
      |mix l=>exact absurd rfl hx
      |_=>exact hd
theorem qT7{R:Im->Int->Im->Prop}(hR:qVu R){m:Im}(hm:m.wd≠"mix")(hw:Wf m){B:List Im}{d tb:Int}{p p':Option Im}(hd:tkE B<=m.mo-d)(h:FS R tb p (m::B)):FS R 0 p' (xc m d m.mo::B):=by
 obtain⟨_,h2⟩:=(qj hm).mp h;refine(qj (zd m d m.mo)).mpr ⟨fun _=>by rw[qA8];omega,?_⟩;cases B with
 |nil=>exact trivial
 |cons x B=>
  by_cases hx:x.wd="mix"
  . obtain⟨l,rfl⟩:=jV hx
    rw[qDz]at h2⊢;exact⟨fun X Y eX eY=>by cases eX;exact hR.fin hw (h2.1 m Y rfl eY),h2.2⟩
  . exact(qj hx).mpr ((qj hx).mp h2)
theorem qK0{R:Im->Int->Im->Prop}{m:Im}{B:List Im}(hm:m.wd≠"mix"):∀(A:List Im) (tb:Int) (p:Option Im),FS R tb p (A++m::B)->∃tb' p',FS R tb' p' (m::B)
 |[],tb,p,h=>⟨tb,p,h⟩
 |x::A,tb,p,h=>by
  by_cases hx:x.wd="mix"
  . obtain⟨l,rfl⟩:=jV hx
    exact qK0 hm A _ _ h.2
  . rw[List.cons_append]at h
    exact qK0 hm A _ _ ((qj hx).mp h).2
def NoS(c:Int)(ms:List Im):Prop:= ∀x∈qq 0 ms,(x.2.1<c/\x.2.2<=c)\/(c<x.2.1/\c<=x.1)
theorem NoS.nma{c:Int}{ms:List Im}(h:NoS c ms):NMA 0 c ms:=fun x hx=>by have:=h x hx;omega
theorem qR9{R:Im->Int->Im->Prop}(hR:qVu R){ms:List Im}(hw:∀m∈ms,Wf m){c:Int}(hc:0<=c)(hn:NoS c ms)(hM:MO none ms)(hF:FS R 0 none ms):FS R 0 none (jp c ms).1/\∀p,FS R 0 p (jp c ms).2:=by
 have nl:=qOs hw hc hn.nma hM;have nh:=qPw hw hc hn.nma;obtain⟨w1,w2⟩:=qIf hw hc;rcases xT ms c hc with ⟨h1,h2⟩|⟨A,B,m,d,h1,h2,h3,h4,h5,h6,h7⟩
 . rw[<-h1]at hF
   exact⟨qMe w2 _ _ _ nl hF,fun p=>qLv nh _ _ _ p nl (fun _=>rfl) hF⟩
 . rw[h1]at hF
   rw[h2,h3];have hm:=hw m (by rw[h1];simp);have hs:qq 0 ms=qq 0 A++qq (0+qp A+m.mo) B:=by rw[h1,j4,qv h6]
   refine⟨qLe hR h6 hm A _ _ ?_ hF,fun p=>?_⟩
   . unfold tbL
     cases hA:A.getLast? with
     |none=>dsimp only;omega
     |some z=>
      cases z with
      |mix l=>
       dsimp only;obtain⟨A',eA⟩:=List.getLast?_eq_some_iff.mp hA;have hx:(0+qp A'-l.fdiv 2,0+qp A',0+qp A'+(l-l.fdiv 2))∈qq 0 ms:=by rw[hs,eA,j4];refine List.mem_append_left _ (List.mem_append_right _ ?_);rw[qq];simp
       have h8:=hn _ hx;have e0:(Im.mix l).mo=0:=rfl;have e1:qp A=qp A':=by rw[eA,jB,qS,jF];omega
       dsimp only at h8;omega
      |_=>dsimp only;omega
   . obtain⟨tb',p',hB⟩:=qK0 h6 A _ _ hF
     refine qT7 hR h6 hm ?_ hB;cases B with
     |nil=>show (0:Int)<=m.mo-d;omega
     |cons x B=>
      by_cases hx:x.wd="mix"
      . obtain⟨l,rfl⟩:=jV hx
        have h8:=hn (0+qp A+m.mo-l.fdiv 2,0+qp A+m.mo,0+qp A+m.mo+(l-l.fdiv 2)) (by rw[hs,qq];exact List.mem_append_right _ (by simp));dsimp only at h8;show l.fdiv 2<=m.mo-d;omega
      . have:tkE (x::B)=0:=wW fun l e=>by cases e;exact hx rfl
        omega
theorem qPr:∀{ms:List Im} {w:Int} {p:Option Im},MO p ms->0<=w->Nn ms->(NHM ms\/w=0)->tkE (xf w ms)=tkE ms
 |[],_,_,_,_,_,_=>rfl
 |m::ms,w,p,hM,hw,hN,hh=>by
  by_cases hm:m.wd="mix"
  . obtain⟨l,rfl⟩:=jV hm
    have hg:(Im.mix l).wd≠"gap":=by show ("mix":Str)≠"gap";decide+kernel
    rcases hh with hh|rfl
    . exact absurd rfl (hh l)
    . rw[qy hg,if_neg (by omega)];rfl
  . have e:tkE (m::ms)=0:=wW fun l e=>by cases e;exact hm rfl
    rw[qx hm]at hM;by_cases hg:m.wd="gap"
    . obtain⟨l,rfl⟩:=qAc hg
      have hn:NHM ms:=hM.nh fun⟨_,_,_,_,_,_,e⟩=>by cases e
      have hl:0<=l:=hN (.gap l) (by simp);rw[e,xf,qPr hM (by omega) hN.tail (.inl hn),wW hn]
    . rw[e,qy hg]
      split
      . rfl
      . exact e
theorem qL1{R:Im->Int->Im->Prop}:∀(ms:List Im) (w tb:Int) (p p':Option Im),0<=w->(tb=0\/(w=0/\qMi ms.head?))->MO p' ms->Nn ms->(NHM ms\/(w=0/\p=p'))->FS R tb p' ms->FS R tb p (xf w ms)
 |[],_,_,_,_,_,_,_,_,_,_=>trivial
 |m::ms,w,tb,p,p',hw,ht,hM,hN,hh,hF=>by
  by_cases hm:m.wd="mix"
  . obtain⟨l,rfl⟩:=jV hm
    rcases hh with hh|⟨rfl,rfl⟩
    . exact absurd rfl (hh l)
    obtain⟨⟨h1,h2⟩,h3⟩:=hM;have hg:(Im.mix l).wd≠"gap":=by show ("mix":Str)≠"gap";decide+kernel
    rw[qy hg,if_neg (by omega),qDz];have eh:(xf 0 ms).head?=ms.head?:=by
     obtain⟨n,p,q,r,s,k,h2⟩:=h2;cases ms with
     |nil=>cases h2
     |cons x ms=>cases h2;rw[xf,if_neg (by omega)];rfl
    exact⟨fun A B eA eB=>hF.1 A B eA (by rw[<-eh,eB]),qL1 ms 0 _ _ _ (Int.le_refl 0) (.inr ⟨O,h2⟩) h3 hN.tail (.inr ⟨O,O⟩) hF.2⟩
  . rw[qx hm]at hM
    obtain⟨h1,h2⟩:=(qj hm).mp hF;by_cases hg:m.wd="gap"
    . obtain⟨l,rfl⟩:=qAc hg
      have hn:NHM ms:=hM.nh fun⟨_,_,_,_,_,_,e⟩=>by cases e
      have hl:0<=l:=hN (.gap l) (by simp);have e0:tb=0:=by
       rcases ht with ht|⟨_,_,_,_,_,_,_,e⟩
       . exact ht
       . cases e
      subst e0;rw[xf];exact qL1 ms (w+l) 0 p (some (.gap l)) (by omega) (.inl rfl) hM hN.tail (.inl hn) h2
    . have ih:=qL1 (R:=R) ms 0 0 (some m) (some m) (Int.le_refl 0) (.inl rfl) hM hN.tail (.inr ⟨rfl,rfl⟩) h2
      have et:=qPr hM (Int.le_refl 0) hN.tail (.inr rfl);rw[qy hg];split
      . show FS R 0 _ (m::xf 0 ms)
        refine(qj hm).mpr ⟨fun c=>?_,ih⟩;rw[et];have:=h1 c;omega
      . refine(qj hm).mpr ⟨fun c=>?_,ih⟩
        rw[et];exact h1 c
theorem qL8:∀(ms:List Im) (w:Int) (p p':Option Im),0<=w->MO p' ms->Nn ms->(NHM ms\/(w=0/\p=p'))->MO p (xf w ms)
 |[],_,_,_,_,_,_,_=>trivial
 |m::ms,w,p,p',hw,hM,hN,hh=>by
  by_cases hm:m.wd="mix"
  . obtain⟨l,rfl⟩:=jV hm
    rcases hh with hh|⟨rfl,rfl⟩
    . exact absurd rfl (hh l)
    obtain⟨⟨h1,h2⟩,h3⟩:=hM;have hg:(Im.mix l).wd≠"gap":=by show ("mix":Str)≠"gap";decide+kernel
    have eh:(xf 0 ms).head?=ms.head?:=by
     obtain⟨n,p,q,r,s,k,h2⟩:=h2;cases ms with
     |nil=>cases h2
     |cons x ms=>cases h2;rw[xf,if_neg (by omega)];rfl
    rw[qy hg,if_neg (by omega)];exact⟨⟨h1,by rw[eh];exact h2⟩,qL8 ms 0 _ _ (Int.le_refl 0) h3 hN.tail (.inr ⟨O,O⟩)⟩
  . rw[qx hm]at hM
    by_cases hg:m.wd="gap"
    . obtain⟨l,rfl⟩:=qAc hg
      have hn:NHM ms:=hM.nh fun⟨_,_,_,_,_,_,e⟩=>by cases e
      have hl:0<=l:=hN (.gap l) (by simp);rw[xf];exact qL8 ms (w+l) p (some (.gap l)) (by omega) hM hN.tail (.inl hn)
    . have ih:=qL8 ms 0 (some m) (some m) (Int.le_refl 0) hM hN.tail (.inr ⟨rfl,rfl⟩)
      rw[qy hg];split
      . show MO (some (.gap w)) (m::xf 0 ms)
        rw[qx hm];exact ih
      . rw[qx hm];exact ih
theorem Rel.good{R:Im->Int->Im->Prop}(hR:qVu R){ms:List Im}{lo hi:Int}{ls:List Im}(h:Rel ms lo hi ls)(hF:FS R 0 none ms):MO none (qKx ms lo hi ls)/\FS R 0 none (qKx ms lo hi ls)/\OS false (qKx ms lo hi ls)/\Nn ((jp lo ms).1++((.gap (vJ (lo-qp ms) 0)::ls)++(jp hi ms).2))/\qKx ms lo hi ls=xf 0 ((jp lo ms).1++((.gap (vJ (lo-qp ms) 0)::ls)++(jp hi ms).2)):=by
 have l0:=h.l0;have lh:=h.lh;have h0:0<=hi:=by omega
 have n1:NoS lo ms:=fun x hx=>by have:=h.far x hx;omega
 have n2:NoS hi ms:=fun x hx=>by have:=h.far x hx;omega
 obtain⟨aF,_⟩:=qR9 hR h.wf l0 n1 h.mo hF;obtain⟨_,bF⟩:=qR9 hR h.wf h0 n2 h.mo hF;have aN:=qOs h.wf l0 h.nlo h.mo;have bH:=qPw h.wf h0 h.nhi;obtain⟨aM,_⟩:=qSt h.wf l0 h.nlo h.mo;obtain⟨_,bM2⟩:=qSt h.wf h0 h.nhi h.mo;obtain⟨aW,_⟩:=qIf h.wf l0;obtain⟨_,bW2⟩:=qIf h.wf h0;have pad0:0<=vJ (lo-qp ms) 0:=by unfold vJ;split <;> omega
 have mG:∀m∈Im.gap (vJ (lo-qp ms) 0)::ls,m.wd≠"mix":=fun x hx=>by
  rcases List.mem_cons.mp hx with rfl|hx
  . show ("gap":Str)≠"mix";decide+kernel
  . exact h.lm x hx
 have nlG:NLM (.gap (vJ (lo-qp ms) 0)::ls):=fun l e=>mG (.mix l) (List.mem_of_getLast? e) rfl;have nhG:NHM ((.gap (vJ (lo-qp ms) 0)::ls)++(jp hi ms).2):=fun l e=>by cases e
 have nX:Nn ((jp lo ms).1++((.gap (vJ (lo-qp ms) 0)::ls)++(jp hi ms).2)):=fun x hx=>by
  rcases List.mem_append.mp hx with hx|hx
  . exact(aW x hx).mo
  . rcases List.mem_append.mp hx with hx|hx
    . rcases List.mem_cons.mp hx with rfl|hx
      . exact pad0
      . exact(h.lw x hx).mo
    . exact(bW2 x hx).mo
 have MX:MO none ((jp lo ms).1++((.gap (vJ (lo-qp ms) 0)::ls)++(jp hi ms).2)):=qP4 none none _ _ aM (qP4 _ none _ _ (qRj mG _) (bM2 _));have fls:∀p,FS R 0 p (.gap (vJ (lo-qp ms) 0)::ls):=fun p=>qR4 (R:=R) (ms:=ls) _ (fun x hx=>⟨h.lw x hx,h.lm x hx⟩);have FX:FS R 0 none ((jp lo ms).1++((.gap (vJ (lo-qp ms) 0)::ls)++(jp hi ms).2)):=qJn nhG (fun p=>qJn bH bF _ 0 p nlG (fun _=>rfl) (fls p)) _ 0 none aN (fun _=>rfl) aF;have e:qKx ms lo hi ls=xf 0 ((jp lo ms).1++((.gap (vJ (lo-qp ms) 0)::ls)++(jp hi ms).2)):=by rw[h.eq];simp
 rw[e];exact⟨qL8 _ 0 none none (Int.le_refl 0) MX nX (.inr ⟨O,O⟩),qL1 _ 0 0 none none (Int.le_refl 0) (.inl rfl) MX nX (.inr ⟨O,O⟩) FX,qKc _ 0 nX (Int.le_refl 0),nX,O⟩
theorem qDf{Pm:Im->Prop}(hg:∀w,0<w->Pm (.gap w)):∀(ms:List Im) (w:Int),(∀m∈ms,m.wd≠"gap"->Pm m)->∀m∈xf w ms,Pm m
 |[],_,_,m,h=>by cases h
 |x::ms,w,hp,m,h=>by
  have hp':∀m∈ms,m.wd≠"gap"->Pm m:=fun m hm=>hp m (by simp[hm]);by_cases hx:x.wd="gap"
  . obtain⟨l,rfl⟩:=qAc hx
    rw[xf]at h;exact qDf hg ms _ hp' m h
  . rw[qy hx]at h
    split at h
    . rename_i hw
      rcases List.mem_cons.mp h with rfl|h
      . exact hg w hw
      . rcases List.mem_cons.mp h with rfl|h
        . exact hp m (by simp) hx
        . exact qDf hg ms _ hp' m h
    . rcases List.mem_cons.mp h with rfl|h
      . exact hp m (by simp) hx
      . exact qDf hg ms _ hp' m h
theorem qO1{Pm:Im->Prop}{ms:List Im}{c:Int}(hc:0<=c)(h1:∀m∈ms,Pm m)(h2:∀m∈ms,m.wd≠"mix"->∀x y,0<=x->x<y->y<=m.mo->Pm (xc m x y)):(∀m∈(jp c ms).1,Pm m)/\∀m∈(jp c ms).2,Pm m:=by
 rcases xT ms c hc with ⟨e1,_⟩|⟨A,B,m,d,e1,e2,e3,d0,d1,hm,_⟩
 . exact⟨fun m hm=>h1 m (by rw[<-e1];exact List.mem_append_left _ hm),fun m hm=>h1 m (by rw[<-e1];exact List.mem_append_right _ hm)⟩
 . have hmm:m∈ms:=by rw[e1];simp
   rw[e2,e3];refine⟨fun x hx=>?_,fun x hx=>?_⟩
   . rcases List.mem_append.mp hx with hx|hx
     . exact h1 x (by rw[e1];simp[hx])
     . rw[List.mem_singleton]at hx;subst hx;exact h2 m hmm hm 0 d (Int.le_refl 0) d0 (by omega)
   . rcases List.mem_cons.mp hx with rfl|hx
     . exact h2 m hmm hm d m.mo (by omega) d1 (Int.le_refl _)
     . exact h1 x (by rw[e1];simp[hx])
theorem qSv{Pm:Im->Prop}(hg:∀w,0<w->Pm (.gap w)){ms:List Im}{lo hi:Int}{ls:List Im}(h:Rel ms lo hi ls)(h1:∀m∈ms,Pm m)(h2:∀m∈ms,m.wd≠"mix"->∀x y,0<=x->x<y->y<=m.mo->Pm (xc m x y))(h3:∀m∈ls,Pm m):∀m∈qKx ms lo hi ls,Pm m:=by
 rw[h.eq];refine qDf hg _ _ fun m hm hn=>?_;have hhi:0<=hi:=by have:=h.l0;have:=h.lh;omega
 rcases List.mem_append.mp hm with hm|hm
 . rcases List.mem_append.mp hm with hm|hm
   . rcases List.mem_append.mp hm with hm|hm
     . exact(qO1 h.l0 h1 h2).1 m hm
     . rw[List.mem_singleton]at hm;subst hm;exact absurd rfl hn
   . exact h3 m hm
 . exact(qO1 hhi h1 h2).2 m hm
theorem qL2:∀(Y:List Im) (a:Im) (w:Int),Nn Y->0<=w->a.wd≠"gap"->qp (xf w (Y++[a]))=w+qp Y+a.mo
 |[],a,w,_,hw,ha=>by
  rw[List.nil_append,qy ha,jF];split
  . show qp [.gap w,a]=_;rw[qS,qS,jF];show w+(a.mo+0)=_;omega
  . show qp [a]=_;rw[qS,jF];omega
 |m::Y,a,w,hn,hw,ha=>by
  have h0:=hn m (by simp);rw[List.cons_append,qS];by_cases hg:m.wd="gap"
  . obtain⟨l,rfl⟩:=qAc hg
    have h0:0<=l:=h0;rw[xf,qL2 Y a (w+l) hn.tail (by omega) ha];show w+l+qp Y+a.mo=w+(l+qp Y)+a.mo;omega
  . have ih:=qL2 Y a 0 hn.tail (Int.le_refl 0) ha
    rw[qy hg];split
    . rw[qS,qS,ih];show w+(m.mo+(0+qp Y+a.mo))=_;omega
    . rw[qS,ih];omega
theorem qKt:∀(Y:List Im) (w:Int),Nn Y->0<=w->qp (xf w Y)<=w+qp Y
 |[],w,_,hw=>by show qp []<=w+qp [];rw[jF];omega
 |m::Y,w,hn,hw=>by
  have h0:=hn m (by simp);rw[qS];by_cases hg:m.wd="gap"
  . obtain⟨l,rfl⟩:=qAc hg
    have h0:0<=l:=h0;have:=qKt Y (w+l) hn.tail (by omega);rw[xf];have e:(Im.gap l).mo=l:=rfl;omega
  . have ih:=qKt Y 0 hn.tail (Int.le_refl 0)
    rw[qy hg];split
    . rw[qS,qS];have e:(Im.gap w).mo=w:=rfl;omega
    . rw[qS];omega
theorem qP9:∀(ms:List Im) (c:Int),Nn ms->qp ms<=c->jp c ms=(ms,[])
 |[],_,_,_=>rfl
 |m::ms,c,hn,h=>by have:=hn.tail.len;rw[qS]at h;rw[jp,if_pos (by omega),qP9 ms (c-m.mo) hn.tail (by omega)]
def RmR(rl:Rls):Im->Int->Im->Prop:=fun A l B=> ∀n p q r s k n' p' q' r' s' k',A=.clip n p q r s k->B=.clip n' p' q' r' s' k'->∃N N',rl n=some N/\rl n'=some N'/\l.fdiv 2<=zm p' q' r' s' N'/\l-l.fdiv 2<=zJ p q r s k N
theorem qYo(rl:Rls):qVu (RmR rl):=by
 refine⟨fun{A m l hi} hw h=>?_,fun{m B l lo} hw h=>?_⟩
 . intro n p q r s k n' p' q' r' s' k' eA eB
   cases m with
   |clip n1 p1 q1 r1 s1 k1=>
    obtain⟨z1,z2⟩:=qEr (r:=r1) (s:=s1) hw.1 hw.2.1 hw.2.2.1;cases eB;rw[z1,z2];exact h n p q r s k _ _ _ _ _ _ eA rfl
   |nest=>cases eB
   |gap=>cases eB
   |mix=>cases eB
 . intro n p q r s k n' p' q' r' s' k' eA eB
   cases m with
   |clip n1 p1 q1 r1 s1 k1=>
    cases eA;obtain⟨N,N',q1',q2',q3',q4'⟩:=h _ _ _ _ _ _ _ _ _ _ _ _ rfl eB;refine⟨N,N',q1',q2',q3',?_⟩;obtain⟨z1,z2⟩:=qP0 (p:=p1) (r:=r) (lo:=lo) (k:=k1-lo) hw.1 hw.2.1;unfold zJ at q4'⊢;show _<=zp (plP (plP p1 q1 r s lo) (plQ p1 q1 r s lo) r s (k1-lo)*s) (1*r*plQ (plP p1 q1 r s lo) (plQ p1 q1 r s lo) r s (k1-lo)) (plQ (plP p1 q1 r s lo) (plQ p1 q1 r s lo) r s (k1-lo)*s) N;rw[z1,z2,show lo+(k1-lo)=k1 by omega];exact q4'
   |nest=>cases eA
   |gap=>cases eA
   |mix=>cases eA
theorem qU2{a b l:Int}(h:l<=mmV a b)(h1:1<=l):l.fdiv 2<=a/\l-l.fdiv 2<=b:=by
 have f:=qo (p:=l) (q:=2) (by decide);unfold mmV qUz at h;split at h
 . split at h <;> omega
 . split at h <;> omega
theorem qPb{a b x:Int}(h:x<=qT9 a b):x<=a/\x<=b:=by unfold qT9 at h;split at h <;> omega
theorem qLw{ms:List Im}{i:Nat}(hi:i<=ms.length):tbL 0 (ms.take i)=tbF ms i:=by
 unfold tbL tbF;cases i with
 |zero=>rfl
 |succ i=>
  have e:(ms.take (i+1)).getLast?=ms[i]?:=by rw[List.getLast?_eq_getElem?,List.length_take,Nat.min_eq_left hi];exact List.getElem?_take_of_lt (by omega)
  rw[e,if_neg (by omega),Nat.add_sub_cancel];cases h:ms[i]? with
  |none=>rfl
  |some z=>cases z <;> rfl
theorem qLq(ms:List Im)(i:Nat):tkE (ms.drop (i+1))=teF ms i:=by
 unfold tkE teF;rw[List.head?_drop]
 all_goals
  cases ms[i+1]? with
  |none=>rfl
  |some z=>cases z <;> rfl
theorem qO5{m:Im}(h:m.wd="clip"):∃n p q r s l,m=.clip n p q r s l:=by
 cases m with
 |clip n p q r s l=>exact⟨_,_,_,_,_,_,rfl⟩
 |nest=>exact absurd (show ("nest":Str)="clip" from h) (by decide+kernel)
 |gap=>exact absurd (show ("gap":Str)="clip" from h) (by decide+kernel)
 |mix=>exact absurd (show ("mix":Str)="clip" from h) (by decide+kernel)
theorem qUb{ms:List Im}{t:Int}{i:Nat}(hc:cbF ms t=some ((i:Int),((i+1:Nat):Int))):∃n p q r s k n' p' q' r' s' k',ms[i]?=some (.clip n p q r s k)/\ms[i+1]?=some (.clip n' p' q' r' s' k')/\ms=ms.take i++ .clip n p q r s k:: .clip n' p' q' r' s' k'::ms.drop (i+2)/\∀l,ms.take (i+1)++[.mix l]++ms.drop (i+1)=ms.take i++ .clip n p q r s k:: .mix l:: .clip n' p' q' r' s' k'::ms.drop (i+2):=by
 obtain⟨k1,k2⟩:=kT hc;have get:∀j:Nat,jG ms (j:Int)="clip"->∃n p q r s k,ms[j]?=some (.clip n p q r s k):=fun j hj=>by
  unfold jG at hj;rw[if_neg (by omega),Int.toNat_natCast]at hj;cases h:ms[j]? with
  |none=>rw[h]at hj;exact absurd hj (by decide+kernel)
  |some m=>
   rw[h]at hj;obtain⟨n,p,q,r,s,l,rfl⟩:=qO5 hj;exact⟨_,_,_,_,_,_,O⟩
 obtain⟨n,p,q,r,s,k,h1⟩:=get i k1;obtain⟨n',p',q',r',s',k',h2⟩:=get (i+1) k2;have d1:=zF h1;have d2:=zF h2;refine⟨n,p,q,r,s,k,n',p',q',r',s',k',h1,h2,?_,fun l=>?_⟩
 . rw[<-d2,<-d1,List.take_append_drop]
 . rw[List.take_add_one,h1,d2]
   simp
theorem qT6{rl:Rls}{ms:List Im}{t:Int}{i:Nat}{M l:Int}(hc:cbF ms t=some ((i:Int),((i+1:Nat):Int)))(hM:mmF rl ms t=some M)(h1:1<=l)(hl:l<=M)(hO:OS false ms)(hm:MO none ms)(hF:FS (RmR rl) 0 none ms):
 OS false (ms.take (i+1)++[.mix l]++ms.drop (i+1))/\MO none (ms.take (i+1)++[.mix l]++ms.drop (i+1))/\FS (RmR rl) 0 none (ms.take (i+1)++[.mix l]++ms.drop (i+1)):=by
 obtain⟨n,p,q,r,s,k,n',p',q',r',s',k',e1,e2,e3,e4⟩:=qUb hc;have c1:jb ms ((i:Nat):Int)=.clip n p q r s k:=by unfold jb;rw[Int.toNat_natCast,e1];rfl
 have c2:jb ms ((i+1:Nat):Int)=.clip n' p' q' r' s' k':=by unfold jb;rw[Int.toNat_natCast,e2];rfl
 unfold mmF at hM;rw[hc]at hM;dsimp only at hM;rw[c1,c2]at hM;dsimp only at hM;cases r1:rl n with
 |none=>rw[r1]at hM;cases hM
 |some N=>
 cases r2:rl n' with
 |none=>rw[r1,r2]at hM;cases hM
 |some N'=>
 rw[r1,r2]at hM;dsimp only at hM;rw[Int.toNat_natCast,Int.toNat_natCast]at hM;cases hM;obtain⟨q1,q2⟩:=qU2 hl h1;obtain⟨q3,q4⟩:=qPb q1;obtain⟨q5,q6⟩:=qPb q2;have hi:i<ms.length:=(glt e1);rw[e4 l];rw[e3]at hO hm hF;refine⟨qPc l (by show ("clip":Str)≠"gap";decide+kernel) (by show ("clip":Str)≠"gap";decide+kernel) _ _ hO,qP1 l ⟨_,_,_,_,_,_,O⟩ ⟨_,_,_,_,_,_,O⟩ _ _ hm,qI3 ?_ ?_ _ _ _ ?_ hF⟩
 . have:=qLq ms (i+1)
   rw[this];omega
 . intro n1 p1 q1 r1' s1 k1 n2 p2 q2 r2' s2 k2 eA eB
   cases eA;cases eB;exact⟨N,N',r1,r2,q4,q6⟩
 . show tbL 0 (ms.take i)+l.fdiv 2<=k
   rw[qLw (by omega)];omega
theorem qVd:∀(ms:List Im) (g:Bool),(∀l,Im.gap l∈ms->1<=l)->GG ms->qCi ms->(g=true->ms≠[]/\∀l,ms.head?≠some (.gap l))->OS g ms
 |[],g,_,_,_,h=>by
  cases g with
  |false=>rfl
  |true=>exact absurd rfl (h rfl).1
 |m::ms,g,hp,hg,hl,h=>by
  have hg':GG ms:=fun i l l' a b=>hg (i+1) l l' (by rw[List.getElem?_cons_succ];exact a) (by rw[List.getElem?_cons_succ];exact b);have hl':qCi ms:=fun l e=>by
   cases ms with
   |nil=>simp at e
   |cons x ms=>exact hl l (by simpa using e)
  have ih:=fun g=>qVd ms g (fun l hm=>hp l (by simp[hm])) hg' hl';by_cases hx:m.wd="gap"
  . obtain⟨l,rfl⟩:=qAc hx
    refine⟨?_,hp l (by simp),ih true fun _=>⟨fun e=>?_,fun l' e=>?_⟩⟩
    . cases g with
      |false=>rfl
      |true=>exact absurd rfl ((h rfl).2 l)
    . subst e
      exact hl l rfl
    . refine hg 0 l l' rfl ?_
      rw[List.getElem?_cons_succ,<-List.head?_eq_getElem?];exact e
  . rw[jY hx]
    exact ih false fun e=>by cases e
theorem qW7{x b:Int}(hx:0<=x)(hb:0<b):0<=x.fdiv b:=by
 have h:=(qo (p:=x) hb).2;by_cases c:0<=x.fdiv b
 . exact c
 . have:=Int.mul_le_mul_of_nonneg_right (c:=b) (show x.fdiv b+1<=0 by omega) (by omega)
   omega
theorem qVa{lo rs to bo len N:Int}(b0:1<=bo)(n0:1<=len)(l0:0<=lo)(l1:lo+(((len-1)*qCj to).fdiv bo+1)<N)(r0:0<=rs)(r1:rs<7):
 (0<=stF lo rs to bo len/\stF lo rs to bo len<N*(7*bo))/\0<=stF lo rs to bo len+7*(len-1)*to/\stF lo rs to bo len+7*(len-1)*to<N*(7*bo):=by
 have hf:=qo (p:=(len-1)*qCj to) (q:=bo) (by omega);have hx:0<=(len-1)*qCj to:=Int.mul_nonneg (by omega) (by unfold qCj;split <;> omega);have hF:=qW7 hx (show 0<bo by omega);generalize ((len-1)*qCj to).fdiv bo=F at*;have m1:0<=bo*(7*lo+rs):=Int.mul_nonneg (by omega) (by omega);have m2:bo*(7*(lo+F+1)+rs)<bo*(7*N):=Int.mul_lt_mul_of_pos_left (by omega) (by omega);have m3:bo*(7*lo+rs)<bo*(7*N):=Int.mul_lt_mul_of_pos_left (by omega) (by omega);have e1:lo*7*bo+rs*bo=bo*(7*lo+rs):=by grind
 have e2:N*(7*bo)=bo*(7*N):=by grind
 have e3:bo*(7*(lo+F+1)+rs)=bo*(7*lo+rs)+7*((F+1)*bo):=by grind
 unfold stF;rw[e2];by_cases ht:to<0
 . rw[if_pos ht]
   have ea:qCj to=-to:=by unfold qCj;rw[if_pos ht]
   rw[ea]at hf hx;have e4:7*(len-1)*to=-(7*((len-1)* -to)):=by grind
   rw[e4,e1];generalize (len-1)* -to=X at*;generalize bo*(7*lo+rs)=Y at*;generalize (F+1)*bo=Z at*;generalize bo*(7*N)=W at*;generalize bo*(7*(lo+F+1)+rs)=U at*;exact⟨⟨by omega,by omega⟩,by omega,by omega⟩
 . rw[if_neg ht]
   have ea:qCj to=to:=by unfold qCj;rw[if_neg ht]
   rw[ea]at hf hx;have e4:7*(len-1)*to=7*((len-1)*to):=by grind
   rw[e4,e1];generalize (len-1)*to=X at*;generalize bo*(7*lo+rs)=Y at*;generalize (F+1)*bo=Z at*;generalize bo*(7*N)=W at*;generalize bo*(7*(lo+F+1)+rs)=U at*;exact⟨⟨by omega,by omega⟩,by omega,by omega⟩
theorem qHc{st to bo k N:Int}(b0:1<=bo)(h0:0<=st+7*k*to)(h1:st+7*k*to<N*(7*bo)):InR (Vk (xB st (7*bo)) (jh st (7*bo)) (xB to bo) (jh to bo) k) (jh st (7*bo)*jh to bo) N:=by
 have c1:=xS st (7*bo);have c2:=xS to bo;have q0:=j7 (t:=st) (b:=7*bo) (by omega);have s0:=j7 (t:=to) (b:=bo) (by omega);generalize xB st (7*bo)=p at*;generalize jh st (7*bo)=q at*;generalize xB to bo=r at*;generalize jh to bo=s at*;refine(qEt (Int.mul_pos q0 s0) (show 0<7*bo by omega) ?_).mpr ⟨h0,h1⟩;unfold Vk;have e1:(p*s+k*r*q)*(7*bo)=s*(p*(7*bo))+7*k*q*(r*bo):=by grind
 rw[e1,c1,c2]
 grind
theorem CF.lay{A:Int}{m:Im}(h:CF A m){H:Hp}{re:Addr}(hr:RE H re A):LayOk H re m:=by
 obtain⟨hit,_⟩:=h.it hr.2.1 hr.2.2;obtain⟨nm,N,lo,rs,to,bo,len,hn,n0,n1,t0,t1,b0,b1,l0,l1,r0,r1,rfl⟩:=h;obtain⟨N',hc⟩:=hit _ _ _ _ _ _ rfl;obtain⟨i0,i1⟩:=qVa (to:=to) b0 n0 l0 l1 r0 r1;have hrl:rlE A nm=some N:=by
  unfold rlE;rcases hn with ⟨rfl,rfl⟩|⟨rfl,rfl⟩
  . rw[if_pos rfl]
  . rw[if_neg (by decide+kernel),if_pos rfl]
 have hnm:qFo nm=true/\nm.length<=1000:=by rcases hn with ⟨rfl,rfl⟩|⟨rfl,rfl⟩ <;> exact⟨by decide+kernel,by decide+kernel⟩
 refine⟨N,hr.at _ _ hrl,⟨hnm.1,hnm.2,hc.bn.mono (m:=700),hc.g1.2.1,hc.g2.2.1,hc.l1,hc.bl⟩,?_,?_⟩
 . exact qHc b0 (by simpa using i0.1) (by simpa using i0.2)
 . exact qHc b0 i1.1 i1.2
def LayG(A:Int)(m:Im):Prop:=(∃b l,m=.nest "low" b l/\0<=b/\b<5/\1<=l/\l<=8)\/CF A m
theorem LayG.ok{A:Int}{m:Im}(h:LayG A m){H:Hp}{re:Addr}(hr:RE H re A):LayOk H re m/\m.wd≠"mix"/\1<=m.mo/\m.mo<=10:=by
 rcases h with ⟨b,l,rfl,b0,_,l1,l2⟩|h
 . exact⟨⟨by decide+kernel,b0,l1⟩,by show ("nest":Str)≠"mix";decide+kernel,l1,by show l<=10;omega⟩
 . refine⟨h.lay hr,TI.nm (.inr (.inr h)),(h.it hr.2.1 hr.2.2).2.2.1,(h.it hr.2.1 hr.2.2).2.2.2⟩
theorem qQa{A B D N:Int}{m k:Int}(h0:InR A D N)(h1:InR (A+m*B) D N)(k0:0<=k)(km:k<=m):InR (A+k*B) D N:=by
 unfold InR at*;by_cases hB:0<=B
 . have a1:=Int.mul_nonneg k0 hB
   have a2:=Int.mul_le_mul_of_nonneg_right km hB;omega
 . have a1:=Int.mul_nonpos_of_nonneg_of_nonpos k0 (show B<=0 by omega)
   have a2:=Int.mul_le_mul_of_nonpos_right km (show B<=0 by omega);omega
theorem qSd(p q r s k:Int):Vk p q r s k=p*s+k*(r*q):=by unfold Vk;grind
theorem qRo{p q r s l N:Int}(h0:InR (Vk p q r s 0) (q*s) N)(h1:InR (Vk p q r s (l-1)) (q*s) N):∀k,0<=k->k<l->InR (Vk p q r s k) (q*s) N:=fun k k0 k1=>by rw[qSd]at h0 h1⊢;rw[Int.zero_mul,Int.add_zero]at h0;exact qQa h0 h1 k0 (by omega)
theorem qHq{p q r s b k N:Int}(hq:0<q)(hs:0<s):InR (Vk (plP p q r s b) (plQ p q r s b) r s k) (plQ p q r s b*s) N↔InR (Vk p q r s (b+k)) (q*s) N:=by
 have c:=qDc p q r s b;have hb:=qF5 (p:=p) (r:=r) (k:=b) hq hs;refine qEt (Int.mul_pos hb hs) (Int.mul_pos hq hs) ?_;unfold Vk;generalize plP p q r s b=u at c⊢;generalize plQ p q r s b=v at c⊢
 grind
theorem qOu{p q r s N x y k:Int}(h0:InR (Vk p q r s x) (q*s) N)(h1:InR (Vk p q r s y) (q*s) N)(k0:x<=k)(k1:k<=y):InR (Vk p q r s k) (q*s) N:=by
 rw[qSd]at h0 h1⊢;have e1:p*s+y*(r*q)=p*s+x*(r*q)+(y-x)*(r*q):=by grind
 have e2:p*s+k*(r*q)=p*s+x*(r*q)+(k-x)*(r*q):=by grind
 rw[e1]at h1;rw[e2];exact qQa h0 h1 (by omega) (by omega)
structure GC(A:Int)(n:Str)(p q r s l N:Int):Prop where
 rn:rlE A n=some N
 n1:1<=N
 n2:N<=1000000000
 q0:0<q
 s0:0<s
 g1:Int.gcd p q=1
 g2:Int.gcd r s=1
 dq:q∣420
 ds:s∣60
 rb:r.natAbs<=6
 l1:1<=l
 i0:InR (Vk p q r s 0) (q*s) N
 i1:InR (Vk p q r s (l-1)) (q*s) N
theorem qVy{p q r s k:Int}(hq:0<q)(hs:0<s)(dq:q∣420)(ds:s∣60):plQ p q r s k∣420:=by
 obtain⟨a,ha⟩:=dq;obtain⟨b,hb⟩:=ds;have c:=qDc p q r s k;have g:=qOi (p:=p) (r:=r) (k:=k) hq hs;have hqs:q*s≠0:=Int.ne_of_gt (Int.mul_pos hq hs);generalize plP p q r s k=u at c g;generalize plQ p q r s k=v at c g⊢;have key:u*420=(p*a+k*r*(7*b))*v:=by
  apply Int.eq_of_mul_eq_mul_right hqs;have e1:u*420*(q*s)=u*(q*s)*420:=by grind
  have e2:(p*a+k*r*(7*b))*v*(q*s)=v*(p*s*(q*a)+k*r*q*(7*(s*b))):=by grind
  rw[e1,c,e2,<-ha,<-hb]
  grind
 have hd:v∣u*420:=⟨_,by rw[key,Int.mul_comm]⟩;have hn:v.natAbs∣u.natAbs*(420:Int).natAbs:=by rw[<-Int.natAbs_mul];exact Int.natAbs_dvd_natAbs.mpr hd
 have hc:Nat.Coprime v.natAbs u.natAbs:=by show Nat.gcd _ _=1;rw[Nat.gcd_comm];exact g
 exact Int.natAbs_dvd_natAbs.mp (hc.dvd_of_dvd_mul_left hn)
theorem GC.move{A:Int}{n:Str}{p q r s l N:Int}(h:GC A n p q r s l N){b l':Int}(hl:1<=l')(h0:InR (Vk p q r s b) (q*s) N)(h1:InR (Vk p q r s (b+(l'-1))) (q*s) N):GC A n (plP p q r s b) (plQ p q r s b) r s l' N:=
 ⟨h.rn,h.n1,h.n2,qF5 h.q0 h.s0,h.s0,qOi h.q0 h.s0,h.g2,qVy h.q0 h.s0 h.dq h.ds,h.ds,h.rb,hl,(qHq h.q0 h.s0).mpr (by rw[Int.add_zero];exact h0),(qHq h.q0 h.s0).mpr h1⟩
theorem GC.at{A:Int}{n:Str}{p q r s l N:Int}(h:GC A n p q r s l N){k:Int}(k0:0<=k)(k1:k<l):InR (Vk p q r s k) (q*s) N:=qRo h.i0 h.i1 k k0 k1
theorem GC.bd{A:Int}{n:Str}{p q r s l N:Int}(h:GC A n p q r s l N):p.natAbs<2 ^ 40/\q.natAbs<2 ^ 40/\r.natAbs<2 ^ 40/\s.natAbs<2 ^ 40:=by
 have q1:=Int.le_of_dvd (by decide) h.dq;have s1:=Int.le_of_dvd (by decide) h.ds;have q0:=h.q0;have s0:=h.s0;have rb:=h.rb;obtain⟨a1,a2⟩:=h.i0;have e0:Vk p q r s 0=p*s:=by unfold Vk;grind
 rw[e0]at a1 a2;have p0:0<=p:=by
  by_cases c:0<=p
  . exact c
  . have:=Int.mul_neg_of_neg_of_pos (show p<0 by omega) s0
    omega
 have p1:p<N*q:=by
  have e1:N*(q*s)=N*q*s:=by grind
  rw[e1]at a2;exact Int.lt_of_mul_lt_mul_right a2 (by omega)
 have p2:N*q<=1000000000*420:=Int.mul_le_mul h.n2 q1 (by omega) (by decide);exact⟨by omega,by omega,by omega,by omega⟩
theorem p40{x:Nat}(h:x<2 ^ 40){n:Nat}(hn:40<=n):x<2 ^ n:=Nat.lt_of_lt_of_le h (Nat.pow_le_pow_right (by decide) hn)
theorem GC.rc{A:Int}{n:Str}{p q r s l N:Int}(h:GC A n p q r s l N)(hl:l<=100000):Rc n p q r s l (rlE A) N:=by obtain⟨b1,b2,b3,b4⟩:=h.bd;have l1:=h.l1;have n1:=h.n1;have n2:=h.n2;exact⟨⟨h.q0,h.g1,p40 b1 (by decide),p40 b2 (by decide)⟩,⟨h.s0,h.g2,p40 b3 (by decide),p40 b4 (by decide)⟩,by omega,l1,h.rn,p40 (by omega) (by decide)⟩
def GI(A:Int):Im->Prop
 |.clip n p q r s l=> ∃N,GC A n p q r s l N
 |.nest n b l=>n="low"/\0<=b/\1<=l
 |.gap l=>1<=l
 |.mix l=>1<=l
theorem GI.wf{A:Int}{m:Im}(h:GI A m):Wf m:=by
 cases m with
 |clip n p q r s l=>obtain⟨N,c⟩:=h;exact⟨c.q0,c.s0,c.g1,c.l1⟩
 |nest n b l=>exact h.2.2
 |gap l=>exact h
 |mix l=>exact h
theorem GI.part{A:Int}{m:Im}(h:GI A m)(hm:m.wd≠"mix"){x y:Int}(h0:0<=x)(h1:x<y)(h2:y<=m.mo):GI A (xc m x y):=by
 cases m with
 |clip n p q r s l=>
  obtain⟨N,c⟩:=h;have h2:y<=l:=h2;exact⟨N,c.move (b:=x) (l':=y-x) (by omega) (c.at h0 (by omega)) (c.at (by omega) (by omega))⟩
 |nest n b l=>
  obtain⟨a1,a2,a3⟩:=h;exact⟨a1,by show 0<=b+x;omega,by show 1<=y-x;omega⟩
 |gap l=>show 1<=y-x;omega
 |mix l=>exact absurd rfl hm
theorem GI.ib{A:Int}{m:Im}(h:GI A m):ImB m:=by
 cases m with
 |clip n p q r s l=>
  obtain⟨N,c⟩:=h;obtain⟨b1,b2,b3,b4⟩:=c.bd;exact⟨c.q0,c.s0,p40 b1 (by decide),p40 b2 (by decide),p40 b3 (by decide),p40 b4 (by decide)⟩
 |_=>trivial
theorem GI.it{A:Int}{m:Im}(h:GI A m)(hl:m.mo<=100000):ItR (rlE A) m:=fun n p q r s l e=>by subst e;obtain⟨N,c⟩:=h;exact⟨N,c.rc hl⟩
theorem GI.ih{A:Int}{m:Im}(h:GI A m)(hl:m.mo<=100000):ImH m:=by
 cases m with
 |clip n p q r s l=>
  have hb:=h.ib;obtain⟨N,c⟩:=h;have:=c.l1;have hl:l<=100000:=hl;exact⟨hb,p40 (by omega) (by decide)⟩
 |_=>trivial
theorem qPv(t b:Int):jh t b∣b:=⟨_,(qNh t b).symm⟩
theorem CF.gi{A:Int}{m:Im}(h:CF A m)(hA:60<=A/\A<360):GI A m:=by
 obtain⟨nm,N,lo,rs,to,bo,len,hn,n0,n1,t0,t1,b0,b1,l0,l1,r0,r1,rfl⟩:=h;obtain⟨i0,i1⟩:=qVa (to:=to) b0 n0 l0 l1 r0 r1;have hrl:rlE A nm=some N/\1<=N/\N<=1000000000:=by
  unfold rlE;rcases hn with ⟨rfl,rfl⟩|⟨rfl,rfl⟩
  . rw[if_pos rfl];exact⟨rfl,by omega,by omega⟩
  . rw[if_neg (by decide+kernel),if_pos rfl];exact⟨rfl,by decide,by decide⟩
 have hbo:bo=1\/bo=2\/bo=3\/bo=4\/bo=5:=by omega
 have d1:7*bo∣420:=by rcases hbo with rfl|rfl|rfl|rfl|rfl <;> decide
 have d2:bo∣60:=by rcases hbo with rfl|rfl|rfl|rfl|rfl <;> decide
 have ab:=qAq (t:=to) (b:=bo) (by omega);exact⟨N,hrl.1,hrl.2.1,hrl.2.2,j7 (by omega),j7 (by omega),we (by omega),we (by omega),Int.dvd_trans (qPv _ _) d1,Int.dvd_trans (qPv _ _) d2,by omega,n0,qHc b0 (by simpa using i0.1) (by simpa using i0.2),qHc b0 i1.1 i1.2⟩
theorem TI.gi{A:Int}{m:Im}(h:TI A m)(hA:60<=A/\A<360):GI A m:=by
 rcases h with ⟨l,rfl,h1,h2⟩|⟨b,l,rfl,h0,_,h1,h2⟩|h
 . exact h1
 . exact⟨O,h0,h1⟩
 . exact h.gi hA
theorem LayG.gi{A:Int}{m:Im}(h:LayG A m)(hA:60<=A/\A<360):GI A m:=by
 rcases h with ⟨b,l,rfl,b0,_,l1,l2⟩|h
 . exact⟨O,b0,l1⟩
 . exact h.gi hA
structure GdT(A:Int)(ms:List Im):Prop where
 os:OS false ms
 mo:MO none ms
 fs:FS (RmR (rlE A)) 0 none ms
structure GT(A:Int)(M:Int)(c:Nat)(ms:List Im):Prop where
 it:∀m∈ms,GI A m
 gd:GdT A ms
 le:qp ms<=M
 ct:ms.length<=c
theorem GT.wf{A M:Int}{c:Nat}{ms:List Im}(h:GT A M c ms):∀m∈ms,Wf m:=fun m hm=>(h.it m hm).wf
theorem GT.nn{A M:Int}{c:Nat}{ms:List Im}(h:GT A M c ms):Nn ms:=fun m hm=>(h.wf m hm).mo
theorem GT.mono{A M M':Int}{c c':Nat}{ms:List Im}(h:GT A M c ms)(h1:M<=M')(h2:c<=c'):GT A M' c' ms:=⟨h.it,h.gd,by have:=h.le;omega,by have:=h.ct;omega⟩
theorem qJq:∀{ms:List Im},Nn ms->∀m∈ms,m.mo<=qp ms
 |[],_,m,h=>by cases h
 |x::xs,hn,m,h=>by
  rw[qS];have h1:=hn x (by simp);have h2:=Nn.len hn.tail;rcases List.mem_cons.mp h with rfl|h
  . omega
  . have:=qJq hn.tail m h
    omega
theorem qF7:∀{ms:List Im} {b:Int} {i0 i:Nat} {t d:Int},zU b i0 ms t=some (i,d)->∃A m B,ms=A++m::B/\i=i0+A.length/\t=b+qp A+d/\0<=d/\d<m.mo
 |[],_,_,_,_,_,h=>by simp[zU]at h
 |m::ms,b,i0,i,t,d,h=>by
  rw[zU]at h;by_cases hc:b<=t/\t<b+m.mo
  . rw[if_pos hc]at h
    cases h;exact⟨[],m,ms,O,O,by rw[jF];omega,by omega,by omega⟩
  . rw[if_neg hc]at h
    obtain⟨A,x,B,h1,h2,h3,h4,h5⟩:=qF7 h;exact⟨m::A,x,B,by rw[h1];rfl,by rw[List.length_cons];omega,by rw[qS];omega,h4,h5⟩
theorem qD5{α:Type}(A:List α)(m:α)(B:List α):(A++m::B)[A.length]?=some m:=by rw[List.getElem?_append_right (Nat.le_refl _),Nat.sub_self];rfl
theorem glue_parts{x y:Im}(hx:Wf x)(hy:Wf y)(hc:qJ2 x y=true):x=xc (glue x y) 0 x.mo/\y=xc (glue x y) x.mo (glue x y).mo/\Wf (glue x y)/\((glue x y).wd="clip"\/(glue x y).wd="nest")/\0<x.mo/\x.mo<(glue x y).mo:=by
 rcases z9 hc with ⟨n,p,q,r,s,l,n',p',q',r',s',l',rfl,rfl⟩|⟨n,b,l,n',b',l',rfl,rfl⟩
 . have hc:goB n n' p q r s l p' q' r' s'=true:=hc
   unfold goB at hc;simp only[Bool.and_eq_true,beq_iff_eq,decide_eq_true_eq]at hc;obtain⟨rfl,⟨rfl,rfl⟩,rfl,rfl⟩:=hc;obtain⟨h1,h2⟩:=qEr (r:=r) (s:=s) hx.1 hx.2.1 hx.2.2.1;have l1:1<=l:=hx.2.2.2;have l2:1<=l':=hy.2.2.2;refine⟨?_,?_,⟨hx.1,hx.2.1,hx.2.2.1,by show 1<=l+l';omega⟩,.inl rfl,by show 0<l;omega,by show l<l+l';omega⟩
   . show _=Im.clip n (plP p q r s 0) (plQ p q r s 0) r s (l-0)
     rw[h1,h2,Int.sub_zero]
   . show _=Im.clip n (plP p q r s l) (plQ p q r s l) r s (l+l'-l)
     congr 1;omega
 . have hc:(decide (n=n') && decide (b'=b+l))=true:=hc
   simp only[Bool.and_eq_true,decide_eq_true_eq]at hc;obtain⟨rfl,rfl⟩:=hc;have l1:1<=l:=hx;have l2:1<=l':=hy;refine⟨?_,?_,(by show 1<=l+l';omega),.inr rfl,by show 0<l;omega,by show l<l+l';omega⟩
   . show _=Im.nest n (b+0) (l-0)
     rw[Int.add_zero,Int.sub_zero]
   . show _=Im.nest n (b+l) (l+l'-l)
     congr 1;omega
theorem qJr{α:Type}{A:List α}(h:A≠[]):∃(X:List α) (a:α),A=X++[a]:=⟨A.dropLast,A.getLast h,(List.dropLast_concat_getLast h).symm⟩
theorem qRl{ms:List Im}{t i j:Int}(h:nbF ms t=some (i,j)):(∃(A:List Im) (x y:Im) (B:List Im),ms=A++x::y::B/\i=(A.length:Int)/\j=i+1/\t=qp A+x.mo/\x.wd≠"mix"/\0<y.mo)\/∃(A:List Im) (l:Int) (y:Im) (B:List Im),ms=A++ .mix l::y::B/\j=((A.length+1:Nat):Int)/\i=(A.length:Int)-1/\t=qp A/\0<y.mo:=by
 unfold nbF at h;cases hi:zU 0 0 ms t with
 |none=>rw[hi]at h;cases h
 |some r=>
  obtain⟨k,d⟩:=r;rw[hi]at h;dsimp only at h;by_cases hc:d≠0\/(k:Int)=0
  . rw[if_pos hc]at h;cases h
  . rw[if_neg hc]at h
    have d0:d=0:=by omega
    subst d0;obtain⟨A,y,B,h1,h2,h3,h4,h5⟩:=qF7 hi;have hA:A≠[]:=by rintro rfl;apply hc;right;rw[h2];rfl
    obtain⟨X,x,rfl⟩:=qJr hA;have e:ms=X++x::y::B:=by rw[h1];simp
    have hkx:k=X.length+1:=by rw[h2,List.length_append];show 0+(X.length+1)=_;omega
    have hk:jG ms ((k:Int)-1)=x.wd:=jw (i:=X.length) (by rw[e];exact qD5 _ _ _) (by omega);rw[hk]at h;rw[jB,qS,jF]at h3;by_cases hm:x.wd="mix"
    . obtain⟨l,rfl⟩:=jV hm
      rw[if_pos hm]at h;have:=Prod.mk.inj (Option.some.inj h);have e0:(Im.mix l).mo=0:=rfl;exact .inr ⟨X,l,y,B,e,by omega,by omega,by omega,by omega⟩
    . rw[if_neg hm]at h
      have:=Prod.mk.inj (Option.some.inj h);exact .inl ⟨X,x,y,B,e,by omega,by omega,by omega,hm,by omega⟩
theorem qO2{A:List Im}{x y:Im}{B:List Im}{t:Int}(h:nbF (A++x::y::B) t=some ((A.length:Int),(A.length:Int)+1)):qGn (A++x::y::B) t=if qJ2 x y=true then some (A++glue x y::B)else none:=by
 unfold qGn;rw[h];dsimp only;have e0:((A.length:Int)+1).toNat=A.length+1:=by omega
 rw[Int.toNat_natCast,e0];have e1:(A++x::y::B)[A.length]?=some x:=qD5 _ _ _;have e2:(A++x::y::B)[A.length+1]?=some y:=by
  have:=qD5 (A++[x]) y B;rw[List.length_append,List.length_singleton]at this;have e:A++x::y::B=(A++[x])++y::B:=by simp
  rw[e];exact this
 rw[e1,e2];dsimp only;have e3:(A++x::y::B).take A.length=A:=by rw[List.take_left'];rfl
 have e4:(A++x::y::B).drop (A.length+1+1)=B:=by
  have e5:A++x::y::B=(A++[x,y])++B:=by simp
  rw[e5,List.drop_left'];simp
 rw[e3,e4];have e6:A++[glue x y]++B=A++glue x y::B:=by simp
 rw[e6]
theorem qAv{ms A B:List Im}{l:Int}(hM:MO none ms)(e:ms=A++ .mix l::B):∃A' n p q r s k n' p' q' r' s' k' B',A=A'++[.clip n p q r s k]/\B=.clip n' p' q' r' s' k'::B':=by
 rw[e]at hM;have h:=qIj hM;obtain⟨⟨n,p,q,r,s,k,h1⟩,n',p',q',r',s',k',h2⟩:=h.1;have hA:A≠[]:=by rintro rfl;cases h1
 obtain⟨X,x,rfl⟩:=qJr hA;rw[List.getLast?_concat]at h1;have h1:some x=some (.clip n p q r s k):=h1;cases h1;cases B with
 |nil=>cases h2
 |cons b B=>
  have h2:some b=some (.clip n' p' q' r' s' k'):=h2;cases h2;exact⟨X,n,p,q,r,s,k,n',p',q',r',s',k',B,O,O⟩
theorem qVc{ms:List Im}(hM:MO none ms){t i j:Int}(h:nbF ms t=some (i,j)):0<=i:=by
 rcases qRl h with ⟨A,x,y,B,e,rfl,_⟩|⟨A,l,y,B,e,_,rfl,_⟩
 . omega
 . obtain⟨X,n,p,q,r,s,k,n',p',q',r',s',k',Y,rfl,_⟩:=qAv hM (show ms=A++ .mix l::(y::B)from e)
   rw[List.length_append,List.length_singleton];omega
theorem qH1{X X':List Im}(h:∀g,OS g X->OS g X'):∀(U:List Im) (g:Bool),OS g (U++X)->OS g (U++X')
 |[],g,q=>h g q
 |u::U,g,q=>by
  by_cases hg:u.wd="gap"
  . obtain⟨l,rfl⟩:=qAc hg
    exact⟨q.1,q.2.1,qH1 h U _ q.2.2⟩
  . rw[List.cons_append,jY hg]at q⊢
    exact qH1 h U _ q
theorem qH4{x x':Im}{T T':List Im}(hc:qMi (some x)->qMi (some x'))(h:∀p,MO p (x::T)->MO p (x'::T')):∀(U:List Im) (p:Option Im),MO p (U++x::T)->MO p (U++x'::T')
 |[],p,q=>h p q
 |u::U,p,q=>by
  by_cases hm:u.wd="mix"
  . obtain⟨l,rfl⟩:=jV hm
    refine⟨⟨q.1.1,?_⟩,qH4 hc h U _ q.2⟩;cases U with
    |nil=>exact hc q.1.2
    |cons b U=>exact q.1.2
  . rw[List.cons_append,qx hm]at q⊢
    exact qH4 hc h U _ q
theorem qLx{R:Im->Int->Im->Prop}{x x':Im}{T T':List Im}(hx:x.wd≠"mix")(hx':x'.wd≠"mix")(hR:∀a l,R a l x->R a l x')(h:∀tb p,FS R tb p (x::T)->FS R tb p (x'::T')):∀(U:List Im) (tb:Int) (p:Option Im),FS R tb p (U++x::T)->FS R tb p (U++x'::T')
 |[],tb,p,q=>h tb p q
 |u::U,tb,p,q=>by
  by_cases hm:u.wd="mix"
  . obtain⟨l,rfl⟩:=jV hm
    rw[List.cons_append,qDz]at q⊢;refine⟨fun a b ea eb=>?_,qLx hx hx' hR h U _ _ q.2⟩;cases U with
    |nil=>
     have eb:some x'=some b:=eb;rw[<-Option.some.inj eb];exact hR a l (q.1 a x ea rfl)
    |cons v U=>exact q.1 a b ea eb
  . rw[List.cons_append]at q⊢
    obtain⟨q1,q2⟩:=(qj hm).mp q;refine(qj hm).mpr ⟨fun c=>?_,qLx hx hx' hR h U _ _ q2⟩;have:=q1 c;cases U with
    |nil=>
     have e1:tkE (x::T)=0:=wW fun l e=>hx (by rw[Option.some.inj e];rfl);have e2:tkE (x'::T')=0:=wW fun l e=>hx' (by rw[Option.some.inj e];rfl);rw[List.nil_append]at this⊢;omega
    |cons v U=>exact this
theorem qTs{m:Im}(h:m.wd="clip"):qMi (some m):=by obtain⟨n,p,q,r,s,l,rfl⟩:=qO5 h;exact⟨_,_,_,_,_,_,O⟩
theorem qV1{m:Im}(h:qMi (some m)):m.wd="clip":=by obtain⟨n,p,q,r,s,l,e⟩:=h;rw[Option.some.inj e];rfl
theorem qX8{m:Im}(h:m.wd="clip"):m.wd≠"gap"/\m.wd≠"mix":=by rw[h];decide+kernel
theorem qS0{A:Int}{U B:List Im}{m m':Im}(h:GdT A (U++m::B))(hw:∀x∈U++m::B,Wf x)(c:m.wd="clip")(c':m'.wd="clip")(h0:0<=m'.mo)(hU:NLM U)(hB:NHM B):GdT A (U++m'::B):=by
 obtain⟨g1,g2⟩:=qX8 c;obtain⟨g1',g2'⟩:=qX8 c';refine⟨qH1 (fun g q=>?_) U _ h.os,qH4 (fun _=>qTs c') (fun p q=>?_) U _ h.mo,?_⟩
 . rw[jY g1]at q
   rw[jY g1'];exact q
 . rw[qx g2]at q
   rw[qx g2'];exact qPu hB q
 . have hX:NHM (m::B):=fun l e=>g2 (by rw[Option.some.inj e];rfl)
   have hX':NHM (m'::B):=fun l e=>g2' (by rw[Option.some.inj e];rfl);have f1:=qMe (fun x hx=>hw x (List.mem_append_right _ hx)) U 0 none hU h.fs;have f2:=qLv hX U 0 none none hU (fun _=>rfl) h.fs;refine qJn hX' (fun p=>(qj g2').mpr ⟨fun _=>?_,qO3 hB ((qj g2).mp f2).2⟩) U 0 none hU (fun _=>rfl) f1;rw[wW hB];omega
theorem qEk{α:Type}{xs:List α}{i:Nat}{x:α}(h:xs[i]?=some x)(y:α):xs=xs.take i++x::xs.drop (i+1)/\xs.set i y=xs.take i++y::xs.drop (i+1):=by
 have hi:=(glt h);constructor
 . rw[<-zF h,List.take_append_drop]
 . rw[List.set_eq_take_append_cons_drop,if_pos hi]
theorem qQu{ms:List Im}{i:Nat}(hi:i<=ms.length)(h:jG ms ((i:Int)-1)≠"mix"):NLM (ms.take i):=fun l e=>by
 cases i with
 |zero=>simp at e
 |succ i=>
  rw[List.getLast?_eq_getElem?,List.length_take,Nat.min_eq_left hi,Nat.add_sub_cancel,List.getElem?_take_of_lt (by omega)]at e;exact h (jw e (by omega))
theorem qQ5{ms:List Im}{i:Nat}(h:jG ms ((i:Int)+1)≠"mix"):NHM (ms.drop (i+1)):=fun l e=>by rw[List.head?_drop]at e;exact h (jw e (by omega))
theorem qMb{ms:List Im}{i:Nat}{m:Im}(h:ms[i]?=some m)(m':Im):qp (ms.set i m')=qp ms-m.mo+m'.mo:=by obtain⟨e1,e2⟩:=qEk h m';have a1:=congrArg qp e1;rw[jB,qS]at a1;rw[e2,jB,qS];omega
theorem qU1{ms:List Im}{i:Int}(h:hmB ms i=false):jG ms (i-1)≠"mix"/\jG ms (i+1)≠"mix":=by unfold hmB at h;simpa using h
theorem qH2{ms:List Im}{i:Nat}{m m':Im}(h:ms[i]?=some m)(e:m'.wd=m.wd)(k:Int):jG (ms.set i m') k=jG ms k:=by
 unfold jG;split
 . rfl
 . rw[List.getElem?_set]
   by_cases c:i=k.toNat
   . subst c
     rw[if_pos rfl,if_pos (glt h),h];exact e
   . rw[if_neg c]
theorem GT.swap{A M:Int}{c:Nat}{ms:List Im}{i:Nat}{m m':Im}(h:GT A M c ms)(hm:ms[i]?=some m)(hc:m.wd="clip")(hc':m'.wd="clip")(hg:GI A m')(hb:hmB ms (i:Int)=false)(M':Int)(hM:qp ms-m.mo+m'.mo<=M'):GT A M' c (ms.set i m'):=by
 obtain⟨e1,e2⟩:=qEk hm m';have hi:=(glt hm);obtain⟨b1,b2⟩:=qU1 hb;refine⟨fun x hx=>?_,?_,by rw[qMb hm];exact hM,by rw[List.length_set];exact h.ct⟩
 . rcases List.mem_or_eq_of_mem_set hx with q|q
   . exact h.it x q
   . rw[q];exact hg
 . have g:=h.gd
   have w:=h.wf;rw[e1]at g w;rw[e2];exact qS0 g w hc hc' (GI.wf hg).mo (qQu (by omega) b1) (qQ5 b2)
theorem qQe{A:Int}{n:Str}{p q r s l N:Int}(h:GC A n p q r s l N){b:Int}(b0:0<b)(hb:b<=zJ p q r s l N):InR (Vk p q r s (l+(b-1))) (q*s) N:=by have:=(qHa (p:=p) (q:=q) (r:=r) (s:=s) (k0:=l) (e:=1) (m:=N) h.q0 h.s0 (.inl rfl) (fun _=>h.i0)).2.2.1 (b-1) (by omega) (by unfold zJ at hb;omega);rw[Int.one_mul]at this;exact this
theorem qOe{A:Int}{n:Str}{p q r s l N:Int}(h:GC A n p q r s l N){b:Int}(b0:b<=0)(hb: -b<=zm p q r s N):InR (Vk p q r s b) (q*s) N:=by
 by_cases z:b=0
 . subst z;exact h.i0
 have:=(qHa (p:=p) (q:=q) (r:=r) (s:=s) (k0:= -1) (e:= -1) (m:=N) h.q0 h.s0 (.inr rfl) (fun _=>h.i0)).2.2.1 (-b-1) (by omega) (by unfold zm at hb;omega);have e: -1+ -1*(-b-1)=b:=by omega
 rw[e]at this;exact this
theorem GC.slip{A:Int}{n:Str}{p q r s l N:Int}(h:GC A n p q r s l N){b:Int}(hb:wG b<=if 0<b then zJ p q r s l N else zm p q r s N):GC A n (plP p q r s b) (plQ p q r s b) r s l N:=by
 have l1:=h.l1;unfold wG at hb;by_cases b0:0<b
 . rw[if_pos b0,if_neg (by omega)]at hb
   have t:=qQe h b0 hb;have e:b+(l-1)=l+(b-1):=by omega
   exact h.move l1 (qOu h.i0 t (by omega) (by omega)) (by rw[e];exact t)
 . rw[if_neg b0]at hb
   have t:=qOe (b:=b) h (by omega) (by split at hb <;> omega);exact h.move l1 t (qOu t h.i1 (by omega) (by omega))
theorem GC.roll{A:Int}{n n':Str}{p q r s l N p' q' r' s' l' N':Int}(h:GC A n p q r s l N)(h':GC A n' p' q' r' s' l' N'){b:Int}(hb:wG b<=qDl b (zJ p q r s l N) (zm p' q' r' s' N') l l'):GC A n p q r s (l+b) N/\GC A n' (plP p' q' r' s' b) (plQ p' q' r' s' b) r' s' (l'-b) N':=by
 have l1:=h.l1;have l1':=h'.l1;unfold wG qDl at hb;have k:1<=l+b/\InR (Vk p q r s (l+b-1)) (q*s) N/\1<=l'-b/\InR (Vk p' q' r' s' b) (q'*s') N':=by
  by_cases b0:0<b
  . rw[if_pos b0,if_neg (by omega)]at hb
    have hb':b<=l'-1/\b<=zJ p q r s l N:=by split at hb <;> omega
    have e:l+b-1=l+(b-1):=by omega
    exact⟨by omega,by rw[e];exact qQe h b0 hb'.2,by omega,h'.at (by omega) (by omega)⟩
  . rw[if_neg b0]at hb
    have hb': -b<=zm p' q' r' s' N'/\ -b<=l-1:=by split at hb <;> split at hb <;> omega
    exact⟨by omega,h.at (by omega) (by omega),by omega,qOe h' (by omega) hb'.1⟩
 refine⟨⟨h.rn,h.n1,h.n2,h.q0,h.s0,h.g1,h.g2,h.dq,h.ds,h.rb,k.1,h.i0,k.2.1⟩,h'.move k.2.2.1 k.2.2.2 ?_⟩;have e:b+(l'-b-1)=l'-1:=by omega
 rw[e];exact h'.i1
theorem GT.rolled{A M:Int}{c:Nat}{ms:List Im}(h:GT A M c ms){w:Str}{t b:Int}{is:List Int}(hw:Wd3 w)(hp:plF w ms t=some is)(hx:is.any (hmB ms)=false)(hc:wG b<=qHt (rlE A) ms w is b):GT A M c (qSq ms w is b):=by
 have cl:∀{i:Nat} {n:Str} {p q r s l N:Int},ms[i]?=some (.clip n p q r s l)->rlE A n=some N->GC A n p q r s l N:=fun{i n p q r s l N} hm hr=>by obtain⟨N',g⟩:=h.it _ (List.mem_of_getElem? hm);have:=g.rn;rw[hr]at this;cases this;exact g
 have nx:∀x∈is,hmB ms x=false:=fun x hx'=>by rw[List.any_eq_false]at hx;simpa using hx x hx'
 have hle:=h.le;rcases qXt (fun n p q r s l hm=>let ⟨N,c⟩:=h.it _ hm;⟨N,c.rn⟩) hw hp with ⟨rfl,i,n,p,q,r,s,l,N,rfl,hm,hN,hv⟩|⟨_,_,i,j,n,p,q,r,s,l,N,n',p',q',r',s',l',N',hlt,m1,m2,_,_,hm,hm',hN,hN',hv⟩
 . rw[(hv b).1]at hc
   rw[(hv b).2];exact h.swap (m':=.clip n (plP p q r s b) (plQ p q r s b) r s l) hm rfl rfl ⟨N,(cl hm hN).slip hc⟩ (nx _ (by simp)) M (by show qp ms-l+l<=M;omega)
 . rw[(hv b).1]at hc
   rw[(hv b).2];obtain⟨k1,k2⟩:=(cl hm hN).roll (cl hm' hN') hc;have s1:=h.swap (m':=.clip n p q r s (l+b)) hm rfl rfl ⟨N,k1⟩ (nx _ m1) (M+wG b) (by show qp ms-l+(l+b)<=_;unfold wG;split <;> omega);have hm2:(ms.set i (.clip n p q r s (l+b)))[j]?=some (.clip n' p' q' r' s' l'):=by rw[List.getElem?_set,if_neg (by omega)];exact hm'
   refine s1.swap (m':=.clip n' (plP p' q' r' s' b) (plQ p' q' r' s' b) r' s' (l'-b)) hm2 rfl rfl ⟨N',k2⟩ ?_ M ?_
   . have:=nx _ m2
     unfold hmB at this⊢;rw[qH2 (m':=.clip n p q r s (l+b)) hm rfl,qH2 (m':=.clip n p q r s (l+b)) hm rfl];exact this
   . rw[qMb hm]
     show qp ms-l+(l+b)-l'+(l'-b)<=M;omega
theorem GI.glue{A:Int}{x y:Im}(hx:GI A x)(hy:GI A y)(hc:qJ2 x y=true):GI A (glue x y):=by
 rcases z9 hc with ⟨n,p,q,r,s,l,n',p',q',r',s',l',rfl,rfl⟩|⟨n,b,l,n',b',l',rfl,rfl⟩
 . have hc:goB n n' p q r s l p' q' r' s'=true:=hc
   unfold goB at hc;simp only[Bool.and_eq_true,beq_iff_eq,decide_eq_true_eq]at hc;obtain⟨rfl,⟨rfl,rfl⟩,rfl,rfl⟩:=hc;obtain⟨N,g⟩:=hx;obtain⟨N',g'⟩:=hy;obtain rfl:N'=N:=by have:=g'.rn;rw[g.rn]at this;exact(Option.some.inj this).symm
   have l1:=g.l1;have l2:=g'.l1;refine⟨N',g.rn,g.n1,g.n2,g.q0,g.s0,g.g1,g.g2,g.dq,g.ds,g.rb,by show 1<=l+l';omega,g.i0,?_⟩;have:=(qHq g.q0 g.s0).mp g'.i1;have e:l+l'-1=l+(l'-1):=by omega
   show InR (Vk p q r s (l+l'-1)) (q*s) N';rw[e];exact this
 . obtain⟨a1,a2,a3⟩:=hx
   obtain⟨_,_,b3⟩:=hy;exact⟨a1,a2,by show 1<=l+l';omega⟩
theorem qU7{m m':Im}(h:qJ2 m m'=true):m.wd=m'.wd/\(m'.wd="clip"\/m'.wd="nest"):=by
 rcases z9 h with ⟨n,p,q,r,s,l,n',p',q',r',s',l',rfl,rfl⟩|⟨n,b,l,n',b',l',rfl,rfl⟩
 . exact⟨O,.inl rfl⟩
 . exact⟨O,.inr rfl⟩
theorem qOv{x y:Im}(hc:qJ2 x y=true):(glue x y).mo=x.mo+y.mo/\(glue x y).wd=x.wd:=by rcases z9 hc with ⟨n,p,q,r,s,l,n',p',q',r',s',l',rfl,rfl⟩|⟨n,b,l,n',b',l',rfl,rfl⟩ <;> exact⟨rfl,rfl⟩
theorem qV3{A:Int}{x y:Im}(hw:Wf x)(hc:qJ2 x y=true):(∀a l,RmR (rlE A) a l x->RmR (rlE A) a l (glue x y))/\∀l b,RmR (rlE A) y l b->RmR (rlE A) (glue x y) l b:=by
 rcases z9 hc with ⟨n,p,q,r,s,k,n',p',q',r',s',k',rfl,rfl⟩|⟨n,b,l,n',b',l',rfl,rfl⟩
 . have hc:goB n n' p q r s k p' q' r' s'=true:=hc
   unfold goB at hc;simp only[Bool.and_eq_true,beq_iff_eq,decide_eq_true_eq]at hc;obtain⟨rfl,⟨rfl,rfl⟩,rfl,rfl⟩:=hc;refine⟨fun a l h=>?_,fun l b h=>?_⟩
   . intro n1 p1 q1 r1 s1 k1 n2 p2 q2 r2 s2 k2 ea eb
     cases eb;exact h _ _ _ _ _ _ _ _ _ _ _ _ ea rfl
   . intro n1 p1 q1 r1 s1 k1 n2 p2 q2 r2 s2 k2 ea eb
     cases ea;obtain⟨N,N',z1,z2,z3,z4⟩:=h _ _ _ _ _ _ _ _ _ _ _ _ rfl eb;refine⟨N,N',z1,z2,z3,?_⟩;obtain⟨y1,y2⟩:=qP0 (p:=p) (r:=r) (lo:=k) (k:=k') hw.1 hw.2.1;unfold zJ at z4⊢;rw[y1,y2]at z4;exact z4
 . refine⟨fun a l h=>?_,fun l b h=>?_⟩
   . intro n1 p1 q1 r1 s1 k1 n2 p2 q2 r2 s2 k2 ea eb
     cases eb
   . intro n1 p1 q1 r1 s1 k1 n2 p2 q2 r2 s2 k2 ea eb
     cases ea
theorem qUi{A:Int}{U B:List Im}{x y:Im}(h:GdT A (U++x::y::B))(hw:∀m∈U++x::y::B,Wf m)(hc:qJ2 x y=true):GdT A (U++glue x y::B):=by
 obtain⟨k1,k2⟩:=qU7 hc;obtain⟨m1,m2⟩:=qOv hc;have wx:=hw x (by simp);obtain⟨r1,r2⟩:=qV3 (A:=A) wx hc;have nx:x.wd≠"mix"/\x.wd≠"gap":=by rw[k1];rcases k2 with e|e <;> rw[e] <;> decide+kernel
 have ny:y.wd≠"mix"/\y.wd≠"gap":=by rw[<-k1];exact nx
 have ng:(glue x y).wd≠"mix"/\(glue x y).wd≠"gap":=by rw[m2];exact nx
 have clg:qMi (some y)->qMi (some (glue x y)):=fun q=>qTs (by rw[m2,k1];exact qV1 q);refine⟨qH1 (fun g q=>?_) U _ h.os,qH4 (fun q=>qTs (by rw[m2];exact qV1 q)) (fun p q=>?_) U _ h.mo,qLx nx.1 ng.1 r1 (fun tb p q=>?_) U _ _ h.fs⟩
 . rw[jY nx.2,jY ny.2]at q
   rw[jY ng.2];exact q
 . rw[qx nx.1,qx ny.1]at q
   rw[qx ng.1];cases B with
   |nil=>trivial
   |cons b B=>
    by_cases hb:b.wd="mix"
    . obtain⟨l,rfl⟩:=jV hb
      exact⟨⟨clg q.1.1,q.1.2⟩,q.2⟩
    . rw[qx hb]at q⊢
      exact q
 . obtain⟨q1,q2⟩:=(qj nx.1).mp q
   obtain⟨q3,q4⟩:=(qj ny.1).mp q2;have e1:tkE (y::B)=0:=wW fun l e=>ny.1 (by rw[Option.some.inj e];rfl);refine(qj ng.1).mpr ⟨fun c=>?_,?_⟩
   . rw[m2]at c
     have:=q1 c;have:=q3 (by rw[<-k1];exact c);rw[m1];omega
   . cases B with
     |nil=>trivial
     |cons b B=>
      by_cases hb:b.wd="mix"
      . obtain⟨l,rfl⟩:=jV hb
        rw[qDz]at q4⊢;refine⟨fun a b' ea eb=>?_,q4.2⟩;rw[<-Option.some.inj ea];exact r2 l b' (q4.1 y b' rfl eb)
      . exact(qj hb).mpr ((qj hb).mp q4)
theorem GT.rel0{A M:Int}{c:Nat}{ms:List Im}(h:GT A M c ms){lo hi:Int}{ls:List Im}(h0:0<=lo)(h1:lo<=hi)(ht:zA ms lo hi=false)(hl:∀m∈ls,GI A m/\m.wd≠"mix"):Rel ms lo hi ls:=⟨h.wf,h.gd.mo,h0,h1,ht,fun m hm=>(hl m hm).1.wf,fun m hm=>(hl m hm).2⟩
theorem GT.healed{A M:Int}{c:Nat}{ms ms':List Im}{t:Int}(h:GT A M c ms)(h0:0<=t)(hh:qGn ms t=some ms')(ht:zA ms t t=false):GT A M c ms':=by
 cases hn:nbF ms t with
 |none=>unfold qGn at hh;rw[hn]at hh;cases hh
 |some x=>
 obtain⟨i,j⟩:=x;rcases qRl hn with ⟨U,x,y,B,e,rfl,rfl,_⟩|⟨U,l,y,B,e,_,_,et,_⟩
 . subst e
   rw[qO2 hn]at hh;by_cases hc:qJ2 x y=true
   . rw[if_pos hc]at hh
     cases hh;obtain⟨m1,m2⟩:=qOv hc;have a1:=h.le;have a2:=h.ct;rw[jB,qS,qS]at a1;simp only[List.length_append,List.length_cons]at a2;refine⟨fun m hm=>?_,qUi h.gd h.wf hc,by rw[jB,qS,m1];omega,by simp only[List.length_append,List.length_cons];omega⟩;rcases List.mem_append.mp hm with hm|hm
     . exact h.it m (by simp[hm])
     . rcases List.mem_cons.mp hm with rfl|hm
       . exact GI.glue (h.it x (by simp)) (h.it y (by simp)) hc
       . exact h.it m (by simp[hm])
   . rw[if_neg hc]at hh;cases hh
 . exfalso
   have hR:=h.rel0 (ls:=[]) h0 (Int.le_refl t) ht (fun m hm=>by cases hm);have hs:(0+qp U-l.fdiv 2,0+qp U,0+qp U+(l-l.fdiv 2))∈qq 0 ms:=by rw[e,j4];refine List.mem_append_right _ ?_;rw[qq];simp
   have:=hR.far _ hs;dsimp only at this;omega
theorem GT.unmixed{A M:Int}{c:Nat}{ms:List Im}{t:Int}{i:Nat}(h:GT A M c ms)(hc:cbF ms t=some ((i:Int),((i+2:Nat):Int))):GT A M c (ms.take (i+1)++ms.drop (i+2)):=by
 have hn:nbF ms t=some ((i:Int),((i+2:Nat):Int)):=by
  unfold cbF at hc;cases hq:nbF ms t with
  |none=>rw[hq]at hc;cases hc
  |some x=>
   obtain⟨a,b⟩:=x;rw[hq]at hc;dsimp only at hc;split at hc
   . exact hc
   . cases hc
 rcases qRl hn with ⟨U,x,y,B,_,_,e2,_⟩|⟨U,l,y,B,e,e1,e2,et,_⟩
 . omega
 . obtain⟨X,n,p,q,r,s,k,n',p',q',r',s',k',Y,rfl,eY⟩:=qAv h.gd.mo (show ms=U++ .mix l::(y::B)from e)
   have hl:X.length=i:=by rw[List.length_append,List.length_singleton]at e2;omega
   have e':ms=X++ .clip n p q r s k:: .mix l:: .clip n' p' q' r' s' k'::Y:=by rw[e,eY];simp
   have e3:ms.take (i+1)++ms.drop (i+2)=X++ .clip n p q r s k:: .clip n' p' q' r' s' k'::Y:=by
    have a1:ms=(X++[.clip n p q r s k])++(.mix l:: .clip n' p' q' r' s' k'::Y):=by rw[e'];simp
    have a2:ms=(X++[.clip n p q r s k,.mix l])++(.clip n' p' q' r' s' k'::Y):=by rw[e'];simp
    have b1:ms.take (i+1)=X++[.clip n p q r s k]:=by rw[a1,List.take_left'];simp[hl]
    have b2:ms.drop (i+2)=.clip n' p' q' r' s' k'::Y:=by rw[a2,List.drop_left'];simp[hl]
    rw[b1,b2];simp
   rw[e3];obtain⟨a1,a2,a3,a4⟩:=h;rw[e']at a1 a2 a3 a4;have l1:1<=l:=a1 (.mix l) (by simp);have lf:=qo (p:=l) (q:=2) (by decide);have cm:("clip":Str)≠"mix":=by decide+kernel
   refine⟨fun m hm=>a1 m ?_,⟨qH1 (X:=Im.clip n p q r s k:: .mix l::Im.clip n' p' q' r' s' k'::Y) (X':=Im.clip n p q r s k::Im.clip n' p' q' r' s' k'::Y) (fun g q=>q) X _ a2.os,qH4 (x:=.clip n p q r s k) (x':=.clip n p q r s k) (T:=.mix l::Im.clip n' p' q' r' s' k'::Y) (T':=Im.clip n' p' q' r' s' k'::Y) id (fun p q=>q.2) X _ a2.mo,qLx (x:=.clip n p q r s k) (x':=.clip n p q r s k) (T:=.mix l::Im.clip n' p' q' r' s' k'::Y) (T':=Im.clip n' p' q' r' s' k'::Y) cm cm (fun _ _ q=>q) (fun tb p q=>?_) X _ _ a2.fs⟩,?_,?_⟩
   . rcases List.mem_append.mp hm with z|z
     . exact List.mem_append_left _ z
     . rcases List.mem_cons.mp z with z|z
       . exact List.mem_append_right _ (by rw[z];simp)
       . exact List.mem_append_right _ (List.mem_cons_of_mem _ (List.mem_cons_of_mem _ z))
   . obtain⟨q1,q2⟩:=q
     refine⟨?_,?_,q2.2.2⟩
     . have z1:tkE (Im.mix l::Im.clip n' p' q' r' s' k'::Y)=l.fdiv 2:=rfl
       have z2:tkE (Im.clip n' p' q' r' s' k'::Y)=0:=rfl;omega
     . have:=q2.2.1
       omega
   . rw[jB,qS,qS,qS]at a3
     rw[jB,qS,qS];have:(Im.mix l).mo=0:=rfl;omega
   . simp only[List.length_append,List.length_cons]at a4⊢
     omega
theorem GT.mixd{A M:Int}{c:Nat}{ms:List Im}{t l M':Int}{i:Nat}(h:GT A M c ms)(hc:cbF ms t=some ((i:Int),((i+1:Nat):Int)))(hM:mmF (rlE A) ms t=some M')(h1:1<=l)(hl:l<=M'):GT A M (c+1) (ms.take (i+1)++[.mix l]++ms.drop (i+1)):=by
 obtain⟨z1,z2,z3⟩:=qT6 hc hM h1 hl h.gd.os h.gd.mo h.gd.fs;refine⟨fun m hm=>?_,⟨z1,z2,z3⟩,?_,?_⟩
 . rcases List.mem_append.mp hm with hm|hm
   . rcases List.mem_append.mp hm with hm|hm
     . exact h.it m (List.mem_of_mem_take hm)
     . rw[List.mem_singleton]at hm;subst hm;exact h1
   . exact h.it m (List.mem_of_mem_drop hm)
 . have:=congrArg qp (List.take_append_drop (i+1) ms)
   rw[jB]at this;rw[jB,jB,qS,jF];have e:(Im.mix l).mo=0:=rfl;have:=h.le;omega
 . have:=h.ct
   simp only[List.length_append,List.length_take,List.length_drop,List.length_singleton];omega
theorem qF9:∀(ms:List Im) (w:Int),(xf w ms).length<=ms.length+if 0<w then 1 else 0
 |[],w=>by simp[xf]
 |m::ms,w=>by
  by_cases hg:m.wd="gap"
  . obtain⟨l,rfl⟩:=qAc hg
    have:=qF9 ms (w+l);rw[xf,List.length_cons];split at this <;> split <;> omega
  . have:=qF9 ms 0
    rw[if_neg (by omega)]at this;rw[qy hg];split
    . rw[List.length_cons,List.length_cons,List.length_cons]
      omega
    . rw[List.length_cons,List.length_cons]
      omega
theorem qLy:∀(ms:List Im) (c:Int),(jp c ms).1.length+(jp c ms).2.length<=ms.length+1
 |[],c=>by simp[jp]
 |m::ms,c=>by
  rw[jp];split
  . have:=qLy ms (c-m.mo)
    simp only[List.length_cons];omega
  . split
    . simp only[List.length_cons,List.length_nil]
      omega
    . simp only[List.length_cons,List.length_nil]
      omega
theorem qO6:∀(ms:List Im) (lo hi:Int),lo<=hi->(jp lo ms).1.length+(jp hi ms).2.length<=ms.length+1
 |[],lo,hi,_=>by simp[jp]
 |m::ms,lo,hi,h=>by
  rw[jp,jp];by_cases c1:m.mo<=lo
  . rw[if_pos c1,if_pos (by omega)]
    have:=qO6 ms (lo-m.mo) (hi-m.mo) (by omega);simp only[List.length_cons];omega
  . rw[if_neg c1]
    by_cases c2:m.mo<=hi
    . rw[if_pos c2]
      have:=qLy ms (hi-m.mo);split
      . simp only[List.length_cons,List.length_nil]
        omega
      . simp only[List.length_cons,List.length_nil]
        omega
    . rw[if_neg c2]
      split <;> split <;> simp only[List.length_cons,List.length_nil] <;> omega
theorem GT.rel{A M:Int}{c:Nat}{ms:List Im}(h:GT A M c ms){lo hi:Int}{ls:List Im}(h0:0<=lo)(h1:lo<=hi)(ht:zA ms lo hi=false)(hl:∀m∈ls,GI A m/\m.wd≠"mix")(hn:ls.length<=1)(hlo:lo<=M+4)(hll:qp ls<=10):GT A (M+14) (c+4) (qKx ms lo hi ls):=by
 have hR:=h.rel0 h0 h1 ht hl;obtain⟨k1,k2,k3,k4,k5⟩:=hR.good (qYo (rlE A)) h.gd.fs;have a1:=h.le;have a2:=h.ct;refine⟨qSv (Pm:=GI A) (fun w hw=>by show 1<=w;omega) hR h.it (fun m hm nm x y x0 x1 x2=>(h.it m hm).part nm x0 x1 x2) (fun m hm=>(hl m hm).1),⟨k3,k1,k2⟩,?_,?_⟩
 . rw[k5]
   have b1:=qKt _ 0 k4 (Int.le_refl 0);obtain⟨l1,l2,l3⟩:=qOh (c:=lo) h0 h.wf;obtain⟨l4,l5,l6⟩:=qOh (c:=hi) (show 0<=hi by omega) h.wf;rw[jB,jB,qS]at b1;have e:(Im.gap (vJ (lo-qp ms) 0)).mo=vJ (lo-qp ms) 0:=rfl;rw[e]at b1;have b2:qp (jp hi ms).2=0\/qp (jp hi ms).2=qp ms-hi:=by
    by_cases q:hi<=qp ms
    . have:=l6 q
      right;omega
    . left
      rw[qP9 ms hi h.nn (by omega)];rfl
   omega
 . rw[k5]
   have b1:=qF9 ((jp lo ms).1++((.gap (vJ (lo-qp ms) 0)::ls)++(jp hi ms).2)) 0;have b2:=qO6 ms lo hi h1;rw[if_neg (by omega)]at b1;simp only[List.length_append,List.length_cons]at b1;omega
structure TB(A M:Int)(c:Nat)(ts:List (List Im))(tie:List Int):Prop where
 l3:ts.length=3
 ms:∀ms∈ts,GT A M c ms
 tl:tie.length<=3
 tin:∀x∈tie,∃k:Nat,x=(k:Int)/\k<ts.length
theorem TB.set{A M M':Int}{c c':Nat}{ts:List (List Im)}{tie:List Int}{ms:List Im}(h:TB A M c ts tie)(n:Nat)(hM:M<=M')(hc:c<=c')(hg:GT A M' c' ms):TB A M' c' (ts.set n ms) tie:=by
 refine⟨by rw[List.length_set];exact h.l3,fun x hx=>?_,h.tl,fun x hx=>by rw[List.length_set];exact h.tin x hx⟩;rcases List.mem_or_eq_of_mem_set hx with q|q
 . exact(h.ms x q).mono hM hc
 . rw[q];exact hg
theorem TB.mono{A M M':Int}{c c':Nat}{ts:List (List Im)}{tie:List Int}(h:TB A M c ts tie)(hM:M<=M')(hc:c<=c'):TB A M' c' ts tie:=⟨h.l3,fun ms hm=>(h.ms ms hm).mono hM hc,h.tl,h.tin⟩
theorem TB.tabD{A M:Int}{c:Nat}{H:Hp}{tz re:Addr}{ts:List (List Im)}{tie:List Int}(h:TB A M c ts tie)(hM:M<=100000)(hc:c<=100)(ht:TabF H (.ref tz) ts tie)(hr:RE H re A):TabD H tz re (rlE A) ts tie:=by refine⟨ht,fun ms hm=>?_,by have:=h.l3;omega,by have:=h.tl;omega,h.tin,hr.at⟩;have q:=h.ms ms hm;have a1:=q.le;have a2:=q.ct;refine⟨⟨fun m hm'=>⟨(q.it m hm').ib,(q.wf m hm').mo⟩,by omega⟩,by omega,fun m hm'=>(q.it m hm').it ?_⟩;have:=qJq q.nn m hm';omega
def DkN(A M:Int):Dk->Prop
 |.hel _=>False
 |.cut t=>0<=t/\t<=M+4
 |.opn t l=>0<=t/\t<=M+4/\1<=l/\l<=5
 |.cls t u=>0<=t/\t<=M+4/\t<u/\u<=t+9
 |.lft t u=>0<=t/\t<=M+4/\t<u/\u<=t+9
 |.lin t m=>0<=t/\t<=M+4/\LayG A m
 |.lov t m=>0<=t/\t<=M+4/\LayG A m
theorem LayG.mo{A:Int}{m:Im}(h:LayG A m)(hA:60<=A/\A<360):m.wd≠"mix"/\1<=m.mo/\m.mo<=10:=by
 rcases h with ⟨b,l,rfl,b0,_,l1,l2⟩|h
 . exact⟨by show ("nest":Str)≠"mix";decide+kernel,l1,by show l<=10;omega⟩
 . exact⟨TI.nm (.inr (.inr h)),(h.it hA.1 hA.2).2.2⟩
theorem DkN.lay{A M:Int}{d:Dk}(h:DkN A M d)(hA:60<=A/\A<360):0<=d.t/\d.t<=d.hi/\d.t<=M+4/\(∀m∈d.laid,GI A m/\m.wd≠"mix"/\1<=m.mo)/\d.laid.length<=1/\qp d.laid<=10:=by
 have gm:("gap":Str)≠"mix":=by decide+kernel
 have one:∀{m:Im},GI A m->m.wd≠"mix"->1<=m.mo->m.mo<=10->(∀x∈[m],GI A x/\x.wd≠"mix"/\1<=x.mo)/\[m].length<=1/\qp [m]<=10:=fun{m} a b c d=>⟨fun x hx=>by rw[List.mem_singleton]at hx;subst hx;exact⟨a,b,c⟩,Nat.le_refl 1,by rw[qS,jF];omega⟩;have no:(∀x∈([]:List Im),GI A x/\x.wd≠"mix"/\1<=x.mo)/\([]:List Im).length<=1/\qp []<=10:=⟨(fun x hx=>by cases hx),by decide,by decide⟩;cases d with
 |hel t=>exact h.elim
 |cut t=>exact⟨h.1,Int.le_refl _,h.2,no⟩
 |opn t l=>
  obtain⟨a1,a2,a3,a4⟩:=h;exact⟨a1,Int.le_refl _,a2,one (m:=.gap l) a3 gm a3 (by show l<=10;omega)⟩
 |cls t u=>
  obtain⟨a1,a2,a3,a4⟩:=h;exact⟨a1,by show t<=u;omega,a2,no⟩
 |lft t u=>
  obtain⟨a1,a2,a3,a4⟩:=h;have q:1<=u-t:=by omega
  exact⟨a1,by show t<=u;omega,a2,one (m:=.gap (u-t)) q gm q (by show u-t<=10;omega)⟩
 |lin t m=>
  obtain⟨a1,a2,a3⟩:=h;obtain⟨b1,b2,b3⟩:=a3.mo hA;exact⟨a1,Int.le_refl _,a2,one (a3.gi hA) b1 b2 b3⟩
 |lov t m=>
  obtain⟨a1,a2,a3⟩:=h;obtain⟨b1,b2,b3⟩:=a3.mo hA;exact⟨a1,by show t<=t+m.mo;omega,a2,one (a3.gi hA) b1 b2 b3⟩
theorem qIq:∀ls:List Im,qp (ls.map fun m=>Im.gap m.mo)=qp ls
 |[]=>rfl
 |m::ls=>by rw[List.map_cons,qS,qS,qIq ls];rfl
theorem qRh{A:Int}{d:Dk}(h:∀m∈d.laid,GI A m/\m.wd≠"mix"/\1<=m.mo)(hn:d.laid.length<=1)(hl:qp d.laid<=10)(n k:Int):(∀m∈qBi d n k,GI A m/\m.wd≠"mix")/\(qBi d n k).length<=1/\qp (qBi d n k)<=10:=by
 unfold qBi;split
 . exact⟨fun m hm=>⟨(h m hm).1,(h m hm).2.1⟩,hn,hl⟩
 . refine⟨fun m hm=>?_,by rw[List.length_map];exact hn,by rw[qIq];exact hl⟩
   obtain⟨x,hx,rfl⟩:=List.mem_map.mp hm;exact⟨(h x hx).2.2,by show ("gap":Str)≠"mix";decide+kernel⟩
theorem TB.chg{A M:Int}{c:Nat}{ts:List (List Im)}{tie:List Int}(h:TB A M c ts tie)(hA:60<=A/\A<360){d:Dk}(hd:DkN A M d)(n:Int):∀ns:List Int,(∀k∈ns,∃j:Nat,k=(j:Int)/\j<ts.length)->(∀k∈ns,zA (ts.getD k.toNat []) d.t d.hi=false)->TB A (M+14) (c+4) (qN1 ts d n ns) tie:=by
 obtain⟨a1,a2,a3,a4,a5,a6⟩:=hd.lay hA;suffices hs:∀(ns:List Int) (ts':List (List Im)),TB A (M+14) (c+4) ts' tie->(∀k∈ns,∃j:Nat,k=(j:Int)/\j<ts.length)->(∀k∈ns,zA (ts.getD k.toNat []) d.t d.hi=false)->TB A (M+14) (c+4) (ns.foldl (fun ts1 k=>ts1.set k.toNat (qKx (ts.getD k.toNat []) d.t d.hi (qBi d n k))) ts') tie from fun ns h1 h2=>hs ns ts (h.mono (by omega) (by omega)) h1 h2
 intro ns
 induction ns with
 |nil=>exact fun ts' h' _ _=>h'
 |cons k ns ih=>
  intro ts' h' h1 h2;refine ih _ ?_ (fun x hx=>h1 x (by simp[hx])) (fun x hx=>h2 x (by simp[hx]));obtain⟨j,rfl,hj⟩:=h1 k (by simp);obtain⟨b1,b2,b3⟩:=qRh a4 a5 a6 n (j:Int);have hm:ts.getD ((j:Int)).toNat []∈ts:=by rw[Int.toNat_natCast,List.getD_eq_getElem?_getD,List.getElem?_eq_getElem hj];exact List.getElem_mem hj
  exact h'.set _ (Int.le_refl _) (Nat.le_refl _) ((h.ms _ hm).rel a1 a2 (h2 _ (by simp)) b1 b2 a3 b3)
def DeN(A M:Int):De->Prop
 |.hel t=>0<=t/\t<=M+4
 |.mix t l=>0<=t/\t<=M+4/\1<=l/\l<=5
 |.unm t=>0<=t/\t<=M+4
 |.rol w t b=>Wd3 w/\0<=t/\t<=M+4/\b.natAbs<=4
 |.chg d=>DkN A M d
theorem qUs{tie:List Int}{n:Nat}{L:Nat}(hn:n<L)(ht:∀x∈tie,∃k:Nat,x=(k:Int)/\k<L)(push:Bool):∀k∈chF tie (n:Int) push,∃j:Nat,k=(j:Int)/\j<L:=by
 intro k hk;unfold chF at hk;split at hk
 . rcases List.mem_cons.mp hk with rfl|hk
   . exact⟨n,O,hn⟩
   . exact ht k (List.mem_filter.mp hk).1
 . rw[List.mem_singleton]at hk
   exact⟨n,hk,hn⟩
theorem qMg{ts:List (List Im)}{ns:List Int}{lo hi:Int}(h:¬xQ ts ns lo hi=true):∀k∈ns,zA (ts.getD k.toNat []) lo hi=false:=fun k hk=>by
 unfold xQ at h;rw[List.any_eq_true]at h;cases q:zA (ts.getD k.toNat []) lo hi with
 |false=>rfl
 |true=>exact absurd ⟨k,hk,q⟩ h
theorem TB.res{A M:Int}{c:Nat}{ts:List (List Im)}{tie:List Int}(h:TB A M c ts tie)(hA:60<=A/\A<360)(M0:0<=M){n:Nat}{ms:List Im}(hm:ts[n]?=some ms){d:De}(hd:DeN A M d){ts':List (List Im)}(hr:qAj (rlE A) ts tie n ms d=.good ts'):TB A (M+14) (c+4) ts' tie:=by
 have hn:=(glt hm);have hg:=h.ms ms (List.mem_of_getElem? hm);have gd:ts.getD ((n:Int)).toNat []=ms:=by rw[Int.toNat_natCast,List.getD_eq_getElem?_getD,hm];rfl
 have fin:∀{x:List Im},GT A M (c+1) x->Res.good (ts.set n x)=.good ts'->TB A (M+14) (c+4) ts' tie:=fun{x} q e=>by cases e;exact h.set n (by omega) (by omega) (q.mono (by omega) (by omega))
 cases d with
 |hel t=>
  rw[qAj]at hr;cases hh:qGn ms t with
  |none=>rw[hh]at hr;cases hr
  |some ms'=>
   rw[hh]at hr;dsimp only at hr;split at hr
   . cases hr
   . rename_i ht
     have:=qMg ht (n:Int) (by unfold chF;rw[if_neg (fun q=>Bool.false_ne_true q.1)];simp);rw[gd]at this;exact fin ((hg.healed hd.1 hh this).mono (Int.le_refl _) (by omega)) hr
 |mix t l=>
  rw[qAj]at hr;cases hc:cbF ms t with
  |none=>rw[hc]at hr;cases hr
  |some x=>
   obtain⟨i,j⟩:=x;rw[hc]at hr;dsimp only at hr;split at hr
   . rename_i e
     cases hM:mmF (rlE A) ms t with
     |none=>rw[hM]at hr;cases hr
     |some M'=>
      rw[hM]at hr;dsimp only at hr;split at hr
      . cases hr
      . obtain⟨k,rfl,_⟩:=qSc hc
        rw[Int.toNat_natCast]at hr;exact fin (hg.mixd (by rw[hc,e];rfl) hM hd.2.2.1 (by omega)) hr
   . cases hr
 |unm t=>
  rw[qAj]at hr;cases hc:cbF ms t with
  |none=>rw[hc]at hr;cases hr
  |some x=>
   obtain⟨i,j⟩:=x;rw[hc]at hr;dsimp only at hr;split at hr
   . cases hr
   . rename_i e
     obtain⟨k,rfl,e2⟩:=qSc hc;rw[Int.toNat_natCast]at hr;exact fin ((hg.unmixed (t:=t) (i:=k) (by rw[hc];congr 2;omega)).mono (Int.le_refl _) (by omega)) hr
 |rol w t b=>
  rw[qAj]at hr;cases hp:plF w ms t with
  |none=>rw[hp]at hr;cases hr
  |some is=>
   rw[hp]at hr;dsimp only at hr;split at hr
   . cases hr
   . rename_i hx
     split at hr
     . rename_i hc
       exact fin ((hg.rolled hd.1 hp (by simpa using hx) hc).mono (Int.le_refl _) (by omega)) hr
     . cases hr
 |chg d=>
  rw[qAj]at hr;split at hr
  . split at hr
    . cases hr
    . rename_i ht
      cases hr;exact h.chg hA hd _ _ (qUs hn h.tin _) (qMg ht)
  . cases hr
def qXj(K:W.Frag)(C:Addr)(i:Option Nat)(tb:(Value->Option Addr->L2.St->Hp->Prop)->L2.TS)(ts:L2.TS):L2.TS:=fun D σ H=> ∃Ex,qWb K Ex C i (tb Ex) ts D σ H
theorem qSw{X:Cx}{body:List Stmt}{b₀:Stmt}{suite:List Stmt}{x:Str}{C:Addr}{nm:Option Str}{i:Option Nat}{np hpos pos:PySem.Pos}{tb:(Value->Option Addr->L2.St->Hp->Prop)->L2.TS}{ts:L2.TS}
 (hcl:qH3 X nm i) (hN:X.N.Nodup) (hg:Gl X x) (hm:X.mg x=some (.ref C))
 (hb:∀Ex l,PSs ((pnX X l).wish (XES (pnX X l) Ex)) body (tb Ex)) (hs:∀l ea,PSs (hdX (pnX X l) ea).nox (b₀::suite) ts)
 (hstk:X.stack=X.env::X.outer:=by rfl) (hfr:X.env.frame=some X.env.locals:=by rfl) (hex:X.ex=[]:=by rfl) (hdb:(x==("__debug__":Str))=false:=by decide):
 PS X (.Try body [.ExceptHandler (some (.Name x np)) nm (b₀::suite) hpos] [] [] pos) (qXj X.K C i tb ts):=by
 have q:=fun Ex=>qPp (np:=np) (hpos:=hpos) (pos:=pos) Ex hcl hN hg hm (hb Ex) hs hstk hfr hex hdb;unfold L2.PS at q⊢;rintro pins s σ H D I ⟨Ex,h⟩;exact q Ex pins s σ H D I h
theorem qRb{ts:List (List Im)}{i:Nat}{ms:List Im}(h:ts[i]?=some ms):ts.set i ms=ts:=by
 apply List.ext_getElem?;intro k;rw[List.getElem?_set];split
 . rename_i e
   subst e;rw[if_pos (glt h),h]
 . rfl
theorem qDv:∀{ms:List Im} {b:Int},(∀m∈ms,Wf m)->(∀x∈j8 b ms,b<x)/\(j8 b ms).Pairwise (· < ·)
 |[],b,_=>⟨fun x h=>(by cases h),.nil⟩
 |m::ms,b,hw=>by
  by_cases hm:m.wd="mix"
  . obtain⟨l,rfl⟩:=jV hm
    rw[j8];exact qDv fun x hx=>hw x (by simp[hx])
  . have h1:=(hw m (by simp)).pos hm
    obtain⟨i1,i2⟩:=qDv (ms:=ms) (b:=b+m.l) fun x hx=>hw x (by simp[hx]);rw[wj hm];rw[qXk hm]at h1;refine⟨fun x hx=>?_,List.Pairwise.cons i1 i2⟩;rcases List.mem_cons.mp hx with rfl|hx
    . omega
    . have:=i1 x hx
      omega
theorem qQx{ms:List Im}(hw:∀m∈ms,Wf m):(0::j8 0 ms).Pairwise (· < ·):=List.Pairwise.cons (qDv hw).1 (qDv hw).2
theorem qUg{ms:List Im}{t i j:Int}(h:cbF ms t=some (i,j))(hn:∀x∈qq 0 ms,x.2.1≠t):∃k:Nat,i=(k:Int)/\j=((k+1:Nat):Int)/\qp (ms.take (k+1))=t:=by
 have hb:nbF ms t=some (i,j):=by
  unfold cbF at h;split at h
  . split at h
    . rename_i q _;rw[q];exact h
    . cases h
  . cases h
 rcases qRl hb with ⟨U,x,y,B,e,rfl,rfl,et,_⟩|⟨U,l,y,B,e,_,_,et,_⟩
 . refine⟨U.length,O,by omega,?_⟩
   rw[e,show U++x::y::B=(U++[x])++y::B by simp,List.take_left' (by simp),jB,qS,jF,et];omega
 . refine absurd ?_ (hn (0+qp U-l.fdiv 2,0+qp U,0+qp U+(l-l.fdiv 2)) ?_)
   . show 0+qp U=t
     omega
   . rw[e,j4]
     refine List.mem_append_right _ ?_;rw[qq];simp
theorem qRy{ms:List Im}{k:Nat}{l:Int}{x:Int×Int×Int}(h:x∈qq 0 (ms.take k++[.mix l]++ms.drop k)):x∈qq 0 ms\/x.2.1=qp (ms.take k):=by
 have e:=j4 (ms.take k) (ms.drop k) 0;rw[List.take_append_drop]at e;rw[e];rw[j4,j4,List.mem_append,List.mem_append]at h;rw[List.mem_append];rcases h with (h|h)|h
 . exact .inl (.inl h)
 . rw[qq,qq]at h
   rw[List.mem_singleton]at h;right;rw[h];dsimp only;omega
 . rw[jB,qS,jF,show (Im.mix l).mo=0 from rfl,Int.add_zero,Int.add_zero]at h
   exact .inl (.inr h)
inductive qGe(vs:List V)(H:Hp)(Q:VK)(_:XK):Prop
|mk (tz re:Addr) (ts:List (List Im)) (tie:List Int) (A c:Int) (_:vs=[.ref tz,.ref re,.int c]) (_:TabF H (.ref tz) ts tie) (_:TB A 50 11 ts tie) (_:(∀ms∈ts,GT A 50 5 ms/\∀m∈ms,m.wd≠"mix")) (_:RE H re A) (_:0<=c) (_:c<2147483700) (_:∀(t':Addr) (ts':List (List Im)) (H':Hp),Same H H'->TabF H' (.ref t') ts' tie->TB A 50 11 ts' tie->Q (.ref t') H')
theorem qHp(T:Tx K mg a):FnOk P w K mg base CX0 11 a.A91 a.B91 ["_law_table_here","_law_reels_here","_law_cell"] qGe:=by
 refine T.D91.F.ok jX (fun vs H Q E h=>?_) (fun cdv A outer s H vs Q E hr h=>?_)
 . obtain⟨tz,re,ts,tie,A',c,rfl,_⟩:=h
   rfl
 refine qL fun _ Y=>?_;obtain⟨tz,re,ts,tie,A',c,rfl,hT,hM,hI,hre,c0,c1,kk⟩:=h;apply Y;refine⟨_,(qC (j6 PassesOwn.never rfl (kA rfl T.b_range (qA (qU qh rfl T.b_len rfl (qA (qK (pv 0)) qB)) qB)) (jA (i:=3) jX.nd rfl (Or.inl rfl)) (qE (j6 PassesOwn.never rfl (jM (qI T.D27 (qAp T) hr rfl (qA (jU qz (qK (pv 0)) (pv 3) (fun _ _=>rfl)) qB))) (jA (i:=4) jX.nd rfl (Or.inl rfl)) (qC (qZ 2 jX.nd (qQ qm (qQ qr (qQ jJ (pv 2) qG) qG) qG))
  (qC (zC (qSw .none jX.nd rfl T.c_NoPlace (fun _ _=>(qE (qZ 5 jX.nd (qR5 T.D43 (v6 T) hr rfl (qA (jU (qQq (K:=K) rfl) (jU (vd (K:=K) rfl) (pv 0) qG (fun _ _=>rfl)) (pv 3) (fun _ _=>rfl)) (qA (pv 4) (qA (pv 1) qB))))))) (fun _ _=>(qE (qZ 5 jX.nd qG)))))
  (qE (qW (qF6 (PW.pt (xW (qJ wL (pv 5) qG (qP _)) (xA (qJ wL (qQ qm (qQ qf (pv 2) qG) qG) qG (qP _)))))) (qE (qZ 0 jX.nd (qI T.D73 (qJe T) hr rfl (qA (pv 0) (qA (ql (qA qR (qA (pv 3) (qA (pv 4) (qA (qQ qr qG (qQ qm (qQ qf (pv 2) qG) (qU (zQ rfl) rfl T.b_min rfl (qA (pv 5) (qA qG qB))))) qB))))) (qA (pv 1) qB)))))) qN)))))))
  (qE (qM (pv 0)))),?_⟩
 try dsimp only[jN,qd]
 refine qL fun _ Y=>?_;obtain⟨tt,tl,ti,zs,e0,g2,g3,g4,g5⟩:=id hT;cases e0;apply Y;have hzl:=g4.len;have l3:=hM.l3;refine⟨_,O,tz,_,_,_,O,O,SqT.of g2,at0,tl,zs,O,.inl (SqL.of g3),_,O,by omega,by omega,vw (n:=((zs.length:Nat):Int).toNat) (fun i σ H'=> ∃(t1:Addr) (ts1:List (List Im)) (c:Int) (o1 o2 o3:Option V),σ=[some (.ref t1),some (.ref re),some (.int c),o1,o2,o3]/\TabF H' (.ref t1) ts1 tie/\TB A' 50 11 ts1 tie/\(∀k ms,i<=k->ts1[k]?=some ms->GT A' 50 5 ms/\∀m∈ms,m.wd≠"mix")/\0<=c/\c<2147483700/\Same H H')
  ⟨tz,ts,c,none,none,none,rfl,hT,hM,fun k ms _ hk=>hI ms (List.mem_of_getElem? hk),c0,c1,Same.refl _⟩ ?_ ?_⟩
 . rintro i σ H' hi ⟨t1,ts1,c,o1,o2,o3,rfl,hT1,hM1,hI1,c0,c1,e⟩
   refine qL fun _ Y=>?_;obtain⟨_,tl1,ti1,zs1,e0,q2,q3,q4,q5⟩:=id hT1;cases e0;have hzl1:=q4.len;have l31:=hM1.l3;obtain⟨v1,hv1⟩:∃v,zs1[i]?=some v:=⟨_,List.getElem?_eq_getElem (by omega)⟩;obtain⟨ms0,z,hms,rfl,tT⟩:=q4.get hv1;have ai:atI zs1 (0+(i:Int))=some (.ref z):=by rw[Int.zero_add];exact jI hv1
   obtain⟨m5,mT⟩:=hI1 i ms0 (Nat.le_refl _) hms;apply Y;refine(ixO q2 at0 ⟨_,rfl,tl1,_,_,_,rfl,rfl,SqL.of q3,ai,z,ms0,rfl,tT,by have:=m5.ct;omega,fun y H2 e2 hy hy2=>?_⟩);have hpw:=qQx m5.wf;have hbl:(0::j8 0 ms0).length<=6:=by rw[List.length_cons];have:=qDr 0 ms0;have:=m5.ct;omega
   refine⟨y,rfl,⟨_,SqL.of hy2⟩,jn (K:=K) (a:=y) (xs:=(0::j8 0 ms0).map V.int) (fun j σ H'=> ∃(t2:Addr) (ms:List Im) (c:Int) (o2 o3:Option V),σ=[some (.ref t2),some (.ref re),some (.int c),some (.int (0+(i:Int))),o2,o3]/\TabF H' (.ref t2) (ts1.set i ms) tie/\GT A' 50 (5+j) ms/\(∀x∈qq 0 ms,∀k t,j<=k->(0::j8 0 ms0)[k]?=some t->x.2.1<t)/\0<=c/\c<2147483700/\Same H2 H') ⟨t1,ms0,c,o2,o3,rfl,?_,m5,(fun x hx=>by rw[qTy mT]at hx;cases hx),c0,c1,Same.refl _⟩ ?_ ?_ ?_⟩
   . rw[qRb hms];exact hT1.same e2
   . rintro j σ H3 hj ⟨t2,ms,c,o2,o3,rfl,_,_,_,_,_,e3⟩
     exact SqL.of (e3 _ _ hy2)
   . rintro j x σ H3 hx ⟨t2,ms,c,o2,o3,rfl,hT2,hW,hsp,c0,c1,e3⟩
     refine qL fun _ Y=>?_;obtain⟨t,ht,rfl⟩:∃t:Int,(0::j8 0 ms0)[j]?=some t/\x=.int t:=by
      rw[List.getElem?_map]at hx;cases hq:(0::j8 0 ms0)[j]? with
      |none=>rw[hq]at hx;cases hx
      |some k=>rw[hq]at hx;cases hx;exact⟨k,rfl,rfl⟩
     apply Y;have hj5:j<=5:=by have h1:=(glt ht);omega
     have ht0:0<=t:=by
      rcases List.mem_cons.mp (List.mem_of_getElem? ht)with q|q
      . omega
      . exact Int.le_of_lt ((qDv m5.wf).1 t q)
     have hlt:∀k t',j+1<=k->(0::j8 0 ms0)[k]?=some t'->t<t':=fun k t' hk h=>by obtain⟨a1,a2⟩:=List.getElem?_eq_some_iff.mp ht;obtain⟨b1,b2⟩:=List.getElem?_eq_some_iff.mp h;have:=List.pairwise_iff_getElem.mp hpw j k a1 b1 (by omega);rw[a2,b2]at this;exact this
     have hMs:=hM1.set i (Int.le_refl _) (Nat.le_refl _) (hW.mono (Int.le_refl _) (show 5+j<=11 by omega));have eH3:=(e.trans e2).trans e3;have hre3:=hre.same eH3;have hD3:=hMs.tabD (by decide) (by decide) hT2 hre3;have f0:=fm (c*48271+11) (show (0:Int)<2147483647 by decide);refine⟨_,O,_,_,O,O,cmR (by decide) (by decide),_,_,O,O,_,_,O,O,nz,?_⟩;dsimp only;generalize (c*48271+11).fmod 2147483647=c' at f0⊢;refine qL fun _ Y=>?_;obtain⟨_,tl2,ti2,zs2,e0,r2,r3,r4,r5⟩:=id hT2;cases e0;have hil:i<ts1.length:=by omega
     have hms2:(ts1.set i ms)[i]?=some ms:=by rw[List.getElem?_set,if_pos rfl,if_pos hil]
     obtain⟨v2,hv2⟩:∃v,zs2[i]?=some v:=⟨_,List.getElem?_eq_getElem (by rw[r4.len,List.length_set];omega)⟩;obtain⟨ms',z2,hms',rfl,tT2⟩:=r4.get hv2;rw[hms2]at hms';cases hms';apply Y;have ai2:atI zs2 (0+(i:Int))=some (.ref z2):=by rw[Int.zero_add];exact jI hv2
     refine⟨fun σ H'=> ∃M:Int,σ=[some (.ref t2),some (.ref re),some (.int c'),some (.int (0+(i:Int))),some (.int t),some (.int M)]/\Same H3 H'/\(0<M->mmF (rlE A') ms t=some M),?_,?_⟩
     . refine⟨fun B od σ' H'=>B=.ref a.k_NoPlace/\Same H3 H'/\σ'=[some (.ref t2),some (.ref re),some (.int c'),some (.int (0+(i:Int))),some (.int t),o3],?_,?_⟩
       . exact(ixO r2 at0 ⟨_,O,tl2,_,_,_,O,O,SqL.of r3,ai2,_,O,_,O,z2,re,ms,t,rlE A',O,tT2,(hD3.ok ms (List.mem_of_getElem? hms2)).2.2,hD3.re,fun _ H' e'=>⟨O,e',O⟩,fun M h H' e'=>⟨M,O,e',fun _=>h⟩⟩)
       . rintro ea ⟨B1,B2⟩ σ' H' ⟨hB,sH,rfl⟩ hn hl'
         dsimp only at hB;subst hB;exact⟨T.yPP,0,O,sH.trans (qF hn _),fun h=>absurd h (by decide)⟩
     rintro σ H4 ⟨M,rfl,e4,hMM⟩;refine⟨fun b H'=>H'=H4/\(b=true->0<M),?_,?_⟩
     . refine⟨_,O,_,_,O,O,_,O,jo (fun q=>?_) (fun _=>⟨O,by simp⟩)⟩
       have hp:0<M:=by simpa using q
       exact⟨_,O,_,_,O,O,cdB (by decide) (by decide),_,_,O,O,nz,_,_,O,O,_,O,O,fun _=>hp⟩
     rintro b H' ⟨rfl,hp⟩;cases b with
     |false=>exact qt ⟨t2,ms,c',_,_,rfl,hT2.same e4,hW.mono (Int.le_refl _) (by omega),fun x hx k t' hk h=>hsp x hx k t' (by omega) h,f0.1,by omega,e3.trans e4⟩
     |true=>
     have hp:=hp rfl;have hmm:=hMM hp;refine qL fun _ Y=>?_;obtain⟨i2,hc,hl2⟩:∃i2:Nat,cbF ms t=some ((i2:Int),((i2+1:Nat):Int))/\qp (ms.take (i2+1))=t:=by
      cases hq:cbF ms t with
      |none=>unfold mmF at hmm;rw[hq]at hmm;cases hmm
      |some x=>
       obtain⟨x,y⟩:=x;obtain⟨k,rfl,rfl,h⟩:=qUg hq (fun x hx=>Int.ne_of_lt (hsp x hx j t (Nat.le_refl _) ht));exact⟨k,O,h⟩
     apply Y;have hq:0<(if (5:Int)<M then 5 else M)/\(if (5:Int)<M then 5 else M)<=M/\(if (5:Int)<M then 5 else M)<=5:=by split <;> omega
     refine jl ⟨_,O,_,O,_,O,_,O,_,_,O,O,cdB (by decide) (by decide),_,O,_,_,O,_,_,O,O,(by omega),_,_,O,O,qUc,fun p hp'=>?_⟩;have f1:=fm (c'.fdiv 21) hq.1;generalize (c'.fdiv 21).fmod (if (5:Int)<M then 5 else M)=u at f1;have w5:=qF hp' (.tup [.str "mix",.int (0+(i:Int)),.int t,.int (1+u)]);have e5:=e4.trans w5;refine⟨_,O,t2,p,re,rlE A',_,tie,_,O,hD3.same e5,.mix (n:=i) (i:=i2) (t:=t) (l:=1+u) (M:=M) (ms:=ms) (by rw[show HO.tup [V.str "mix",.int (i:Int),.int t,.int (1+u)]=HO.tup [V.str "mix",.int (0+(i:Int)),.int t,.int (1+u)] by rw[Int.zero_add]];exact qD) hms2 ht0 (by omega) hc hmm (by rw[if_neg (by omega)]),fun t' H' e' hN=>?_⟩;refine⟨t',_,c',_,_,O,?_,hW.mixd (l:=1+u) hc hmm (by omega) (by omega),fun x hx k t'' hk h=>?_,f0.1,by omega,(e3.trans e5).trans e'⟩
     . have hN':=hN
       rw[List.set_set]at hN';exact hN'
     . rcases qRy hx with q|q
       . exact hsp x q k t'' (by omega) h
       . rw[q,hl2]
         exact hlt k t'' hk h
   . rintro σ H3 ⟨t2,ms,c,o2,o3,rfl,hT2,hW,hsp,c0,c1,e3⟩
     rw[List.length_map]at hW;refine⟨t2,ts1.set i ms,c,_,_,_,O,hT2,hM1.set i (Int.le_refl _) (Nat.le_refl _) (hW.mono (Int.le_refl _) (by omega)),fun k ms' hk h=>?_,c0,c1,(e.trans e2).trans e3⟩;rw[List.getElem?_set,if_neg (by omega)]at h;exact hI1 k ms' (by omega) h
 . rintro σ H' ⟨t1,ts1,c,o1,o2,o3,rfl,hT1,hM1,hI1,c0,c1,e⟩
   exact⟨_,O,kk t1 ts1 _ e hT1 hM1⟩
inductive qE9(vs:List V)(H:Hp)(Q:VK)(_:XK):Prop
|mk (tz:Addr) (ts:List (List Im)) (tie:List Int) (_:vs=[.ref tz]) (_:TabF H (.ref tz) ts tie) (_:ts.length<=8) (_:∀(t:Addr) (H':Hp),Same H H'->TabF H' (.ref t) ts tie->Q (.ref t) H')
theorem qFf(T:Tx K mg a):FnOk P w K mg base CX0 1 a.A93 a.B93 ["_law_table_here"] qE9:=by
 refine T.D93.F.ok qFs (fun vs H Q E h=>?_) (fun cdv A outer s H vs Q E hr h=>?_)
 . obtain⟨tz,ts,tie,rfl,_⟩:=h
   rfl
 refine qL fun _ Y=>?_;obtain⟨tz,ts,tie,rfl,⟨tt,tl,ti,zs,e0,h2,h3,h4,h5⟩,hl,kk⟩:=h;cases e0;apply Y;have hzl:=h4.len;refine⟨_,(qE (qM (ql (qA (kf [] [] rfl (jM (qK (pv 0))) (fun _ _ _ _=>(z8 (qA3 (K:=K) rfl) rfl T.b_list rfl (qA (pv 0) qB)))) (qA (z8 xV rfl T.b_list rfl (qA (qK (pv 0)) qB)) qB))))),?_⟩
 try dsimp only[jN,qd]
 refine(ixO h2 at0 ⟨tl,O,⟨_,SqL.of h3⟩,zB (K:=K) (a:=tl) (xs:=zs) (fun j acc H2=>TrsAt H2 (ts.take j) acc/\Same H H2) ⟨trivial,Same.refl _⟩ ?_ ?_ ?_⟩)
 . rintro j acc H2 hj ⟨ht,e2⟩
   exact⟨SqL.of (e2 _ _ h3),qc (by rw[ht.len,List.length_take];omega)⟩
 . rintro j x acc H2 hj hx ⟨ht,e2⟩
   refine qL fun _ Y=>?_;obtain⟨ms1,z,hms,rfl,us,hz,his⟩:=h4.get hx;apply Y;refine⟨_,O,z,us,O,.inl (SqL.of (e2 _ _ hz)),fun l hl'=>Nxt.mk hj ⟨?_,e2.trans (qF hl' _)⟩⟩;have w3:=qF hl' (.lst us);have etk:ts.take (j+1)=ts.take j++[ms1]:=by rw[List.take_add_one,hms];rfl
   rw[etk];exact qHh (ht.same w3) ⟨us,qD,his.ts (qY (e2.trans w3))⟩
 rintro acc H2 ⟨ht,e2⟩ d hd;rw[hzl,List.take_length]at ht;have w3:=qF hd (.lst acc);have e3:=e2.trans w3;refine(ixO (e3 _ _ h2) at1 ⟨ti,_,O,.inl (SqL.of (e3 _ _ h5)),fun l hl'=>⟨sL2,fun t ht'=>?_⟩⟩);have w5:=qF hl' (.lst (tie.map V.int));have w6:=qF ht' (.tup [.ref d,.ref l]);exact kk t _ ((e3.trans w5).trans w6) ⟨t,d,l,acc,O,qD,(w5.trans w6) _ _ qD,ht.same ((w3.trans w5).trans w6),w6 _ _ qD⟩
inductive qJ0(K:W.Frag)(vs:List V)(H:Hp)(Q:VK)(_:XK):Prop
|mk (tz dz rd:Addr) (rl:Rls) (ts:List (List Im)) (tie:List Int) (r:Res) (_:vs=[.ref tz,.ref dz,.ref rd]) (_:TabD H tz rd rl ts tie) (_:DdX K H rd dz rl ts tie r) (_:(r=.place->∀H',Same H H'->Q (.str "noplace") H')) (_:(r=.mixed->∀H',Same H H'->Q (.str "mixed") H')) (_:(∀m,r=.short m->∀(l:Addr) (H':Hp),Same H H'->H' l=some (.lst [.str "short",.int m])->Q (.ref l) H')) (_:∀ts',r=.good ts'->∀(t':Addr) (H':Hp),Same H H'->TabF H' (.ref t') ts' tie->Q (.ref t') H')
theorem qCl(T:Tx K mg a):FnOk P w K mg base CX0 11 a.A95 a.B95 ["_law_table_here","_law_deed","_law_reels_here"] (qJ0 K):=by
 refine T.D95.F.ok jx (fun vs H Q E h=>?_) (fun cdv A outer s H vs Q E hr h=>?_)
 . obtain⟨tz,dz,rd,rl,ts,tie,r,rfl,_⟩:=h
   rfl
 refine qL fun _ Y=>?_;obtain⟨tz,dz,rd,rl,ts,tie,r,rfl,hP,hD,k0,k1,k3,k2⟩:=h;obtain⟨Exn,hEx⟩:∃Exn:Value->Option Addr->Hp->Prop,Exn=fun B od H'=>Same H H'/\((B=.ref a.k_NoPlace/\r=.place)\/(B=.ref a.k_Mixed/\r=.mixed)\/(B=.ref a.k_Short/\∃m dx,r=.short m/\od=some dx/\H' dx=some (.xd [("most",.int m)]))):=⟨_,rfl⟩;apply Y;refine⟨_,(qC (qZ 3 jx.nd qBe)
  (qC (qS5 (Exn) jx.nd (fun _=>(qE (qZ 3 jx.nd (xP T.D73 (vh T) hr rfl (qA (pv 0) (qA (pv 1) (qA (pv 2) qB))))))) (PHs.cons .none rfl T.c_NoPlace (fun _ _=>(qE (qZ 3 jx.nd qR))) (PHs.cons .none rfl T.c_Mixed (fun _ _=>(qE (qZ 3 jx.nd qR))) (PHs.cons (.some (i:=4) rfl rfl) rfl T.c_Short (fun _ _=>(qE (qZ 3 jx.nd (jR (qA qR (qA (qRe (K:=K) rfl (pv 4)) qB)))))) PHs.nil))))
  (qE (qM (pv 3))))),?_⟩
 try dsimp only[jN,qd]
 subst hEx;refine⟨?_,?_⟩
 . refine⟨_,O,_,O,_,O,tz,dz,rd,rl,ts,tie,r,O,hP,hD,fun h H' e=>⟨e,.inl ⟨O,h⟩⟩,fun h H' e=>⟨e,.inr (.inl ⟨O,h⟩)⟩,fun m h dx H' e hx=>⟨e,.inr (.inr ⟨O,m,dx,h,O,hx⟩)⟩,fun ts' h t' H' e hN=>?_⟩
   exact⟨_,O,k2 ts' h t' H' e hN⟩
 . rintro ea ⟨B1,B2⟩ σ' H' ⟨sH,hB⟩ hn hl'
   refine qL fun _ Y=>?_;obtain⟨o1,o2,o3,o4,o5,rfl⟩:∃o1 o2 o3 o4 o5,σ'=[o1,o2,o3,o4,o5]:=by
    match σ',hl' with
    |[o1,o2,o3,o4,o5],_=>exact⟨o1,o2,o3,o4,o5,rfl⟩
   apply Y;have eo:∀o:HO,Same H (upd H' ea o):=fun o=>sH.trans (qF hn _);rcases hB with ⟨e1,h⟩|⟨e1,h⟩|⟨e1,m,dx,h,e2,hx⟩
   . dsimp only at e1;subst e1
     exact⟨true,T.yPP,jl ⟨_,O,k0 h _ (eo _)⟩⟩
   . dsimp only at e1;subst e1
     exact⟨false,T.yMP,qt ⟨true,T.yMM,jl ⟨_,O,k1 h _ (eo _)⟩⟩⟩
   . dsimp only at e1;subst e1
     refine⟨false,T.ySP,qt ⟨false,T.ySM,qt ⟨true,T.ySS,jl ?_⟩⟩⟩;have e2':B2=some dx:=e2;subst e2';have w1:=qF hn (qDs ea (.ref a.k_Short,some dx));have hE:(upd H' ea (qDs ea (.ref a.k_Short,some dx))) ea=some (qDs ea (.ref a.k_Short,some dx)):=qD;refine⟨_,O,ea,_,dx,_,_,O,hE,w1 _ _ hx,O,T.e_Short,T.m_Short.hd,T.f_most,sL2,fun l hl=>?_⟩;exact⟨_,O,k3 m h l _ ((sH.trans w1).trans (qF hl _)) qD⟩
inductive vM(vs:List V)(H:Hp)(Q:VK)(_:XK):Prop
|mk (v:V) (m:Im) (w:Str) (l:Int) (_:vs=[v]) (_:(m=.gap l/\w="gap"\/m=.mix l/\w="mix")) (_:IsI H m v) (_:1<=l) (_:∀H',Same H H'->Q (.bl true) H')
theorem vL(T:Tx K mg a):FnOk P w K mg base CX0 3 a.A23 a.B23 ["item"] vM:=by
 refine T.D23.F.ok vO (fun vs H Q E h=>?_) (fun cdv A outer s H vs Q E hr h=>?_)
 . obtain⟨v,m,w,l,rfl,_⟩:=h
   rfl
 refine qL fun _ Y=>?_;obtain⟨v,m,w,l,rfl,hm,hI,hn,kk⟩:=h;apply Y;refine⟨_,(qC (qW (PW.pt (jd (q8 (qg (qU qi rfl T.b_isinstance rfl (qA (pv 0) (qA (zw rfl T.b_tuple rfl) qB))))) (jK (qJ zD (qU qh rfl T.b_len rfl (qA (pv 0) qB)) qG (qP _))))) (qE (qM xk)) qN)
  (qE (qM (xp (jL jc (qK (pv 0)) (ql (qA qR (qA qR qB))) rfl) (z7 (qI T.D21 (vx T) hr rfl (qA (qK (pv 0)) qB))))))),?_⟩
 try dsimp only[jN,qd]
 refine qL fun _ Y=>?_;obtain⟨z,rfl,hz⟩:∃z,v=.ref z/\H z=some (.tup [.str w,.int l]):=by rcases hm with ⟨rfl,rfl⟩|⟨rfl,rfl⟩ <;> exact hI
 apply Y;have hin:inV (.str w) [.str "gap",.str "mix"]=true:=by rcases hm with ⟨_,rfl⟩|⟨_,rfl⟩ <;> decide+kernel
 refine⟨_,O,_,_,_,true,O,.tup hz,⟨_,.inl ⟨O,by kernel_rfl⟩⟩,true,O,qt ?_⟩;refine⟨_,O,_,_,O,.inr (SqT.of hz),O,_,O,qt ?_⟩;refine(ixO hz at0 ⟨sL2,fun t ht=>?_⟩);have w1:=qF ht (.tup [.str "gap",.str "mix"]);refine⟨t,_,O,.inr (SqT.of qD),O,O,true,xg hin,jl ?_⟩;exact(ixO (w1 _ _ hz) at1 ⟨l,O,hn,kk _ w1⟩)
theorem vy(T:Tx K mg a):FnOk P w K mg base CX0 7 a.A76 a.B76 ["item","reels"] (qAk K):=by
 refine T.D76.F.ok xY (fun vs H Q E h=>?_) (fun cdv A outer s H vs Q E hr h=>?_)
 . obtain⟨v,rd,n,p,q,r,s,l,N,rfl,_⟩:=h
   rfl
 refine qL fun _ Y=>?_;obtain⟨v,rd,n,p,q,r,s',l,N,rfl,hI,g,hr',i0,i1,kk⟩:=h;apply Y;refine⟨_,(qE (qPp (fun _ _ _ _=>False) .none xY.nd rfl T.c_NoClip (fun _=>(qE (q9 (qI T.D15 (qBd T) hr rfl (qA (pv 0) (qA (pv 1) qB)))))) (fun _ _=>qk))),?_⟩
 try dsimp only[jN,qd]
 refine⟨?_,?_⟩
 . exact⟨_,O,_,O,v,rd,n,p,q,r,s',l,N,O,hI,g,hr',i0,i1,fun H' e=>kk H' e⟩
 . rintro ea B σ' H' h
   exact h.elim
theorem GC.gf{A:Int}{n:Str}{p q r s l N:Int}(h:GC A n p q r s l N)(hl:l<=100000):GF n p q r s l:=by
 have hn:qFo n=true/\n.length<=1000:=by
  have:=h.rn;unfold rlE at this;split at this
  . rename_i e;subst e;exact⟨by decide+kernel,by decide+kernel⟩
  . split at this
    . rename_i e;subst e;exact⟨by decide+kernel,by decide+kernel⟩
    . cases this
 obtain⟨b1,b2,b3,b4⟩:=h.bd;have:=h.l1;exact⟨hn.1,hn.2,⟨h.q0,h.s0,p40 b1 (by decide),p40 b2 (by decide),p40 b3 (by decide),p40 b4 (by decide)⟩,h.g1,h.g2,h.l1,by omega⟩
structure RoomC(H:Hp)(rz re td:Addr)(A:Int):Prop where
 z:H rz=some (.tup [.ref re,.ref td])
 r:RE H re A
 t:∃kvs:List (Key×V),Rd H td (.dK kvs)/\(qBg kvs (Sum.inr "low")).isSome=true
theorem RoomC.same{H H':Hp}{rz re td:Addr}{A:Int}(e:Same H H')(h:RoomC H rz re td A):RoomC H' rz re td A:=
 ⟨e _ _ h.z,h.r.same e,let ⟨k,a,b⟩:=h.t;⟨k,qK7 e a,b⟩⟩
inductive qF8(vs:List V)(H:Hp)(Q:VK)(_:XK):Prop
|mk (v:V) (m:Im) (rz re td:Addr) (A:Int) (_:vs=[v,.ref rz]) (_:IsI H m v) (_:RoomC H rz re td A) (_:GI A m) (_:m.mo<=100000) (_:∀H',Same H H'->Q .non H')
theorem qG0(T:Tx K mg a):FnOk P w K mg base CX0 8 a.A77 a.B77 ["item","room"] qF8:=by
 refine T.D77.F.ok qHj (fun vs H Q E h=>?_) (fun cdv A outer s H vs Q E hr h=>?_)
 . obtain⟨v,m,rz,re,td,A',rfl,_⟩:=h
   rfl
 refine qL fun _ Y=>?_;obtain⟨v,m,rz,re,td,A',rfl,hI,hC,hN,hmo,kk⟩:=h;apply Y;have hu1:=qKp hr;refine⟨_,(qE (qW (PW.pt (xW (qg (qU qi rfl T.b_isinstance rfl (qA (pv 0) (qA (zw rfl T.b_tuple rfl) qB)))) (xW (qJ wL (qU qh rfl T.b_len rfl (qA (pv 0) qB)) qG (qP _)) (xA (qJ ja (qK (pv 0)) qR (qP _)))))) (qE (q9 (qI T.D76 (vy T) hr rfl (qA (pv 0) (qA (qK (pv 1)) qB))))) (qE (qW (qg (qI T.D22 (vI T) hr rfl (qA (pv 0) qB))) (qE (qW (vD (qJt hu1 (qK (pv 0)) (qK (pv 1)))) qk qN)) (qE (qW (q8 (qg (qI T.D23 (vL T) hr rfl (qA (pv 0) qB)))) qk qN)))))),?_⟩
 try dsimp only[jN,qd]
 refine qL fun _ Y=>?_;obtain⟨zi,xi,rfl,hzi,a0,_⟩:=id hI.opn;apply Y;have hx1:0<xi.length:=by
  cases xi with
  |nil=>cases a0
  |cons=>simp
 refine⟨_,O,_,_,_,true,O,.tup hzi,⟨_,.inl ⟨O,by kernel_rfl⟩⟩,true,O,jl ?_⟩;refine⟨_,O,zi,_,O,.inr (SqT.of hzi),_,_,O,O,_,O,v9 (decide_eq_true (by omega)) ?_⟩;refine(ixO hzi a0 ⟨O,_,O,?_⟩);rw[qTq];cases m with
 |clip n p q r s1 l=>
  obtain⟨N,c⟩:=hN;refine v9 (decide_eq_true rfl) ?_;exact⟨_,O,zS rfl (SqT.of hC.z) at0 ⟨_,re,n,p,q,r,s1,l,N,O,hI,c.gf hmo,hC.r.at n N c.rn,c.i0,c.i1,kk⟩⟩
 |nest n b l=>
  refine qL fun _ Y=>?_;obtain⟨rfl,b0,l1⟩:=hN;obtain⟨z,e,hz⟩:=id hI;cases e;apply Y;have a1:atI [V.str "nest",.str "low",.int b,.int l] 1=some (.str "low"):=rfl;refine kx (by show decide (("nest":Str)="clip")=false;decide+kernel) ?_;refine⟨_,O,_,_,O,hI,⟨by decide+kernel,b0,l1⟩,fun H1 e1=>⟨true,O,jl ?_⟩⟩;refine qL fun _ Y=>?_;obtain⟨kvs,hd,hs⟩:=(hC.same e1).t;apply Y;cases hv:qBg kvs (Sum.inr "low")with
  |none=>rw[hv]at hs;cases hs
  |some v=>
   refine(ixO (e1 _ _ hz) a1 (zS rfl (SqT.of (hC.same e1).z) at1 ⟨td,some v,O,.inl ⟨kvs,Sum.inr "low",hd,O,hv.symm⟩,_,O,qt ?_⟩));exact kk H1 e1
 |gap l=>
  refine qL fun _ Y=>?_;obtain⟨z,e,hz⟩:=id hI;cases e;apply Y;refine kx (by show decide (("gap":Str)="clip")=false;decide+kernel) ?_;refine⟨_,O,_,_,O,hI,trivial,fun H1 e1=>⟨false,O,qt ?_⟩⟩;exact⟨_,O,_,_,"gap",l,O,.inl ⟨O,O⟩,hI.ts (qY e1),hN,fun H2 e2=>⟨true,O,qt (kk H2 (e1.trans e2))⟩⟩
 |mix l=>
  refine qL fun _ Y=>?_;obtain⟨z,e,hz⟩:=id hI;cases e;apply Y;refine kx (by show decide (("mix":Str)="clip")=false;decide+kernel) ?_;refine⟨_,O,_,_,O,hI,trivial,fun H1 e1=>⟨false,O,qt ?_⟩⟩;exact⟨_,O,_,_,"mix",l,O,.inr ⟨O,O⟩,hI.ts (qY e1),hN,fun H2 e2=>⟨true,O,qt (kk H2 (e1.trans e2))⟩⟩
theorem qX2{ms:List Im}(hM:MO none ms){i:Nat}{l:Int}(h:ms[i]?=some (.mix l)):1<=i/\jG ms ((i:Int)-1)="clip"/\jG ms ((i:Int)+1)="clip":=by
 obtain⟨e,_⟩:=qEk h (.mix l);obtain⟨X,n,p,q,r,s,k,n',p',q',r',s',k',Y,eA,eB⟩:=qAv hM e;have hi:=(glt h);have hl:=congrArg List.length eA;rw[List.length_take,List.length_append,List.length_singleton,Nat.min_eq_left (by omega)]at hl;have h1:ms[X.length]?=some (.clip n p q r s k):=by
  have:(ms.take i)[X.length]?=some (.clip n p q r s k):=by rw[eA];exact qD5 _ _ _
  rw[List.getElem?_take_of_lt (by omega)]at this;exact this
 have h2:ms[i+1]?=some (.clip n' p' q' r' s' k'):=by
  have:(ms.drop (i+1))[0]?=some (.clip n' p' q' r' s' k'):=by rw[eB];rfl
  rw[List.getElem?_drop,Nat.add_zero]at this;exact this
 exact⟨by omega,jw h1 (by omega),jw h2 (by omega)⟩
theorem wl:∀(i:Nat) (ms:List Im) (m:Im),jr i (ms++[m])=jr i ms++(if m.wd="mix" then [i+ms.length]else [])
 |i,[],m=>by
  by_cases h:m.wd="mix"
  . obtain⟨l,rfl⟩:=jV h
    rfl
  . rw[List.nil_append,zW h,if_neg h];rfl
 |i,x::ms,m=>by
  have ih:=wl (i+1) ms m;have e:i+1+ms.length=i+(x::ms).length:=by rw[List.length_cons];omega
  rw[e]at ih;by_cases h:x.wd="mix"
  . obtain⟨l,rfl⟩:=jV h
    rw[List.cons_append,jr,jr,ih];rfl
  . rw[List.cons_append,zW h,zW h,ih]
theorem qBz:∀{i:Nat} {ms:List Im} {p:Nat},p∈jr i ms->i<=p/\∃l,ms[p-i]?=some (.mix l)
 |_,[],_,h=>by simp[jr]at h
 |i,m::ms,p,h=>by
  by_cases hm:m.wd="mix"
  . obtain⟨l,rfl⟩:=jV hm
    rw[jr]at h;rcases List.mem_cons.mp h with rfl|h
    . exact⟨Nat.le_refl _,l,by simp⟩
    . obtain⟨h1,l',h2⟩:=qBz h
      have e:p-i=(p-(i+1))+1:=by omega
      exact⟨by omega,l',by rw[e,List.getElem?_cons_succ];exact h2⟩
  . rw[zW hm]at h
    obtain⟨h1,l',h2⟩:=qBz h;have e:p-i=(p-(i+1))+1:=by omega
    exact⟨by omega,l',by rw[e,List.getElem?_cons_succ];exact h2⟩
inductive qBq(vs:List V)(H:Hp)(Q:VK)(_:XK):Prop
|mk (z:Addr) (ms:List Im) (_:vs=[.ref z]) (_:Tr H z ms) (_:ms.length<=300) (_:xf 0 ms=ms) (_:MO none ms) (_:∀H',Same H H'->Q (.bl true) H')
theorem qB5(T:Tx K mg a):FnOk P w K mg base CX0 3 a.A30 a.B30 ["track"] qBq:=by
 refine T.D30.F.ok kG (fun vs H Q E h=>?_) (fun cdv A outer s H vs Q E hr h=>?_)
 . obtain⟨z,ms,rfl,_⟩:=h
   rfl
 refine qL fun _ Y=>?_;obtain⟨z,ms,rfl,tT,hml,hof,hmx,kk⟩:=h;apply Y;have hu:=hr.units;refine⟨_,(qC (qW (qJ (qOa hu) (qI T.D25 (qDy T) hr rfl (qA (pv 0) qB)) (pv 0) (qP _)) (qE (qM xk)) qN)
  (qC (qQ2 (i:=1) [] [] kG.nd rfl rfl rfl (qN9 rfl T.b_enumerate (qA (pv 0) qB)) (fun _ _ _ _=>(qJ ja (jU (vd (K:=K) rfl) (pv 1) qG (fun _ _=>rfl)) qR (qP _))) (fun _ _ _ _=>(pv 0)))
  (qE (qM (qU (qBa rfl) rfl T.b_all rfl (qA (kf ["track"] [0] rfl (jM (pv 1)) (fun _ _ _ _=>(xp (jL ja (qI T.D29 (jH T) hr rfl (qA (pv 1) (qA (qQ jS (pv 0) qG) qB))) qR (qP _)) (z7 (jL ja (qI T.D29 (jH T) hr rfl (qA (pv 1) (qA (qQ qr (pv 0) qG) qB))) qR (qP _)))))) qB)))))),?_⟩
 try dsimp only[jN,qd]
 refine⟨_,O,z,ms,O,tT,hml,fun y H1 e1 _ tY=>?_⟩;rw[hof]at tY;refine⟨_,O,qYi tY (tT.same e1) ⟨_,O,qt ?_⟩⟩;refine qL fun _ Y=>?_;obtain⟨xs,hz,his⟩:=tT.same e1;apply Y;have hxl:=his.len;refine⟨_,O,z,O,⟨_,SqL.of hz⟩,qMv (K:=K) (a:=z) (xs:=xs) (fun i acc H'=>Same H1 H'/\acc=(jr 0 (ms.take i)).map (fun(n:Nat)=>V.int (n:Int))/\acc.length<=i) ⟨Same.refl _,O,by simp⟩ ?_ ?_ ?_⟩
 . rintro i acc H' hi ⟨e,rfl,hal⟩
   exact⟨SqL.of (e _ _ hz),qc (by omega)⟩
 . rintro i x acc H' p hi hx ⟨e,rfl,hal⟩ hp
   refine qL fun _ Y=>?_;obtain⟨m,hm,hIx⟩:=his.get hx;have w1:=qF hp (.tup [.int (i:Int),x]);have hI:=hIx.ts (qY (e.trans w1));obtain⟨zi,xi,rfl,hzi,h0,h1⟩:=hI.opn;apply Y;have htk:ms.take (i+1)=ms.take i++[m]:=by rw[List.take_add_one,hm];rfl
   have hlt:(ms.take i).length=i:=by rw[List.length_take];omega
   refine⟨_,O,zi,xi,_,_,O,O,SqT.of hzi,h0,O,_,O,jo (fun c=>?_) (fun c=>?_)⟩
   . have hw:m.wd="mix":=by simpa using c
     refine⟨_,O,Nxt.mk hi ⟨e.trans w1,?_,by simp at hal⊢;omega⟩⟩;rw[htk,wl,if_pos hw,hlt,List.map_append,Nat.zero_add];rfl
   . have hw:¬m.wd="mix":=by simpa using c
     refine Nxt.mk hi ⟨e.trans w1,?_,by omega⟩;rw[htk,wl,if_neg hw,List.append_nil]
 rintro acc H2 ⟨e2,rfl,hal⟩ pl hpl;rw[hxl,List.take_length]at*;have w3:=qF hpl (.lst ((jr 0 ms).map fun(n:Nat)=>V.int (n:Int)));have hP:(upd H2 pl (.lst ((jr 0 ms).map fun(n:Nat)=>V.int (n:Int)))) pl=some (.lst ((jr 0 ms).map fun(n:Nat)=>V.int (n:Int))):=qD;have e3:=e2.trans w3;generalize upd H2 pl (.lst ((jr 0 ms).map fun(n:Nat)=>V.int (n:Int)))=H3 at hP e3⊢;have tr3:Tr H3 z ms:=⟨xs,e3 _ _ hz,his.ts (qY e3)⟩;have hpln:(jr 0 ms).length<=300:=by simp at hal;omega
 refine⟨_,O,pl,O,⟨_,SqL.of hP⟩,zB (K:=K) (a:=pl) (xs:=(jr 0 ms).map fun(n:Nat)=>V.int (n:Int)) (fun i acc H'=>H'=H3/\acc=(List.replicate i true).map V.bl) ⟨O,O⟩ ?_ ?_ ?_⟩
 . rintro i acc H' hi ⟨rfl,rfl⟩
   exact⟨SqL.of hP,qc (by simp at hi⊢;omega)⟩
 . rintro i x acc H' hi hx ⟨rfl,rfl⟩
   refine qL fun _ Y=>?_;obtain⟨n,hn,rfl⟩:∃n:Nat,(jr 0 ms)[i]?=some n/\x=.int (n:Int):=by
    rw[List.getElem?_map]at hx;cases e:(jr 0 ms)[i]? with
    |none=>rw[e]at hx;cases hx
    |some m=>rw[e]at hx;exact⟨m,rfl,(Option.some.inj hx).symm⟩
   obtain⟨_,l,hl⟩:=qBz (List.mem_of_getElem? hn);rw[Nat.sub_zero]at hl;obtain⟨n1,k1,k2⟩:=qX2 hmx hl;apply Y;refine⟨_,O,_,O,_,_,O,O,z,ms,_,O,tr3,?_⟩;rw[k1];refine⟨O,true,(by decide+kernel),jl ?_⟩;refine⟨_,O,_,O,_,_,O,O,z,ms,_,O,tr3,?_⟩;rw[k2];refine⟨O,Nxt.mk hi ⟨O,?_⟩⟩;rw[List.replicate_succ',List.map_append];have e:decide (V.str "clip"=V.str "clip")=true:=by simp
   rw[e];rfl
 . rintro acc H' ⟨rfl,rfl⟩ d hd
   refine⟨d,_,O,SqL.of qD,?_⟩;have eall:(List.replicate ((jr 0 ms).map fun(n:Nat)=>V.int (n:Int)).length true).all id=true:=by simp
   rw[eall];exact kk _ ((e1.trans e3).trans (qF hd _))
theorem qQb{R:Im->Int->Im->Prop}{n n':Str}{p q r s k l p' q' r' s' k':Int}{B:List Im}:∀{U:List Im} {tb:Int} {o:Option Im},FS R tb o (U++ .clip n p q r s k:: .mix l:: .clip n' p' q' r' s' k'::B)->tbL tb U+l.fdiv 2<=k/\(l-l.fdiv 2)+tkE B<=k'/\R (.clip n p q r s k) l (.clip n' p' q' r' s' k')
 |[],tb,o,h=>⟨h.1,h.2.2.1,h.2.1 _ _ rfl rfl⟩
 |u::U,tb,o,h=>by
  rw[qMk];by_cases hm:u.wd="mix"
  . obtain⟨y,rfl⟩:=jV hm
    exact qQb h.2
  . rw[List.cons_append]at h
    have:=qQb ((qj hm).mp h).2;cases u with
    |mix y=>exact absurd rfl hm
    |_=>exact this
theorem qTu{a b l:Int}(h1:l.fdiv 2<=a)(h2:l-l.fdiv 2<=b):l<=mmV a b:=by
 have f:=qo (p:=l) (q:=2) (by decide);unfold mmV qUz;split
 . split <;> omega
 . split <;> omega
theorem qQc{a b x:Int}(h1:x<=a)(h2:x<=b):x<=qT9 a b:=by unfold qT9;split <;> omega
theorem qLg:∀{ms:List Im} {b:Int} {x:Int×Int×Int},x∈qq b ms->∃A l B,ms=A++ .mix l::B/\x=(b+qp A-l.fdiv 2,b+qp A,b+qp A+(l-l.fdiv 2))
 |[],b,x,h=>by cases h
 |m::ms,b,x,h=>by
  by_cases hm:m.wd="mix"
  . obtain⟨l,rfl⟩:=jV hm
    rw[qq]at h;rcases List.mem_cons.mp h with h|h
    . exact⟨[],l,ms,O,by rw[h,jF,Int.add_zero]⟩
    . obtain⟨A,k,B,e1,e2⟩:=qLg h
      refine⟨.mix l::A,k,B,by rw[e1];rfl,?_⟩;rw[e2,qS];have e:(Im.mix l).mo=0:=rfl;rw[e,Int.zero_add]
  . rw[qv hm]at h
    obtain⟨A,k,B,e1,e2⟩:=qLg h;refine⟨m::A,k,B,by rw[e1];rfl,?_⟩;rw[e2,qS,Int.add_assoc]
theorem qPn:∀(xs:List Im) (b:Int) (i0:Nat) (m:Im) (ys:List Im),Nn xs->0<m.mo->zU b i0 (xs++m::ys) (b+qp xs)=some (i0+xs.length,0)
 |[],b,i0,m,ys,_,h=>by rw[List.nil_append,zU,jF,if_pos (by omega)];simp
 |x::xs,b,i0,m,ys,hn,h=>by have h0:=hn x (by simp);have h1:=Nn.len hn.tail;rw[List.cons_append,zU,qS,if_neg (by omega),show b+(x.mo+qp xs)=b+x.mo+qp xs by omega,qPn xs (b+x.mo) (i0+1) m ys hn.tail h,List.length_cons];congr 2;omega
theorem qWp{A M:Int}{c:Nat}{ms:List Im}(h:GT A M c ms){x:Int×Int×Int}(hx:x∈qq 0 ms):∃M',mmF (rlE A) ms x.2.1=some M'/\x.2.2-x.1<=M':=by
 obtain⟨U,l,B,e,ex⟩:=qLg hx;obtain⟨X,n,p,q,r,s,k,n',p',q',r',s',k',Y,rfl,rfl⟩:=qAv h.gd.mo e;have e':ms=X++ .clip n p q r s k:: .mix l:: .clip n' p' q' r' s' k'::Y:=by rw[e];simp
 have hF:=h.gd.fs;rw[e']at hF;obtain⟨f1,f2,f3⟩:=qQb hF;obtain⟨N,N',r1,r2,r3,r4⟩:=f3 _ _ _ _ _ _ _ _ _ _ _ _ rfl rfl;have w:=h.wf;have m0:ms[X.length]?=some (.clip n p q r s k):=by rw[e'];exact qD5 _ _ _
 have m1:ms[X.length+1]?=some (.mix l):=by have:=qD5 (X++[.clip n p q r s k]) (.mix l) (.clip n' p' q' r' s' k'::Y);rw[List.length_append,List.length_singleton]at this;rw[e',show X++ .clip n p q r s k:: .mix l:: .clip n' p' q' r' s' k'::Y=(X++[.clip n p q r s k])++ .mix l:: .clip n' p' q' r' s' k'::Y by simp];exact this
 have m2:ms[X.length+2]?=some (.clip n' p' q' r' s' k'):=by have:=qD5 (X++[.clip n p q r s k,.mix l]) (.clip n' p' q' r' s' k') Y;rw[List.length_append]at this;rw[e',show X++ .clip n p q r s k:: .mix l:: .clip n' p' q' r' s' k'::Y=(X++[.clip n p q r s k,.mix l])++ .clip n' p' q' r' s' k'::Y by simp];exact this
 have k1:1<=k':=(w _ (List.mem_of_getElem? m2)).2.2.2;have et:x.2.1=qp X+k:=by rw[ex,jB,qS,jF];show 0+(qp X+(k+0))=_;omega
 have hit:zU 0 0 ms (qp X+k)=some (X.length+2,0):=by
  have:=qPn (X++[.clip n p q r s k,.mix l]) 0 0 (.clip n' p' q' r' s' k') Y (fun m hm=>(w m (by
   rw[e'];rcases List.mem_append.mp hm with z|z
   . exact List.mem_append_left _ z
   . refine List.mem_append_right _ ?_
     rcases List.mem_cons.mp z with z|z
     . rw[z];simp
     . rw[List.mem_singleton]at z;rw[z];simp)).mo) (by show 0<k';omega)
  rw[jB,qS,qS,jF,List.length_append]at this;have e0:(Im.mix l).mo=0:=rfl;have e1:(Im.clip n p q r s k).mo=k:=rfl;rw[e0,e1,Int.zero_add,Int.add_zero,Int.add_zero,Nat.zero_add]at this;rw[e',show X++ .clip n p q r s k:: .mix l:: .clip n' p' q' r' s' k'::Y=(X++[.clip n p q r s k,.mix l])++ .clip n' p' q' r' s' k'::Y by simp];exact this
 have hcb:cbF ms (qp X+k)=some (((X.length:Nat):Int),((X.length+2:Nat):Int)):=by unfold cbF nbF;rw[hit];dsimp only;rw[if_neg (by omega),jw m1 (by omega),if_pos (show (Im.mix l).wd="mix" from rfl)];dsimp only;rw[show ((X.length+2:Nat):Int)-2=(X.length:Int) by omega,jw m0 rfl,jw m2 rfl,if_pos ⟨rfl,rfl⟩]
 have c0:jb ms ((X.length:Nat):Int)=.clip n p q r s k:=by unfold jb;rw[Int.toNat_natCast,m0];rfl
 have c2:jb ms ((X.length+2:Nat):Int)=.clip n' p' q' r' s' k':=by unfold jb;rw[Int.toNat_natCast,m2];rfl
 rw[et];unfold mmF;rw[hcb];dsimp only;rw[c0,c2];dsimp only;rw[r1,r2];refine⟨_,O,?_⟩;rw[Int.toNat_natCast,Int.toNat_natCast];have t1:tbF ms X.length=tbL 0 X:=by rw[<-qLw (by have:=(glt m0);omega)];congr 1;rw[e',List.take_left'];rfl
 have t2:teF ms (X.length+2)=tkE Y:=by rw[<-qLq];congr 1;rw[e',show X++ .clip n p q r s k:: .mix l:: .clip n' p' q' r' s' k'::Y=(X++[.clip n p q r s k,.mix l,.clip n' p' q' r' s' k'])++Y by simp,List.drop_left'];simp
 have hl:x.2.2-x.1=l:=by rw[ex];dsimp only;omega
 rw[hl,t1,t2];exact qTu (qQc (by omega) r3) (qQc (by omega) r4)
inductive qLd(N:Addr)(vs:List V)(H:Hp)(Q:VK)(_:XK):Prop
|mk (z rd:Addr) (ms:List Im) (t M:Int) (rl:Rls) (_:vs=[.ref z,.int t,.ref rd]) (_:Tr H z ms) (_:(∀m∈ms,ItR rl m)) (_:ReelsAt H rd rl) (_:mmF rl ms t=some M) (_:∀H',Same H H'->Q (.int M) H')
theorem qJ5(T:Tx K mg a):FnOk P w K mg base CX0 6 a.A43 a.B43 ["track","moment","reels"] (qLd a.k_NoPlace):=
 (qV6 (v6 T)).imp fun vs H Q E h=>by refine qL fun _ Y=>?_;obtain⟨z,rd,ms,t,M,rl,rfl,h1,h2,h3,h4,kk⟩:=h;apply Y;exact⟨z,rd,ms,t,rl,rfl,h1,h2,h3,(fun q=>by rw[h4]at q;cases q),fun M' q=>by rw[h4]at q;cases q;exact kk⟩
inductive qJx(vs:List V)(H:Hp)(Q:VK)(_:XK):Prop
|mk (z rd:Addr) (ms:List Im) (A M:Int) (_:vs=[.ref z,.ref rd]) (_:Tr H z ms) (_:GT A M 100 ms) (_:M<=100000) (_:RE H rd A) (_:∀H',Same H H'->Q (.bl true) H')
theorem qJa(T:Tx K mg a):FnOk P w K mg base CX0 8 a.A44 a.B44 ["track","reels"] qJx:=by
 refine T.D44.F.ok qJu (fun vs H Q E h=>?_) (fun cdv A outer s H vs Q E hr h=>?_)
 . obtain⟨z,rd,ms,A',M,rfl,_⟩:=h
   rfl
 refine qL fun _ Y=>?_;obtain⟨z,rd,ms,A',M,rfl,tT,hG,hM,hre,kk⟩:=h;apply Y;have hml:ms.length<=300:=by have:=hG.ct;omega
 refine⟨_,(qE (qM (qU (qBa rfl) rfl T.b_all rfl (qA (kf ["track","reels"] [0,1] rfl (jM (qI T.D40 (qCh T) hr rfl (qA (pv 0) qB))) (fun _ _ _ _=>(jL qNa (qQ jS (jU (vd (K:=K) rfl) (pv 0) qG (fun _ _=>rfl)) (jU (vd (K:=K) rfl) (pv 0) qG (fun _ _=>rfl))) (qI T.D43 (qJ5 T) hr rfl (qA (pv 1) (qA (jU (vd (K:=K) rfl) (pv 0) qG (fun _ _=>rfl)) (qA (pv 2) qB)))) (qP _)))) qB)))),?_⟩
 try dsimp only[jN,qd]
 refine⟨_,O,z,ms,O,tT,hml,fun sp us H1 e1 _ hsp hus=>?_⟩;have hul:=hus.len;have hsl:=qEa 0 ms;refine⟨sp,O,⟨_,SqL.of hsp⟩,zB (K:=K) (a:=sp) (xs:=us) (fun i acc H'=>Same H1 H'/\acc=(List.replicate i true).map V.bl) ⟨Same.refl _,O⟩ ?_ ?_ ?_⟩
 . rintro i acc H' hi ⟨e,rfl⟩
   exact⟨SqL.of (e _ _ hsp),qc (by simp;omega)⟩
 . rintro i x acc H' hi hx ⟨e,rfl⟩
   refine qL fun _ Y=>?_;obtain⟨x0,y0,z0,q,hs,rfl,hq⟩:=hus.get hx;obtain⟨M',hM',hle⟩:=qWp hG (List.mem_of_getElem? hs);apply Y;have hq':=e _ _ hq;have a0:atI [V.int x0,.int y0,.int z0] 0=some (.int x0):=rfl;have a1:atI [V.int x0,.int y0,.int z0] 1=some (.int y0):=rfl;have a2:atI [V.int x0,.int y0,.int z0] 2=some (.int z0):=rfl;have e01:=e1.trans e;refine(ixO hq' a2 (ixO hq' a0 ⟨_,_,O,O,?_⟩));refine⟨_,rfl,ixO hq' a1 ⟨_,rfl,z,rd,ms,_,M',rlE A',rfl,tT.same e01,(fun m hm=>(hG.it m hm).it (by have:=qJq hG.nn m hm;have:=hG.le;omega)),(hre.same e01).at,hM',fun H2 e2=>?_⟩⟩;refine⟨_,_,O,O,Nxt.mk hi ⟨e.trans e2,?_⟩⟩;have ed:decide (z0-x0<=M')=true:=decide_eq_true hle
   try dsimp only
   rw[ed,List.replicate_succ',List.map_append];rfl
 . rintro acc H' ⟨e,rfl⟩ d hd
   refine⟨d,_,O,SqL.of qD,?_⟩;have eall:(List.replicate us.length true).all id=true:=by simp
   rw[eall];exact kk _ ((e1.trans e).trans (qF hd _))
inductive qFj(vs:List V)(H:Hp)(Q:VK)(_:XK):Prop
|mk (z rz re td:Addr) (ms:List Im) (A M:Int) (_:vs=[.ref z,.ref rz]) (_:Tr H z ms) (_:RoomC H rz re td A) (_:GT A M 100 ms) (_:M<=100000) (_:∀H',Same H H'->Q .non H')
theorem qE7(T:Tx K mg a):FnOk P w K mg base CX0 9 a.A78 a.B78 ["track","room"] qFj:=by
 refine T.D78.F.ok wT (fun vs H Q E h=>?_) (fun cdv A outer s H vs Q E hr h=>?_)
 . obtain⟨z,rz,re,td,ms,A',M,rfl,_⟩:=h
   rfl
 refine qL fun _ Y=>?_;obtain⟨z,rz,re,td,ms,A',M,rfl,tT,hC,hG,hM,kk⟩:=h;apply Y;have hl:ms.length<=300:=by have:=hG.ct;omega
 refine⟨_,(qC (qW (q8 (qg (qU qi rfl T.b_isinstance rfl (qA (pv 0) (qA (zw rfl T.b_list rfl) qB))))) qk qN)
  (qC (j6 PassesOwn.never rfl (jM (pv 0)) (jA (i:=2) wT.nd rfl (Or.inl rfl)) (qE (q9 (qI T.D77 (qG0 T) hr rfl (qA (pv 2) (qA (pv 1) qB))))))
  (qC (qW (q8 (qg (qI T.D30 (qB5 T) hr rfl (qA (pv 0) qB)))) qk qN)
  (qE (qW (q8 (qg (qI T.D44 (qJa T) hr rfl (qA (pv 0) (qA (qK (pv 1)) qB))))) qk qN))))),?_⟩
 try dsimp only[jN,qd]
 refine qL fun _ Y=>?_;obtain⟨vs,hz,his⟩:=id tT;apply Y;refine⟨_,O,_,_,_,true,O,.lst hz,⟨_,.inl ⟨O,by kernel_rfl⟩⟩,true,O,qt ?_⟩;refine⟨_,O,z,O,⟨_,SqL.of hz⟩,jn (K:=K) (a:=z) (xs:=vs) (fun i σ H'=> ∃o:Option V,σ=[some (.ref z),some (.ref rz),o]/\Same H H') ⟨none,O,Same.refl _⟩ ?_ ?_ ?_⟩
 . rintro i σ H' hi ⟨o,rfl,e⟩
   exact SqL.of (e _ _ hz)
 . rintro i x σ H' hx ⟨o,rfl,e⟩
   refine qL fun _ Y=>?_;obtain⟨m,hm,hI⟩:=his.get hx;apply Y;have hm':=List.mem_of_getElem? hm;exact⟨_,rfl,_,rfl,x,m,rz,re,td,A',rfl,hI.ts (qY e),hC.same e,hG.it m hm',by have:=qJq hG.nn m hm';have:=hG.le;omega,fun H2 e2=>⟨_,rfl,e.trans e2⟩⟩
 . rintro σ H1 ⟨o,rfl,e1⟩
   refine⟨_,O,z,ms,O,tT.same e1,hl,OS.one.1 hG.gd.os,hG.gd.mo,fun H2 e2=>⟨true,O,qt ?_⟩⟩;have e12:=e1.trans e2;refine⟨_,O,zS rfl (SqT.of (hC.same e12).z) at0 ⟨z,re,ms,A',M,O,tT.same e12,hG,hM,(hC.same e12).r,fun H3 e3=>⟨true,O,qt ?_⟩⟩⟩;exact kk H3 (e12.trans e3)
def qCo(n:Int):Int->List Int->Prop
 |_,[]=>True
 |l,x::r=>l<=x/\x<n/\qCo n (x+1) r
inductive qMx(vs:List V)(H:Hp)(Q:VK)(_:XK):Prop
|mk (z:Addr) (tie:List Int) (n:Int) (_:vs=[.ref z,.int n]) (_:H z=some (.lst (tie.map V.int))) (_:qCo n 0 tie) (_:Q (.bl true) H)
theorem qNl(T:Tx K mg a):FnOk P w K mg base CX0 2 a.A79 a.B79 ["tied","many"] qMx:=by
 refine T.D79.F.ok wE (fun vs H Q E h=>?_) (fun cdv A outer s H vs Q E hr h=>?_)
 . obtain⟨z,tie,n,rfl,_⟩:=h
   rfl
 refine qL fun _ Y=>?_;obtain⟨z,tie,n,rfl,hz,ht,kk⟩:=h;apply Y;refine⟨_,(qC (qW (q8 (qg (qU qi rfl T.b_isinstance rfl (qA (pv 0) (qA (zw rfl T.b_list rfl) qB))))) (qE (qM xk)) qN)
  (qC (qZ 2 wE.nd qG)
  (qC (j6 PassesOwn.never rfl (jM (pv 0)) (jA (i:=3) wE.nd rfl (Or.inl rfl)) (qC (qW (PW.pt (jd (q8 (qg (qI T.D0 (jC T) hr rfl (qA (pv 3) qB)))) (jd (qJ zy (pv 3) (pv 2) (qP _)) (jK (qJ qCr (pv 3) (pv 1) (qP _)))))) (qE (qM xk)) qN)
  (qE (qZ 2 wE.nd (qQ qr (pv 3) qG)))))
  (qE (qM xk))))),?_⟩
 try dsimp only[jN,qd]
 refine⟨_,O,_,_,_,true,O,.lst hz,⟨_,.inl ⟨O,by kernel_rfl⟩⟩,true,O,qt ?_⟩;refine⟨_,O,z,O,⟨_,SqL.of hz⟩,jn (K:=K) (a:=z) (xs:=tie.map V.int) (fun i σ H'=>H'=H/\∃(l:Int) (o:Option V),σ=[some (.ref z),some (.int n),some (.int l),o]/\qCo n l (tie.drop i)) ⟨O,0,none,O,ht⟩ ?_ ?_ ?_⟩
 . rintro i σ H' hi ⟨rfl,_⟩
   exact SqL.of hz
 . rintro i x σ H' hx ⟨rfl,l,o,rfl,hti⟩
   refine qL fun _ Y=>?_;obtain⟨m,hm,rfl⟩:∃m:Int,tie[i]?=some m/\x=.int m:=by
    rw[List.getElem?_map]at hx;cases e:tie[i]? with
    |none=>rw[e]at hx;cases hx
    |some m=>rw[e]at hx;exact⟨m,rfl,(Option.some.inj hx).symm⟩
   rw[zF hm]at hti;obtain⟨q1,q2,q3⟩:=hti;apply Y;refine⟨_,O,m,O,true,O,qt ?_⟩;refine⟨_,O,_,O,_,_,O,O,_,O,jo (fun c=>absurd c (by simp;omega)) (fun _=>?_)⟩;refine⟨_,O,_,O,_,_,O,O,_,O,jo (fun c=>absurd c (by simp;omega)) (fun _=>?_)⟩;exact⟨_,O,_,_,O,O,O,_,_,O,q3⟩
 . rintro σ H' ⟨rfl,l,o,rfl,_⟩
   exact kk
inductive qE8(vs:List V)(H:Hp)(Q:VK)(_:XK):Prop
|mk (v:V) (rz re td:Addr) (ts:List (List Im)) (tie:List Int) (A M:Int) (_:vs=[v,.ref rz]) (_:TabF H v ts tie) (_:RoomC H rz re td A) (_:1<=ts.length) (_:ts.length<=8) (_:(∀ms∈ts,GT A M 100 ms)) (_:M<=100000) (_:qCo ts.length 0 tie) (_:∀H',Same H H'->Q .non H')
theorem qFc(T:Tx K mg a):FnOk P w K mg base CX0 10 a.A80 a.B80 ["table","room"] qE8:=by
 refine T.D80.F.ok wV (fun vs H Q E h=>?_) (fun cdv A outer s H vs Q E hr h=>?_)
 . obtain⟨v,rz,re,td,ts,tie,A',M,rfl,_⟩:=h
   rfl
 refine qL fun _ Y=>?_;obtain⟨v,rz,re,td,ts,tie,A',M,rfl,⟨tt,tl,ti,zs,rfl,h2,h3,h4,h5⟩,hC,l1,l8,hgt,hM,htie,kk⟩:=h;apply Y;refine⟨_,(qC (qW (PW.pt (jd (q8 (qg (qU qi rfl T.b_isinstance rfl (qA (pv 0) (qA (zw rfl T.b_tuple rfl) qB))))) (jd (qJ zD (qU qh rfl T.b_len rfl (qA (pv 0) qB)) qG (qP _)) (jK (q8 (qg (qU qi rfl T.b_isinstance rfl (qA (qK (pv 0)) (qA (zw rfl T.b_list rfl) qB))))))))) qk qN)
  (qC (qW (PW.pt (jd (qJ zy (qU qh rfl T.b_len rfl (qA (qK (pv 0)) qB)) qG (qP _)) (jK (qJ wL (qU qh rfl T.b_len rfl (qA (qK (pv 0)) qB)) (jq (v:=.int 8) rfl T.g_MOST_TRACKS ⟨_,rfl⟩) (qP _))))) qk qN)
  (qC (j6 PassesOwn.never rfl (jM (qK (pv 0))) (jA (i:=2) wV.nd rfl (Or.inl rfl)) (qE (q9 (qI T.D78 (qE7 T) hr rfl (qA (pv 2) (qA (pv 1) qB))))))
  (qE (qW (q8 (qg (qI T.D79 (qNl T) hr rfl (qA (qK (pv 0)) (qA (qU qh rfl T.b_len rfl (qA (qK (pv 0)) qB)) qB))))) qk qN))))),?_⟩
 try dsimp only[jN,qd]
 have hzl:=h4.len;refine⟨_,O,_,_,_,true,O,.tup h2,⟨_,.inl ⟨O,by kernel_rfl⟩⟩,true,O,qt ?_⟩;refine⟨_,O,_,_,O,.inr (SqT.of h2),O,_,O,qt ?_⟩;refine(ixO h2 at0 ⟨_,_,_,true,O,.lst h3,⟨_,.inl ⟨O,by kernel_rfl⟩⟩,true,O,qt ?_⟩);refine(ixO h2 at0 ⟨tl,_,O,.inl (SqL.of h3),_,_,O,O,_,O,jo (fun c=>absurd c (by simp;omega)) (fun _=>?_)⟩);refine(ixO h2 at0 ⟨tl,_,O,.inl (SqL.of h3),_,_,O,O,_,O,jo (fun c=>absurd c (by simp;omega)) (fun _=>?_)⟩);refine(ixO h2 at0 ⟨tl,O,⟨_,SqL.of h3⟩,jn (K:=K) (a:=tl) (xs:=zs) (fun i σ H'=> ∃o:Option V,σ=[some (.ref tt),some (.ref rz),o]/\Same H H') ⟨none,O,Same.refl _⟩ ?_ ?_ ?_⟩)
 . rintro i σ H' hi ⟨o,rfl,e⟩
   exact SqL.of (e _ _ h3)
 . rintro i x σ H' hx ⟨o,rfl,e⟩
   refine qL fun _ Y=>?_;obtain⟨ms,z,hms,rfl,hT⟩:=h4.get hx;apply Y;exact⟨_,O,_,O,z,rz,re,td,ms,A',M,O,hT.same e,hC.same e,hgt ms (List.mem_of_getElem? hms),hM,fun H2 e2=>⟨_,O,e.trans e2⟩⟩
 . rintro σ H1 ⟨o,rfl,e⟩
   refine(ixO (e _ _ h2) at1 (ixO (e _ _ h2) at0 ⟨tl,_,O,.inl (SqL.of (e _ _ h3)),ti,tie,_,O,e _ _ h5,?_,true,O,qt (kk H1 e)⟩));rw[hzl];exact htie
def NsP(p:Str->Prop)(ts:List (List Im)):Prop:=ts.length<=8/\∀ms∈ts,ms.length<=100/\∀n b l,Im.nest n b l∈ms->p n
theorem qUu{m:Im}(h:m.wd="nest"):∃n b l,m=.nest n b l:=qLc h
inductive qIa(vs:List V)(H:Hp)(Q:VK)(_:XK):Prop
|mk (v:V) (ts:List (List Im)) (tie:List Int) (p:Str->Prop) (_:vs=[v]) (_:TabF H v ts tie) (_:NsP p ts) (_:∀(y:Addr) (ns:List Str) (H':Hp),Same H H'->H' y=some (.lst (ns.map V.str))->ns.length<=800->(∀n∈ns,p n)->Q (.ref y) H')
theorem qJz(T:Tx K mg a):FnOk P w K mg base CX0 1 a.A81 a.B81 ["table"] qIa:=by
 refine T.D81.F.ok vo (fun vs H Q E h=>?_) (fun cdv A outer s H vs Q E hr h=>?_)
 . obtain⟨v,ts,tie,p,rfl,_⟩:=h
   rfl
 refine qL fun _ Y=>?_;obtain⟨v,ts,tie,p,rfl,⟨tt,tl,ti,zs,rfl,h2,h3,hT,_⟩,⟨hs1,hs2⟩,kk⟩:=h;apply Y;have hzl:=hT.len;refine⟨_,(qC (qZ 1 vo.nd (jR qB))
  (qC (j6 PassesOwn.never rfl (jM (qK (pv 0))) (jA (i:=2) vo.nd rfl (Or.inl rfl)) (qE (q9 (qCn F.plainAttrs_list F.slot_list_extend F.type_list_extend qPl (pv 1) (qA (qHr [] [] rfl (jM (pv 2)) (fun _ _ _ _=>(qJ ja (jU (vd (K:=K) rfl) (pv 0) qG (fun _ _=>rfl)) qR (qP _))) (fun _ _ _ _=>(jU (vd (K:=K) rfl) (pv 0) qG (fun _ _=>rfl)))) qB)))))
  (qE (qM (pv 1))))),?_⟩
 try dsimp only[jN,qd]
 refine⟨sL0,fun y hy=>?_⟩;have w0:=qF hy (.lst []);refine(ixO (w0 _ _ h2) at0 ⟨tl,O,⟨_,SqL.of (w0 _ _ h3)⟩,jn (K:=K) (a:=tl) (xs:=zs) (fun i σ H'=> ∃(o:Option V) (ns:List Str),σ=[some (.ref tt),some (.ref y),o]/\H' y=some (.lst (ns.map V.str))/\Same H H'/\ns.length<=100*i/\∀n∈ns,p n) ⟨none,[],O,qD,w0,Nat.zero_le _,by simp⟩ ?_ ?_ ?_⟩)
 . rintro i σ H' hi ⟨o,ns,rfl,_,e,_⟩
   exact SqL.of (e _ _ h3)
 . rintro i x σ H' hx ⟨o,ns,rfl,hyv,e,hnl,hp⟩
   have hi:=(glt hx);refine qL fun _ Y=>?_;obtain⟨ms,z,hms,rfl,us,hz,his⟩:=hT.get hx;have hul:=his.len;obtain⟨hm1,hm2⟩:=hs2 ms (List.mem_of_getElem? hms);apply Y;refine⟨_,O,.inl ⟨O,_,SqL.of hyv⟩,_,O,z,O,⟨_,SqL.of (e _ _ hz)⟩,qBv (K:=K) (a:=z) (xs:=us) (fun j acc H''=>H''=H'/\∃ks:List Str,acc=ks.map V.str/\ks.length<=j/\∀n∈ks,p n) ⟨O,[],O,Nat.zero_le _,by simp⟩ ?_ ?_ ?_⟩
   . rintro j acc H'' hj ⟨rfl,ks,rfl,hal,_⟩
     exact⟨SqL.of (e _ _ hz),qc (by rw[List.length_map];omega)⟩
   . rintro j v acc H'' hj hv ⟨rfl,ks,rfl,hal,hk⟩
     refine qL fun _ Y=>?_;obtain⟨m,hm,hI⟩:=his.get hv;have hI':=hI.ts (qY e);obtain⟨zi,xi,rfl,hzi,h0,h1⟩:=hI'.opn;apply Y;refine⟨_,O,zi,xi,_,_,O,O,SqT.of hzi,h0,O,_,O,jo (fun c=>?_) (fun c=>Nxt.mk hj ⟨O,ks,O,by omega,hk⟩)⟩;refine qL fun _ Y=>?_;obtain⟨n,b,l,rfl⟩:=qUu (by simpa using c);obtain⟨z2,e2,hz2⟩:=id hI';cases e2;apply Y;refine(ixO hz2 qFt (Nxt.mk hj ⟨O,ks++[n],by rw[List.map_append];rfl,by rw[List.length_append,List.length_singleton];omega,fun x hx=>?_⟩));rcases List.mem_append.mp hx with hx|hx
     . exact hk x hx
     . rw[List.mem_singleton]at hx;subst hx;exact hm2 _ _ _ (List.mem_of_getElem? hm)
   . rintro acc H'' ⟨rfl,ks,rfl,hal,hk⟩ d hd
     have w1:=qF hd (.lst (ks.map V.str));refine⟨y,d,_,_,O,O,w1 _ _ hyv,qD,?_,_,ns++ks,O,?_,ju (e.trans w1) hy,?_,fun x hx=>?_⟩
     . rw[List.length_map,List.length_map]
       exact Nat.le_of_lt (qc (by omega))
     . rw[qD,List.map_append]
     . rw[List.length_append];omega
     . rcases List.mem_append.mp hx with hx|hx
       . exact hp x hx
       . exact hk x hx
 . rintro σ H' ⟨o,ns,rfl,hyv,e,hnl,hp⟩
   exact⟨_,O,kk y ns H' e hyv (by omega) hp⟩
inductive qHe(vs:List V)(H:Hp)(Q:VK)(_:XK):Prop
|mk (v:V) (lo:Addr) (ts:List (List Im)) (tie:List Int) (p:Str->Prop) (kv:List (Key×V)) (_:vs=[v,.ref lo]) (_:TabF H v ts tie) (_:NsP p ts) (_:H lo=some (.dK kv)) (_:∀(b:Bool) (H':Hp),Same H H'->((∀n,p n->(qBg kv (Sum.inr n)).isSome=true)->b=true)->Q (.bl b) H')
theorem qG3(T:Tx K mg a):FnOk P w K mg base CX0 3 a.A82 a.B82 ["table","lower"] qHe:=by
 refine T.D82.F.ok qGk (fun vs H Q E h=>?_) (fun cdv A outer s H vs Q E hr h=>?_)
 . obtain⟨v,lo,ts,tie,p,kv,rfl,_⟩:=h
   rfl
 refine qL fun _ Y=>?_;obtain⟨v,lo,ts,tie,p,kv,rfl,hT,hs,hlo,kk⟩:=h;apply Y;have hu1:=qKp hr;refine⟨_,(qE (qM (qU (qBa rfl) rfl T.b_all rfl (qA (kf ["lower"] [1] rfl (jM (qI T.D81 (qJz T) hr rfl (qA (pv 0) qB))) (fun _ _ _ _=>(qSr (qVj hu1 (pv 0) (pv 1))))) qB)))),?_⟩
 try dsimp only[jN,qd]
 refine⟨_,O,v,ts,tie,p,O,hT,hs,fun y ns H1 e1 hy hnl hp=>?_⟩;refine⟨y,O,⟨_,SqL.of hy⟩,zB (K:=K) (a:=y) (xs:=ns.map V.str) (fun i acc H'=>H'=H1/\acc=((ns.take i).map fun n=>(qBg kv (Sum.inr n)).isSome).map V.bl) ⟨O,O⟩ ?_ ?_ ?_⟩
 . rintro i acc H' hi ⟨rfl,rfl⟩
   exact⟨SqL.of hy,qc (by rw[List.length_map,List.length_map,List.length_take];omega)⟩
 . rintro i x acc H' hi hx ⟨rfl,rfl⟩
   refine qL fun _ Y=>?_;obtain⟨n,hn,rfl⟩:∃n,ns[i]?=some n/\x=.str n:=by
    rw[List.getElem?_map]at hx;cases e:ns[i]? with
    |none=>rw[e]at hx;cases hx
    |some m=>rw[e]at hx;exact⟨m,rfl,(Option.some.inj hx).symm⟩
   apply Y;refine⟨_,O,_,O,lo,_,O,.inl ⟨_,Sum.inr n,.inl (e1 _ _ hlo),O,O⟩,Nxt.mk hi ⟨O,?_⟩⟩;rw[List.take_add_one,hn,List.map_append,List.map_append];rfl
 . rintro acc H' ⟨rfl,rfl⟩ d hd
   refine⟨d,_,O,SqL.of qD,kk _ _ (e1.trans (qF hd _)) fun h=>?_⟩;rw[List.all_map,List.all_eq_true];exact fun n hn=>h n (hp n (List.mem_of_mem_take hn))
def FL(H H':Hp):Prop:= ∀b u,H b=some u->H' b=some u\/∃kvs o,u=.dK kvs/\H' b=some (.frz o (.dK kvs))
theorem FL.refl(H:Hp):FL H H:=fun _ _ h=>.inl h
theorem vj{H H':Hp}(e:Same H H'):FL H H':=fun b u h=>.inl (e b u h)
theorem FL.trans{H H1 H2:Hp}(a:FL H H1)(b:FL H1 H2):FL H H2:=fun c u h=>by
 rcases a c u h with h1|⟨kvs,o,rfl,h1⟩
 . exact b c u h1
 . rcases b c _ h1 with h2|⟨kvs',o',q,_⟩
   . exact .inr ⟨kvs,o,O,h2⟩
   . cases q
theorem FL.lst{H H':Hp}{b:Addr}{xs:List V}(e:FL H H')(h:H b=some (.lst xs)):H' b=some (.lst xs):=by
 rcases e b _ h with q|⟨_,_,q,_⟩
 . exact q
 . cases q
theorem FL.ts{H H':Hp}(e:FL H H'):TS H H':=fun b xs h=>by
 rcases e b _ h with q|⟨_,_,q,_⟩
 . exact q
 . cases q
theorem FL.rd{H H':Hp}{b:Addr}{kvs:List (Key×V)}(e:FL H H')(h:Rd H b (.dK kvs)):Rd H' b (.dK kvs):=by
 rcases h with h|⟨o,h⟩
 . rcases e b _ h with q|⟨_,o,q,h'⟩
   . exact .inl q
   . cases q;exact .inr ⟨o,h'⟩
 . rcases e b _ h with q|⟨_,_,q,_⟩
   . exact .inr ⟨o,q⟩
   . cases q
theorem FL.tr{H H':Hp}{z:Addr}{ms:List Im}(e:FL H H')(h:Tr H z ms):Tr H' z ms:=let ⟨vs,h1,h2⟩:=h;⟨vs,e.lst h1,h2.ts e.ts⟩
theorem FL.trs{H H':Hp}(e:FL H H'):∀{ts:List (List Im)} {vs:List V},TrsAt H ts vs->TrsAt H' ts vs
 |[],[],_=>trivial
 |_::_,_::_,⟨⟨z,h1,h2⟩,r⟩=>⟨⟨z,h1,e.tr h2⟩,FL.trs e r⟩
 |[],_::_,h=>h.elim
 |_::_,[],h=>h.elim
theorem FL.tab{H H':Hp}{v:V}{ts:List (List Im)}{tie:List Int}(e:FL H H')(h:TabF H v ts tie):TabF H' v ts tie:=
 let ⟨tt,tl,ti,zs,h1,h2,h3,h4,h5⟩:=h;⟨tt,tl,ti,zs,h1,e.ts _ _ h2,e.lst h3,e.trs h4,e.lst h5⟩
theorem qPk{H:Hp}{d:Addr}{kvs:List (Key×V)}{R:Obj->Hp->Prop}(h:Rd H d (.dK kvs))(k:∀o H',H' d=some (.frz o (.dK kvs))->SB d H H'->FL H H'->R o H'):Frz H d kvs R:=by
 rcases h with h|⟨o,h⟩
 . refine .inr ⟨h,fun o=>k o _ qD qN5 fun b u hb=>?_⟩
   by_cases e:b=d
   . subst e
     rw[h]at hb;cases hb;exact .inr ⟨kvs,o,O,qD⟩
   . exact .inl (by rw[qX e];exact hb)
 . exact .inl ⟨o,h,k o H h (SB.refl _ _) (FL.refl _)⟩
theorem qTc(lk:List (Key×V))(k:Key)(v:V):(qG1 lk k v).length<=lk.length+1:=by unfold qG1;split <;> simp
abbrev tlD(t1 t2:Addr):List (Key×V):=[(Sum.inr "top",.ref t1),(Sum.inr "low",.ref t2)]
def qQi(kv:List (Key×V))(n:Str):Prop:=(qBg kv (Sum.inr n)).isSome=true
theorem qRu{kv:List (Key×V)}(h1:qQi kv "low")(h2:qQi kv "top"):2<=kv.length:=by
 match kv with
 |[]=>cases h1
 |[p]=>
  have key:∀n:Str,qQi [p] n->p.1=Sum.inr n:=fun n h=>by
   unfold qQi qBg at h;by_cases c:p.1=Sum.inr n
   . exact c
   . simp[c]at h
  have:=(key _ h1).symm.trans (key _ h2);exact absurd (Sum.inr.inj this) (by decide+kernel)
 |_::_::_=>simp
inductive qFa(vs:List V)(H:Hp)(Q:VK)(_:XK):Prop
|mk (td t1 t2:Addr) (ts ts2:List (List Im)) (tie:List Int) (_:vs=[.ref td]) (_:Rd H td (.dK (tlD t1 t2))) (_:TabF H (.ref t1) ts tie) (_:TabF H (.ref t2) ts2 []) (_:NsP (fun n=>n="low") ts) (_:NsP (fun _=>False) ts2) (_:∀H',FL H H'->Q .non H')
theorem qFk(T:Tx K mg a):FnOk P w K mg base CX0 4 a.A83 a.B83 ["tables"] qFa:=by
 refine T.D83.F.ok xE (fun vs H Q E h=>?_) (fun cdv A outer s H vs Q E hr h=>?_)
 . obtain⟨td,t1,t2,ts,ts2,tie,rfl,_⟩:=h
   rfl
 refine qL fun _ Y=>?_;obtain⟨td,t1,t2,ts,ts2,tie,rfl,hrd,hT1,hT2,hs1,hs2,kk⟩:=h;apply Y;have hu1:=qKp hr;refine⟨_,(qC (qLz (i:=1) xE.nd rfl (Or.inr rfl) qRv)
  (qC (j6 PassesOwn.never rfl (kA rfl T.b_range (qA (jq (v:=.int 6) rfl T.g_MOST_DEEP ⟨_,rfl⟩) qB)) (jA (i:=2) xE.nd rfl (Or.inl rfl)) (qC (qQs (i:=3) ["tables","lower"] [0,1] xE.nd rfl rfl rfl (qTr (pv 0)) (fun _ _ _ _=>(qg (qI T.D82 (qG3 T) hr rfl (qA (qBk hu1 (pv 1) (pv 0) (fun _ _=>rfl)) (qA (pv 2) qB))))) (fun _ _ _ _=>(pv 0)))
  (qE (j6 PassesOwn.never rfl (jM (pv 3)) (jA (i:=4) xE.nd rfl (Or.inl rfl)) (qE (qS4 hu1 (pv 1) (pv 4) xk rfl))))))
  (qE (qW (qJ zy (qU qJf rfl T.b_len rfl (qA (pv 1) qB)) (qU qJf rfl T.b_len rfl (qA (pv 0) qB)) (qP _)) qk qN)))),?_⟩
 try dsimp only[jN,qd]
 refine fun lo hlo=>?_;have w0:=qF hlo (.dK []);have nlo:td≠lo:=by
  rcases hrd with h|⟨o,h⟩
  . exact qV h hlo
  . exact qV h hlo
 refine⟨_,O,by decide,by decide,vw (n:=6) (fun i σ H'=> ∃(o1 o2 o3:Option V) (kv:List (Key×V)),σ=[some (.ref td),some (.ref lo),o1,o2,o3]/\FL H H'/\H' lo=some (.dK kv)/\kv.length<=2*i/\(1<=i->qQi kv "low")/\(2<=i->qQi kv "top")) ⟨none,none,none,[],O,vj w0,qD,Nat.zero_le _,by omega,by omega⟩ ?_ ?_⟩
 . rintro i σ H1 hi ⟨o1,o2,o3,kv,rfl,f1,hl1,hkl,hk1,hk2⟩
   refine⟨_,O,td,_,O,qPk (f1.rd hrd) fun o H2 h2 s2 f2=>?_⟩;have hl2:H2 lo=some (.dK kv):=s2 _ _ nlo.symm hl1;have f12:=f1.trans f2;refine qM2 (d:=td) (o:=o) (kvs:=tlD t1 t2) (fun j acc H3=>Same H2 H3/\∃fs:List Str,acc=fs.map V.str/\fs.length<=j/\(1<=j->qQi kv "low"->("top":Str)∈fs)/\(2<=j->("low":Str)∈fs)) ⟨Same.refl _,[],O,Nat.zero_le _,by omega,by omega⟩ ?_ ?_ ?_
   . rintro j acc H3 hj ⟨e3,fs,rfl,hal,_⟩
     exact⟨e3 _ _ h2,qc (by rw[List.length_map];have:j<=2:=hj;omega)⟩
   . rintro j k v acc H3 hj hkv ⟨e3,fs,rfl,hal,hf1,hf2⟩
     refine qL fun _ Y=>?_;obtain⟨nm,x,tsx,tiex,p,rfl,hv,hTx,hsx,hb⟩:∃(nm:Str) (x:Addr) (tsx:List (List Im)) (tiex:List Int) (p:Str->Prop),k=Sum.inr nm/\qBg (tlD t1 t2) (Sum.inr nm)=some (.ref x)/\TabF H2 (.ref x) tsx tiex/\NsP p tsx/\((j=0/\nm="top"/\∀n,p n->n="low")\/(j=1/\nm="low"/\∀n,¬p n)):=by
      have hj2:j=0\/j=1:=by have:j<2:=hj;omega
      rcases hj2 with rfl|rfl
      . cases hkv
        exact⟨"top",t1,ts,tie,_,O,O,f12.tab hT1,hs1,.inl ⟨O,O,fun n h=>h⟩⟩
      . cases hkv
        exact⟨"low",t2,ts2,[],_,O,O,f12.tab hT2,hs2,.inr ⟨O,O,fun n h=>h⟩⟩
     apply Y;refine⟨_,O,_,O,td,.ref x,O,.inl ⟨_,Sum.inr nm,.inr ⟨o,e3 _ _ h2⟩,O,hv.symm⟩,_,O,.ref x,lo,tsx,tiex,p,kv,O,hTx.same e3,hsx,e3 _ _ hl2,fun b H4 e4 hbt=>⟨b,O,?_⟩⟩;have e34:=e3.trans e4;cases b with
     |true=>
      refine jl ⟨_,O,Nxt.mk hj ⟨e34,fs++[nm],by rw[List.map_append];rfl,by rw[List.length_append,List.length_singleton];omega,fun h1 h2=>?_,fun h1=>?_⟩⟩
      . rcases hb with ⟨rfl,rfl,_⟩|⟨rfl,rfl,_⟩
        . simp
        . exact List.mem_append_left _ (hf1 (by omega) h2)
      . rcases hb with ⟨rfl,_⟩|⟨rfl,rfl,_⟩
        . omega
        . simp
     |false=>
      refine qt (Nxt.mk hj ⟨e34,fs,O,by omega,fun h1 h2=>?_,fun h1=>?_⟩)
      . rcases hb with ⟨rfl,rfl,h⟩|⟨rfl,rfl,h⟩
        . exact absurd (hbt fun n hn=>by rw[h n hn];exact h2) (by decide)
        . exact hf1 (by omega) h2
      . rcases hb with ⟨rfl,_⟩|⟨rfl,rfl,h⟩
        . omega
        . exact absurd (hbt fun n hn=>(h n hn).elim) (by decide)
   . rintro acc H3 ⟨e3,fs,rfl,hal,hf1,hf2⟩ fd hfd
     have hal:fs.length<=2:=hal;have hf1:=hf1 (by show 1<=2;decide);have hf2:=hf2 (by show 2<=2;decide);have w1:=qF hfd (.lst (fs.map V.str));have hf4:upd H3 fd (.lst (fs.map V.str)) fd=some (.lst (fs.map V.str)):=qD;have e4:=e3.trans w1;have hl4:=e4 _ _ hl2;have f4:=f12.trans (vj e4);change _;generalize upd H3 fd (.lst (fs.map V.str))=H4 at hf4 hl4 f4;have nfl:fd≠lo:=by intro q;rw[q,hl4]at hf4;cases hf4
     refine⟨_,O,fd,O,⟨_,SqL.of hf4⟩,jn (K:=K) (a:=fd) (xs:=fs.map V.str) (fun j σ H5=> ∃(o3:Option V) (kv':List (Key×V)),σ=[some (.ref td),some (.ref lo),some (.int (0+i)),some (.ref fd),o3]/\SB lo H4 H5/\H5 lo=some (.dK kv')/\kv'.length<=kv.length+j/\∀n,qQi kv n\/n∈fs.take j->qQi kv' n) ⟨_,kv,O,SB.refl _ _,hl4,by omega,fun n h=>h.elim id (by simp)⟩ ?_ ?_ ?_⟩
     . rintro j σ H5 hj ⟨o3,kv',rfl,e5,_⟩
       exact SqL.of (e5 _ _ nfl hf4)
     . rintro j x σ H5 hx ⟨o3,kv',rfl,e5,hl5,hlen,hin5⟩
       refine qL fun _ Y=>?_;obtain⟨n,hn,rfl⟩:∃n,fs[j]?=some n/\x=.str n:=by
        rw[List.getElem?_map]at hx;cases e:fs[j]? with
        |none=>rw[e]at hx;cases hx
        |some m=>rw[e]at hx;exact⟨m,rfl,(Option.some.inj hx).symm⟩
       apply Y;have hjl:=(glt hn);refine⟨_,O,_,O,lo,_,O,DPut.k (k:=Sum.inr n) hl5 (qc (by omega)),_,_,O,e5.trans qN5,qD,?_,fun n' hn'=>?_⟩
       . have:=qTc kv' (Sum.inr n) (V.bl true)
         omega
       . unfold qQi
         rw[qQ4];split
         . rfl
         . rename_i c
           refine hin5 n' (hn'.imp id fun q=>?_);rw[List.take_add_one,hn]at q;rcases List.mem_append.mp q with q|q
           . exact q
           . exact absurd (by simpa using q) fun e:n'=n=>c (by rw[e])
     . rintro σ H5 ⟨o3,kv',rfl,e5,hl5,hlen,hin5⟩
       rw[List.length_map]at hlen hin5;rw[List.take_length]at hin5;refine⟨_,_,_,kv',O,fun b u hb=>?_,hl5,by omega,fun _=>hin5 _ (.inr hf2),fun h=>hin5 _ (.inr (hf1 (hk1 (by omega))))⟩;have nb:b≠lo:=qV hb hlo;rcases f4 b u hb with q|⟨k',o',q1,q2⟩
       . exact .inl (e5 _ _ nb q)
       . exact .inr ⟨k',o',q1,e5 _ _ nb q2⟩
 . rintro σ H1 ⟨o1,o2,o3,kv,rfl,f1,hl1,hkl,hk1,hk2⟩
   have:=qRu (hk1 (by decide)) (hk2 (by decide));refine⟨_,O,lo,_,O,.inl hl1,_,O,td,_,O,f1.rd hrd,_,_,O,O,_,O,kx (decide_eq_false ?_) (kk H1 f1)⟩;show ¬(kv.length:Int)<((2:Nat):Int);omega
inductive kD(vs:List V)(H:Hp)(Q:VK)(_:XK):Prop
|mk (i:Int) (_:vs=[.int i]) (_:1<=i) (_:i<=1000000000) (_:Q (.bl true) H)
theorem z6(T:Tx K mg a):FnOk P w K mg base CX0 2 a.A74 a.B74 ["thing"] kD:=by
 refine T.D74.F.ok kC (fun vs H Q E h=>?_) (fun cdv A outer s H vs Q E hr h=>?_)
 . obtain⟨i,rfl,_⟩:=h
   rfl
 refine qL fun _ Y=>?_;obtain⟨i,rfl,i1,i2,q⟩:=h;apply Y;refine⟨_,(qE (qM (xp (qI T.D0 (jC T) hr rfl (qA (pv 0) qB)) (xp (jL qCr (pv 0) qG (qP _)) (z7 (jL qNa (pv 0) (jq (v:=.int 1000000000) rfl T.g_MOST_PICTURES ⟨_,O⟩) (qP _))))))),?_⟩
 try dsimp only[jN,qd]
 rw[<-decide_eq_true i2]at q;exact⟨_,O,i,O,true,O,jl ⟨_,O,_,_,O,O,true,congrArg V.bl (decide_eq_true i1),jl ⟨_,O,_,_,O,O,q⟩⟩⟩
inductive qFb(vs:List V)(H:Hp)(Q:VK)(_:XK):Prop
|mk (rd:Addr) (A:Int) (_:vs=[.ref rd]) (_:RE H rd A) (_:∀H',FL H H'->Q .non H')
theorem qFu(T:Tx K mg a):FnOk P w K mg base CX0 3 a.A75 a.B75 ["reels"] qFb:=by
 refine T.D75.F.ok zq (fun vs H Q E h=>?_) (fun cdv A outer s H vs Q E hr h=>?_)
 . obtain⟨rd,A',rfl,_⟩:=h
   rfl
 refine qL fun _ Y=>?_;obtain⟨rd,A',rfl,⟨hrd,hA⟩,kk⟩:=h;apply Y;refine⟨_,(qE (j6 PassesOwn.never rfl (qL5 (pv 0)) (qMo rfl (zZ (jA (i:=1) zq.nd rfl (Or.inl rfl)) (zZ (jA (i:=2) zq.nd rfl (Or.inl rfl)) qHs))) (qE (qW (PW.pt (jd (q8 (qg (qI T.D10 (wF T) hr rfl (qA (pv 1) qB)))) (jK (q8 (qg (qI T.D74 (z6 T) hr rfl (qA (pv 2) qB))))))) qk qN)))),?_⟩
 try dsimp only[jN,qd]
 refine⟨_,O,rd,_,O,qPk hrd fun o H0 h0 s0 f0=>?_⟩;refine qI8 (d:=rd) (o:=o) (kvs:=[(Sum.inr "a",.int A'),(Sum.inr "reelb",.int 1000000000)]) (fun i σ H'=> ∃(o1 o2:Option V),σ=[some (.ref rd),o1,o2]/\Same H0 H') ⟨none,none,O,Same.refl _⟩ ?_ ?_ ?_
 . rintro i σ H' hi ⟨o1,o2,rfl,e⟩
   exact e _ _ h0
 . rintro i k v σ H' p hkv ⟨o1,o2,rfl,e⟩ hp
   refine qL fun _ Y=>?_;obtain⟨n,N,rfl,rfl,h1,h3,h4⟩:∃(n:Str) (N:Int),k=Sum.inr n/\v=.int N/\qFo n=true/\1<=N/\N<=1000000000:=by
    have:=List.mem_of_getElem? hkv;rcases List.mem_cons.mp this with q|q
    . cases q;exact⟨_,_,rfl,rfl,by decide+kernel,by omega,by omega⟩
    . rw[List.mem_singleton]at q
      cases q;exact⟨_,_,rfl,rfl,by decide+kernel,by decide,by decide⟩
   apply Y;have w1:=qF hp (.tup [kV (Sum.inr n),.int N]);refine⟨p,_,O,SqT.of qD,O,_,_,O,_,_,O,O,?_⟩;exact⟨_,O,n,O,h1,fun H2 e2=>⟨true,O,qt ⟨_,O,N,O,h3,h4,true,O,qt ⟨_,_,O,(e.trans w1).trans e2⟩⟩⟩⟩
 . rintro σ H' ⟨o1,o2,rfl,e⟩
   exact kk H' (f0.trans (vj e))
inductive qHb(vs:List V)(H:Hp)(Q:VK)(_:XK):Prop
|mk (rz re td t1 t2:Addr) (A M:Int) (ts ts2:List (List Im)) (tie:List Int) (_:vs=[.ref rz]) (_:H rz=some (.tup [.ref re,.ref td])) (_:RE H re A) (_:Rd H td (.dK (tlD t1 t2))) (_:TabF H (.ref t1) ts tie) (_:TabF H (.ref t2) ts2 []) (_:ts.length=3) (_:(∀ms∈ts,GT A M 100 ms)) (_:qCo 3 0 tie) (_:ts2.length=1) (_:(∀ms∈ts2,GT A M 100 ms/\∀m∈ms,m.wd≠"nest")) (_:M<=100000) (_:∀H',FL H H'->Q .non H')
theorem qBc(T:Tx K mg a):FnOk P w K mg base CX0 11 a.A84 a.B84 ["room"] qHb:=by
 refine T.D84.F.ok kJ (fun vs H Q E h=>?_) (fun cdv A outer s H vs Q E hr h=>?_)
 . obtain⟨rz,re,td,t1,t2,A',M,ts,ts2,tie,rfl,_⟩:=h
   rfl
 refine qL fun _ Y=>?_;obtain⟨rz,re,td,t1,t2,A',M,ts,ts2,tie,rfl,hz,hre,htd,hT1,hT2,l3,hG1,htie,l1,hG2,hM,kk⟩:=h;apply Y;have hu1:=qKp hr;refine⟨_,(qC (qW (PW.pt (jd (q8 (qg (qU qi rfl T.b_isinstance rfl (qA (pv 0) (qA (zw rfl T.b_tuple rfl) qB))))) (jK (qJ zD (qU qh rfl T.b_len rfl (qA (pv 0) qB)) qG (qP _))))) qk qN)
  (qC (qW (PW.pt (jd (q8 (qg (qU qCk rfl T.b_isinstance rfl (qA (qK (pv 0)) (qA (zw rfl T.b_dict rfl) qB))))) (jK (q8 (qg (qU qCk rfl T.b_isinstance rfl (qA (qK (pv 0)) (qA (zw rfl T.b_dict rfl) qB)))))))) qk qN)
  (qC (q9 (qI T.D75 (qFu T) hr rfl (qA (qK (pv 0)) qB)))
  (qC (j6 PassesOwn.never rfl (qL5 (qK (pv 0))) (qMo rfl (zZ (jA (i:=1) kJ.nd rfl (Or.inl rfl)) (zZ (jA (i:=2) kJ.nd rfl (Or.inl rfl)) qHs))) (qC (qW (q8 (qg (qI T.D10 (wF T) hr rfl (qA (pv 1) qB)))) qk qN)
  (qE (q9 (qI T.D80 (qFc T) hr rfl (qA (pv 2) (qA (pv 0) qB)))))))
  (qE (q9 (qI T.D83 (qFk T) hr rfl (qA (qK (pv 0)) qB)))))))),?_⟩
 try dsimp only[jN,qd]
 refine⟨_,O,_,_,_,true,O,.tup hz,⟨_,.inl ⟨O,by kernel_rfl⟩⟩,true,O,qt ?_⟩;refine⟨_,O,_,_,O,.inr (SqT.of hz),O,_,O,qt ?_⟩;refine(ixO hz at0 ⟨re,_,_,true,O,.inr ⟨_,hre.1,O⟩,O,true,O,qt ?_⟩);refine(ixO hz at1 ⟨td,_,_,true,O,.inr ⟨_,htd,O⟩,O,true,O,qt ?_⟩);refine(ixO hz at0 ⟨re,A',O,hre,fun H1 f1=>?_⟩);have hz1:=f1.ts _ _ hz;refine(ixO hz1 at1 ⟨td,_,O,qPk (f1.rd htd) fun o2 H2 g2 s2 f2=>?_⟩);have f12:=f1.trans f2;have hz2:=f2.ts _ _ hz1;have hT12:=f12.tab hT1;have hT22:=f12.tab hT2;have hC:RoomC H2 rz re td A':=⟨hz2,⟨f12.rd hre.1,hre.2⟩,_,.inr ⟨_,g2⟩,rfl⟩;refine qI8 (d:=td) (o:=o2) (kvs:=tlD t1 t2) (fun i σ H'=> ∃(p1 p2:Option V),σ=[some (.ref rz),p1,p2]/\Same H2 H') ⟨none,none,O,Same.refl _⟩ ?_ ?_ ?_
 . rintro i σ H' hi ⟨p1,p2,rfl,e⟩
   exact e _ _ g2
 . rintro i k v σ H' p hkv ⟨p1,p2,rfl,e⟩ hp
   refine qL fun _ Y=>?_;obtain⟨n,tsx,tiex,rfl,hn,hTx,b1,b2,b3,b4⟩:∃(n:Str) (tsx:List (List Im)) (tiex:List Int),k=Sum.inr n/\qFo n=true/\TabF H2 v tsx tiex/\1<=tsx.length/\tsx.length<=8/\(∀ms∈tsx,GT A' M 100 ms)/\qCo tsx.length 0 tiex:=by
    have:=List.mem_of_getElem? hkv;rcases List.mem_cons.mp this with q|q
    . cases q;exact⟨_,ts,tie,rfl,by decide+kernel,hT12,by omega,by omega,hG1,by rw[l3];exact htie⟩
    . rw[List.mem_singleton]at q
      cases q;exact⟨_,ts2,[],rfl,by decide+kernel,hT22,by omega,by omega,fun ms hm=>(hG2 ms hm).1,trivial⟩
   apply Y;have w1:=qF hp (.tup [kV (Sum.inr n),v]);have e1:=e.trans w1;refine⟨p,_,O,SqT.of qD,O,_,_,O,_,_,O,O,?_⟩;refine⟨_,O,n,O,hn,fun H3 e3=>⟨true,O,qt ?_⟩⟩;have e13:=e1.trans e3;exact⟨_,O,_,O,v,rz,re,td,tsx,tiex,A',M,O,hTx.same e13,hC.same e13,b1,b2,b3,hM,b4,fun H4 e4=>⟨_,_,O,e13.trans e4⟩⟩
 . rintro σ H3 ⟨p1,p2,rfl,e⟩
   refine(ixO (e _ _ hz2) at1 ⟨td,t1,t2,ts,ts2,tie,O,.inr ⟨_,e _ _ g2⟩,hT12.same e,hT22.same e,⟨by omega,fun ms hm=>⟨(hG1 ms hm).ct,fun n b l h=>((hG1 ms hm).it _ h).1⟩⟩,⟨by omega,fun ms hm=>⟨(hG2 ms hm).1.ct,fun n b l h=>(hG2 ms hm).2 _ h rfl⟩⟩,fun H4 f4=>kk H4 ((f12.trans (vj e)).trans f4)⟩)
theorem qOn{xs:List V}{i:Int}(h0:0<=i)(h1:i<(xs.length:Int)):∃v,atI xs i=some v/\v∈xs:=by
 obtain⟨k,rfl⟩:=Int.eq_ofNat_of_zero_le h0;have hk:k<xs.length:=by omega
 exact⟨xs[k],jI (List.getElem?_eq_getElem hk),List.getElem_mem hk⟩
theorem TrsAt.sb{z:Addr}{H H':Hp}{us:List V}(e:SB z H H')(hz:H z=some (.lst us)):∀{ts:List (List Im)} {vs:List V},(∀b,V.ref b∈vs->b≠z)->TrsAt H ts vs->TrsAt H' ts vs
 |[],[],_,_=>trivial
 |_::_,v::vs,hn,⟨⟨y,h1,⟨ys,h2,h3⟩⟩,r⟩=>by subst h1;exact⟨⟨y,O,ys,e _ _ (hn y (by simp)) h2,h3.ts (e.ts hz)⟩,TrsAt.sb e hz (fun b hb=>hn b (by simp[hb])) r⟩
 |[],_::_,_,h=>h.elim
 |_::_,[],_,h=>h.elim
theorem qUe{A:Int}{ms:List Im}(hA:60<=A/\A<360)(hl:ms.length<=5)(hT:∀m∈ms,TI A m)(hG:GG ms)(hL:qCi ms):GT A 50 5 ms:=by
 refine⟨fun m hm=>(hT m hm).gi hA,⟨qVd ms false (fun l hm=>((hT _ hm).gi hA).wf) hG hL (fun e=>by cases e),qRj (fun m hm=>(hT m hm).nm) none,qR4 none fun m hm=>⟨((hT m hm).gi hA).wf,(hT m hm).nm⟩⟩,?_,hl⟩;have key:∀xs:List Im,(∀m∈xs,TI A m)->qp xs<=10*(xs.length:Int):=by
  intro xs
  induction xs with
  |nil=>intro _;decide
  |cons x xs ih=>
   intro hx;have:=ih fun m hm=>hx m (by simp[hm]);have:=(hx x (by simp)).mo;rw[qS,List.length_cons];omega
 have:=key ms hT;omega
inductive qGx(vs:List V)(H:Hp)(Q:VK)(_:XK):Prop
|mk (c:Int) (re:Addr) (A:Int) (_:vs=[.int c,.ref re,.int 3,.int 10]) (_:RE H re A) (_:∀(t':Addr) (ts:List (List Im)) (tie:List Int) (H':Hp),Same H H'->TabF H' (.ref t') ts tie->TB A 50 11 ts tie->qCo 3 0 tie->Q (.ref t') H')
theorem qHg(T:Tx K mg a):FnOk P w K mg base CX0 12 a.A92 a.B92 ["_law_cell","_law_reels_here","_law_tracks","_law_size"] qGx:=by
 refine T.D92.F.ok xr (fun vs H Q E h=>?_) (fun cdv A outer s H vs Q E hr h=>?_)
 . obtain⟨c,re,A',rfl,_⟩:=h
   rfl
 refine qL fun _ Y=>?_;obtain⟨c,re,A',rfl,hre,kk⟩:=h;apply Y;refine⟨_,(qC (qLz (i:=4) xr.nd rfl (Or.inr rfl) (qI T.D86 (zl T) hr rfl (qA (pv 0) (qA qG qB))))
  (qC (qZ 5 xr.nd (jU qz (jR (qA (jR qB) (qA (jR (qA qG (qA qG qB))) (qA (jR (qA qG (qA qG qB))) (qA (jR (qA qG (qA qG (qA qG qB)))) (qA (jR (qA qG qB)) qB)))))) (qQ qm (qQ qf (ji F.plainAttrs_list F.slot_list_pop F.type_list_pop jk (pv 4)) qG) qG) (fun _ _=>rfl)))
  (qC (qZ 6 xr.nd (ql (qA (kf ["_law_reels_here","_law_size","_law_xs"] [1,3,4] rfl (kA rfl T.b_range (qA (pv 2) qB)) (fun _ _ _ _=>(qI T.D89 (qGo T) hr rfl (qA (pv 3) (qA (pv 1) (qA (pv 2) qB)))))) (qA (qHr ["_law_tracks"] [2] rfl (jM (pv 5)) (fun _ _ _ _=>(qJ zy (pv 0) (pv 1) (qP _))) (fun _ _ _ _=>(pv 0))) qB))))
  (qC (qW (qJ wL (qQ qm (qQ qf (ji F.plainAttrs_list F.slot_list_pop F.type_list_pop jk (pv 4)) qG) qG) qG (qP _)) (qE (qM (qI T.D91 (qHp T) hr rfl (qA (pv 6) (qA (pv 1) (qA (qQ qr (qQ qm (pv 0) qG) qG) qB)))))) qN)
  (qE (qM (pv 6))))))),?_⟩
 try dsimp only[jN,qd]
 refine⟨_,O,c,200,O,by decide,by decide,fun xz xs H1 e1 hxz hxs hxl _=>?_⟩;refine qL fun _ Y=>?_;obtain⟨y1,x1,rfl,l1⟩:=xC (n:=199) (by rw[hxl];decide);apply Y;refine⟨sL0,fun a0 h0=>⟨sL2,fun a1 h1=>⟨sL2,fun a2 h2=>⟨sL3,fun a3 h3=>⟨sL1,fun a4 h4=>⟨sL5,fun ld hld=>?_⟩⟩⟩⟩⟩⟩;have w0:=qF h0 (.lst []);have w1:=qF h1 (.lst [.int 0,.int 1]);have w2:=qF h2 (.lst [.int 1,.int 2]);have w3:=qF h3 (.lst [.int 0,.int 1,.int 2]);have w4:=qF h4 (.lst [.int 2]);have w5:=qF hld (.lst [.ref a0,.ref a1,.ref a2,.ref a3,.ref a4]);have k0:upd H1 a0 (.lst []) a0=some (.lst []):=qD;generalize upd H1 a0 (.lst [])=G0 at*;have k1:upd G0 a1 (.lst [.int 0,.int 1]) a1=some (.lst [.int 0,.int 1]):=qD;generalize upd G0 a1 (.lst [.int 0,.int 1])=G1 at*;have k2:upd G1 a2 (.lst [.int 1,.int 2]) a2=some (.lst [.int 1,.int 2]):=qD;generalize upd G1 a2 (.lst [.int 1,.int 2])=G2 at*;have k3:upd G2 a3 (.lst [.int 0,.int 1,.int 2]) a3=some (.lst [.int 0,.int 1,.int 2]):=qD;generalize upd G2 a3 (.lst [.int 0,.int 1,.int 2])=G3 at*;have k4:upd G3 a4 (.lst [.int 2]) a4=some (.lst [.int 2]):=qD;generalize upd G3 a4 (.lst [.int 2])=G4 at*;have k5:upd G4 ld (.lst [.ref a0,.ref a1,.ref a2,.ref a3,.ref a4]) ld=some (.lst [.ref a0,.ref a1,.ref a2,.ref a3,.ref a4]):=qD;have nld:ld≠xz:=(qV ((w0.trans (w1.trans (w2.trans (w3.trans w4)))) _ _ hxs) hld).symm;generalize upd G4 ld (.lst [.ref a0,.ref a1,.ref a2,.ref a3,.ref a4])=G5 at*;have hx5:=((w0.trans (w1.trans (w2.trans (w3.trans w4)))).trans w5) _ _ hxs;refine⟨_,O,.inl ⟨O,_,SqL.of hx5⟩,qDe hx5 fun H2 s2 hz2 _=>?_⟩;have f1:=fm (x1.fdiv 3) (show (0:Int)<5 by decide);refine qL fun _ Y=>?_;obtain⟨v,hv,hmem⟩:=qOn (xs:=[V.ref a0,.ref a1,.ref a2,.ref a3,.ref a4]) (i:=(x1.fdiv 3).fmod 5) f1.1 (show _<((5:Nat):Int) by omega);apply Y;refine⟨_,_,O,O,cdB (by decide) (by decide),_,_,O,O,nz,ld,_,_,v,O,O,SqL.of (s2 _ _ nld k5),hv,?_⟩;refine qL fun _ Y=>?_;obtain⟨li,is,rfl,hli,hil,hin,hti3⟩:∃(li:Addr) (is:List Int),v=.ref li/\G5 li=some (.lst (is.map V.int))/\is.length<=3/\(∀x∈is,∃k:Nat,x=(k:Int)/\k<3)/\qCo 3 0 is:=by
  simp only[List.mem_cons,List.not_mem_nil,or_false]at hmem;rcases hmem with rfl|rfl|rfl|rfl|rfl
  . exact⟨a0,[],O,(w1.trans (w2.trans (w3.trans (w4.trans w5)))) _ _ k0,by simp,by simp,trivial⟩
  . exact⟨a1,[0,1],O,(w2.trans (w3.trans (w4.trans w5))) _ _ k1,by simp,(fun x hx=>by
     simp only[List.mem_cons,List.not_mem_nil,or_false]at hx;rcases hx with rfl|rfl
     . exact⟨0,O,by decide⟩
     . exact⟨1,O,by decide⟩),by simp[qCo]⟩
  . exact⟨a2,[1,2],O,(w3.trans (w4.trans w5)) _ _ k2,by simp,(fun x hx=>by
     simp only[List.mem_cons,List.not_mem_nil,or_false]at hx;rcases hx with rfl|rfl
     . exact⟨1,O,by decide⟩
     . exact⟨2,O,by decide⟩),by simp[qCo]⟩
  . exact⟨a3,[0,1,2],O,(w4.trans w5) _ _ k3,by simp,(fun x hx=>by
     simp only[List.mem_cons,List.not_mem_nil,or_false]at hx;rcases hx with rfl|rfl|rfl
     . exact⟨0,O,by decide⟩
     . exact⟨1,O,by decide⟩
     . exact⟨2,O,by decide⟩),by simp[qCo]⟩
  . exact⟨a4,[2],O,w5 _ _ k4,by simp,(fun x hx=>by simp only[List.mem_cons,List.not_mem_nil,or_false]at hx;subst hx;exact⟨2,O,by decide⟩),by simp[qCo]⟩
 apply Y;have w15:Same H1 G5:=(w0.trans (w1.trans (w2.trans (w3.trans w4)))).trans w5;have sH:SB xz H H2:=(xF (e1.trans w15)).trans s2;have nli:li≠xz\/li=xz:=by by_cases h:li=xz;exact .inr h;exact .inl h
 have nli:li≠xz:=by
  intro e;rcases (by simpa using hmem:V.ref li=.ref a0\/V.ref li=.ref a1\/V.ref li=.ref a2\/V.ref li=.ref a3\/V.ref li=.ref a4)with h|h|h|h|h
  . cases h;rw[e,hxs]at h0;cases h0
  . cases h;rw[e,w0 _ _ hxs]at h1;cases h1
  . cases h;rw[e,(w0.trans w1) _ _ hxs]at h2;cases h2
  . cases h;rw[e,(w0.trans (w1.trans w2)) _ _ hxs]at h3;cases h3
  . cases h;rw[e,(w0.trans (w1.trans (w2.trans w3))) _ _ hxs]at h4;cases h4
 have hli2:=s2 _ _ nli hli;have nre:re≠xz:=by
  rcases hre.1 with q|⟨o,q⟩
  . exact qV q hxz
  . exact qV q hxz
 clear w0 w1 w2 w3 w4 w5 k0 k1 k2 k3 k4 k5 h0 h1 h2 h3 h4 hld hmem hv;refine⟨_,O,3,O,by decide,by decide,qNx (n:=3) (fun i acc H3=> ∃(ts:List (List Im)) (xs':List Int),TrsAt H3 ts acc/\ts.length=i/\(∀ms∈ts,GT A' 50 5 ms/\∀m∈ms,m.wd≠"mix")/\H3 xz=some (.lst (xs'.map V.int))/\199<=xs'.length+36*i/\(∀b,V.ref b∈acc->b≠xz)/\SB xz H2 H3) ⟨[],y1,trivial,O,by simp,hz2,by omega,by simp,SB.refl _ _⟩ ?_ ?_ ?_⟩
 . rintro i acc H3 hi ⟨ts,xs',hT,hl,_⟩
   exact qc (by rw[hT.len];omega)
 . rintro i acc H3 hi ⟨ts,xs',hT,hl,hI,hz3,hlx,hne,sb⟩
   refine⟨_,O,_,O,_,O,xz,re,xs',A',O,hz3,by omega,hre.sb (sH.trans sb) nre,fun y ms xs'' H4 s4 hy hz4 hl4 tT m5 mT mG mL=>?_⟩;have ny:y≠xz:=fun e=>by rw[e,hz3]at hy;cases hy
   refine Nxt.mk hi ⟨ts++[ms],xs'',qHh (hT.sb s4 hz3 hne) tT,by simp[hl],fun ms' hm'=>?_,hz4,by omega,fun b hb=>?_,sb.trans s4⟩
   . rcases List.mem_append.mp hm' with h|h
     . exact hI ms' h
     . rw[List.mem_singleton]at h;subst h;exact⟨qUe hre.2 m5 mT mG mL,fun m hm=>(mT m hm).nm⟩
   . rcases List.mem_append.mp hb with h|h
     . exact hne b h
     . rw[List.mem_singleton]at h;cases h;exact ny
 rintro acc H3 ⟨ts,xs',hT,hl,hI,hz3,hlx,hne,sb⟩ tl htl;have w3:=qF htl (.lst acc);have kl:upd H3 tl (.lst acc) tl=some (.lst acc):=qD;have ntl:tl≠xz:=(qV hz3 htl).symm;generalize upd H3 tl (.lst acc)=H4 at w3 kl;have hli4:=w3 _ _ (sb _ _ nli hli2);refine⟨_,O,li,O,⟨_,SqL.of hli4⟩,qBv (K:=K) (a:=li) (xs:=is.map V.int) (fun j acc H5=>acc=(is.take j).map V.int/\H5=H4) ⟨O,O⟩ ?_ ?_ ?_⟩
 . rintro j acc H5 hj ⟨rfl,rfl⟩
   refine⟨SqL.of hli4,qc ?_⟩;rw[List.length_map,List.length_take];omega
 . rintro j x acc H5 hj hx ⟨rfl,rfl⟩
   refine qL fun _ Y=>?_;obtain⟨xi,hxi,rfl⟩:∃xi:Int,is[j]?=some xi/\x=.int xi:=by
    rw[List.getElem?_map]at hx;cases hq:is[j]? with
    |none=>rw[hq]at hx;cases hx
    |some k=>rw[hq]at hx;cases hx;exact⟨k,rfl,rfl⟩
   obtain⟨k,rfl,hk⟩:=hin xi (List.mem_of_getElem? hxi);apply Y;refine⟨_,O,_,O,_,_,O,O,_,O,jo (fun _=>?_) (fun c=>?_)⟩
   . refine⟨_,O,Nxt.mk hj ⟨?_,O⟩⟩
     rw[List.take_add_one,hxi];simp
   . exact absurd (by simp;omega) c
 rintro acc' H5 ⟨rfl,rfl⟩ ti hti;rw[List.length_map,List.take_length]at*;have w5:=qF hti (.lst (is.map V.int));have ki:upd H5 ti (.lst (is.map V.int)) ti=some (.lst (is.map V.int)):=qD;have nti:ti≠xz:=(qV (w3 _ _ hz3) hti).symm;generalize upd H5 ti (.lst (is.map V.int))=H6 at w5 ki;refine⟨sL2,fun tz htz=>?_⟩;have w6:=qF htz (.tup [.ref tl,.ref ti]);have kz:upd H6 tz (.tup [.ref tl,.ref ti]) tz=some (.tup [.ref tl,.ref ti]):=qD;generalize upd H6 tz (.tup [.ref tl,.ref ti])=H7 at w6 kz;have w37:=w3.trans (w5.trans w6);have hz7:=w37 _ _ hz3;refine qL fun _ Y=>?_;obtain⟨y2,x2,rfl,l2⟩:=xC (xs:=xs') (n:=xs'.length-1) (by omega);apply Y;refine⟨_,O,.inl ⟨O,_,SqL.of hz7⟩,qDe hz7 fun H8 s8 hz8 _=>?_⟩;have sb8:SB xz H H8:=((sH.trans sb).trans (xF w37)).trans s8;have e8:Same H H8:=fun b u hb=>sb8 b u (qV hb hxz) hb;have hT8:TrsAt H8 ts acc:=(hT.same w37).sb s8 hz7 hne;have hF:TabF H8 (.ref tz) ts is:=⟨tz,tl,ti,acc,rfl,s8 _ _ (qM3 kz hz7 (by intro q;cases q)) kz,s8 _ _ ntl ((w5.trans w6) _ _ kl),hT8,s8 _ _ nti (w6 _ _ ki)⟩;have hM:TB A' 50 11 ts is:=⟨hl,fun ms hm=>(hI ms hm).1.mono (Int.le_refl _) (by decide),hil,fun x hx=>by rw[hl];exact hin x hx⟩;refine⟨_,_,O,O,cdB (by decide) (by decide),_,_,O,O,nz,_,_,O,O,_,O,jo (fun _=>?_) (fun _=>?_)⟩
 . have f0:=fm c (show (0:Int)<2147483647 by decide)
   refine⟨_,O,_,O,_,O,_,_,O,O,nz,_,_,O,O,tz,re,ts,is,A',_,O,hF,hM,hI,hre.same e8,by omega,by omega,fun t' ts' H9 e9 hT9 hM9=>?_⟩;exact kk t' ts' is H9 (e8.trans e9) hT9 hM9 hti3
 . exact⟨_,O,kk tz ts is _ e8 hF hM hti3⟩
theorem qKv:∀(ms:List Im) (b:Int),Nn ms->∀x∈j8 b ms,b<=x/\x<=b+qp ms
 |[],b,_,x,h=>by cases h
 |m::ms,b,hn,x,h=>by
  have h0:=hn m (by simp);have h1:=Nn.len hn.tail;rw[qS];have key:∀x,x=b+m.mo\/x∈j8 (b+m.mo) ms->b<=x/\x<=b+(m.mo+qp ms):=fun x q=>by
   rcases q with rfl|q
   . omega
   . have:=qKv ms (b+m.mo) hn.tail x q
     omega
  cases m with
  |mix l=>
   have e:(Im.mix l).mo=0:=rfl;rw[j8]at h;have:=qKv ms b hn.tail x h;omega
  |clip n p q r s l=>exact key x (List.mem_cons.mp h)
  |nest n b' l=>exact key x (List.mem_cons.mp h)
  |gap l=>exact key x (List.mem_cons.mp h)
theorem qRc{x:V}{xs:List V}:∃v,atI (x::xs) (-1)=some v/\v∈x::xs:=by
 refine⟨(x::xs)[xs.length]'(by simp),?_,List.getElem_mem _⟩;have e:atI (x::xs) (-1)=(x::xs)[xs.length]?:=by unfold atI ixN;rw[List.length_cons,if_neg (by omega),if_pos (by omega)];show (x::xs)[((-1:Int)+((xs.length+1:Nat):Int)).toNat]?=_;congr 1;omega
 rw[e];exact List.getElem?_eq_getElem (by simp)
theorem inS{w:Str}:∀{ws:List Str},inV (.str w) (ws.map V.str)=decide (w∈ws):=fun{ws}=>by unfold inV;rw[Bool.eq_iff_iff];simp[eqV]
def Wds(w:Str):Prop:=w="cut"\/w="heal"\/w="unmix"\/w="close"\/w="lift"\/w="roll"\/w="slip"\/w="slide"\/w="open"\/w="mix"\/w="lay_in"\/w="lay_over"
inductive qCt(vs:List V)(H:Hp)(Q:VK)(_:XK):Prop
|mk (zx tz re:Addr) (xs:List Int) (ts:List (List Im)) (tie:List Int) (A M:Int) (c:Nat) (H0:Hp) (_:vs=[.ref zx,.ref tz,.ref re]) (_:H zx=some (.lst (xs.map V.int))) (_:12<=xs.length) (_:H0 zx=none) (_:Same H0 H) (_:TabF H0 (.ref tz) ts tie) (_:TB A M c ts tie) (_:c<=100) (_:RE H0 re A) (_:∀(dz:Addr) (n:Nat) (d:De) (H':Hp),Same H0 H'->n<3->DeAt H' dz n d->DeN A M d->Q (.ref dz) H')
theorem qC2(T:Tx K mg a):FnOk P w K mg base CX0 4 a.A94 a.B94 ["_law_xs","_law_table_here","_law_reels_here"] qCt:=by
 refine T.D94.F.ok jW (fun vs H Q E h=>?_) (fun cdv A outer s H vs Q E hr h=>?_)
 . obtain⟨zx,tz,re,xs,ts,tie,A',M,c,H0,rfl,_⟩:=h
   rfl
 refine qL fun _ Y=>?_;obtain⟨zx,tz,re,xs,ts,tie,A',M,c,H0,rfl,hz,hl,hz0,e0,hT,hB,hc,hre,kk⟩:=h;obtain⟨k,hk⟩:∃k,xs.length=k+12:=⟨xs.length-12,by omega⟩;obtain⟨y1,x1,rfl,l1⟩:=xC (n:=k+11) hk;obtain⟨y2,x2,rfl,l2⟩:=xC (n:=k+10) l1;obtain⟨y3,x3,rfl,l3⟩:=xC (n:=k+9) l2;obtain⟨y4,x4,rfl,l4⟩:=xC (n:=k+8) l3;obtain⟨y5,x5,rfl,l5⟩:=xC (n:=k+7) l4;apply Y;refine⟨_,(qC (qZ 3 jW.nd (qQ qm (qQ qf (ji F.plainAttrs_list F.slot_list_pop F.type_list_pop jk (pv 0)) qG) (qU qh rfl T.b_len rfl (qA (qK (pv 1)) qB))))
  (qC (qZ 4 jW.nd (qI T.D27 (qAp T) hr rfl (qA (jU qz (qK (pv 1)) (pv 3) (fun _ _=>rfl)) qB)))
  (qC (qZ 5 jW.nd (jU qz (jR (qA qR (qA qR (qA qR (qA qR (qA qR (qA qR (qA qR (qA qR (qA qR (qA qR (qA qR (qA qR qB))))))))))))) (qQ qm (qQ qf (ji F.plainAttrs_list F.slot_list_pop F.type_list_pop jk (pv 0)) qG) qG) (fun _ _=>rfl)))
  (qC (qZ 6 jW.nd (qQ qm (qQ qf (ji F.plainAttrs_list F.slot_list_pop F.type_list_pop jk (pv 0)) qG) (qQ qr (jU qz (pv 4) (qAs ze qG) (fun _ _=>rfl)) qG)))
  (qC (zC (qW (PW.pt (xW (qJ jc (pv 5) (ql (qA qR (qA qR (qA qR (qA qR (qA qR (qA qR qB))))))) rfl) (xA (qJ wL (qQ qm (qQ qf (ji F.plainAttrs_list F.slot_list_pop F.type_list_pop jk (pv 0)) qG) qG) qG (qP _))))) (qE (qZ 6 jW.nd (jU qz (pv 4) (qQ qm (qQ qf (ji F.plainAttrs_list F.slot_list_pop F.type_list_pop jk (pv 0)) qG) (qU qh rfl T.b_len rfl (qA (pv 4) qB))) (fun _ _=>rfl)))) qN))
  (qC (qW (qJ jc (pv 5) (ql (qA qR (qA qR (qA qR qB)))) rfl) (qE (qM (ql (qA (pv 5) (qA (pv 3) (qA (pv 6) qB)))))) qN)
  (qC (qW (qJ jc (pv 5) (ql (qA qR (qA qR qB))) rfl) (qE (qM (ql (qA (pv 5) (qA (pv 3) (qA (pv 6) (qA (qQ qr (qQ qr (pv 6) qG) (qQ qm (qQ qf (ji F.plainAttrs_list F.slot_list_pop F.type_list_pop jk (pv 0)) qG) qG)) qB))))))) qN)
  (qC (qW (qJ jc (pv 5) (ql (qA qR (qA qR (qA qR qB)))) rfl) (qE (qM (ql (qA (pv 5) (qA (pv 3) (qA (pv 6) (qA (qQ jS (qQ qm (qQ qf (ji F.plainAttrs_list F.slot_list_pop F.type_list_pop jk (pv 0)) qG) qG) qG) qB))))))) qN)
  (qC (qW (qJ jc (pv 5) (ql (qA qR (qA qR qB))) rfl) (qE (qM (ql (qA (pv 5) (qA (pv 3) (qA (pv 6) (qA (qQ qr qG (qQ qm (qQ qf (ji F.plainAttrs_list F.slot_list_pop F.type_list_pop jk (pv 0)) qG) qG)) qB))))))) qN)
  (qC (qW (qJ ja (qQ qm (qQ qf (ji F.plainAttrs_list F.slot_list_pop F.type_list_pop jk (pv 0)) qG) qG) qG (qP _)) (qE (qM (ql (qA (pv 5) (qA (pv 3) (qA (pv 6) (qA (ql (qA qR (qA qR (qA (qQ qm (qQ qf (ji F.plainAttrs_list F.slot_list_pop F.type_list_pop jk (pv 0)) qG) qG) (qA (qQ qr qG (qQ qm (qQ qf (ji F.plainAttrs_list F.slot_list_pop F.type_list_pop jk (pv 0)) qG) qG)) qB))))) qB))))))) qN)
  (qE (qM (ql (qA (pv 5) (qA (pv 3) (qA (pv 6) (qA (qI T.D88 (vW T) hr rfl (qA (pv 0) (qA (pv 2) (qA qG qB)))) qB))))))))))))))))),?_⟩
 try dsimp only[jN,qd]
 have sm:∀{H':Hp},SB zx H H'->Same H0 H':=fun{H'} e b u hb=>e b u (qV hb hz0) (e0 b u hb);refine qL fun _ Y=>?_;obtain⟨tt,tl,ti,zs,ett,g2,g3,g4,g5⟩:=id hT;cases ett;apply Y;have hzl:=g4.len;have l3':=hB.l3;refine⟨_,O,.inl ⟨O,_,SqL.of hz⟩,qDe hz fun H1 s1 hz1 _=>?_⟩;have e1:=sm s1;have hlen:((zs.length:Nat):Int)=3:=by omega
 refine⟨_,_,O,O,cdB (by decide) (by decide),ixO (e1 _ _ g2) at0 ⟨tl,_,O,.inl (SqL.of (e1 _ _ g3)),_,_,O,O,(by omega),?_⟩⟩;dsimp only;rw[hlen];have f1:=fm (x1.fdiv 3) (show (0:Int)<3 by decide);obtain⟨n,hn⟩:=Int.eq_ofNat_of_zero_le f1.1;rw[hn]at f1⊢;have hn3:n<3:=by omega
 refine qL fun _ Y=>?_;obtain⟨v1,hv1⟩:∃v,zs[n]?=some v:=⟨_,List.getElem?_eq_getElem (by omega)⟩;obtain⟨ms,z,hms,rfl,tT⟩:=g4.get hv1;apply Y;have hG:=hB.ms ms (List.mem_of_getElem? hms);have hle:=hG.le;have hct:=hG.ct;refine(ixO (e1 _ _ g2) at0 ⟨_,O,tl,_,_,_,O,O,SqL.of (e1 _ _ g3),jI hv1,z,ms,O,tT.same e1,by omega,fun y H2 e2 hy hy2=>?_⟩);have nyz:y≠zx:=fun q=>by rw[q,hz1]at hy;cases hy
 have hz2:=e2 _ _ hz1;have sb2:SB zx H H2:=s1.trans (xF e2);refine⟨(by show 12<=sizeLine;decide),fun ld hld=>?_⟩;have w3:=qF hld (.lst [.str "cut",.str "heal",.str "lay_in",.str "lay_over",.str "open",.str "close",.str "lift",.str "roll",.str "slip",.str "slide",.str "mix",.str "unmix"]);have nld:ld≠zx:=(qV hz2 hld).symm;have hz3:=w3 _ _ hz2;refine⟨_,O,.inl ⟨O,_,SqL.of hz3⟩,qDe hz3 fun H3 s3 hz3' _=>?_⟩;have f2:=fm (x2.fdiv 3) (show (0:Int)<12 by decide);refine qL fun _ Y=>?_;obtain⟨v,hv,hmem⟩:=qOn (xs:=[V.str "cut",.str "heal",.str "lay_in",.str "lay_over",.str "open",.str "close",.str "lift",.str "roll",.str "slip",.str "slide",.str "mix",.str "unmix"]) (i:=(x2.fdiv 3).fmod 12) f2.1 (show _<((12:Nat):Int) by omega);apply Y;refine⟨_,_,O,O,cdB (by decide) (by decide),_,_,O,O,nz,ld,_,_,v,O,O,SqL.of (s3 _ _ nld qD),hv,?_⟩;refine qL fun _ Y=>?_;obtain⟨wd,rfl,hw⟩:∃wd:Str,v=.str wd/\Wds wd:=by unfold Wds;simp only[List.mem_cons,List.not_mem_nil,or_false]at hmem;rcases hmem with rfl|rfl|rfl|rfl|rfl|rfl|rfl|rfl|rfl|rfl|rfl|rfl <;> exact⟨_,rfl,by simp⟩
 apply Y;clear hmem hv;have sb3:SB zx H H3:=(sb2.trans (xF w3)).trans s3;have hy3:H3 y=some (.lst ((0::j8 0 ms).map V.int)):=s3 _ _ nyz (w3 _ _ hy2);have hbd:∀x∈0::j8 0 ms,0<=x/\x<=M:=fun x hx=>by
  have:=Nn.len hG.nn;rcases List.mem_cons.mp hx with rfl|hx
  . omega
  . have:=qKv ms 0 hG.nn x hx
    omega
 have hbv:∀v∈(0::j8 0 ms).map V.int,∃x:Int,v=.int x/\0<=x/\x<=M:=fun v hv=>by obtain⟨x,hx,rfl⟩:=List.mem_map.mp hv;exact⟨x,O,hbd x hx⟩
 refine⟨_,O,.inl ⟨O,_,SqL.of hz3'⟩,qDe hz3' fun H4 s4 hz4 _=>?_⟩;have hy4:=s4 _ _ nyz hy3;refine qL fun _ Y=>?_;obtain⟨vl,hvl,hvm⟩:=qRc (x:=V.int 0) (xs:=(j8 0 ms).map V.int);obtain⟨last,rfl,la0,la1⟩:=hbv vl hvm;apply Y;refine⟨_,_,O,O,cdB (by decide) (by decide),_,O,1,O,y,_,_,_,O,O,SqL.of hy4,hvl,_,_,O,O,_,_,O,O,(by omega),?_⟩;have f3:=fm (x3.fdiv 3) (show (0:Int)<last+4 by omega);dsimp only;generalize (x3.fdiv 3).fmod (last+4)=t0 at f3⊢;have sb4:=sb3.trans s4;refine⟨fun σ' H'=> ∃(t:Int) (ys:List Int),σ'=[some (.ref zx),some (.ref tz),some (.ref re),some (.int (n:Int)),some (.ref y),some (.str wd),some (.int t)]/\SB zx H H'/\H' zx=some (.lst (ys.map V.int))/\7<=ys.length/\0<=t/\t<=M+4,?_,?_⟩
 . refine⟨_,O,(by show 6<=sizeLine;decide),fun q hq=>?_⟩
   have w5:=qF hq (.tup [.str "heal",.str "roll",.str "mix",.str "unmix",.str "slide",.str "slip"]);have hz5:=w5 _ _ hz4;have hy5:=w5 _ _ hy4;refine⟨q,_,O,.inr (SqT.of qD),O,O,_,xg rfl,jo (fun _=>?_) (fun _=>?_)⟩
   . change _
     generalize upd H4 q (.tup [.str "heal",.str "roll",.str "mix",.str "unmix",.str "slide",.str "slip"])=H5 at w5 hz5 hy5;have sb5:=sb4.trans (xF w5);refine⟨_,O,.inl ⟨O,_,SqL.of hz5⟩,qDe hz5 fun H6 s6 hz6 _=>?_⟩;have hy6:=s6 _ _ nyz hy5;have sb6:=sb5.trans s6;refine⟨_,_,O,O,cdB (by decide) (by decide),_,_,O,O,nz,_,_,O,O,_,O,jo (fun _=>?_) (fun _=>?_)⟩
     . refine⟨_,O,_,O,.inl ⟨O,_,SqL.of hz6⟩,qDe hz6 fun H7 s7 hz7 _=>?_⟩
       have hy7:=s7 _ _ nyz hy6;have hyl:0<(((0::j8 0 ms).map V.int).length:Int):=by rw[List.length_map,List.length_cons];omega
       have f5:=fm (x5.fdiv 3) hyl;refine qL fun _ Y=>?_;obtain⟨vm,hvm,hvi⟩:=qOn (xs:=(0::j8 0 ms).map V.int) f5.1 f5.2;obtain⟨tm,rfl,tm0,tm1⟩:=hbv vm hvi;apply Y;refine⟨_,_,O,O,cdB (by decide) (by decide),_,O,y,_,O,.inl (SqL.of hy7),_,_,O,O,(by omega),y,_,_,_,O,O,SqL.of hy7,hvm,?_⟩;exact⟨tm,y5,O,sb6.trans s7,hz7,by omega,tm0,by omega⟩
     . exact⟨t0,_,O,sb6,hz6,by omega,f3.1,by omega⟩
   . exact⟨t0,_,O,sb4.trans (xF w5),hz5,by omega,f3.1,by omega⟩
 clear hz hz1 hz2 hz3 hz3' hz4 hy2 hy3 hy4 s1 s3 s4 sb2 sb3 sb4 hvl hvm hk hl l1 l2 l3 l4 l5;rintro σ H5 ⟨t,ys,rfl,sb5,hz5,l7,t0',t1⟩;have R:∀(ws:List Str) (b:Bool),inV (.str wd) (ws.map V.str)=b->(b=true->wd∈ws)/\(b=false->wd∉ws):=fun ws b h=>by rw[inS]at h;exact⟨fun e=>of_decide_eq_true (h.trans e),fun e=>of_decide_eq_false (h.trans e)⟩
 refine qL fun _ Y=>?_;obtain⟨m,hm⟩:∃m,ys.length=m+7:=⟨ys.length-7,by omega⟩;obtain⟨y6,x6,rfl,l6⟩:=xC (n:=m+6) hm;apply Y;have nre:re≠zx:=by
  rcases hre.1 with q|⟨o,q⟩
  . exact qV q hz0
  . exact qV q hz0
 have mem:∀{ws:List Str},inV (.str wd) (ws.map V.str)=true->wd∈ws:=fun{ws} h=>(R ws true h).1 rfl;have nme:∀{ws:List Str},¬inV (.str wd) (ws.map V.str)=true->wd∉ws:=fun{ws} h=>(R ws false (by cases q:inV (.str wd) (ws.map V.str)with|false=>rfl|true=>exact absurd q h)).2 rfl;have fin:∀(dz:Addr) (d:De) (H':Hp),SB zx H H'->DeAt H' dz n d->DeN A' M d->Q (.ref dz) H':=fun dz d H' e h1 h2=>kk dz n d H' (sm e) hn3 h1 h2;have j1:∀{G:Hp} {q:Addr} {o:HO},G q=none->SB zx H G->SB zx H (upd G q o):=fun h1 h2=>h2.trans (xF (qF h1 _));have j2:∀{G:Hp} {q:Addr} {o u:HO},G q=none->G zx=some u->upd G q o zx=some u:=fun h1 h2=>(qF h1 _) _ _ h2;refine⟨_,O,sL3,fun q1 hq1=>⟨q1,_,O,.inr (SqT.of qD),O,O,_,xg rfl,jo (fun c=>?_) (fun c=>?_)⟩⟩
 . have hm:=mem (ws:=["cut","heal","unmix"]) c
   refine⟨_,O,_,O,_,O,sL3,fun dz hdz=>?_⟩;have e:=j1 (o:=.tup [.str wd,.int (n:Int),.int t]) hdz (j1 (o:=.tup [.str "cut",.str "heal",.str "unmix"]) hq1 sb5);simp only[List.mem_cons,List.not_mem_nil,or_false]at hm;rcases hm with rfl|rfl|rfl
   . exact fin dz (.chg (.cut t)) _ e ⟨qD,fun _ q=>by cases q⟩ ⟨t0',t1⟩
   . exact fin dz (.hel t) _ e qD ⟨t0',t1⟩
   . exact fin dz (.unm t) _ e qD ⟨t0',t1⟩
 have n1:=nme (ws:=["cut","heal","unmix"]) c;have sb6:=j1 (o:=.tup [.str "cut",.str "heal",.str "unmix"]) hq1 sb5;have hz6:=j2 (o:=.tup [.str "cut",.str "heal",.str "unmix"]) hq1 hz5;change _;generalize upd H5 q1 (.tup [.str "cut",.str "heal",.str "unmix"])=H6 at sb6 hz6;refine⟨_,O,sL2,fun q2 hq2=>⟨q2,_,O,.inr (SqT.of qD),O,O,_,xg rfl,jo (fun c=>?_) (fun c=>?_)⟩⟩
 . have hm:=mem (ws:=["close","lift"]) c
   have sb7:=j1 (o:=.tup [.str "close",.str "lift"]) hq2 sb6;have hz7:=j2 (o:=.tup [.str "close",.str "lift"]) hq2 hz6;refine⟨_,O,_,O,_,O,_,O,_,_,O,O,_,O,.inl ⟨O,_,SqL.of hz7⟩,qDe hz7 fun H8 s8 hz8 _=>?_⟩;have f6:=fm (x6.fdiv 3) (show (0:Int)<9 by decide);refine⟨_,_,O,O,cdB (by decide) (by decide),_,_,O,O,nz,_,_,O,O,qUc,fun dz hdz=>?_⟩;have e:=j1 (o:=.tup [.str wd,.int (n:Int),.int t,.int (t+1+(x6.fdiv 3).fmod 9)]) hdz (sb7.trans s8);simp only[List.mem_cons,List.not_mem_nil,or_false]at hm;rcases hm with rfl|rfl
   . exact fin dz (.chg (.cls t (t+1+(x6.fdiv 3).fmod 9))) _ e ⟨qD,fun _ q=>by cases q⟩ ⟨t0',t1,by omega,by omega⟩
   . exact fin dz (.chg (.lft t (t+1+(x6.fdiv 3).fmod 9))) _ e ⟨qD,fun _ q=>by cases q⟩ ⟨t0',t1,by omega,by omega⟩
 have n2:=nme (ws:=["close","lift"]) c;have sb7:=j1 (o:=.tup [.str "close",.str "lift"]) hq2 sb6;have hz7:=j2 (o:=.tup [.str "close",.str "lift"]) hq2 hz6;change _;generalize upd H6 q2 (.tup [.str "close",.str "lift"])=H7 at sb7 hz7;refine⟨_,O,sL3,fun q3 hq3=>⟨q3,_,O,.inr (SqT.of qD),O,O,_,xg rfl,jo (fun c=>?_) (fun c=>?_)⟩⟩
 . have hm:=mem (ws:=["roll","slip","slide"]) c
   have sb8:=j1 (o:=.tup [.str "roll",.str "slip",.str "slide"]) hq3 sb7;have hz8:=j2 (o:=.tup [.str "roll",.str "slip",.str "slide"]) hq3 hz7;refine⟨_,O,_,O,_,O,_,O,.inl ⟨O,_,SqL.of hz8⟩,qDe hz8 fun H9 s9 hz9 _=>?_⟩;have f6:=fm (x6.fdiv 3) (show (0:Int)<9 by decide);refine⟨_,_,O,O,cdB (by decide) (by decide),_,_,O,O,nz,_,_,O,O,qUc,fun dz hdz=>?_⟩;have e:=j1 (o:=.tup [.str wd,.int (n:Int),.int t,.int ((x6.fdiv 3).fmod 9-4)]) hdz (sb8.trans s9);have h3:Wd3 wd:=by unfold Wd3;simpa using hm
   exact fin dz (.rol wd t ((x6.fdiv 3).fmod 9-4)) _ e ⟨h3,qD⟩ ⟨h3,t0',t1,by omega⟩
 have n3:=nme (ws:=["roll","slip","slide"]) c;have sb8:=j1 (o:=.tup [.str "roll",.str "slip",.str "slide"]) hq3 sb7;have hz8:=j2 (o:=.tup [.str "roll",.str "slip",.str "slide"]) hq3 hz7;change _;generalize upd H7 q3 (.tup [.str "roll",.str "slip",.str "slide"])=H8 at sb8 hz8;refine⟨_,O,sL2,fun q4 hq4=>⟨q4,_,O,.inr (SqT.of qD),O,O,_,xg rfl,jo (fun c=>?_) (fun c=>?_)⟩⟩
 . have hm:=mem (ws:=["open","mix"]) c
   have sb9:=j1 (o:=.tup [.str "open",.str "mix"]) hq4 sb8;have hz9:=j2 (o:=.tup [.str "open",.str "mix"]) hq4 hz8;refine⟨_,O,_,O,_,O,_,O,.inl ⟨O,_,SqL.of hz9⟩,qDe hz9 fun Ha sa hza _=>?_⟩;have f6:=fm (x6.fdiv 3) (show (0:Int)<5 by decide);refine⟨_,_,O,O,cdB (by decide) (by decide),_,_,O,O,nz,_,_,O,O,qUc,fun dz hdz=>?_⟩;have e:=j1 (o:=.tup [.str wd,.int (n:Int),.int t,.int (1+(x6.fdiv 3).fmod 5)]) hdz (sb9.trans sa);simp only[List.mem_cons,List.not_mem_nil,or_false]at hm;rcases hm with rfl|rfl
   . exact fin dz (.chg (.opn t (1+(x6.fdiv 3).fmod 5))) _ e ⟨qD,fun _ q=>by cases q⟩ ⟨t0',t1,by omega,by omega⟩
   . exact fin dz (.mix t (1+(x6.fdiv 3).fmod 5)) _ e qD ⟨t0',t1,by omega,by omega⟩
 have n4:=nme (ws:=["open","mix"]) c;have sb9:=j1 (o:=.tup [.str "open",.str "mix"]) hq4 sb8;have hz9:=j2 (o:=.tup [.str "open",.str "mix"]) hq4 hz8;change _;generalize upd H8 q4 (.tup [.str "open",.str "mix"])=H9 at sb9 hz9;have hwl:wd="lay_in"\/wd="lay_over":=by
  unfold Wds at hw;simp only[List.mem_cons,List.not_mem_nil,or_false,not_or]at n1 n2 n3 n4;rcases hw with h|h|h|h|h|h|h|h|h|h|h|h
  . exact absurd h n1.1
  . exact absurd h n1.2.1
  . exact absurd h n1.2.2
  . exact absurd h n2.1
  . exact absurd h n2.2
  . exact absurd h n3.1
  . exact absurd h n3.2.1
  . exact absurd h n3.2.2
  . exact absurd h n4.1
  . exact absurd h n4.2
  . exact .inl h
  . exact .inr h
 have lay:∀(dz:Addr) (v:V) (m:Im) (H':Hp),SB zx H H'->H' dz=some (.tup [.str wd,.int (n:Int),.int t,v])->IsI H' m v->LayG A' m->Q (.ref dz) H':=fun dz v m H' e h1 h2 h3=>by
  rcases hwl with rfl|rfl
  . exact fin dz (.chg (.lin t m)) H' e ⟨⟨v,h1,h2⟩,fun _ q=>by cases q⟩ ⟨t0',t1,h3⟩
  . exact fin dz (.chg (.lov t m)) H' e ⟨⟨v,h1,h2⟩,fun _ q=>by cases q⟩ ⟨t0',t1,h3⟩
 refine⟨_,O,.inl ⟨O,_,SqL.of hz9⟩,qDe hz9 fun Ha sa hza _=>?_⟩;have sba:=sb9.trans sa;refine⟨_,_,O,O,cdB (by decide) (by decide),_,_,O,O,nz,O,_,O,jo (fun _=>?_) (fun _=>?_)⟩
 . obtain⟨y7,x7,rfl,l7'⟩:=xC (n:=m+5) l6
   refine qL fun _ Y=>?_;obtain⟨y8,x8,rfl,l8⟩:=xC (n:=m+4) l7';apply Y;refine⟨_,O,_,O,_,O,_,O,.inl ⟨O,_,SqL.of hza⟩,qDe hza fun Hb sb hzb _=>?_⟩;have f7:=fm (x7.fdiv 3) (show (0:Int)<5 by decide);refine⟨_,_,O,O,cdB (by decide) (by decide),_,_,O,O,nz,_,O,.inl ⟨O,_,SqL.of hzb⟩,qDe hzb fun Hc sc hzc _=>?_⟩;have f8:=fm (x8.fdiv 3) (show (0:Int)<6 by decide);refine⟨_,_,O,O,cdB (by decide) (by decide),_,_,O,O,nz,_,_,O,O,qUc,fun g hg=>⟨qUc,fun dz hdz=>?_⟩⟩;have sbg:=j1 (o:=.tup [.str "nest",.str "low",.int ((x7.fdiv 3).fmod 5),.int (1+(x8.fdiv 3).fmod 6)]) hg ((sba.trans sb).trans sc);exact lay dz (.ref g) (.nest "low" ((x7.fdiv 3).fmod 5) (1+(x8.fdiv 3).fmod 6)) _ (j1 hdz sbg) qD ⟨g,O,(qF hdz _) _ _ qD⟩ (.inl ⟨_,_,O,f7.1,f7.2,by omega,by omega⟩)
 . refine⟨_,O,_,O,_,O,_,O,_,O,zx,re,y6,A',8,O,hza,by omega,hre.same (sm sba),by decide,by decide,fun v m u' Hb sb hzb _ hcf hI=>⟨qUc,fun dz hdz=>?_⟩⟩
   exact lay dz v m _ (j1 hdz (sba.trans sb)) qD (hI.ts (qY (qF hdz _))) (.inr hcf)
theorem qOl{A M:Int}{c:Nat}{ms:List Im}(h:GT A M c ms){w:Str}{t:Int}{is:List Int}(hw:Wd3 w)(hp:plF w ms t=some is)(b:Int):0<=qHt (rlE A) ms w is b:=by
 have cl:∀{i:Nat} {n:Str} {p q r s l N:Int},ms[i]?=some (.clip n p q r s l)->rlE A n=some N->1<=l/\0<=zJ p q r s l N/\0<=zm p q r s N:=fun{i n p q r s l N} hm hr=>by obtain⟨N',g⟩:=h.it _ (List.mem_of_getElem? hm);have:=g.rn;rw[hr]at this;cases this;exact⟨g.l1,(qHa (k0:=l) (e:=1) g.q0 g.s0 (.inl rfl) (fun _=>g.i0)).1,(qHa (k0:= -1) (e:= -1) g.q0 g.s0 (.inr rfl) (fun _=>g.i0)).1⟩
 rcases qXt (fun n p q r s l hm=>let ⟨N,c⟩:=h.it _ hm;⟨N,c.rn⟩) hw hp with ⟨rfl,i,n,p,q,r,s,l,N,rfl,hm,hN,hv⟩|⟨_,_,i,j,n,p,q,r,s,l,N,n',p',q',r',s',l',N',_,_,_,_,_,hm,hm',hN,hN',hv⟩
 . have:=cl hm hN
   rw[(hv b).1];split <;> omega
 . have:=cl hm hN
   have:=cl hm' hN';rw[(hv b).1];unfold qDl;split <;> split <;> omega
theorem qRk{rl:Rls}{ms:List Im}{wd:Str}{is:List Int}{b c:Int}(h:0<b↔0<c):qHt rl ms wd is b=qHt rl ms wd is c:=by
 have key:∀{α:Type} (x y:α),(if 0<b then x else y)=if 0<c then x else y:=fun x y=>by
  by_cases hb:0<b
  . rw[if_pos hb,if_pos (h.mp hb)]
  . rw[if_neg hb,if_neg (fun hc=>hb (h.mpr hc))]
 unfold qHt;split
 . unfold qQ7
   split
   . split
     . exact key _ _
     . rfl
   . rfl
 . unfold qTj
   split
   . split
     . unfold qDl;exact key _ _
     . rfl
   . rfl
theorem qXw{rl:Rls}{ms:List Im}{t M:Int}(h:mmF rl ms t=some M):0<=M:=by
 unfold mmF at h;split at h
 . cases h
 . split at h
   . split at h
     . cases h
       unfold mmV qUz;split <;> split <;> omega
     . cases h
   . cases h
inductive ShR(rl:Rls)(ts:List (List Im))(tie:List Int)(n:Nat)(ms:List Im)(m:Int):De->Prop where
 |mix {t l:Int} (h0:0<=m) (h1:m<l) (h2:0<m->∃ts',qAj rl ts tie n ms (.mix t m)=.good ts'):ShR rl ts tie n ms m (.mix t l)
 |rol {w:Str} {t b:Int} (h0:0<=m*b) (h1:wG m<wG b) (h2:∃ts',qAj rl ts tie n ms (.rol w t m)=.good ts'):ShR rl ts tie n ms m (.rol w t b)
theorem qWn{A M:Int}{c:Nat}{ts:List (List Im)}{tie:List Int}{n:Nat}{ms:List Im}(hg:GT A M c ms){d:De}(hd:DeN A M d){m:Int}(h:qAj (rlE A) ts tie n ms d=.short m):ShR (rlE A) ts tie n ms m d:=by
 cases d with
 |hel t=>
  rw[qAj]at h;split at h
  . cases h
  . split at h <;> cases h
 |unm t=>
  rw[qAj]at h;split at h
  . cases h
  . split at h <;> cases h
 |chg d=>
  rw[qAj]at h;split at h
  . split at h <;> cases h
  . cases h
 |mix t l=>
  rw[qAj]at h;cases hc:cbF ms t with
  |none=>rw[hc]at h;cases h
  |some x=>
   obtain⟨i,j⟩:=x;rw[hc]at h;dsimp only at h;by_cases e:j=i+1
   . rw[if_pos e]at h
     cases hM:mmF (rlE A) ms t with
     |none=>rw[hM]at h;cases h
     |some M'=>
      rw[hM]at h;dsimp only at h;by_cases hl:M'<l
      . rw[if_pos hl]at h
        have h:M'=m:=by injection h
        subst h;refine .mix (qXw hM) hl fun _=>⟨ts.set n (ms.take (i.toNat+1)++[.mix M']++ms.drop (i.toNat+1)),?_⟩;rw[qAj,hc];dsimp only;rw[if_pos e,hM];dsimp only;rw[if_neg (by omega)]
      . rw[if_neg hl]at h
        cases h
   . rw[if_neg e]at h
     cases h
 |rol w t b=>
  rw[qAj]at h;cases hp:plF w ms t with
  |none=>rw[hp]at h;cases h
  |some is=>
   rw[hp]at h;dsimp only at h;by_cases hx:is.any (hmB ms)=true
   . rw[if_pos hx]at h;cases h
   . rw[if_neg hx]at h
     by_cases hb:wG b<=qHt (rlE A) ms w is b
     . rw[if_pos hb]at h;cases h
     . rw[if_neg hb]at h
       have c0:=qOl hg hd.1 hp b;have cz:=qOl hg hd.1 hp 0;have hsg:∀x:Int,(0<b↔0<x)->qHt (rlE A) ms w is x=qHt (rlE A) ms w is b:=fun x h=>(qRk h).symm;generalize hcq:qHt (rlE A) ms w is b=cp at hb h c0 hsg;have hm:m=sgM b cp:=by injection h with h;exact h.symm
       have e1:(0<b/\m=cp/\wG b=b)\/(b<0/\m=-cp/\wG b=-b):=by
        unfold sgM at hm;unfold wG at hb⊢;by_cases q:0<b
        . rw[if_pos q]at hm
          rw[if_neg (by omega)];exact .inl ⟨q,hm,O⟩
        . rw[if_neg q]at hm
          have:b<0:=by split at hb <;> omega
          rw[if_pos this];exact .inr ⟨this,hm,O⟩
       have e2:wG m=cp:=by unfold wG;split <;> omega
       refine .rol ?_ (by omega) ⟨ts.set n (qSq ms w is m),?_⟩
       . rcases e1 with ⟨q1,q2,_⟩|⟨q1,q2,_⟩
         . rw[q2];exact Int.mul_nonneg c0 (by omega)
         . rw[q2];exact Int.mul_nonneg_of_nonpos_of_nonpos (by omega) (by omega)
       . rw[qAj,hp]
         dsimp only;rw[if_neg hx,if_pos];rw[e2];by_cases z:cp=0
         . have:m=0:=by omega
           rw[this];omega
         . rw[hsg m (by omega)]
           omega
inductive qJb(K:W.Frag)(vs:List V)(H:Hp)(Q:VK)(_:XK):Prop
|mk (tz dz re:Addr) (w:Str) (n:Nat) (t b m:Int) (ts:List (List Im)) (tie:List Int) (A M:Int) (c:Nat) (_:vs=[.ref tz,.ref dz,.ref re,.int m]) (_:H dz=some (.tup [.str w,.int (n:Int),.int t,.int b])) (_:TabF H (.ref tz) ts tie) (_:RE H re A) (_:TB A M c ts tie) (_:M<=100000) (_:c<=100) (_:0<=m*b) (_:wG m<wG b) (_:b.natAbs<=5) (_:((w="mix"/\m=0)\/(¬(w="mix"/\m=0)/\∃ts',∀(H':Hp) (dz':Addr),Same H H'->H' dz'=some (.tup [.str w,.int (n:Int),.int t,.int m])->DdX K H' re dz' (rlE A) ts tie (.good ts')))) (_:∀H',Same H H'->Q (.bl true) H')
theorem qIx(T:Tx K mg a):FnOk P w K mg base CX0 12 a.A96 a.B96 ["_law_table_here","_law_deed","_law_reels_here","_law_most_here"] (qJb K):=by
 refine T.D96.F.ok qCg (fun vs H Q E h=>?_) (fun cdv A outer s H vs Q E hr h=>?_)
 . obtain⟨tz,dz,re,wd,n,t,b,m,ts,tie,A',M,c,rfl,_⟩:=h
   rfl
 refine qL fun _ Y=>?_;obtain⟨tz,dz,re,wd,n,t,b,m,ts,tie,A',M,c,rfl,hd,hT,hre,hB,hM,hc,hs,ha,hb,hw,kk⟩:=h;apply Y;refine⟨_,(qC (qZ 4 qCg.nd (qK (pv 1)))
  (qC (qW (qF6 (PW.pt (jd (qg (qU qi rfl T.b_isinstance rfl (qA (pv 3) (qA (zw rfl T.b_bool rfl) qB)))) (jd (q8 (qg (qU qi rfl T.b_isinstance rfl (qA (pv 3) (qA (zw rfl T.b_int rfl) qB))))) (jd (qJ zy (qQ jJ (pv 3) (pv 4)) qG (qP _)) (jK (qJ qCr (qU vB rfl T.b_abs rfl (qA (pv 3) qB)) (qU vB rfl T.b_abs rfl (qA (pv 4) qB)) (qP _)))))))) (qE (qM xk)) qN)
  (qC (qW (qF6 (PW.pt (xW (qJ ja (qK (pv 1)) qR (qP _)) (xA (qJ ja (pv 3) qG (qP _)))))) (qE (qM xk)) qN)
  (qE (qM (qU qi rfl T.b_isinstance rfl (qA (qI T.D95 (qCl T) hr rfl (qA (pv 0) (qA (qQ qO4 (xx qSj (pv 1) vX (zL qG)) (ql (qA (pv 3) qB))) (qA (pv 2) qB)))) (qA (zw rfl T.b_tuple rfl) qB)))))))),?_⟩
 try dsimp only[jN,qd]
 have e3:atI [V.str wd,.int (n:Int),.int t,.int b] 3=some (.int b):=rfl;have mb:m.natAbs<=5:=by unfold wG at ha;split at ha <;> split at ha <;> omega
 refine⟨_,O,dz,_,_,_,O,O,SqT.of hd,e3,?_⟩;refine⟨fun b' H'=>b'=false/\H'=H,?_,?_⟩
 . refine⟨_,O,_,_,_,false,O,.int m,⟨_,.inl ⟨O,by kernel_rfl⟩⟩,false,O,qt ?_⟩
   refine⟨_,O,_,_,_,true,O,.int m,⟨_,.inl ⟨O,by kernel_rfl⟩⟩,true,O,qt ?_⟩;refine⟨_,O,_,O,_,_,O,O,cmR (by omega) (by omega),_,_,O,O,_,O,kx (decide_eq_false (by omega)) ?_⟩;refine⟨_,O,m,O,_,O,b,O,_,_,O,O,_,O,?_,O⟩;exact decide_eq_false (fun q=>by have q:wG b<=wG m:=q;omega)
 rintro b' H' ⟨rfl,rfl⟩;refine qt ?_;have go:¬(wd="mix"/\m=0)->∃ts',∀(H'':Hp) (dz':Addr),Same H' H''->H'' dz'=some (.tup [.str wd,.int (n:Int),.int t,.int m])->DdX K H'' re dz' (rlE A') ts tie (.good ts'):=fun q=>by
  rcases hw with h|h
  . exact absurd h q
  . exact h.2
 refine⟨fun b' H''=>H''=H'/\(b'=true↔(wd="mix"/\m=0)),?_,?_⟩
 . refine(ixO hd qEp ⟨O,_,O,jo (fun c=>?_) (fun c=>?_)⟩)
   . have hwd:wd="mix":=by simpa using c
     refine⟨_,O,O,_,O,O,fun q=>⟨hwd,by simpa using q⟩,fun q=>by rw[q.2];exact decide_eq_true rfl⟩
   . have hwd:¬wd="mix":=by simpa using c
     exact⟨rfl,⟨(fun q=>by cases q),fun q=>absurd q.1 hwd⟩⟩
 rintro b' H'' ⟨rfl,hbb⟩;cases b' with
 |true=>exact jl (kk _ (Same.refl _))
 |false=>
 obtain⟨ts',hts⟩:=go (fun q=>Bool.false_ne_true (hbb.mpr q));refine qt ?_;have ec:zT [V.str wd,.int (n:Int),.int t,.int b] none (some 3)=[.str wd,.int (n:Int),.int t]:=qDb _ 3;refine⟨_,O,_,O,3,O,dz,_,O,SqT.of hd,?_,fun p1 hp1=>?_⟩
 . intro h
   have:=h.2;revert this;show ¬HT.sIx 4 4 (some 3)=4;decide
 rw[ec];have w1:=qF hp1 (.tup [.str wd,.int (n:Int),.int t]);have m1:upd H'' p1 (.tup [.str wd,.int (n:Int),.int t]) p1=some (.tup [.str wd,.int (n:Int),.int t]):=qD;generalize upd H'' p1 (.tup [.str wd,.int (n:Int),.int t])=H1 at w1 m1⊢;refine⟨_,O,sL1,fun p2 hp2=>?_⟩;have w2:=qF hp2 (.tup [.int m]);have m2:upd H1 p2 (.tup [.int m]) p2=some (.tup [.int m]):=qD;generalize upd H1 p2 (.tup [.int m])=H2 at w2 m2⊢;refine⟨p1,p2,_,_,rfl,rfl,SqT.of (w2 _ _ m1),SqT.of m2,(by simp),sL4,(fun h=>by cases h),fun _ p3 hp3=>?_⟩;have w3:=qF hp3 (.tup [.str wd,.int (n:Int),.int t,.int m]);have m3:upd H2 p3 (.tup [.str wd,.int (n:Int),.int t,.int m]) p3=some (.tup [.str wd,.int (n:Int),.int t,.int m]):=qD;show qUl 2 _ (upd H2 p3 (.tup [.str wd,.int (n:Int),.int t,.int m])) _;generalize upd H2 p3 (.tup [.str wd,.int (n:Int),.int t,.int m])=H3 at w3 m3⊢;have w13:=(w1.trans w2).trans w3;refine⟨_,rfl,tz,p3,re,rlE A',ts,tie,_,rfl,hB.tabD hM hc (hT.same w13) (hre.same w13),hts H3 p3 w13 m3,(fun h=>by cases h),(fun h=>by cases h),(fun _ h=>by cases h),fun ts'' h t' H4 e4 hN=>?_⟩;refine qL fun _ Y=>?_;obtain⟨tt,tl,ti,zs,q0,q1,_⟩:=hN;cases q0;apply Y;exact⟨_,_,_,true,O,.tup q1,⟨_,.inl ⟨O,by kernel_rfl⟩⟩,kk _ (w13.trans e4)⟩
theorem qWo{A M:Int}{c:Nat}{ms:List Im}{d:De}(h:DeN A M d)(hg:GT A M c ms)(hM:M<=1000){H:Hp}{re:Addr}(hr:RE H re A):qWe H re ms d:=by
 have hle:=hg.le;have e:(100000:Int)<=2 ^ 400:=by decide
 cases d with
 |hel t=>exact⟨h.1,fun m hm=>(hg.it m hm).ih (by have:=qJq hg.nn m hm;omega),fun i j hn=>qVc hg.gd.mo hn⟩
 |mix t l=>exact⟨h.1,h.2.2.1⟩
 |unm t=>exact h.1
 |rol w t b=>exact⟨h.2.1,by have:=h.2.2.2;omega⟩
 |chg d=>
  cases d with
  |hel t=>exact h.elim
  |cut t=>
   obtain⟨h1,h2⟩:=h;cases hw:vt ms t with
   |false=>exact .inl ⟨t,rfl,h1,hw⟩
   |true=>exact .inr ⟨h1,by generalize (2:Int) ^ 400=B at e⊢;omega,hw⟩
  |opn t l=>obtain⟨h1,h2,h3,h4⟩:=h;exact .inr ⟨h1,by generalize (2:Int) ^ 400=B at e⊢;omega,h3⟩
  |cls t u=>obtain⟨h1,h2,h3,h4⟩:=h;exact .inr ⟨h1,h3,by generalize (2:Int) ^ 400=B at e⊢;omega⟩
  |lft t u=>obtain⟨h1,h2,h3,h4⟩:=h;exact .inr ⟨h1,h3,by generalize (2:Int) ^ 400=B at e⊢;omega⟩
  |lin t m=>obtain⟨h1,h2,h3⟩:=h;exact .inr ⟨h1,by generalize (2:Int) ^ 400=B at e⊢;omega,(h3.ok hr).1⟩
  |lov t m=>obtain⟨h1,h2,h3⟩:=h;obtain⟨q1,_,q3,q4⟩:=h3.ok hr;exact .inr ⟨h1,by generalize (2:Int) ^ 400=B at e⊢;omega,q1,by omega,by generalize (2:Int) ^ 400=B at e⊢;omega⟩
theorem qWi{H:Hp}{x y:Addr}{ts:List (List Im)}{tie:List Int}{Q:VK}(h1:TabF H (.ref x) ts tie)(h2:TabF H (.ref y) ts tie)(q:Q (.bl false) H):qS3 K true (.ref x) (.ref y) H Q:=by refine⟨tabD ts tie,tabD ts tie,h1.rep,h2.rep,rfl,by have:=(qLu ts tie).2;omega,?_⟩;rw[(qLu ts tie).1];exact q
theorem qS9(xs:List V)(a b:Nat):(zT xs (some (a:Int)) (some (b:Int))).length<=b-a:=by unfold zT;rw[HT.sIx_nat,HT.sIx_nat,List.length_take,List.length_drop];omega
theorem qUr{A:Int}{m:Im}(h:CF A m)(hA:60<=A/\A<360):GT A 170 17 [m]:=by
 have w:=(h.gi hA).wf;have n:=TI.nm (.inr (.inr h));have g:m.wd≠"gap":=by obtain⟨nm,N,lo,rs,to,bo,len,_,_,_,_,_,_,_,_,_,_,_,rfl⟩:=h;show ("clip":Str)≠"gap";decide+kernel
 refine⟨fun x hx=>by rw[List.mem_singleton]at hx;subst hx;exact h.gi hA,⟨by rw[jY g];rfl,qRj (fun x hx=>by rw[List.mem_singleton]at hx;subst hx;exact n) none,qR4 none fun x hx=>by rw[List.mem_singleton]at hx;subst hx;exact⟨w,n⟩⟩,?_,by show 1<=17;decide⟩;have:=(h.it hA.1 hA.2).2.2.2;rw[qS,jF];omega
set_option maxHeartbeats 8000000 in
theorem qVs(T:Tx K mg a):FnOk P w K mg base CX0 15 a.A97 a.B97 ["_law_script"] (qQp K):=by
 refine T.D97.F.ok qA9 (fun vs H Q E h=>?_) (fun cdv A outer s H vs Q E hr h=>?_)
 . obtain⟨a,ns,rfl,_⟩:=h
   rfl
 refine qL fun _ Y=>?_;obtain⟨zs,ns,rfl,hS,hlen,kk⟩:=h;apply Y;have hu:=hr.units;refine⟨_,(qC (qZ 1 qA9.nd (qI T.D90 (qGu T) hr rfl (qA (qI T.D85 (zH T) hr rfl (qA (pv 0) (qA qG qB))) qB)))
  (qC (qZ 2 qA9.nd (qI T.D92 (qHg T) hr rfl (qA (qI T.D85 (zH T) hr rfl (qA (pv 0) (qA qG qB))) (qA (pv 1) (qA qG (qA qG qB))))))
  (qC (qZ 3 qA9.nd (ql (qA (jR (qA (jR (qA (qI T.D88 (vW T) hr rfl (qA (qI T.D86 (zl T) hr rfl (qA (qI T.D85 (zH T) hr rfl (qA (pv 0) (qA qG qB))) (qA qG qB))) (qA (pv 1) (qA qG qB)))) qB)) qB)) (qA (jR qB) qB))))
  (qC (q9 (qI T.D84 (qBc T) hr rfl (qA (ql (qA (pv 1) (qA (qJ4 (wD qR (pv 2) (wD qR (pv 3) qKd)) rfl rfl (by simp) (by decide)) qB))) qB)))
  (qC (j6 PassesOwn.never rfl (jM (xx wn (pv 0) (zL qG) (zL qG))) (jA (i:=4) qA9.nd rfl (Or.inl rfl)) (qC (qZ 5 qA9.nd (qI T.D94 (qC2 T) hr rfl (qA (qI T.D86 (zl T) hr rfl (qA (pv 4) (qA qG qB))) (qA (pv 2) (qA (pv 1) qB)))))
  (qC (qZ 6 qA9.nd (qI T.D93 (qFf T) hr rfl (qA (pv 2) qB)))
  (qC (zC (qZ 7 qA9.nd (qI T.D95 (qCl T) hr rfl (qA (pv 2) (qA (pv 5) (qA (pv 1) qB))))))
  (qC (qW (qJ (qOa hu) (pv 2) (pv 6) (qP _)) (qE (qM xk)) qN)
  (qC (zC (qW (PW.pt (xW (qg (qU qi rfl T.b_isinstance rfl (qA (pv 7) (qA (zw rfl T.b_list rfl) qB)))) (xA (q8 (qg (qI T.D96 (qIx T) hr rfl (qA (pv 2) (qA (pv 5) (qA (pv 1) (qA (jU qz (pv 7) qG (fun _ _=>rfl)) qB)))))))))) (qE (qM xk)) qN))
  (qE (qW (qg (qU qi rfl T.b_isinstance rfl (qA (pv 7) (qA (zw rfl T.b_tuple rfl) qB)))) (qC (qZ 2 qA9.nd (pv 7))
  (qE (qW (vD (qOy (qI T.D84 (qBc T) hr rfl (qA (ql (qA (pv 1) (qA (qJ4 (wD qR (pv 2) (wD qR (pv 3) qKd)) rfl rfl (by simp) (by decide)) qB))) qB)))) (qE (qM xk)) qN))) qN))))))))
  (qE (qM xk))))))),?_⟩
 try dsimp only[jN,qd]
 refine⟨_,O,zs,ns,1,O,hS,hlen,by decide,fun c1=>?_⟩;refine⟨c1,O,fun re A' H1 e1 _ hre1 A0 A1=>?_⟩;have hre:RE H1 re A':=⟨.inl hre1,A0,A1⟩;refine⟨_,O,zs,ns,0,O,e1.seq hS,hlen,by decide,fun c0=>⟨_,O,c0,re,A',O,hre,fun tz0 ts0 tie H2 e2 hT0 hM0 htie=>?_⟩⟩;have hB0:=hM0.mono (show (50:Int)<=170 by decide) (show 11<=17 by decide);have hS2:=(e1.trans e2).seq hS;have hre2:=hre.same e2;refine⟨_,O,zs,ns,2,O,hS2,hlen,by decide,fun c2=>⟨c2,9,O,by decide,by decide,fun xz xs H5 e5 hxz hxs hxl _=>?_⟩⟩;refine⟨_,O,xz,re,xs,A',9,O,hxs,by rw[hxl];decide,hre2.same e5,by decide,by decide,fun v cm xs' H6 s6 hz6 _ hcf hI=>?_⟩;have e26:Same H2 H6:=fun b u hb=>s6 b u (qV hb hxz) (e5 b u hb);refine⟨sL1,fun l1 h1=>⟨sL1,fun l2 h2=>⟨sL0,fun l0 h0=>⟨sL2,fun t4 h4=>?_⟩⟩⟩⟩;have v1:=qF h1 (.lst [v]);have m1:upd H6 l1 (.lst [v]) l1=some (.lst [v]):=qD;generalize upd H6 l1 (.lst [v])=I1 at v1 m1 h2 h0 h4⊢;have v2:=qF h2 (.lst [.ref l1]);have m2:upd I1 l2 (.lst [.ref l1]) l2=some (.lst [.ref l1]):=qD;generalize upd I1 l2 (.lst [.ref l1])=I2 at v2 m2 h0 h4⊢;have v3:=qF h0 (.lst []);have m3:upd I2 l0 (.lst []) l0=some (.lst []):=qD;generalize upd I2 l0 (.lst [])=I3 at v3 m3 h4⊢;have v4:=qF h4 (.tup [.ref l2,.ref l0]);have m4:upd I3 t4 (.tup [.ref l2,.ref l0]) t4=some (.tup [.ref l2,.ref l0]):=qD;generalize upd I3 t4 (.tup [.ref l2,.ref l0])=I4 at v4 m4⊢;have v64:=v1.trans (v2.trans (v3.trans v4));have hL:TabF I4 (.ref t4) [[cm]] []:=⟨t4,l2,l0,[.ref l1],rfl,m4,(v3.trans v4) _ _ m2,⟨⟨l1,rfl,[v],(v2.trans (v3.trans v4)) _ _ m1,.one (hI.ts (qY v64))⟩,trivial⟩,v4 _ _ m3⟩;have e24:=e26.trans v64;have hT4:=hT0.same e24;have hre4:=hre2.same e24;have hS4:=e24.seq hS2;clear hT0 hre hre2 hS2 m1 m2 m3 m4 v1 v2 v3 v4 v64 h1 h2 h0 h4 hI s6 hz6 e26 e24 e5 hxs hxz;have hlow:∀M:Int,170<=M->∀ms∈[[cm]],GT A' M 100 ms/\∀m∈ms,m.wd≠"nest":=fun M hM ms hm=>by rw[List.mem_singleton]at hm;subst hm;refine⟨(qUr hcf ⟨A0,A1⟩).mono hM (by decide),fun m hm=>?_⟩;rw[List.mem_singleton]at hm;subst hm;obtain⟨nm,N,lo,rs,to,bo,len,_,_,_,_,_,_,_,_,_,_,_,rfl⟩:=hcf;show ("clip":Str)≠"nest";decide+kernel
 have em:∀x y:V,qEi [] [((Sum.inr ("top":Str):Key),x),(Sum.inr ("low":Str),y)]=[(Sum.inr ("top":Str),x),(Sum.inr ("low":Str),y)]:=fun x y=>by rfl
 refine⟨_,O,fun td htd=>?_⟩;refine⟨_,O,_,O,qD,[((Sum.inr ("top":Str):Key),V.ref tz0),(Sum.inr ("low":Str),.ref t4)],O,(by show 2<=15;decide),?_⟩;rw[em,qBh];have w5:=qF htd (.dK [((Sum.inr ("top":Str):Key),V.ref tz0),(Sum.inr ("low":Str),.ref t4)]);have k5:upd I4 td (.dK [((Sum.inr ("top":Str):Key),V.ref tz0),(Sum.inr ("low":Str),.ref t4)]) td=some (.dK [((Sum.inr ("top":Str):Key),V.ref tz0),(Sum.inr ("low":Str),.ref t4)]):=qD;generalize upd I4 td (.dK [((Sum.inr ("top":Str):Key),V.ref tz0),(Sum.inr ("low":Str),.ref t4)])=I5 at w5 k5⊢;refine⟨sL2,fun rz hrz=>?_⟩;have w6:=qF hrz (.tup [.ref re,.ref td]);have k6:upd I5 rz (.tup [.ref re,.ref td]) rz=some (.tup [.ref re,.ref td]):=qD;generalize upd I5 rz (.tup [.ref re,.ref td])=I6 at w6 k6⊢;have e46:=w5.trans w6;refine⟨rz,re,td,tz0,t4,A',170,ts0,[[cm]],tie,O,k6,hre4.same e46,.inl (w6 _ _ k5),hT4.same e46,hL.same e46,hB0.l3,(fun ms hm=>(hB0.ms ms hm).mono (Int.le_refl _) (by decide)),htie,O,hlow 170 (Int.le_refl _),by decide,fun H7 f7=>?_⟩;have f47:FL I4 H7:=(vj e46).trans f7;have hT7:=f47.tab hT4;have hL7:=f47.tab hL;have hre7:RE H7 re A':=⟨f47.rd hre4.1,hre4.2⟩;have hS7:SqL K H7 zs (ns.map V.int):=by
  rcases hS4 with h|h
  . refine .inl ?_
    rcases h with h|⟨o,h⟩
    . exact .inl (f47.lst h)
    . rcases f47 _ _ h with q|⟨kv,o',q,_⟩
      . exact .inr ⟨o,q⟩
      . cases q
  . exact .inr h
 clear hT4 hL hre4 hS4 f7 f47 e46 w5 w6 k5 k6;refine qL fun _ Y=>?_;obtain⟨cs,hcut,hcl⟩:=qR3 ns (some 3) (some 15);apply Y;have hfew:=qS9 (ns.map V.int) 3 15;have hcut':zT (ns.map V.int) (some ((3:Nat):Int)) (some ((15:Nat):Int))=cs.map V.int:=hcut;rw[hcut',List.length_map]at hfew;refine⟨_,O,3,O,15,O,zs,_,O,hS7,fun zc hzc=>?_⟩;rw[hcut];have w10:=qF hzc (.lst (cs.map V.int));have kc:upd H7 zc (.lst (cs.map V.int)) zc=some (.lst (cs.map V.int)):=qD;generalize upd H7 zc (.lst (cs.map V.int))=H10 at w10 kc⊢;have hT10:=hT7.same w10;have hL10:=hL7.same w10;have hre10:=hre7.same w10;clear hT7 hL7 hre7 hS7;refine⟨zc,O,⟨_,SqL.of kc⟩,jn (K:=K) (a:=zc) (xs:=cs.map V.int) (fun i σ H'=> ∃(tz:Addr) (ts:List (List Im)) (o1 o2 o3 o4:Option V),σ=[some (.ref zs),some (.ref re),some (.ref tz),some (.ref t4),o1,o2,o3,o4]/\FL H10 H'/\TabF H' (.ref tz) ts tie/\TB A' (170+14*(i:Int)) (17+4*i) ts tie) ⟨tz0,ts0,none,none,none,none,O,FL.refl _,hT10,by simpa using hB0⟩ ?_ ?_ ?_⟩
 . rintro i σ H' hi' ⟨tz,ts,o1,o2,o3,o4,rfl,f,_⟩
   exact SqL.of (f.lst kc)
 . rintro i x σ H' hx ⟨tz,ts,o1,o2,o3,o4,rfl,f,hT,hB⟩
   have hi12:i<12:=by have:=(glt hx);rw[List.length_map]at this;omega
   obtain⟨c,rfl⟩:∃c:Int,x=.int c:=by
    rw[List.getElem?_map]at hx;cases hq:cs[i]? with
    |none=>rw[hq]at hx;cases hx
    |some k=>rw[hq]at hx;cases hx;exact⟨k,rfl⟩
   have hreN:RE H' re A':=⟨f.rd hre10.1,hre10.2⟩;have hLN:=f.tab hL10;refine⟨_,O,c,20,O,by decide,by decide,fun xz xs H5 e5 hxz hxs hxl _=>?_⟩;refine⟨_,O,_,O,xz,tz,re,xs,ts,tie,A',170+14*(i:Int),17+4*i,H',O,hxs,by rw[hxl];decide,hxz,e5,hT,hB,by omega,hreN,fun dz n d H6 e6 hn hD hN=>?_⟩;refine⟨_,rfl,tz,ts,tie,rfl,hT.same e6,by have:=hB.l3;omega,fun cz Ha e7 hC=>?_⟩;have e67:=e6.trans e7;obtain⟨ms,hms⟩:∃ms,ts[n]?=some ms:=⟨_,List.getElem?_eq_getElem (by rw[hB.l3];exact hn)⟩;have hG:=hB.ms ms (List.mem_of_getElem? hms);have hDa:=hD.same e7;have hOk:qWe Ha re ms d:=qWo hN hG (by omega) (hreN.same e67);refine⟨fun σ' Hb=> ∃v:V,σ'=[some (.ref zs),some (.ref re),some (.ref tz),some (.ref t4),some (.int c),some (.ref dz),some (.ref cz),some v]/\Same Ha Hb/\((∃x:Str,v=.str x)\/(∃(l:Addr) (m:Int),v=.ref l/\Hb l=some (.lst [.str "short",.int m])/\qAj (rlE A') ts tie n ms d=.short m)\/∃(t':Addr) (ts':List (List Im)),v=.ref t'/\TabF Hb (.ref t') ts' tie/\qAj (rlE A') ts tie n ms d=.good ts'),?_,?_⟩
   . exact⟨_,O,_,O,_,O,tz,dz,re,rlE A',ts,tie,_,O,hB.tabD (by omega) (by omega) (hT.same e67) (hreN.same e67),⟨n,ms,d,hms,hDa,hOk,O⟩,fun _ Hb e=>⟨_,O,e,.inl ⟨_,O⟩⟩,fun _ Hb e=>⟨_,O,e,.inl ⟨_,O⟩⟩,fun m h l Hb e hl=>⟨_,O,e,.inr (.inl ⟨l,m,O,hl,h⟩)⟩,fun ts' h t' Hb e hN'=>⟨_,O,e,.inr (.inr ⟨t',ts',O,hN',h⟩)⟩⟩
   rintro σ' Hb ⟨v,rfl,eb,hv⟩;have e8:=e67.trans eb;have hTb:=hT.same e8;have hreB:=hreN.same e8;refine⟨_,O,_,O,qWi hTb (hC.same eb) ⟨false,O,qt ?_⟩⟩;refine⟨fun σ' Hc=>σ'=[some (.ref zs),some (.ref re),some (.ref tz),some (.ref t4),some (.int c),some (.ref dz),some (.ref cz),some v]/\Same Hb Hc,?_,?_⟩
   . rcases hv with ⟨x,rfl⟩|⟨l,m,rfl,hl,hr⟩|⟨t',ts',rfl,hT',hr⟩
     . exact⟨_,O,_,_,_,false,O,.str _,⟨_,.inl ⟨O,by kernel_rfl⟩⟩,false,O,qt (qt ⟨O,Same.refl _⟩)⟩
     . refine⟨_,O,_,_,_,true,O,.lst hl,⟨_,.inl ⟨O,by kernel_rfl⟩⟩,true,O,jl ?_⟩
       have hSh:=qWn hG hN hr;have hDb:=hDa.same eb;refine⟨_,O,_,O,_,O,qYz rfl (SqL.of hl) at1 ?_⟩;cases hSh with
       | @mix t l' s0 s1 s2=>
        have hl5:=hN.2.2;refine⟨tz,dz,re,"mix",n,t,l',m,ts,tie,A',170+14*(i:Int),17+4*i,O,hDb,hTb,hreB,hB,by omega,by omega,Int.mul_nonneg s0 (by omega),by unfold wG;rw[if_neg (by omega),if_neg (by omega)];exact s1,by omega,?_,fun Hc ec=>⟨true,O,qt ⟨O,ec⟩⟩⟩;by_cases m0:m=0
        . exact .inl ⟨O,m0⟩
        . obtain⟨ts',h'⟩:=s2 (by omega)
          exact .inr ⟨fun q=>m0 q.2,ts',fun Hc dz' ec hd'=>⟨n,ms,.mix t m,hms,hd',⟨hN.1,by omega⟩,h'.symm⟩⟩
       | @rol w t b s0 s1 s2=>
        refine qL fun _ Y=>?_;obtain⟨h3,hd3⟩:=hDb;have hb4:=hN.2.2.2;have nm:w≠"mix":=by rcases h3 with rfl|rfl|rfl <;> decide+kernel
        obtain⟨ts',h'⟩:=s2;apply Y;refine⟨tz,dz,re,w,n,t,b,m,ts,tie,A',170+14*(i:Int),17+4*i,O,hd3,hTb,hreB,hB,by omega,by omega,s0,s1,by omega,.inr ⟨fun q=>nm q.1,ts',fun Hc dz' ec hd'=>⟨n,ms,.rol w t m,hms,⟨h3,hd'⟩,⟨hN.2.1,?_⟩,h'.symm⟩⟩,fun Hc ec=>⟨true,O,qt ⟨O,ec⟩⟩⟩;unfold wG at s1;split at s1 <;> split at s1 <;> omega
     . obtain⟨tt,tl,ti,zz,q1,q2,_⟩:=id hT'
       cases q1;exact⟨_,O,_,_,_,false,O,.tup q2,⟨_,.inl ⟨O,by kernel_rfl⟩⟩,false,O,qt (qt ⟨O,Same.refl _⟩)⟩
   rintro σ' Hc ⟨rfl,ec⟩;have e9:=e8.trans ec;have keep:∀(o1 o2 o3 o4:Option V),∃(tz':Addr) (ts':List (List Im)) (p1 p2 p3 p4:Option V),[some (V.ref zs),some (.ref re),some (.ref tz),some (.ref t4),o1,o2,o3,o4]=[some (.ref zs),some (.ref re),some (.ref tz'),some (.ref t4),p1,p2,p3,p4]/\FL H10 Hc/\TabF Hc (.ref tz') ts' tie/\TB A' (170+14*((i+1:Nat):Int)) (17+4*(i+1)) ts' tie:=fun o1 o2 o3 o4=>⟨tz,ts,o1,o2,o3,o4,rfl,f.trans (vj e9),hT.same e9,hB.mono (by omega) (by omega)⟩;rcases hv with ⟨x,rfl⟩|⟨l,m,rfl,hl,hr⟩|⟨t',ts',rfl,hT',hr⟩
   . exact⟨_,O,_,_,_,false,O,.str _,⟨_,.inl ⟨O,by kernel_rfl⟩⟩,false,O,qt (keep _ _ _ _)⟩
   . exact⟨_,O,_,_,_,false,O,.lst (ec _ _ hl),⟨_,.inl ⟨O,by kernel_rfl⟩⟩,false,O,qt (keep _ _ _ _)⟩
   . have hTc:=hT'.same ec
     refine qL fun _ Y=>?_;obtain⟨tt,tl,ti,zz,q1,q2,_⟩:=id hTc;cases q1;apply Y;have hB':=hB.res ⟨A0,A1⟩ (by omega) hms hN hr;refine⟨_,O,_,_,_,true,O,.tup q2,⟨_,.inl ⟨O,by kernel_rfl⟩⟩,true,O,jl ⟨_,O,_,O,fun td htd=>?_⟩⟩;refine⟨_,O,_,O,qD,[((Sum.inr ("top":Str):Key),V.ref t'),(Sum.inr ("low":Str),.ref t4)],O,(by show 2<=15;decide),?_⟩;rw[em,qBh];have w5:=qF htd (.dK [((Sum.inr ("top":Str):Key),V.ref t'),(Sum.inr ("low":Str),.ref t4)]);have k5:upd Hc td (.dK [((Sum.inr ("top":Str):Key),V.ref t'),(Sum.inr ("low":Str),.ref t4)]) td=some (.dK [((Sum.inr ("top":Str):Key),V.ref t'),(Sum.inr ("low":Str),.ref t4)]):=qD;generalize upd Hc td (.dK [((Sum.inr ("top":Str):Key),V.ref t'),(Sum.inr ("low":Str),.ref t4)])=I5 at w5 k5⊢;refine⟨sL2,fun rz hrz=>?_⟩;have w6:=qF hrz (.tup [.ref re,.ref td]);have k6:upd I5 rz (.tup [.ref re,.ref td]) rz=some (.tup [.ref re,.ref td]):=qD;generalize upd I5 rz (.tup [.ref re,.ref td])=I6 at w6 k6⊢;have e46:=w5.trans w6;refine⟨rz,re,td,t',t4,A',170+14*(i:Int)+14,ts',[[cm]],tie,O,k6,(hreN.same e9).same e46,.inl (w6 _ _ k5),hTc.same e46,(hLN.same e9).same e46,hB'.l3,(fun ms hm=>(hB'.ms ms hm).mono (Int.le_refl _) (by omega)),htie,O,hlow _ (by omega),by omega,fun Hd fd=>?_⟩;have f9:FL Hc Hd:=(vj e46).trans fd;refine⟨_,O,qt ⟨t',ts',_,_,_,_,O,(f.trans (vj e9)).trans f9,f9.tab hTc,?_⟩⟩;exact hB'.mono (by omega) (by omega)
 rintro σ H' ⟨tz,ts,o1,o2,o3,o4,rfl,f,_⟩;exact kk _
end
structure DF(K:W.Frag)(x:Str)(st:Stmt)(f:Addr)(fd:FuncData):Prop where
 n:W.nsIn K mainGlobals x=some (some (.ref f))
 F:Fun K x x st f fd
theorem df_mk{K:W.Frag}{x:Str}{st:Stmt}{f:Addr}{oc:Value}{od an:Option Addr}{osl:Array (Option Value)}{kV doc pm cdv ct:Value}(n:W.nsIn K mainGlobals x=some (some (.ref f)))(l:K.lookup f=some ⟨oc,od,.func (W.fnOf x x (vz st) (zo st) (qH st) .none kV doc pm an cdv ct),osl⟩)(c:W.codeIn K cdv x=true)(k:W.keepIn K (.ref f)=true):DF K x st f (W.fnOf x x (vz st) (zo st) (qH st) .none kV doc pm an cdv ct):=⟨n,qSl l c k⟩
def GL(K:W.Frag)(x:Str)(v:Option Value):Prop:=W.nsIn K mainGlobals x=some v
theorem gl_mk{K:W.Frag}{x:Str}{v:Option Value}(h:W.nsIn K mainGlobals x=some v):GL K x v:=h
def Cur:List Str->(List Value->Prop)->Prop
 |[],F=>F []
 |_::ps,F=> ∀a,Cur ps fun us=>F (a::us)
theorem Cur.all:∀{ps:List Str} {F:List Value->Prop},Cur ps F->∀us:List Value,us.length=ps.length->F us
 |[],_,h,[],_=>h
 |_::_,_,h,a::_,e=>Cur.all (h a) _ (Nat.succ.inj e)
theorem dG{K:W.Frag}{x:Str}{st:Stmt}{f:Addr}{fd:FuncData}{h:Heap}{mg:Str->Option Value}{ps:List Str}(X:K.In h)(G:h.Ns mainGlobals mg)(d:DF K x st f fd)
 (b:∀(kV doc pm:Value) (an:Option Addr) (cdv ct:Value),Cur ps fun us=>bindArgs (W.fnOf x x (vz st) (zo st) (qH st) .none kV doc pm an cdv ct) ⟨us,[]⟩=pure (ps.zip us):=by (repeat intro _);exact rfl):L3.Def K mg x st ps f fd:=⟨d.F,d.F.binds fun k c p n v t=>(b k c p n v t).all,W.mg_of X G d.n⟩
theorem all_mk{l:W.OpenLaw}{w:World}{K:W.Frag}{h:Heap}{mg:Str->Option Value}{fa f0 f1 f2 f3 f4 f5 f6 f7 f8 f9 f10 f11 f12 f13 f14 f15 f16 f17 f18 f19 f20 f21 f22 f23 f24 f25 f26 f27 f28 f29 f30 f31 f32 f33 f34 f35 f36 f37 f38 f39 f40 f41 f42 f43 f44 f45 f46 f47 f48 f49 f50 f51 f52 f53 f54 f55 f56 f57 f58 f59 f60 f61 f62 f63 f64 f65 f66 f67 f68 f69 f70 f71 f72 f73 f74 f75 f76 f77 f78 f79 f80 f81 f82 f83 f84 f85 f86 f87 f88 f89 f90 f91 f92 f93 f94 f95 f96 f97 C0 C1 C2 C3 C4 C5 C6 nNOUGHT nROLLS nLAYS nPUSHES nCHANGES fmShort:Addr}{g0 g1 g2 g3 g4 g5 g6 g7 g8 g9 g10 g11 g12 g13 g14 g15 g16 g17 g18 g19 g20 g21 g22 g23 g24 g25 g26 g27 g28 g29 g30 g31 g32 g33 g34 g35 g36 g37 g38 g39 g40 g41 g42 g43 g44 g45 g46 g47 g48 g49 g50 g51 g52 g53 g54 g55 g56 g57 g58 g59 g60 g61 g62 g63 g64 g65 g66 g67 g68 g69 g70 g71 g72 g73 g74 g75 g76 g77 g78 g79 g80 g81 g82 g83 g84 g85 g86 g87 g88 g89 g90 g91 g92 g93 g94 g95 g96 g97:FuncData}(X:K.In h)(G:h.Ns mainGlobals mg)(hfa:mg "law"=some (.ref fa))
 {odNOUGHT odROLLS odLAYS odPUSHES odCHANGES odmShort anmShort:Option Addr} {slNOUGHT slROLLS slLAYS slPUSHES slCHANGES slmShort:Array (Option Value)} {ocmShort kVmShort dcmShort pmmShort cdmShort ctmShort:Value} {tLETTERS tLONGEST_NAME tMOST_ROOM tNOUGHT_0 tNOUGHT_1 tMOST_BY tROLLS_0 tROLLS_1 tROLLS_2 tLAYS_0 tLAYS_1 tPUSHES_0 tPUSHES_1 tPUSHES_2 tCHANGES_0 tCHANGES_1 tCHANGES_2 tCHANGES_3 tCHANGES_4 tCHANGES_5 tMOST_PICTURES tMOST_TRACKS tMOST_DEEP:Tok} {nnNOUGHT nnROLLS nnLAYS nnPUSHES nnCHANGES:Nat}
 (h0:DF K "is_whole" qBw f0 g0)
 (h1:DF K "common_divisor" xo f1 g1)
 (h2:DF K "is_fraction" kK f2 g2)
 (h3:DF K "fraction" qB0 f3 g3)
 (h4:DF K "sum_of" qGv f4 g4)
 (h5:DF K "less_by" qDp f5 g5)
 (h6:DF K "times_of" qB3 f6 g6)
 (h7:DF K "quotient" qB7 f7 g7)
 (h8:DF K "is_before" wa f8 g8)
 (h9:DF K "floor_of" qCb f9 g9)
 (h10:DF K "is_name" qE2 f10 g10)
 (h11:DF K "has_clip_form" zK f11 g11)
 (h12:DF K "place_at" qB4 f12 g12)
 (h13:DF K "picture_at" v0 f13 g13)
 (h14:DF K "is_there" qCd f14 g14)
 (h15:DF K "check_clip" ve f15 g15)
 (h16:DF K "clip_part" wy f16 g16)
 (h17:DF K "goes_on" qDx f17 g17)
 (h18:DF K "moments_there" zE f18 g18)
 (h19:DF K "head_room" qAd f19 g19)
 (h20:DF K "tail_room" wv f20 g20)
 (h21:DF K "is_length" wo f21 g21)
 (h22:DF K "has_nest_form" zI f22 g22)
 (h23:DF K "has_gap_or_mix_form" jt f23 g23)
 (h24:DF K "moments_of" vp f24 g24)
 (h25:DF K "one_form" qBo f25 g25)
 (h26:DF K "length_of" qAg f26 g26)
 (h27:DF K "borders_of" vq f27 g27)
 (h28:DF K "item_at" qD7 f28 g28)
 (h29:DF K "kind_at" qEh f29 g29)
 (h30:DF K "is_in_one_form" xm f30 g30)
 (h31:DF K "place_ahead" kn f31 g31)
 (h32:DF K "place_behind" zk f32 g32)
 (h33:DF K "neighbours_at" zR f33 g33)
 (h34:DF K "clips_at_border" xN f34 g34)
 (h35:DF K "lies_within" ke f35 g35)
 (h36:DF K "item_part" wm f36 g36)
 (h37:DF K "part_of_track" zM f37 g37)
 (h38:DF K "part_ahead" vc f38 g38)
 (h39:DF K "part_behind" kI f39 g39)
 (h40:DF K "mix_spans" wq f40 g40)
 (h41:DF K "taken_at_begin" xj f41 g41)
 (h42:DF K "taken_at_end" zh f42 g42)
 (h43:DF K "most_mix" qB1 f43 g43)
 (h44:DF K "mixes_fit" wk f44 g44)
 (h45:DF K "check_place" kd f45 g45)
 (h46:DF K "check_by" qB8 f46 g46)
 (h47:DF K "clip_there" vT f47 g47)
 (h48:DF K "clip_and_sides" xn f48 g48)
 (h49:DF K "places_named" zt f49 g49)
 (h50:DF K "has_mix" qDk f50 g50)
 (h51:DF K "check_short" kr f51 g51)
 (h52:DF K "most_slip" ww f52 g52)
 (h53:DF K "most_roll" qAe f53 g53)
 (h54:DF K "slipped" qE1 f54 g54)
 (h55:DF K "with_rolled_ends" xG f55 g55)
 (h56:DF K "table_with" wA f56 g56)
 (h57:DF K "rolled" qGq f57 g57)
 (h58:DF K "stretch_of" vi f58 g58)
 (h59:DF K "laid_by" qEj f59 g59)
 (h60:DF K "laid_on_tied" zr f60 g60)
 (h61:DF K "tracks_changed" xl f61 g61)
 (h62:DF K "check_numbers" zN f62 g62)
 (h63:DF K "touches_mix" kX f63 g63)
 (h64:DF K "check_mixes" kP f64 g64)
 (h65:DF K "check_change" zg f65 g65)
 (h66:DF K "nest_goes_on" zn f66 g66)
 (h67:DF K "can_heal" qBs f67 g67)
 (h68:DF K "healed" qGh f68 g68)
 (h69:DF K "mixed" qKi f69 g69)
 (h70:DF K "unmixed" qEl f70 g70)
 (h71:DF K "relaid" qG7 f71 g71)
 (h72:DF K "changed" qEy f72 g72)
 (h73:DF K "deed_done" qAf f73 g73)
 (h74:DF K "is_number_of_pictures" je f74 g74)
 (h75:DF K "check_reels" kH f75 g75)
 (h76:DF K "check_clip_of_room" j9 f76 g76)
 (h77:DF K "check_item" vk f77 g77)
 (h78:DF K "check_track" kY f78 g78)
 (h79:DF K "is_tied" qEw f79 g79)
 (h80:DF K "check_table" vC f80 g80)
 (h81:DF K "nested_in" wp f81 g81)
 (h82:DF K "rests_upon" vZ f82 g82)
 (h83:DF K "check_depth" kW f83 g83)
 (h84:DF K "check_room" vQ f84 g84)
 (h85:DF K "_law_cell_at" zj f85 g85)
 (h86:DF K "_law_stream" kU f86 g86)
 (h87:DF K "_law_lowest" kN f87 g87)
 (h88:DF K "_law_clip" kO f88 g88)
 (h89:DF K "_law_track" vS f89 g89)
 (h90:DF K "_law_reels" vv f90 g90)
 (h91:DF K "_law_mixed" vY f91 g91)
 (h92:DF K "_law_table" vU f92 g92)
 (h93:DF K "_law_copied" kh f93 g93)
 (h94:DF K "_law_any_deed" zO f94 g94)
 (h95:DF K "_law_done" qAh f95 g95)
 (h96:DF K "_law_most" wt f96 g96)
 (h97:DF K "law" qUf f97 g97)
 (xg0:GL K "CutError" (some (.ref C0)))
 (xg1:GL K "NoNumber" (some (.ref C1)))
 (xg2:GL K "NoClip" (some (.ref C2)))
 (xg3:GL K "NoPlace" (some (.ref C3)))
 (xg4:GL K "Mixed" (some (.ref C4)))
 (xg5:GL K "NoRoom" (some (.ref C5)))
 (xg6:GL K "Short" (some (.ref C6)))
 (x_NoPlace:L3.OwnX K C3)
 (x_Mixed:L3.OwnX K C4)
 (yPP:W.exmOne K (.ref C3) (.ref C3)=some true)
 (yMM:W.exmOne K (.ref C4) (.ref C4)=some true)
 (yMP:W.exmOne K (.ref C4) (.ref C3)=some false)
 (ySP:W.exmOne K (.ref C6) (.ref C3)=some false)
 (ySM:W.exmOne K (.ref C6) (.ref C4)=some false)
 (ySS:W.exmOne K (.ref C6) (.ref C6)=some true)
 (e_Short:L3.ExcK K C6)
 (f_most:W.findIn K (.ref C6) "most"=some none)
 (xz0:GL K "isinstance" none)
 (xz1:GL K "int" none)
 (xz2:GL K "bool" none)
 (xz3:GL K "abs" none)
 (xz4:GL K "tuple" none)
 (xz5:GL K "len" none)
 (xz6:GL K "all" none)
 (xz7:GL K "str" none)
 (xz8:GL K "min" none)
 (xz9:GL K "sum" none)
 (xz10:GL K "enumerate" none)
 (xz11:GL K "max" none)
 (xz12:GL K "list" none)
 (xz13:GL K "any" none)
 (xz14:GL K "range" none)
 (xz15:GL K "dict" none)
 (xcLETTERS:GL K "LETTERS" (some (.str "abcdefghijklmnopqrstuvwxyz" tLETTERS)))
 (xcLONGEST_NAME:GL K "LONGEST_NAME" (some (.int 8 tLONGEST_NAME)))
 (xcMOST_ROOM:GL K "MOST_ROOM" (some (.int 1000000 tMOST_ROOM)))
 (xcNOUGHT:GL K "NOUGHT" (some (.ref nNOUGHT))) (xlNOUGHT:K.lookup nNOUGHT=some ⟨.type "tuple",odNOUGHT,.seq #[.int 0 tNOUGHT_0,.int 1 tNOUGHT_1] nnNOUGHT,slNOUGHT⟩)
 (xcMOST_BY:GL K "MOST_BY" (some (.int 1000000 tMOST_BY)))
 (xcROLLS:GL K "ROLLS" (some (.ref nROLLS))) (xlROLLS:K.lookup nROLLS=some ⟨.type "tuple",odROLLS,.seq #[.str "roll" tROLLS_0,.str "slip" tROLLS_1,.str "slide" tROLLS_2] nnROLLS,slROLLS⟩)
 (xcLAYS:GL K "LAYS" (some (.ref nLAYS))) (xlLAYS:K.lookup nLAYS=some ⟨.type "tuple",odLAYS,.seq #[.str "lay_in" tLAYS_0,.str "lay_over" tLAYS_1] nnLAYS,slLAYS⟩)
 (xcPUSHES:GL K "PUSHES" (some (.ref nPUSHES))) (xlPUSHES:K.lookup nPUSHES=some ⟨.type "tuple",odPUSHES,.seq #[.str "lay_in" tPUSHES_0,.str "open" tPUSHES_1,.str "close" tPUSHES_2] nnPUSHES,slPUSHES⟩)
 (xcCHANGES:GL K "CHANGES" (some (.ref nCHANGES))) (xlCHANGES:K.lookup nCHANGES=some ⟨.type "tuple",odCHANGES,.seq #[.str "cut" tCHANGES_0,.str "lay_in" tCHANGES_1,.str "open" tCHANGES_2,.str "close" tCHANGES_3,.str "lift" tCHANGES_4,.str "lay_over" tCHANGES_5] nnCHANGES,slCHANGES⟩)
 (xcMOST_PICTURES:GL K "MOST_PICTURES" (some (.int 1000000000 tMOST_PICTURES)))
 (xcMOST_TRACKS:GL K "MOST_TRACKS" (some (.int 8 tMOST_TRACKS)))
 (xcMOST_DEEP:GL K "MOST_DEEP" (some (.int 6 tMOST_DEEP)))
 (iaShort:W.findIn K (.ref C6) "__init__"=some (some (.ref fmShort))) (ilShort:K.lookup fmShort=some ⟨ocmShort,odmShort,.func (W.fnOf "__init__" "Short.__init__" (vz wK) (zo wK) (qH wK) .none kVmShort dcmShort pmmShort anmShort cdmShort ctmShort),slmShort⟩) (icShort:W.codeIn K cdmShort "Short.__init__"=true) (ikShort:W.keepIn K (.ref fmShort)=true) (ifShort:W.isFn K (.ref fmShort)=true)
 (ivShort:L3.exOver K C6 C0=true) (ihShort:W.hasDictIn K C6=true) (isShort:W.findIn K (.ref C6) "__setattr__"=some (some (.builtin "object.__setattr__"))) (ixShort:L3.excInitIn K C6 fmShort=true) (itShort:W.takerIn K C6 "most"=some none)
 :∃fd:FuncData,(∀(s:Shared) (v:Value),BindsTo s fd ⟨[v],[]⟩ [("_law_script",v)])/\∀base:Heap,K.In base->base.Ns mainGlobals mg->FnOk l.prog w K mg base CX0 15 fa fd ["_law_script"] (qQp K):=by
 have e:=hfa.symm.trans (W.mg_of X G h97.n);obtain rfl:f97=fa:=by cases e;rfl
 obtain⟨_,_,_,_,_,_,_,_,_,rfl,_,_⟩:=h97.F.ex;have FmShort:=qSl (st:=wK) ilShort icShort ikShort;have bmShort:=FmShort.binds (ps:=["self","most"]) fun _ _ _ _ _ _ us hl=>match us,hl with|[_,_],_=>rfl
 have T:Tx K mg ⟨f0,_,f1,_,f2,_,f3,_,f4,_,f5,_,f6,_,f7,_,f8,_,f9,_,f10,_,f11,_,f12,_,f13,_,f14,_,f15,_,f16,_,f17,_,f18,_,f19,_,f20,_,f21,_,f22,_,f23,_,f24,_,f25,_,f26,_,f27,_,f28,_,f29,_,f30,_,f31,_,f32,_,f33,_,f34,_,f35,_,f36,_,f37,_,f38,_,f39,_,f40,_,f41,_,f42,_,f43,_,f44,_,f45,_,f46,_,f47,_,f48,_,f49,_,f50,_,f51,_,f52,_,f53,_,f54,_,f55,_,f56,_,f57,_,f58,_,f59,_,f60,_,f61,_,f62,_,f63,_,f64,_,f65,_,f66,_,f67,_,f68,_,f69,_,f70,_,f71,_,f72,_,f73,_,f74,_,f75,_,f76,_,f77,_,f78,_,f79,_,f80,_,f81,_,f82,_,f83,_,f84,_,f85,_,f86,_,f87,_,f88,_,f89,_,f90,_,f91,_,f92,_,f93,_,f94,_,f95,_,f96,_,f97,_,C0,C1,C2,C3,C4,C5,C6,tLETTERS,tLONGEST_NAME,tMOST_ROOM,nNOUGHT,tMOST_BY,nROLLS,nLAYS,nPUSHES,nCHANGES,tMOST_PICTURES,tMOST_TRACKS,tMOST_DEEP,fmShort,_⟩:=⟨dG X G h0,dG X G h1,dG X G h2,dG X G h3,dG X G h4,dG X G h5,dG X G h6,dG X G h7,dG X G h8,dG X G h9,dG X G h10,dG X G h11,dG X G h12,dG X G h13,dG X G h14,dG X G h15,dG X G h16,dG X G h17,dG X G h18,dG X G h19,dG X G h20,dG X G h21,dG X G h22,dG X G h23,dG X G h24,dG X G h25,dG X G h26,dG X G h27,dG X G h28,dG X G h29,dG X G h30,dG X G h31,dG X G h32,dG X G h33,dG X G h34,dG X G h35,dG X G h36,dG X G h37,dG X G h38,dG X G h39,dG X G h40,dG X G h41,dG X G h42,dG X G h43,dG X G h44,dG X G h45,dG X G h46,dG X G h47,dG X G h48,dG X G h49,dG X G h50,dG X G h51,dG X G h52,dG X G h53,dG X G h54,dG X G h55,dG X G h56,dG X G h57,dG X G h58,dG X G h59,dG X G h60,dG X G h61,dG X G h62,dG X G h63,dG X G h64,dG X G h65,dG X G h66,dG X G h67,dG X G h68,dG X G h69,dG X G h70,dG X G h71,dG X G h72,dG X G h73,dG X G h74,dG X G h75,dG X G h76,dG X G h77,dG X G h78,dG X G h79,dG X G h80,dG X G h81,dG X G h82,dG X G h83,dG X G h84,dG X G h85,dG X G h86,dG X G h87,dG X G h88,dG X G h89,dG X G h90,dG X G h91,dG X G h92,dG X G h93,dG X G h94,dG X G h95,dG X G h96,dG X G h97,W.mg_of X G xg0,W.mg_of X G xg1,W.mg_of X G xg2,W.mg_of X G xg3,W.mg_of X G xg4,W.mg_of X G xg5,W.mg_of X G xg6,W.mg_none_of X G xz0,W.mg_none_of X G xz1,W.mg_none_of X G xz2,W.mg_none_of X G xz3,W.mg_none_of X G xz4,W.mg_none_of X G xz5,W.mg_none_of X G xz6,W.mg_none_of X G xz7,W.mg_none_of X G xz8,W.mg_none_of X G xz9,W.mg_none_of X G xz10,W.mg_none_of X G xz11,W.mg_none_of X G xz12,W.mg_none_of X G xz13,W.mg_none_of X G xz14,W.mg_none_of X G xz15,W.mg_of X G xcLETTERS,W.mg_of X G xcLONGEST_NAME,W.mg_of X G xcMOST_ROOM,W.mg_of X G xcNOUGHT,fun H=>.inr ⟨_,_,_,xlNOUGHT,rfl,rfl,by show 2<=sizeLine;decide,.cons ⟨_,rfl⟩ (.cons ⟨_,rfl⟩ (.nil))⟩,W.mg_of X G xcMOST_BY,W.mg_of X G xcROLLS,fun H=>.inr ⟨_,_,_,xlROLLS,rfl,rfl,by show 3<=sizeLine;decide,.cons ⟨_,rfl⟩ (.cons ⟨_,rfl⟩ (.cons ⟨_,rfl⟩ (.nil)))⟩,W.mg_of X G xcLAYS,fun H=>.inr ⟨_,_,_,xlLAYS,rfl,rfl,by show 2<=sizeLine;decide,.cons ⟨_,rfl⟩ (.cons ⟨_,rfl⟩ (.nil))⟩,W.mg_of X G xcPUSHES,fun H=>.inr ⟨_,_,_,xlPUSHES,rfl,rfl,by show 3<=sizeLine;decide,.cons ⟨_,rfl⟩ (.cons ⟨_,rfl⟩ (.cons ⟨_,rfl⟩ (.nil)))⟩,W.mg_of X G xcCHANGES,fun H=>.inr ⟨_,_,_,xlCHANGES,rfl,rfl,by show 6<=sizeLine;decide,.cons ⟨_,rfl⟩ (.cons ⟨_,rfl⟩ (.cons ⟨_,rfl⟩ (.cons ⟨_,rfl⟩ (.cons ⟨_,rfl⟩ (.cons ⟨_,rfl⟩ (.nil))))))⟩,W.mg_of X G xcMOST_PICTURES,W.mg_of X G xcMOST_TRACKS,W.mg_of X G xcMOST_DEEP,x_NoPlace,x_Mixed,yPP,yMM,yMP,ySP,ySM,ySS,e_Short,f_most,FmShort,bmShort,⟨ivShort,ihShort,isShort,ixShort,ifShort⟩,itShort⟩;exact⟨_,fun s v=>.of_eq rfl,fun base _ _=>qVs T⟩
theorem walk{l:W.OpenLaw}{q:Program}{loose:List Str}{XP:(Str->Option Value)->Heap->Prop}{YP:World->Heap->Prop}{d:DefRec}{K:Params->W.Frag}(hn:l.most=some 63)(hdf:d.params.defaults=[])
 (hY:∀(w:World) (h:Heap),YP w h->(K w.params).In h)
 (F:∀(w:World) (mg:Str->Option Value) (fa:Addr) (h:Heap),(K w.params).In h->h.Ns mainGlobals mg->mg d.name=some (.ref fa)->
   ∃fd:FuncData,(∀(s:Shared) (u:Value),BindsTo s fd ⟨[u],[]⟩ [("_law_script",u)])/\∀base:Heap,(K w.params).In base->base.Ns mainGlobals mg->FnOk l.prog w (K w.params) mg base CX0 15 fa fd ["_law_script"] (qQp (K w.params))):
 W.WalkO q loose XP YP l.row.toRowW d [] (fun f vs=>PySem.call f vs):=
 L2.walk_of (n:=63) (k:=15) (x:="_law_script") (CX:=fun _=>CX0) (sp:=fun w=>qQp (K w.params)) hn (by decide) hdf ⟨rfl,by decide,by decide⟩ hY F (fun _ _ a ns hl _ hS=>⟨a,ns,rfl,hS,hl,fun _=>rfl⟩) fun _ _ _ _ _ z=>z
end Lw
namespace PySem.W.Fast
def tw9054283585347163616:=()
def tw2406083079369227808:=()
def tw790886002347388704:=()
def tw125595865656222051:=()
def tw17430808745342932068:=()
def tw4838102253967318885:=()
def tw12626040827859056742:=()
def tw3704422340193826951:=()
def tw2061330258021088200:=()
def tw8847001379205228937:=()
def tw1707239654391184361:=()
def tw4170414814241279595:=()
def tw15139251496634170380:=()
def tw8500029261886281836:=()
def tw2716870466647760300:=()
def tw13261237856994439280:=()
def tw11622891360587399408:=()
def tw17371788076825845138:=()
def tw9043032814630510290:=()
def tw16807692585310957939:=()
def tw16004528768333598581:=()
def tw16990222971105800631:=()
def tw6184273532997619159:=()
def tw17443227410007567512:=()
def tw10693172435573156536:=()
def tw10991855647300113561:=()
def tw6785285963690976569:=()
def tw6799395601801902202:=()
def tw15454349429415103674:=()
def tw11182811905056700731:=()
def tw17415554126189940635:=()
def tw6670755543782383611:=()
def tw323413199516436604:=()
def tw9903447407818907645:=()
def tw10223063940657912350:=()
def tw14450948993521027233:=()
def tw13261505365966800772:=()
def tw10175351911432648108:=()
def tw18400523549872196293:=()
def tw15123325568316054407:=()
def tw10207985543937348210:=()
def tw17551383422341968848:=()
def tw15244103871221604051:=()
def tw4024265025434100729:=()
def tw9066481858820655296:=()
def tw10828413073169465863:=()
def tw13335855906857245433:=()
def tw3187120351190557970:=()
def tw8374541269538885221:=()
def tw14995742494493103956:=()
def tw11926940276444358603:=()
def tw16380503175975046675:=()
def tw4709295612144519630:=()
def tw13919290995680167194:=()
def tw9903062654479333966:=()
def tw11370598799664889294:=()
def tw12146005726848863376:=()
def tw11269276904400117103:=()
def tw18290539122897125043:=()
def tw16627911349537211617:=()
def tw10241383363401973230:=()
def tw7229461774857251576:=()
def tw4472764915794735507:=()
def tw7411410322238806847:=()
def tw7845734546539960782:=()
def tw5087090381511302706:=()
def tw1736646220154984819:=()
def tw15086810323077601657:=()
def tw9627771497085619867:=()
def tw793285051152758190:=()
def tw14052171408054269320:=()
def tw5124057104059203631:=()
def tw11994291026458568113:=()
def tw4377894706413308449:=()
def tw15089689093119149368:=()
def tw5216617639607394375:=()
def tw12613064077553675667:=()
def tw12847320241583742382:=()
def tw4474913609628850365:=()
def tw14709678199527332408:=()
def tw5711607170132202728:=()
def tw17471015220166127555:=()
def tw9524281908585505091:=()
def tw13350166534938894868:=()
def tw12961522551097090497:=()
def tw5037834089748219963:=()
def tw7946893625017658406:=()
def tw1070864726982839731:=()
def tw1969262349563098422:=()
def tw3782829724744645878:=()
def tw9912656884538293937:=()
def tw1932798697078097238:=()
def tw4433004135311550095:=()
def tw16658917858242270565:=()
def tw8009849261811724092:=()
def tw5232814633738965276:=()
def tw6596547534628732668:=()
def tw17182078013216856549:=()
def tw3171460383962290194:=()
def tw700427859734317633:=()
def tw435172988312631680:=()
def tw11403203708257190819:=()
def tw14935225440212486377:=()
def tw8161205073774322647:=()
def tw1090939497277307200:=()
def tw17065074561809190542:=()
def tw1582328365556256971:=()
def tw3199938686889811149:=()
def tw11592963295755853227:=()
def tw17727899392020736607:=()
def tw1174805729216980755:=()
def tw1866480831122277118:=()
def tw16955558090350707918:=()
def tw6703950511417098433:=()
def tw12378629369521949191:=()
def tw3715612864249170295:=()
def tw10701724666496200270:=()
def tw16372372704302039889:=()
def tw11738432498911266367:=()
def tw2738722603640115837:=()
def tw12872982362262460090:=()
def tw3854448093963170144:=()
def tw6271445546814882817:=()
def tw15250913255784193064:=()
def tw11562657683000227440:=()
def tw15697946127986707118:=()
def tw7468385435236304645:=()
def tw12657500720039187187:=()
def tw8177845505748030439:=()
def tw17143525842006694614:=()
def tw16621632892159716105:=()
def tw10679157387617614399:=()
def tw10986130043832316972:=()
def tw14323411477445733909:=()
def tw17407553798641971676:=()
def tw17784313704956557878:=()
def tw4292118328341947646:=()
def tw4756897695813122504:=()
def tw694385587297191792:=()
def tw4432698412645225277:=()
def tw16602366048183048301:=()
def tw8447855316110333955:=()
def tw12241521601440184286:=()
def tw9684939716537868498:=()
def tw10155743109819237144:=()
def tw10588916176514288272:=()
def tw5774068376399795100:=()
def tw9558113459331956735:=()
def tw15315529736543378384:=()
def tw5897441127179939645:=()
def tw12196987636755992770:=()
def tw3470476215848116514:=()
def tw1103411691735589724:=()
def tw1250621588088281723:=()
def tw6110816327575283441:=()
def tw6448181348666150332:=()
def tw13657135742164126760:=()
def tw16834665258097912140:=()
def tw17143248765907646083:=()
def tw9185018231029961779:=()
def tw7321316345819510697:=()
def tw13799355081608267534:=()
def tw8733996450859028437:=()
def tw11140267150577869609:=()
def tw14688945044098786057:=()
def tw9937514637107438540:=()
def tw15350104024228330431:=()
def tw14944060389508583038:=()
def tw4697484936705157804:=()
def tw14507877932019654119:=()
def tw16535011971514667149:=()
def tw8788675970832566525:=()
def tw5968605694909250686:=()
def tw11802485766162414477:=()
def tw16213955995906405858:=()
def tw2539039800303395831:=()
def tw6189891286594249026:=()
def tw12405492748870849970:=()
def tw7588672967855705981:=()
def tw2562991111396444409:=()
def tw16536362975880366399:=()
def tw5732296564214176315:=()
def tw11567445396377123639:=()
def tw7179335565308561673:=()
def tw7654351553728617167:=()
def tw11922763119286445072:=()
def tw11742312245196704279:=()
def tw15738004230983392818:=()
def tw15481145766245748255:=()
def tw10918817148467650429:=()
def tw11728352135120436617:=()
def tw9455937038529343477:=()
def tw3603026560443970853:=()
def tw16191519606597970380:=()
def tw9690019597749229504:=()
def tw12665520231614016576:=()
def tw16782022198212527961:=()
def tw13600872041378372672:=()
def tw12178089549138569976:=()
def tw5476298147738581528:=()
def tw18172705794475493150:=()
def tw5148018689528404949:=()
def tw358120202961504277:=()
def tw17825895289578812097:=()
def tw13572284384408899638:=()
def tw2935073160640516856:=()
def tw2329171781360176852:=()
def tw9250059544857404267:=()
def tw370866368589839963:=()
def tw2502982901201338164:=()
def tw8924775175721183696:=()
def tw10338256926032867456:=()
def tw2701634517249163738:=()
def tw10459451890778260286:=()
def tw945199804907680740:=()
def tw12904179734626537038:=()
def tw11325367973851072508:=()
def tw1350067657810649082:=()
def tw4144127808978783578:=()
def tw12901218045115232554:=()
def tw11820825298510315865:=()
def tw4993818850174486220:=()
def tw6810087240533969828:=()
def tw387971521510786470:=()
def tw5745235793767476087:=()
def tw7028539479503263590:=()
def tw15011920448065522233:=()
def tw6516786075231683891:=()
def tw13816793972513923090:=()
def tw18019200174237331839:=()
def tw10439169855289128098:=()
def tw9219665067490496442:=()
def tw12788314923854281909:=()
def tw12369538463072401047:=()
def tw10826023764758705728:=()
def tw5032199951598839365:=()
def tw10474326563777859548:=()
def tw18060613398202180262:=()
def tw7558435040959485480:=()
def tw11987297766544081641:=()
def tw1619642459955209526:=()
def tw11799639860354360567:=()
def tw6542696419985324502:=()
def tw17424319876844090870:=()
def tw15173507512634211507:=()
def tw6485178903180962074:=()
def tw8968087766248443326:=()
def tw14575411780159667374:=()
def tw16868160095105777831:=()
def tw9959814557256576000:=()
def tw4277666443216375528:=()
def tw5432672849193958603:=()
def tw7555229154939159260:=()
def tw18295926321867236870:=()
def tw9522114228805985364:=()
def tw17242095874478408912:=()
def tw7482112599610028601:=()
def tw15051845984877478480:=()
def tw14031596493931129138:=()
def tw12555887682598961373:=()
def tw14413800896251609175:=()
def tw661542212020146467:=()
def tw15003136505521896631:=()
def tw9288473158906936135:=()
def tw10666686998592878633:=()
def tw2104270592979497015:=()
def tw17586657615173964112:=()
def tw2429563407886668346:=()
def tw11264854513254462372:=()
def tw14506595654002521523:=()
def tw9897332630289584570:=()
def tw12298871804191151214:=()
def tw11125894260772846959:=()
def tw8570174713249710934:=()
def tw8003232342567310269:=()
def tw10774189326078888624:=()
def tw7954112728458109718:=()
def tw301052091669379123:=()
def tw2521370942161296423:=()
def tw7652917333631620639:=()
def tw8399556171544934689:=()
def tw6233379176315006885:=()
def tw9482652452651988662:=()
def tw4190891356026587886:=()
def tw7689912775735144661:=()
def tw7288291499242011164:=()
def tw15907769799703366851:=()
def tw3750195808297027127:=()
def tw7331053514340183355:=()
def tw9170064673952620:=()
def tw15723407316033292970:=()
def tw9190060267189369626:=()
def tw6263680416508028045:=()
def tw13945647057329103100:=()
def tw10519549109663156788:=()
def tw541361896053301902:=()
def tw2676769100452482644:=()
def tw14243709462278360418:=()
def tw12515749756313909110:=()
def tw1948149320566404143:=()
def tw17828081129975958569:=()
def tw8738496150857041621:=()
def tw7864265917691662935:=()
def tw14429540313772760519:=()
def tw18358838755310784189:=()
def tw4880419657765190351:=()
def tw6488128738922054818:=()
def tw6932985017392328826:=()
def tw11272597957139951041:=()
def tw14687109730601552961:=()
def tw4961234774417913630:=()
def tw17771935582337700724:=()
def tw13153970088472796908:=()
def tw10043536125941871389:=()
def tw7891593746088345362:=()
def tw13596280989536103629:=()
end PySem.W.Fast
open PySem PySem.W PyProof.Rows
set_option maxRecDepth 100000 in
set_option maxHeartbeats 0 in
theorem PySem.Challenge.cw_reelcut_k49_tables_stay_good_holds : PySem.Challenge.rw_reelcut_k49_tables_stay_good.Holds := by
 w_on;o_law;k_head;(case hw=>w_witness2)
 k_fill
 refine Lw.walk (l:=PySem.Challenge.rw_reelcut_k49_tables_stay_good) rfl rfl (fun w h Y=>PySem.W.kIn_of Y) ?F
 case F=>
  intro w mg fa h KX G hmg
  refine' Lw.all_mk KX G hmg (Lw.df_mk ?a0 ?l0 ?c0 ?k0) (Lw.df_mk ?a1 ?l1 ?c1 ?k1) (Lw.df_mk ?a2 ?l2 ?c2 ?k2) (Lw.df_mk ?a3 ?l3 ?c3 ?k3) (Lw.df_mk ?a4 ?l4 ?c4 ?k4) (Lw.df_mk ?a5 ?l5 ?c5 ?k5) (Lw.df_mk ?a6 ?l6 ?c6 ?k6) (Lw.df_mk ?a7 ?l7 ?c7 ?k7) (Lw.df_mk ?a8 ?l8 ?c8 ?k8) (Lw.df_mk ?a9 ?l9 ?c9 ?k9) (Lw.df_mk ?a10 ?l10 ?c10 ?k10) (Lw.df_mk ?a11 ?l11 ?c11 ?k11) (Lw.df_mk ?a12 ?l12 ?c12 ?k12) (Lw.df_mk ?a13 ?l13 ?c13 ?k13) (Lw.df_mk ?a14 ?l14 ?c14 ?k14) (Lw.df_mk ?a15 ?l15 ?c15 ?k15) (Lw.df_mk ?a16 ?l16 ?c16 ?k16) (Lw.df_mk ?a17 ?l17 ?c17 ?k17) (Lw.df_mk ?a18 ?l18 ?c18 ?k18) (Lw.df_mk ?a19 ?l19 ?c19 ?k19) (Lw.df_mk ?a20 ?l20 ?c20 ?k20) (Lw.df_mk ?a21 ?l21 ?c21 ?k21) (Lw.df_mk ?a22 ?l22 ?c22 ?k22) (Lw.df_mk ?a23 ?l23 ?c23 ?k23) (Lw.df_mk ?a24 ?l24 ?c24 ?k24) (Lw.df_mk ?a25 ?l25 ?c25 ?k25) (Lw.df_mk ?a26 ?l26 ?c26 ?k26) (Lw.df_mk ?a27 ?l27 ?c27 ?k27) (Lw.df_mk ?a28 ?l28 ?c28 ?k28) (Lw.df_mk ?a29 ?l29 ?c29 ?k29) (Lw.df_mk ?a30 ?l30 ?c30 ?k30) (Lw.df_mk ?a31 ?l31 ?c31 ?k31) (Lw.df_mk ?a32 ?l32 ?c32 ?k32) (Lw.df_mk ?a33 ?l33 ?c33 ?k33) (Lw.df_mk ?a34 ?l34 ?c34 ?k34) (Lw.df_mk ?a35 ?l35 ?c35 ?k35) (Lw.df_mk ?a36 ?l36 ?c36 ?k36) (Lw.df_mk ?a37 ?l37 ?c37 ?k37) (Lw.df_mk ?a38 ?l38 ?c38 ?k38) (Lw.df_mk ?a39 ?l39 ?c39 ?k39) (Lw.df_mk ?a40 ?l40 ?c40 ?k40) (Lw.df_mk ?a41 ?l41 ?c41 ?k41) (Lw.df_mk ?a42 ?l42 ?c42 ?k42) (Lw.df_mk ?a43 ?l43 ?c43 ?k43) (Lw.df_mk ?a44 ?l44 ?c44 ?k44) (Lw.df_mk ?a45 ?l45 ?c45 ?k45) (Lw.df_mk ?a46 ?l46 ?c46 ?k46) (Lw.df_mk ?a47 ?l47 ?c47 ?k47) (Lw.df_mk ?a48 ?l48 ?c48 ?k48) (Lw.df_mk ?a49 ?l49 ?c49 ?k49) (Lw.df_mk ?a50 ?l50 ?c50 ?k50) (Lw.df_mk ?a51 ?l51 ?c51 ?k51) (Lw.df_mk ?a52 ?l52 ?c52 ?k52) (Lw.df_mk ?a53 ?l53 ?c53 ?k53) (Lw.df_mk ?a54 ?l54 ?c54 ?k54) (Lw.df_mk ?a55 ?l55 ?c55 ?k55) (Lw.df_mk ?a56 ?l56 ?c56 ?k56) (Lw.df_mk ?a57 ?l57 ?c57 ?k57) (Lw.df_mk ?a58 ?l58 ?c58 ?k58) (Lw.df_mk ?a59 ?l59 ?c59 ?k59) (Lw.df_mk ?a60 ?l60 ?c60 ?k60) (Lw.df_mk ?a61 ?l61 ?c61 ?k61) (Lw.df_mk ?a62 ?l62 ?c62 ?k62) (Lw.df_mk ?a63 ?l63 ?c63 ?k63) (Lw.df_mk ?a64 ?l64 ?c64 ?k64) (Lw.df_mk ?a65 ?l65 ?c65 ?k65) (Lw.df_mk ?a66 ?l66 ?c66 ?k66) (Lw.df_mk ?a67 ?l67 ?c67 ?k67) (Lw.df_mk ?a68 ?l68 ?c68 ?k68) (Lw.df_mk ?a69 ?l69 ?c69 ?k69) (Lw.df_mk ?a70 ?l70 ?c70 ?k70) (Lw.df_mk ?a71 ?l71 ?c71 ?k71) (Lw.df_mk ?a72 ?l72 ?c72 ?k72) (Lw.df_mk ?a73 ?l73 ?c73 ?k73) (Lw.df_mk ?a74 ?l74 ?c74 ?k74) (Lw.df_mk ?a75 ?l75 ?c75 ?k75) (Lw.df_mk ?a76 ?l76 ?c76 ?k76) (Lw.df_mk ?a77 ?l77 ?c77 ?k77) (Lw.df_mk ?a78 ?l78 ?c78 ?k78) (Lw.df_mk ?a79 ?l79 ?c79 ?k79) (Lw.df_mk ?a80 ?l80 ?c80 ?k80) (Lw.df_mk ?a81 ?l81 ?c81 ?k81) (Lw.df_mk ?a82 ?l82 ?c82 ?k82) (Lw.df_mk ?a83 ?l83 ?c83 ?k83) (Lw.df_mk ?a84 ?l84 ?c84 ?k84) (Lw.df_mk ?a85 ?l85 ?c85 ?k85) (Lw.df_mk ?a86 ?l86 ?c86 ?k86) (Lw.df_mk ?a87 ?l87 ?c87 ?k87) (Lw.df_mk ?a88 ?l88 ?c88 ?k88) (Lw.df_mk ?a89 ?l89 ?c89 ?k89) (Lw.df_mk ?a90 ?l90 ?c90 ?k90) (Lw.df_mk ?a91 ?l91 ?c91 ?k91) (Lw.df_mk ?a92 ?l92 ?c92 ?k92) (Lw.df_mk ?a93 ?l93 ?c93 ?k93) (Lw.df_mk ?a94 ?l94 ?c94 ?k94) (Lw.df_mk ?a95 ?l95 ?c95 ?k95) (Lw.df_mk ?a96 ?l96 ?c96 ?k96) (Lw.df_mk ?a97 ?l97 ?c97 ?k97) (Lw.gl_mk ?xg0) (Lw.gl_mk ?xg1) (Lw.gl_mk ?xg2) (Lw.gl_mk ?xg3) (Lw.gl_mk ?xg4) (Lw.gl_mk ?xg5) (Lw.gl_mk ?xg6) ?x_NoPlace ?x_Mixed ?yPP ?yMM ?yMP ?ySP ?ySM ?ySS ?e_Short ?f_most (Lw.gl_mk ?xz0) (Lw.gl_mk ?xz1) (Lw.gl_mk ?xz2) (Lw.gl_mk ?xz3) (Lw.gl_mk ?xz4) (Lw.gl_mk ?xz5) (Lw.gl_mk ?xz6) (Lw.gl_mk ?xz7) (Lw.gl_mk ?xz8) (Lw.gl_mk ?xz9) (Lw.gl_mk ?xz10) (Lw.gl_mk ?xz11) (Lw.gl_mk ?xz12) (Lw.gl_mk ?xz13) (Lw.gl_mk ?xz14) (Lw.gl_mk ?xz15) (Lw.gl_mk ?xcLETTERS) (Lw.gl_mk ?xcLONGEST_NAME) (Lw.gl_mk ?xcMOST_ROOM) (Lw.gl_mk ?xcNOUGHT) ?xlNOUGHT (Lw.gl_mk ?xcMOST_BY) (Lw.gl_mk ?xcROLLS) ?xlROLLS (Lw.gl_mk ?xcLAYS) ?xlLAYS (Lw.gl_mk ?xcPUSHES) ?xlPUSHES (Lw.gl_mk ?xcCHANGES) ?xlCHANGES (Lw.gl_mk ?xcMOST_PICTURES) (Lw.gl_mk ?xcMOST_TRACKS) (Lw.gl_mk ?xcMOST_DEEP) ?iaShort ?ilShort ?icShort ?ikShort ?ifShort ?ivShort ?ihShort ?isShort ?ixShort ?itShort
  (case a0|l0|c0|k0|a1|l1|c1|k1|a2|l2|c2|k2|a3|l3|c3|k3|a4|l4|c4|k4|a5|l5|c5|k5|a6|l6|c6|k6|a7|l7|c7|k7|a8|l8|c8|k8|a9|l9|c9|k9|a10|l10|c10|k10|a11|l11|c11|k11|a12|l12|c12|k12|a13|l13|c13|k13|a14|l14|c14|k14|a15|l15|c15|k15|a16|l16|c16|k16|a17|l17|c17|k17|a18|l18|c18|k18|a19|l19|c19|k19|a20|l20|c20|k20|a21|l21|c21|k21|a22|l22|c22|k22|a23|l23|c23|k23|a24|l24|c24|k24|a25|l25|c25|k25|a26|l26|c26|k26|a27|l27|c27|k27|a28|l28|c28|k28|a29|l29|c29|k29|a30|l30|c30|k30|a31|l31|c31|k31|a32|l32|c32|k32|a33|l33|c33|k33|a34|l34|c34|k34|a35|l35|c35|k35|a36|l36|c36|k36|a37|l37|c37|k37|a38|l38|c38|k38|a39|l39|c39|k39|a40|l40|c40|k40|a41|l41|c41|k41|a42|l42|c42|k42|a43|l43|c43|k43|a44|l44|c44|k44|a45|l45|c45|k45|a46|l46|c46|k46|a47|l47|c47|k47|a48|l48|c48|k48|a49|l49|c49|k49|a50|l50|c50|k50|a51|l51|c51|k51|a52|l52|c52|k52|a53|l53|c53|k53|a54|l54|c54|k54|a55|l55|c55|k55|a56|l56|c56|k56|a57|l57|c57|k57|a58|l58|c58|k58|a59|l59|c59|k59|a60|l60|c60|k60|a61|l61|c61|k61|a62|l62|c62|k62|a63|l63|c63|k63|a64|l64|c64|k64|a65|l65|c65|k65|a66|l66|c66|k66|a67|l67|c67|k67|a68|l68|c68|k68|a69|l69|c69|k69|a70|l70|c70|k70|a71|l71|c71|k71|a72|l72|c72|k72|a73|l73|c73|k73|a74|l74|c74|k74|a75|l75|c75|k75|a76|l76|c76|k76|a77|l77|c77|k77|a78|l78|c78|k78|a79|l79|c79|k79|a80|l80|c80|k80|a81|l81|c81|k81|a82|l82|c82|k82|a83|l83|c83|k83|a84|l84|c84|k84|a85|l85|c85|k85|a86|l86|c86|k86|a87|l87|c87|k87|a88|l88|c88|k88|a89|l89|c89|k89|a90|l90|c90|k90|a91|l91|c91|k91|a92|l92|c92|k92|a93|l93|c93|k93|a94|l94|c94|k94|a95|l95|c95|k95|a96|l96|c96|k96|a97|l97|c97|k97|xg0|xg1|xg2|xg3|xg4|xg5|xg6=>k_is)
  (case x_NoPlace=>(unfold L3.OwnX;kernel_rfl))
  (case x_Mixed=>(unfold L3.OwnX;kernel_rfl))
  (case yPP=>kernel_rfl)
  (case yMM=>kernel_rfl)
  (case yMP=>kernel_rfl)
  (case ySP=>kernel_rfl)
  (case ySM=>kernel_rfl)
  (case ySS=>kernel_rfl)
  (case e_Short=>exact⟨by k_is,by k_is,by k_is,by k_is,by k_is,by k_is,by k_is⟩)
  (case f_most|xz0|xz1|xz2|xz3|xz4|xz5|xz6|xz7|xz8|xz9|xz10|xz11|xz12|xz13|xz14|xz15|xcLETTERS|xcLONGEST_NAME|xcMOST_ROOM|xcNOUGHT|xlNOUGHT|xcMOST_BY|xcROLLS|xlROLLS|xcLAYS|xlLAYS|xcPUSHES|xlPUSHES|xcCHANGES|xlCHANGES|xcMOST_PICTURES|xcMOST_TRACKS|xcMOST_DEEP|iaShort|ilShort|icShort|ikShort|ifShort=>k_is)
  (case ivShort=>(unfold L3.exOver;kernel_rfl))
  (case ihShort|isShort=>k_is)
  (case ixShort=>(unfold L3.excInitIn;kernel_rfl))
  (case itShort=>k_is)
